/-
  Blocks, Inner, All of package inode and of the reference: contracts.
-/
import Derived.Test.YtcclpfcgodckgaaDoorIPlace
namespace Go.Proofs.YtcclpfcgodckgaaDoor
open Go.RowKit

/-- How many blocks of bytes, of numbers, of both. -/
def blkN (s : Int) : Int := if 0 ≤ s ∧ s ≤ 8458240 then (s + 511) / 512 else 0
def innN (s : Int) : Int := if blkN s ≤ 8 then 0 else if blkN s ≤ 136 then 1 else 2 + (blkN s - 9) / 128
def allN (s : Int) : Int := blkN s + innN s
theorem blkN_bd (s : Int) : 0 ≤ blkN s ∧ blkN s ≤ 16520 := by
  unfold blkN
  split <;> omega

set_option maxHeartbeats 800000 in
theorem blocks_any (s : Int) (w : World) :
    Calls Tryd.prog 14 #[.int .i64 s] w fun e w' => e = .returned (.int .i64 (blkN s)) ∧ w' = w := by
  unfold blkN
  by_cases h : s < 0
  · rw [if_neg (by omega)]
    go_enter Tryd.func14, Tryd.ntmps14
    go_wp2
    go_ret
    exact ⟨rfl, rfl⟩
  · by_cases h1 : s ≤ 8458240
    · rw [if_pos ⟨by omega, h1⟩]
      have h0 : 0 ≤ s := by omega
      have k1 : ¬ 8458240 < s := by omega
      have k2 : decide (8458240 < s) = false := by simpa using k1
      have e : s + 512 - 1 = s + 511 := by omega
      go_enter Tryd.func14, Tryd.ntmps14
      go_wp2_with fail
      refine (most_any _).mono ?_
      rintro e w1 ⟨rfl, rfl⟩
      go_wp2
      go_ret
      exact ⟨by first | rfl | exact ret_eq (by omega), rfl⟩
    · rw [if_neg (by omega)]
      have h0 : 0 ≤ s := by omega
      have k1 : 8458240 < s := by omega
      have k2 : decide (8458240 < s) = true := by simpa using k1
      go_enter Tryd.func14, Tryd.ntmps14
      go_wp2_with fail
      refine (most_any _).mono ?_
      rintro e w1 ⟨rfl, rfl⟩
      go_wp2
      go_ret
      exact ⟨rfl, rfl⟩
set_option maxHeartbeats 800000 in
theorem refBlocks_any (s : Int) (w : World) :
    Calls Tryd.prog 15 #[.int .i64 s] w fun e w' => e = .returned (.int .i64 (blkN s)) ∧ w' = w := by
  unfold blkN
  by_cases h : s < 0
  · rw [if_neg (by omega)]
    go_enter Tryd.func15, Tryd.ntmps15
    go_wp2
    go_ret
    exact ⟨rfl, rfl⟩
  · by_cases h1 : s ≤ 8458240
    · rw [if_pos ⟨by omega, h1⟩]
      have h0 : 0 ≤ s := by omega
      have k1 : ¬ 8458240 < s := by omega
      have k2 : decide (8458240 < s) = false := by simpa using k1
      go_enter Tryd.func15, Tryd.ntmps15
      go_wp2
      go_ret
      exact ⟨by first | rfl | exact ret_eq (by omega), rfl⟩
    · rw [if_neg (by omega)]
      have h0 : 0 ≤ s := by omega
      have k1 : 8458240 < s := by omega
      have k2 : decide (8458240 < s) = true := by simpa using k1
      go_enter Tryd.func15, Tryd.ntmps15
      go_wp2
      go_ret
      exact ⟨rfl, rfl⟩
set_option maxHeartbeats 800000 in
theorem inner_none (s : Int) (w : World) (h : blkN s = 0) :
    Calls Tryd.prog 16 #[.int .i64 s] w fun e w' => e = .returned (.int .i64 (0)) ∧ Chg (fun _ => False) w w' := by
  have hbd := blkN_bd s
  go_enter Tryd.func16, Tryd.ntmps16
  go_wp2_with fail
  refine (blocks_any s _).mono ?_
  rintro e w1 ⟨rfl, rfl⟩
  generalize blkN s = n at *
  subst h
  clear hbd
  go_wp2_with fail
  refine (where_out (-1) _ (by unfold inPl; omega)).mono ?_
  rintro e w2 ⟨rfl, hw2⟩
  have C2 : Chg (fun _ => False) w1 w2 := by rw [hw2]; exact Chg.alloc _ _ _
  clear hw2
  go_wp2
  go_ret
  refine ⟨by first | rfl | exact ret_eq (by omega), ?_⟩
  first | exact C2 | exact C2.trans (Chg.alloc _ _ _) (fun _ _ h => h)
set_option maxHeartbeats 800000 in
theorem inner_dir (s : Int) (w : World) (h : 1 ≤ blkN s) (h1 : blkN s ≤ 8) :
    Calls Tryd.prog 16 #[.int .i64 s] w fun e w' => e = .returned (.int .i64 (0)) ∧ Chg (fun _ => False) w w' := by
  have hbd := blkN_bd s
  go_enter Tryd.func16, Tryd.ntmps16
  go_wp2_with fail
  refine (blocks_any s _).mono ?_
  rintro e w1 ⟨rfl, rfl⟩
  generalize blkN s = n at *
  have wr : IntKind.i64.wrap (n - 1) = n - 1 := by rw [IntKind.wrap_i64]; omega
  go_wp2_with fail
  refine (where_dir (n - 1) _ (by omega) (by omega)).mono ?_
  rintro e w2 ⟨rfl, hw2⟩
  have C2 : Chg (fun _ => False) w1 w2 := by rw [hw2]; exact Chg.alloc _ _ _
  clear hw2
  go_wp2
  go_ret
  refine ⟨by first | rfl | exact ret_eq (by omega), ?_⟩
  first | exact C2 | exact C2.trans (Chg.alloc _ _ _) (fun _ _ h => h)
set_option maxHeartbeats 800000 in
theorem inner_one (s : Int) (w : World) (h : 9 ≤ blkN s) (h1 : blkN s ≤ 136) :
    Calls Tryd.prog 16 #[.int .i64 s] w fun e w' => e = .returned (.int .i64 (1)) ∧ Chg (fun _ => False) w w' := by
  have hbd := blkN_bd s
  go_enter Tryd.func16, Tryd.ntmps16
  go_wp2_with fail
  refine (blocks_any s _).mono ?_
  rintro e w1 ⟨rfl, rfl⟩
  generalize blkN s = n at *
  have wr : IntKind.i64.wrap (n - 1) = n - 1 := by rw [IntKind.wrap_i64]; omega
  go_wp2_with fail
  refine (where_one (n - 1) _ (by omega) (by omega)).mono ?_
  rintro e w2 ⟨rfl, hw2⟩
  have C2 : Chg (fun _ => False) w1 w2 := by rw [hw2]; exact Chg.alloc _ _ _
  clear hw2
  go_wp2
  go_ret
  refine ⟨by first | rfl | exact ret_eq (by omega), ?_⟩
  first | exact C2 | exact C2.trans (Chg.alloc _ _ _) (fun _ _ h => h)
set_option maxHeartbeats 800000 in
theorem inner_two (s : Int) (w : World) (h : 137 ≤ blkN s) :
    Calls Tryd.prog 16 #[.int .i64 s] w fun e w' => e = .returned (.int .i64 (2 + (blkN s - 9) / 128)) ∧ Chg (fun _ => False) w w' := by
  have hbd := blkN_bd s
  go_enter Tryd.func16, Tryd.ntmps16
  go_wp2_with fail
  refine (blocks_any s _).mono ?_
  rintro e w1 ⟨rfl, rfl⟩
  obtain ⟨n, HN⟩ : ∃ n, Hid (blkN s = n) := ⟨_, rfl⟩
  rw [HN.out] at h hbd
  rw [HN.out]
  have wr : IntKind.i64.wrap (n - 1) = n - 1 := by rw [IntKind.wrap_i64]; omega
  have qd : 0 ≤ (n - 1 - 136) / 128 ∧ (n - 1 - 136) / 128 < 200 := by omega
  go_wp2_with fail
  refine (where_two (n - 1) _ (by omega) (by omega)).mono ?_
  rintro e w2 ⟨rfl, hw2⟩
  have C2 : Chg (fun _ => False) w1 w2 := by rw [hw2]; exact Chg.alloc _ _ _
  clear hw2
  go_wp2
  go_ret
  refine ⟨by first | rfl | exact ret_eq (by rw [HN.out]; omega), ?_⟩
  first | exact C2 | exact C2.trans (Chg.alloc _ _ _) (fun _ _ h => h)
theorem inner_any (s : Int) (w : World) :
    Calls Tryd.prog 16 #[.int .i64 s] w fun e w' => e = .returned (.int .i64 (innN s)) ∧ Chg (fun _ => False) w w' := by
  have hbd := blkN_bd s
  unfold innN
  by_cases h8 : blkN s ≤ 8
  · rw [if_pos h8]
    by_cases h0 : blkN s = 0
    · exact inner_none s w h0
    · exact inner_dir s w (by omega) h8
  · rw [if_neg h8]
    by_cases h136 : blkN s ≤ 136
    · rw [if_pos h136]
      exact inner_one s w (by omega) h136
    · rw [if_neg h136]
      exact inner_two s w (by omega)

set_option maxHeartbeats 800000 in
theorem refInner_any (s : Int) (w : World) :
    Calls Tryd.prog 17 #[.int .i64 s] w fun e w' => e = .returned (.int .i64 (innN s)) ∧ w' = w := by
  have hbd := blkN_bd s
  unfold innN
  obtain ⟨n, HN⟩ : ∃ n, Hid (blkN s = n) := ⟨_, rfl⟩
  rw [HN.out] at hbd
  by_cases h8 : n ≤ 8
  · rw [if_pos (by rw [HN.out]; exact h8)]
    go_enter Tryd.func17, Tryd.ntmps17
    go_wp2_with fail
    refine (refBlocks_any s _).mono ?_
    rintro e w1 ⟨rfl, rfl⟩
    rw [HN.out]
    go_wp2
    go_ret
    exact ⟨rfl, rfl⟩
  · by_cases h136 : n ≤ 136
    · rw [if_neg (by rw [HN.out]; exact h8), if_pos (by rw [HN.out]; exact h136)]
      go_enter Tryd.func17, Tryd.ntmps17
      go_wp2_with fail
      refine (refBlocks_any s _).mono ?_
      rintro e w1 ⟨rfl, rfl⟩
      rw [HN.out]
      go_wp2
      go_ret
      exact ⟨rfl, rfl⟩
    · rw [if_neg (by rw [HN.out]; exact h8), if_neg (by rw [HN.out]; exact h136)]
      go_enter Tryd.func17, Tryd.ntmps17
      go_wp2_with fail
      refine (refBlocks_any s _).mono ?_
      rintro e w1 ⟨rfl, rfl⟩
      rw [HN.out]
      go_wp2
      go_ret
      exact ⟨by first | rfl | exact ret_eq (by rw [HN.out]; omega), rfl⟩

theorem innN_bd (s : Int) : 0 ≤ innN s ∧ innN s ≤ 200 := by
  have := blkN_bd s
  unfold innN
  split
  · omega
  · split <;> omega
theorem allN_bd (s : Int) : 0 ≤ allN s ∧ allN s ≤ 20000 := by
  have := blkN_bd s
  have := innN_bd s
  unfold allN
  omega

set_option maxHeartbeats 800000 in
theorem all_any (s : Int) (w : World) :
    Calls Tryd.prog 18 #[.int .i64 s] w fun e w' => e = .returned (.int .i64 (allN s)) ∧ Chg (fun _ => False) w w' := by
  have b1 := blkN_bd s
  have b2 := innN_bd s
  unfold allN
  go_enter Tryd.func18, Tryd.ntmps18
  go_wp2_with fail
  refine (blocks_any s _).mono ?_
  rintro e w1 ⟨rfl, rfl⟩
  go_wp2_with fail
  refine (inner_any s _).mono ?_
  rintro e w2 ⟨rfl, C2⟩
  go_wp2
  go_ret
  exact ⟨rfl, C2⟩
set_option maxHeartbeats 800000 in
theorem refAll_any (s : Int) (w : World) :
    Calls Tryd.prog 19 #[.int .i64 s] w fun e w' => e = .returned (.int .i64 (allN s)) ∧ w' = w := by
  have b1 := blkN_bd s
  have b2 := innN_bd s
  unfold allN
  go_enter Tryd.func19, Tryd.ntmps19
  go_wp2_with fail
  refine (refBlocks_any s _).mono ?_
  rintro e w1 ⟨rfl, rfl⟩
  go_wp2_with fail
  refine (refInner_any s _).mono ?_
  rintro e w2 ⟨rfl, rfl⟩
  go_wp2
  go_ret
  exact ⟨rfl, rfl⟩
end Go.Proofs.YtcclpfcgodckgaaDoor

/-
  Where, Blocks, Inner, All of package inode and of the reference: contracts.
-/
import Derived.Test.YtdcmkcplklkfmaaDoorKSum
import Derived.BigQuiet
import Derived.Deep.QuietTactic
namespace Go.Proofs.YtdcmkcplklkfmaaDoor
open Go.RowKit

theorem most_any (w : World) : Calls Tryd.prog 42 #[] w fun e w' => e = .returned (.int .i64 8458240) ∧ w' = w := by
  go_enter Tryd.func42, Tryd.ntmps42
  go_wp2
  go_ret
  exact ⟨rfl, rfl⟩

/-- Where a block stands, by its number. -/
def plL (i : Int) : Int := if i < 136 then (if i < 8 then 0 else 1) else 2
def plA (i : Int) : Int := if i < 8 then i else if i < 136 then i - 8 else (i - 136) / 128
def plB (i : Int) : Int := if i < 136 then 0 else (i - 136) % 128
def inPl (i : Int) : Prop := 0 ≤ i ∧ i < 16520
instance (i : Int) : Decidable (inPl i) := by unfold inPl; infer_instance
abbrev plV (l a b : Int) : Value := .agg #[.int .i64 l, .int .i64 a, .int .i64 b]
abbrev plO (T : TypeId) (l a b : Int) : Obj := .cells #[.int .i64 l, .int .i64 a, .int .i64 b] T

set_option maxHeartbeats 800000 in
theorem where_neg (i : Int) (w : World) (h0 : i < 0) :
    Calls Tryd.prog 66 #[.int .i64 i] w fun e w' => e = .returned (.tuple #[plV (0) (0) (0), .int .i64 1]) ∧ w' = w.alloc (plO 110 (0) (0) (0)) := by
  have k : decide (i < 0) = true := by simpa using h0
  go_enter Tryd.func66, Tryd.ntmps66
  go_wp2_with fail
  refine bodyPost_ret (v := .tuple #[plV (0) (0) (0), .int .i64 1]) (by simp [results, Tryd.results66, go_sem]) rfl ⟨rfl, rfl⟩
set_option maxHeartbeats 800000 in
theorem where_big (i : Int) (w : World) (h0 : 16520 ≤ i) :
    Calls Tryd.prog 66 #[.int .i64 i] w fun e w' => e = .returned (.tuple #[plV (0) (0) (0), .int .i64 1]) ∧ w' = w.alloc (plO 110 (0) (0) (0)) := by
  have k0 : decide (i < 0) = false := by simp; omega
  have k0' : ¬ i < 0 := by omega
  go_enter Tryd.func66, Tryd.ntmps66
  go_wp2_with fail
  refine bodyPost_ret (v := .tuple #[plV (0) (0) (0), .int .i64 1]) (by simp [results, Tryd.results66, go_sem]) rfl ⟨rfl, rfl⟩
set_option maxHeartbeats 800000 in
theorem where_dir (i : Int) (w : World) (h0 : 0 ≤ i) (h1 : i < 8) :
    Calls Tryd.prog 66 #[.int .i64 i] w fun e w' => e = .returned (.tuple #[plV (0) (i) (0), .int .i64 0]) ∧ w' = w.alloc (plO 110 (0) (i) (0)) := by
  have k0' : ¬ i < 0 := by omega
  have k1 : ¬ 16520 ≤ i := by omega
  go_enter Tryd.func66, Tryd.ntmps66
  go_wp2_with fail
  refine bodyPost_ret (v := .tuple #[plV (0) (i) (0), .int .i64 0]) (by simp [results, Tryd.results66, go_sem]) rfl ⟨rfl, rfl⟩
set_option maxHeartbeats 800000 in
theorem where_one (i : Int) (w : World) (h0 : 8 ≤ i) (h1 : i < 136) :
    Calls Tryd.prog 66 #[.int .i64 i] w fun e w' => e = .returned (.tuple #[plV (1) (i - 8) (0), .int .i64 0]) ∧ w' = w.alloc (plO 110 (1) (i - 8) (0)) := by
  have k0' : ¬ i < 0 := by omega
  have k1 : ¬ 16520 ≤ i := by omega
  have k2 : ¬ i < 8 := by omega
  go_enter Tryd.func66, Tryd.ntmps66
  go_wp2_with fail
  refine bodyPost_ret (v := .tuple #[plV (1) (i - 8) (0), .int .i64 0]) (by simp [results, Tryd.results66, go_sem]) rfl ⟨rfl, rfl⟩
set_option maxHeartbeats 800000 in
theorem where_two (i : Int) (w : World) (h0 : 136 ≤ i) (h1 : i < 16520) :
    Calls Tryd.prog 66 #[.int .i64 i] w fun e w' => e = .returned (.tuple #[plV (2) ((i - 136) / 128) ((i - 136) % 128), .int .i64 0]) ∧ w' = w.alloc (plO 110 (2) ((i - 136) / 128) ((i - 136) % 128)) := by
  have k0' : ¬ i < 0 := by omega
  have k1 : ¬ 16520 ≤ i := by omega
  have k2 : ¬ i < 8 := by omega
  have k3 : ¬ i < 136 := by omega
  go_enter Tryd.func66, Tryd.ntmps66
  go_wp2_with fail
  refine bodyPost_ret (v := .tuple #[plV (2) ((i - 136) / 128) ((i - 136) % 128), .int .i64 0]) (by simp [results, Tryd.results66, go_sem]) rfl ⟨rfl, rfl⟩
theorem where_out (i : Int) (w : World) (h : ¬ inPl i) :
    Calls Tryd.prog 66 #[.int .i64 i] w fun e w' => e = .returned (.tuple #[plV 0 0 0, .int .i64 1]) ∧ w' = w.alloc (plO 110 0 0 0) := by
  unfold inPl at h
  by_cases h0 : i < 0
  · exact where_neg i w h0
  · exact where_big i w (by omega)
theorem where_in (i : Int) (w : World) (h : inPl i) :
    Calls Tryd.prog 66 #[.int .i64 i] w fun e w' => e = .returned (.tuple #[plV (plL i) (plA i) (plB i), .int .i64 0]) ∧ w' = w.alloc (plO 110 (plL i) (plA i) (plB i)) := by
  obtain ⟨h0, h1⟩ := h
  unfold plL plA plB
  by_cases h8 : i < 8
  · rw [if_pos h8, if_pos h8, if_pos (by omega), if_pos (by omega)]
    exact where_dir i w h0 h8
  · by_cases h136 : i < 136
    · rw [if_neg h8, if_neg h8, if_pos h136, if_pos h136, if_pos h136]
      exact where_one i w (by omega) h136
    · rw [if_neg h136, if_neg h8, if_neg h136, if_neg h136]
      exact where_two i w (by omega) h1
/-- How many blocks of bytes, of numbers, of both. -/
def blkN (s : Int) : Int := if 0 ≤ s ∧ s ≤ 8458240 then (s + 511) / 512 else 0
def innN (s : Int) : Int := if blkN s ≤ 8 then 0 else if blkN s ≤ 136 then 1 else 2 + (blkN s - 9) / 128
def allN (s : Int) : Int := blkN s + innN s
theorem blkN_bd (s : Int) : 0 ≤ blkN s ∧ blkN s ≤ 16520 := by
  unfold blkN
  split <;> omega

set_option maxHeartbeats 800000 in
theorem blocks_any (s : Int) (w : World) :
    Calls Tryd.prog 57 #[.int .i64 s] w fun e w' => e = .returned (.int .i64 (blkN s)) ∧ w' = w := by
  unfold blkN
  by_cases h : s < 0
  · rw [if_neg (by omega)]
    go_enter Tryd.func57, Tryd.ntmps57
    go_wp2
    go_ret
    exact ⟨rfl, rfl⟩
  · by_cases h1 : s ≤ 8458240
    · rw [if_pos ⟨by omega, h1⟩]
      have h0 : 0 ≤ s := by omega
      have k1 : ¬ 8458240 < s := by omega
      have k2 : decide (8458240 < s) = false := by simpa using k1
      have e : s + 512 - 1 = s + 511 := by omega
      go_enter Tryd.func57, Tryd.ntmps57
      go_wp2_with fail
      refine (most_any _).mono ?_
      rintro e w1 ⟨rfl, rfl⟩
      go_wp2
      go_ret
      exact ⟨by first | rfl | exact ret_eq (by omega), rfl⟩
    · rw [if_neg (by omega)]
      have h0 : 0 ≤ s := by omega
      have k1 : 8458240 < s := by omega
      have k2 : decide (8458240 < s) = true := by simpa using k1
      go_enter Tryd.func57, Tryd.ntmps57
      go_wp2_with fail
      refine (most_any _).mono ?_
      rintro e w1 ⟨rfl, rfl⟩
      go_wp2
      go_ret
      exact ⟨rfl, rfl⟩
set_option maxHeartbeats 800000 in
theorem inner_none (s : Int) (w : World) (h : blkN s = 0) :
    Calls Tryd.prog 58 #[.int .i64 s] w fun e w' => e = .returned (.int .i64 (0)) ∧ Chg (fun _ => False) w w' := by
  have hbd := blkN_bd s
  go_enter Tryd.func58, Tryd.ntmps58
  go_wp2_with fail
  refine (blocks_any s _).mono ?_
  rintro e w1 ⟨rfl, rfl⟩
  generalize blkN s = n at *
  subst h
  clear hbd
  go_wp2_with fail
  refine (where_out (-1) _ (by unfold inPl; omega)).mono ?_
  rintro e w2 ⟨rfl, hw2⟩
  have C2 : Chg (fun _ => False) w1 w2 := by rw [hw2]; exact Chg.alloc _ _ _
  clear hw2
  go_wp2
  go_ret
  refine ⟨by first | rfl | exact ret_eq (by omega), ?_⟩
  first | exact C2 | exact C2.trans (Chg.alloc _ _ _) (fun _ _ h => h)
set_option maxHeartbeats 800000 in
theorem inner_dir (s : Int) (w : World) (h : 1 ≤ blkN s) (h1 : blkN s ≤ 8) :
    Calls Tryd.prog 58 #[.int .i64 s] w fun e w' => e = .returned (.int .i64 (0)) ∧ Chg (fun _ => False) w w' := by
  have hbd := blkN_bd s
  go_enter Tryd.func58, Tryd.ntmps58
  go_wp2_with fail
  refine (blocks_any s _).mono ?_
  rintro e w1 ⟨rfl, rfl⟩
  generalize blkN s = n at *
  have wr : IntKind.i64.wrap (n - 1) = n - 1 := by rw [IntKind.wrap_i64]; omega
  go_wp2_with fail
  refine (where_dir (n - 1) _ (by omega) (by omega)).mono ?_
  rintro e w2 ⟨rfl, hw2⟩
  have C2 : Chg (fun _ => False) w1 w2 := by rw [hw2]; exact Chg.alloc _ _ _
  clear hw2
  go_wp2
  go_ret
  refine ⟨by first | rfl | exact ret_eq (by omega), ?_⟩
  first | exact C2 | exact C2.trans (Chg.alloc _ _ _) (fun _ _ h => h)
set_option maxHeartbeats 800000 in
theorem inner_one (s : Int) (w : World) (h : 9 ≤ blkN s) (h1 : blkN s ≤ 136) :
    Calls Tryd.prog 58 #[.int .i64 s] w fun e w' => e = .returned (.int .i64 (1)) ∧ Chg (fun _ => False) w w' := by
  have hbd := blkN_bd s
  go_enter Tryd.func58, Tryd.ntmps58
  go_wp2_with fail
  refine (blocks_any s _).mono ?_
  rintro e w1 ⟨rfl, rfl⟩
  generalize blkN s = n at *
  have wr : IntKind.i64.wrap (n - 1) = n - 1 := by rw [IntKind.wrap_i64]; omega
  go_wp2_with fail
  refine (where_one (n - 1) _ (by omega) (by omega)).mono ?_
  rintro e w2 ⟨rfl, hw2⟩
  have C2 : Chg (fun _ => False) w1 w2 := by rw [hw2]; exact Chg.alloc _ _ _
  clear hw2
  go_wp2
  go_ret
  refine ⟨by first | rfl | exact ret_eq (by omega), ?_⟩
  first | exact C2 | exact C2.trans (Chg.alloc _ _ _) (fun _ _ h => h)
set_option maxHeartbeats 800000 in
theorem inner_two (s : Int) (w : World) (h : 137 ≤ blkN s) :
    Calls Tryd.prog 58 #[.int .i64 s] w fun e w' => e = .returned (.int .i64 (2 + (blkN s - 9) / 128)) ∧ Chg (fun _ => False) w w' := by
  have hbd := blkN_bd s
  go_enter Tryd.func58, Tryd.ntmps58
  go_wp2_with fail
  refine (blocks_any s _).mono ?_
  rintro e w1 ⟨rfl, rfl⟩
  obtain ⟨n, HN⟩ : ∃ n, Hid (blkN s = n) := ⟨_, rfl⟩
  rw [HN.out] at h hbd
  rw [HN.out]
  have wr : IntKind.i64.wrap (n - 1) = n - 1 := by rw [IntKind.wrap_i64]; omega
  have qd : 0 ≤ (n - 1 - 136) / 128 ∧ (n - 1 - 136) / 128 < 200 := by omega
  go_wp2_with fail
  refine (where_two (n - 1) _ (by omega) (by omega)).mono ?_
  rintro e w2 ⟨rfl, hw2⟩
  have C2 : Chg (fun _ => False) w1 w2 := by rw [hw2]; exact Chg.alloc _ _ _
  clear hw2
  go_wp2
  go_ret
  refine ⟨by first | rfl | exact ret_eq (by rw [HN.out]; omega), ?_⟩
  first | exact C2 | exact C2.trans (Chg.alloc _ _ _) (fun _ _ h => h)
theorem inner_any (s : Int) (w : World) :
    Calls Tryd.prog 58 #[.int .i64 s] w fun e w' => e = .returned (.int .i64 (innN s)) ∧ Chg (fun _ => False) w w' := by
  have hbd := blkN_bd s
  unfold innN
  by_cases h8 : blkN s ≤ 8
  · rw [if_pos h8]
    by_cases h0 : blkN s = 0
    · exact inner_none s w h0
    · exact inner_dir s w (by omega) h8
  · rw [if_neg h8]
    by_cases h136 : blkN s ≤ 136
    · rw [if_pos h136]
      exact inner_one s w (by omega) h136
    · rw [if_neg h136]
      exact inner_two s w (by omega)

theorem innN_bd (s : Int) : 0 ≤ innN s ∧ innN s ≤ 200 := by
  have := blkN_bd s
  unfold innN
  split
  · omega
  · split <;> omega
theorem allN_bd (s : Int) : 0 ≤ allN s ∧ allN s ≤ 20000 := by
  have := blkN_bd s
  have := innN_bd s
  unfold allN
  omega

set_option maxHeartbeats 800000 in
theorem all_any (s : Int) (w : World) :
    Calls Tryd.prog 43 #[.int .i64 s] w fun e w' => e = .returned (.int .i64 (allN s)) ∧ Chg (fun _ => False) w w' := by
  have b1 := blkN_bd s
  have b2 := innN_bd s
  unfold allN
  go_enter Tryd.func43, Tryd.ntmps43
  go_wp2_with fail
  refine (blocks_any s _).mono ?_
  rintro e w1 ⟨rfl, rfl⟩
  go_wp2_with fail
  refine (inner_any s _).mono ?_
  rintro e w2 ⟨rfl, C2⟩
  go_wp2
  go_ret
  exact ⟨rfl, C2⟩
end Go.Proofs.YtdcmkcplklkfmaaDoor

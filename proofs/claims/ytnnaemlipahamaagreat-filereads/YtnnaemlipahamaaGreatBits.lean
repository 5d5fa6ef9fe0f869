/-
  What Has, Set, Clear, Count, Run, First of a map of bits do.
-/
import Derived.Test.YtnnaemlipahamaaGreatBMem
import Derived.Deep.RegionWith
namespace Go.Proofs.YtnnaemlipahamaaGreat
open Go.RowKit

set_option maxHeartbeats 1000000 in
theorem has_in (v : Value) (xs : List Int) (k : Nat) (w : World) (h : Bs w v xs) (hb : IsBy xs) (hl : xs.length ≤ 1099511627776) (hk : k < 8 * xs.length) : Calls Tryz.prog 70 #[v, .int .i64 (k : Int)] w fun e w' => e = .returned (.bool (bitN xs k)) ∧ ∃ n, w' = w.drewN n := by
  have H : Hid (Bs w v xs) := h
  rcases h with ⟨rfl, rfl⟩ | ⟨a, c, rfl, hc, hm, hcell⟩
  · simp at hk
  have hj : k / 8 < xs.length := by omega
  have hi : (k : Int) / 8 < (xs.length : Int) := by omega
  have hi0 : (0 : Int) ≤ (k : Int) / 8 := by omega
  have ht : ((k : Int) / 8).toNat = k / 8 := by omega
  have h1 := hcell (k / 8) hj
  rw [(hb.byt (k / 8)).1] at h1
  have hx := (hb.byt (k / 8)).2
  obtain ⟨x, ex⟩ : ∃ x, byt xs (k / 8) = x := ⟨_, rfl⟩
  rw [ex] at h1 hx
  have hne := msk_ne k
  clear hcell hc hm hb
  cases hbit : bitN xs k with
  | true =>
    have e1 := and_yes x k hx (by rw [← ex]; exact hbit)
    clear ex hbit
    go_enter Tryz.func70, Tryz.ntmps70
    go_wp2_with fail
    go_quiet (first | (go_at_call 100; exact Calls.quiet_of_same (holds_yes (H.out.drewN _) hl hk)) | (go_at_call 101; exact Calls.quiet_of_same (mask_any k _)))
    go_wp2
    go_ret
    exact ⟨by simp [hne], _, rfl⟩
  | false =>
    have e1 := and_no x k hx (by rw [← ex]; exact hbit)
    clear ex hbit
    go_enter Tryz.func70, Tryz.ntmps70
    go_wp2_with fail
    go_quiet (first | (go_at_call 100; exact Calls.quiet_of_same (holds_yes (H.out.drewN _) hl hk)) | (go_at_call 101; exact Calls.quiet_of_same (mask_any k _)))
    go_wp2
    go_ret
    exact ⟨rfl, _, rfl⟩
set_option maxHeartbeats 1000000 in
theorem has_out (v : Value) (xs : List Int) (i : Int) (w : World) (h : Bs w v xs) (hl : xs.length ≤ 1099511627776) (hi : i < 0 ∨ 8 * (xs.length : Int) ≤ i) : Calls Tryz.prog 70 #[v, .int .i64 i] w fun e w' => e = .returned (.bool false) ∧ ∃ n, w' = w.drewN n := by
  have H : Hid (Bs w v xs) := h
  have HI : Hid (i < 0 ∨ 8 * (xs.length : Int) ≤ i) := hi
  obtain ⟨a, c, rfl, hc⟩ := h.formB
  clear h hi hc
  go_enter Tryz.func70, Tryz.ntmps70
  go_wp2_with fail
  go_quiet (first | (go_at_call 100; exact Calls.quiet_of_same (holds_no (H.out.drewN _) hl HI.out)) | (go_at_call 101; exact Calls.quiet_of_same (mask_any _ _)))
  go_wp2
  go_ret
  exact ⟨rfl, _, rfl⟩
/-- Has, whatever is asked. -/
theorem bhas_any (v : Value) (xs : List Int) (i : Int) (w : World) (h : Bs w v xs) (hb : IsBy xs) (hl : xs.length ≤ 1099511627776) : Calls Tryz.prog 70 #[v, .int .i64 i] w fun e w' => e = .returned (.bool (bitI xs i)) ∧ ∃ n, w' = w.drewN n := by
  by_cases hi : i < 0 ∨ 8 * (xs.length : Int) ≤ i
  · rw [bitI_out hi]; exact has_out v xs i w h hl hi
  · obtain ⟨k, rfl⟩ := Int.eq_ofNat_of_zero_le (show 0 ≤ i by omega)
    rw [bitI_nat]
    exact has_in v xs k w h hb hl (by omega)
set_option maxHeartbeats 1000000 in
theorem set_not (v : Value) (xs : List Int) (i : Int) (w : World) (h : Bs w v xs) (hb : IsBy xs) (hl : xs.length ≤ 1099511627776) (hi : (i < 0 ∨ 8 * (xs.length : Int) ≤ i) ∨ bitI xs i = true) : Calls Tryz.prog 108 #[v, .int .i64 i] w fun e w' => e = .returned (.bool false) ∧ ∃ n, w' = w.drewN n := by
  have H : Hid (Bs w v xs) := h
  obtain ⟨a, c, rfl, hc⟩ := h.formB
  clear h hc
  rcases hi with hi | hi
  · have HI : Hid (i < 0 ∨ 8 * (xs.length : Int) ≤ i) := hi
    clear hi
    go_enter Tryz.func108, Tryz.ntmps108
    go_wp2_with fail
    refine (holds_no H.out hl HI.out).mono ?_
    rintro e w' ⟨rfl, rfl⟩
    go_wp2
    go_ret
    exact ⟨rfl, 0, rfl⟩
  · obtain ⟨k, rfl, hk, hbit⟩ := bitI_true hi
    have HB : Hid (bitI xs (k : Int) = true) := hi
    clear hi hbit
    go_enter Tryz.func108, Tryz.ntmps108
    go_wp2_with fail
    refine (holds_yes H.out hl hk).mono ?_
    rintro e w' ⟨rfl, rfl⟩
    go_wp2_with fail
    refine (bhas_any _ xs _ _ H.out hb hl).mono ?_
    rw [HB.out]
    rintro e w' ⟨rfl, n, rfl⟩
    go_wp2
    go_ret
    exact ⟨rfl, n, rfl⟩
set_option maxHeartbeats 2000000 in
theorem set_new (g : Nat) (v : Value) (xs : List Int) (k : Nat) (w : World) (h : Mp w g v xs) (hb : IsBy xs) (hl : xs.length ≤ 1099511627776) (hk : k < 8 * xs.length) (h0 : bitN xs k = false) : Calls Tryz.prog 108 #[v, .int .i64 (k : Int)] w fun e w' => e = .returned (.bool true) ∧ Mp w' g v (flipN xs k) ∧ Chg (fun b => b = g) w w' := by
  have H : Hid (Mp w g v xs) := h
  rcases h with ⟨rfl, rfl⟩ | ⟨c, cur, ty, rfl, hblk, hc, hm, hcell⟩
  · simp at hk
  have hj : k / 8 < xs.length := by omega
  have hi : (k : Int) / 8 < (xs.length : Int) := by omega
  have hi0 : (0 : Int) ≤ (k : Int) / 8 := by omega
  have ht : ((k : Int) / 8).toNat = k / 8 := by omega
  have hx := (hb.byt (k / 8)).2
  have ex0 := (hb.byt (k / 8)).1
  obtain ⟨x, ex⟩ : ∃ x, byt xs (k / 8) = x := ⟨_, rfl⟩
  have e1 := or_bit x k (by rw [← ex]; exact hx) (by rw [← ex]; exact h0)
  obtain ⟨y, ey⟩ : ∃ y : Int, ((x ^^^ 2 ^ (k % 8) : Nat) : Int) = y := ⟨_, rfl⟩
  rw [ey] at e1
  have h1 : (w.cell? ⟨g, k / 8, none⟩ = some (.int .u8 (x : Int))) := by
    rw [cell_of_row _ _ _ _ _ _ hblk, hcell (k / 8) hj, ex0, ex]
  have hf : w.frozen? ⟨g, k / 8, none⟩ = false := frozen_of_row w g _ _ _ hblk
  have HP : Hid (Mp w g (.slice (some ⟨g, 0, none⟩) xs.length c) xs ∧ flipN xs k = xs.set (k / 8) y) := ⟨H.out, by unfold flipN; rw [ex, ey]⟩
  have HB : Hid (bitI xs (k : Int) = false) := by show bitI xs (k : Int) = false; rw [bitI_nat]; exact h0
  clear hcell hm hc hblk ex0 ex ey h0 H hx
  go_enter Tryz.func108, Tryz.ntmps108
  go_wp2_with fail
  refine (holds_yes HP.out.1.bs hl hk).mono ?_
  rintro e w' ⟨rfl, rfl⟩
  go_wp2_with fail
  refine (bhas_any _ xs _ _ HP.out.1.bs hb hl).mono ?_
  rw [HB.out]
  rintro e w1 ⟨rfl, n, rfl⟩
  go_wp2_with fail
  go_region_with ((go_at_call 101; refine (mask_any k _).mono ?_; rintro e w' ⟨rfl, rfl⟩))
  all_goals
    go_wp2
    go_ret
    refine ⟨rfl, ?_, ?_⟩
    · rw [HP.out.2]
      exact (HP.out.1.kept (Chg.drewN (fun _ => False) _ (n + 1)) (fun h => h)).set hj y
    · exact (Chg.drewN _ _ (n + 1)).trans (Chg.setCell (S := fun b => b = g) _ _ _ rfl) (fun _ _ h => h)
set_option maxHeartbeats 2000000 in
theorem clear_old (g : Nat) (v : Value) (xs : List Int) (k : Nat) (w : World) (h : Mp w g v xs) (hb : IsBy xs) (hl : xs.length ≤ 1099511627776) (hk : k < 8 * xs.length) (h0 : bitN xs k = true) : Calls Tryz.prog 113 #[v, .int .i64 (k : Int)] w fun e w' => e = .returned (.bool true) ∧ Mp w' g v (flipN xs k) ∧ Chg (fun b => b = g) w w' := by
  have H : Hid (Mp w g v xs) := h
  rcases h with ⟨rfl, rfl⟩ | ⟨c, cur, ty, rfl, hblk, hc, hm, hcell⟩
  · simp at hk
  have hj : k / 8 < xs.length := by omega
  have hi : (k : Int) / 8 < (xs.length : Int) := by omega
  have hi0 : (0 : Int) ≤ (k : Int) / 8 := by omega
  have ht : ((k : Int) / 8).toNat = k / 8 := by omega
  have hx := (hb.byt (k / 8)).2
  have ex0 := (hb.byt (k / 8)).1
  obtain ⟨x, ex⟩ : ∃ x, byt xs (k / 8) = x := ⟨_, rfl⟩
  have e1 := andNot_bit x k (by rw [← ex]; exact hx) (by rw [← ex]; exact h0)
  obtain ⟨y, ey⟩ : ∃ y : Int, ((x ^^^ 2 ^ (k % 8) : Nat) : Int) = y := ⟨_, rfl⟩
  rw [ey] at e1
  have h1 : (w.cell? ⟨g, k / 8, none⟩ = some (.int .u8 (x : Int))) := by
    rw [cell_of_row _ _ _ _ _ _ hblk, hcell (k / 8) hj, ex0, ex]
  have hf : w.frozen? ⟨g, k / 8, none⟩ = false := frozen_of_row w g _ _ _ hblk
  have HP : Hid (Mp w g (.slice (some ⟨g, 0, none⟩) xs.length c) xs ∧ flipN xs k = xs.set (k / 8) y) := ⟨H.out, by unfold flipN; rw [ex, ey]⟩
  have HB : Hid (bitI xs (k : Int) = true) := by show bitI xs (k : Int) = true; rw [bitI_nat]; exact h0
  clear hcell hm hc hblk ex0 ex ey h0 H hx
  go_enter Tryz.func113, Tryz.ntmps113
  go_wp2_with fail
  refine (bhas_any _ xs _ _ HP.out.1.bs hb hl).mono ?_
  rw [HB.out]
  rintro e w1 ⟨rfl, n, rfl⟩
  go_wp2_with fail
  go_region_with ((go_at_call 101; refine (mask_any k _).mono ?_; rintro e w' ⟨rfl, rfl⟩))
  all_goals
    go_wp2
    go_ret
    refine ⟨rfl, ?_, ?_⟩
    · rw [HP.out.2]
      exact (HP.out.1.kept (Chg.drewN (fun _ => False) _ (n + 1)) (fun h => h)).set hj y
    · exact (Chg.drewN _ _ (n + 1)).trans (Chg.setCell (S := fun b => b = g) _ _ _ rfl) (fun _ _ h => h)
set_option maxHeartbeats 1000000 in
theorem clear_not (v : Value) (xs : List Int) (i : Int) (w : World) (h : Bs w v xs) (hb : IsBy xs) (hl : xs.length ≤ 1099511627776) (hi : bitI xs i = false) : Calls Tryz.prog 113 #[v, .int .i64 i] w fun e w' => e = .returned (.bool false) ∧ ∃ n, w' = w.drewN n := by
  have H : Hid (Bs w v xs) := h
  obtain ⟨a, c, rfl, hc⟩ := h.formB
  have HB : Hid (bitI xs i = false) := hi
  clear h hc hi
  go_enter Tryz.func113, Tryz.ntmps113
  go_wp2_with fail
  refine (bhas_any _ xs _ _ H.out hb hl).mono ?_
  rw [HB.out]
  rintro e w' ⟨rfl, n, rfl⟩
  go_wp2
  go_ret
  exact ⟨rfl, n, rfl⟩
theorem within_nat (v : Value) (xs : List Int) (i j : Int) (w : World) (h : Bs w v xs) (hl : xs.length ≤ 1099511627776) : ∃ B : Int, B ≤ 8 * (xs.length : Int) ∧ hiB xs j = B.toNat ∧ (8 * (xs.length : Int) < i → B ≤ i) ∧
    Calls Tryz.prog 69 #[v, .int .i64 i, .int .i64 j] w fun e w' => e = .returned (.tuple #[.int .i64 (loB i : Int), .int .i64 B]) ∧ w' = w := by
  refine ⟨min j (8 * (xs.length : Int)), by omega, rfl, by omega, ?_⟩
  have e : ((loB i : Nat) : Int) = max i 0 := by unfold loB; omega
  rw [e]
  exact within_any v xs i j w h hl
set_option maxHeartbeats 2000000 in
theorem count_any (v : Value) (xs : List Int) (i j : Int) (w : World) (h : Bs w v xs) (hb : IsBy xs) (hl : xs.length ≤ 1099511627776) (hi : i ≤ 9223372036854775807) : Calls Tryz.prog 34 #[v, .int .i64 i, .int .i64 j] w fun e w' => e = .returned (.int .i64 (cntI xs i j : Int)) ∧ ∃ n, w' = w.drewN n := by
  have H : Hid (Bs w v xs) := h
  obtain ⟨B, hB, eB, _, hw⟩ := within_nat v xs i j w h hl
  obtain ⟨a, c, rfl, hc⟩ := h.formB
  have HC : Hid (cntI xs i j = cnt xs (loB i) (B.toNat - loB i)) := by show cntI xs i j = _; unfold cntI; rw [eB]
  have hA : loB i ≤ 9223372036854775807 := by unfold loB; omega
  generalize loB i = A at *
  clear h hc eB
  go_enter Tryz.func34, Tryz.ntmps34
  go_wp2_with fail
  refine hw.mono ?_
  rintro e w' ⟨rfl, rfl⟩
  clear hw
  go_wp2_with fail
  go_loopw [7, 8] (fun x y wr => ∃ t n : Nat, t ≤ B.toNat - A ∧ x = .int .i64 ((cnt xs A t : Nat) : Int) ∧ y = .int .i64 ((A + t : Nat) : Int) ∧ wr = w'.drewN n) (fun _ y _ => B.toNat - (intOf y).toNat)
  case atStart => exact ⟨0, 0, by omega, rfl, rfl, rfl⟩
  case round =>
    obtain ⟨t, n, ht, rfl, rfl, rfl⟩ := hrel
    have hct := cnt_le xs A t
    by_cases hlt : ((A + t : Nat) : Int) < B
    · have ha := bhas_any _ xs ((A + t : Nat) : Int) _ (H.out.drewN n) hb hl
      rw [bitI_nat] at ha
      have hs := cnt_succ xs A t
      cases hbit : bitN xs (A + t) with
      | true =>
        rw [hbit] at ha hs
        have HS : Hid (cnt xs A (t + 1) = cnt xs A t + 1) := hs
        clear hs hbit
        go_wp2_with fail
        refine ha.mono ?_
        rintro e w1 ⟨rfl, m, rfl⟩
        clear ha
        go_wp2
        go_roundw
        case rel => exact ⟨t + 1, n + m, by omega, by rw [HS.out]; go_num, by go_num, by simp⟩
        case measure => simp [intOf]; omega
      | false =>
        rw [hbit] at ha hs
        have HS : Hid (cnt xs A (t + 1) = cnt xs A t) := hs
        clear hs hbit
        go_wp2_with fail
        refine ha.mono ?_
        rintro e w1 ⟨rfl, m, rfl⟩
        clear ha
        go_wp2
        go_roundw
        case rel => exact ⟨t + 1, n + m, by omega, by rw [HS.out], by go_num, by simp⟩
        case measure => simp [intOf]; omega
    · go_wp2
      go_ret
      refine ⟨?_, n, rfl⟩
      rw [HC.out]
      have : B.toNat - A = t := by omega
      rw [this]
      rfl
end Go.Proofs.YtnnaemlipahamaaGreat

namespace Go.Proofs.YtnnaemlipahamaaGreat
open Go.RowKit

/-- A place that was found, or none. -/
def placed (r : Option Nat) : Value := .tuple #[.int .i64 (runV r), .bool r.isSome]
set_option maxHeartbeats 2000000 in
theorem run_any (v : Value) (xs : List Int) (i j q : Int) (w : World) (h : Bs w v xs) (hb : IsBy xs) (hl : xs.length ≤ 1099511627776) (hi : i ≤ 9223372036854775807) (hq : q ≤ 9223372036854775807) (hq0 : -9223372036854775808 ≤ q) : Calls Tryz.prog 126 #[v, .int .i64 i, .int .i64 j, .int .i64 q] w fun e w' => e = .returned (placed (runI xs i j q)) ∧ ∃ n, w' = w.drewN n := by
  have H : Hid (Bs w v xs) := h
  obtain ⟨B, hB, eB, _, hw⟩ := within_nat v xs i j w h hl
  obtain ⟨a, c, rfl, hc⟩ := h.formB
  by_cases hq1 : q < 1
  · have hd : decide (q < 1) = true := by simpa using hq1
    rw [runI_no hq1]
    clear h hc eB hw
    go_enter Tryz.func126, Tryz.ntmps126
    go_wp2
    go_ret2
    exact ⟨rfl, 0, rfl⟩
  have hd : decide (q < 1) = false := by simpa using hq1
  have HC : Hid (runI xs i j q = runF xs q (B.toNat - loB i) (loB i) 0) := by show runI xs i j q = _; rw [runI_yes hq1, eB]
  have hA : loB i ≤ 9223372036854775807 := by unfold loB; omega
  generalize loB i = A at *
  clear h hc eB
  go_enter Tryz.func126, Tryz.ntmps126
  go_wp2_with fail
  refine hw.mono ?_
  rintro e w' ⟨rfl, rfl⟩
  clear hw
  go_wp2_with fail
  go_loopw [10, 11] (fun x y wr => ∃ t k s n : Nat, t ≤ B.toNat - A ∧ Hid (s + k = A + t) ∧ (k : Int) < q ∧ x = .int .i64 (s : Int) ∧ y = .int .i64 ((s + k : Nat) : Int) ∧ wr = w'.drewN n ∧ Hid (runF xs q (B.toNat - A) A 0 = runF xs q (B.toNat - A - t) (s + k) k)) (fun _ y _ => B.toNat - (intOf y).toNat)
  case atStart => exact ⟨0, 0, A, 0, by omega, rfl, by omega, rfl, rfl, rfl, rfl⟩
  case round =>
    obtain ⟨t, k, s, n, ht, HK, hkq, rfl, rfl, rfl, HR⟩ := hrel
    have hsa := Int.le_of_eq (congrArg Nat.cast HK.out : ((s + k : Nat) : Int) = ((A + t : Nat) : Int))
    have hsb := Int.le_of_eq (congrArg Nat.cast HK.out.symm : ((A + t : Nat) : Int) = ((s + k : Nat) : Int))
    by_cases hlt : ((s + k : Nat) : Int) < B
    · have ha := bhas_any _ xs ((s + k : Nat) : Int) _ (H.out.drewN n) hb hl
      rw [bitI_nat] at ha
      cases hbit : bitN xs (s + k) with
      | true =>
        rw [hbit] at ha
        have HS : Hid (runF xs q (B.toNat - A) A 0 = runF xs q (B.toNat - A - (t + 1)) (s + k + 1 + 0) 0) := by
          exact runF_next1 HR.out (by omega) hbit
        clear HR hbit
        go_wp2_with fail
        refine ha.mono ?_
        rintro e w1 ⟨rfl, m, rfl⟩
        clear ha
        go_wp2
        go_roundw
        case rel => exact ⟨t + 1, 0, s + k + 1, n + m, by omega, (by show _ = _; omega), by omega, by go_num, by go_num, by simp, HS⟩
        case measure => simp [intOf]; omega
      | false =>
        rw [hbit] at ha
        by_cases hend : (k : Int) + 1 = q
        · have HS : Hid (runI xs i j q = some s) := by
            exact HC.out.trans (runF_next3 HR.out (by omega) hbit hend)
          clear HR hbit HC
          have kt : ((s : Int) + (k : Int) - (s : Int) == q - 1) = true := by simp; omega
          go_wp2_with fail
          refine ha.mono ?_
          rintro e w1 ⟨rfl, m, rfl⟩
          clear ha
          go_wp2
          go_ret2
          rw [HS.out]
          exact ⟨rfl, n + m, rfl⟩
        · have HS : Hid (runF xs q (B.toNat - A) A 0 = runF xs q (B.toNat - A - (t + 1)) (s + (k + 1)) (k + 1)) := by
            exact runF_next2 HR.out (by omega) hbit hend
          clear HR hbit
          have kt : ((s : Int) + (k : Int) - (s : Int) == q - 1) = false := by simp; omega
          go_wp2_with fail
          refine ha.mono ?_
          rintro e w1 ⟨rfl, m, rfl⟩
          clear ha
          go_wp2
          go_roundw
          case rel => exact ⟨t + 1, k + 1, s, n + m, by omega, (by show _ = _; omega), by omega, by go_num, by go_num, by simp, HS⟩
          case measure => simp [intOf]; omega
    · have HS : Hid (runI xs i j q = none) := by
        exact HC.out.trans (runF_stop HR.out (by omega))
      clear HR HC
      go_wp2
      go_ret2
      rw [HS.out]
      exact ⟨rfl, n, rfl⟩
/-- First: a row of one. -/
theorem first_any (v : Value) (xs : List Int) (i j : Int) (w : World) (h : Bs w v xs) (hb : IsBy xs) (hl : xs.length ≤ 1099511627776) (hi : i ≤ 9223372036854775807) : Calls Tryz.prog 107 #[v, .int .i64 i, .int .i64 j] w fun e w' => e = .returned (placed (runI xs i j 1)) ∧ ∃ n, w' = w.drewN n := by
  have hr := run_any v xs i j 1 w h hb hl hi (by decide) (by decide)
  unfold placed at hr ⊢
  generalize runV (runI xs i j 1) = r at *
  generalize (runI xs i j 1).isSome = o at *
  obtain ⟨a, c, rfl, hc⟩ := h.formB
  clear h hc
  go_enter Tryz.func107, Tryz.ntmps107
  go_wp2_with fail
  refine hr.mono ?_
  rintro e w' ⟨rfl, n, rfl⟩
  clear hr
  go_wp2
  go_ret2
  exact ⟨rfl, n, rfl⟩
end Go.Proofs.YtnnaemlipahamaaGreat

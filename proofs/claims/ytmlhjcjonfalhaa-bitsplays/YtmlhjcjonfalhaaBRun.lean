/-
  What Run, First, New of a map of bits do.
-/
import Derived.Test.YtmlhjcjonfalhaaBits
namespace Go.Proofs.Ytmlhjcjonfalhaa
open Go.RowKit

/-- A place that was found, or none. -/
def placed (r : Option Nat) : Value := .tuple #[.int .i64 (runV r), .bool r.isSome]
set_option maxHeartbeats 2000000 in
theorem run_any (v : Value) (xs : List Int) (i j q : Int) (w : World) (h : Bs w v xs) (hb : IsBy xs) (hl : xs.length ≤ 1099511627776) (hi : i ≤ 9223372036854775807) (hq : q ≤ 9223372036854775807) (hq0 : -9223372036854775808 ≤ q) : Calls Try.prog 14 #[v, .int .i64 i, .int .i64 j, .int .i64 q] w fun e w' => e = .returned (placed (runI xs i j q)) ∧ ∃ n, w' = w.drewN n := by
  have H : Hid (Bs w v xs) := h
  obtain ⟨B, hB, eB, _, hw⟩ := within_nat v xs i j w h hl
  obtain ⟨a, c, rfl, hc⟩ := h.formB
  by_cases hq1 : q < 1
  · have hd : decide (q < 1) = true := by simpa using hq1
    rw [runI_no hq1]
    clear h hc eB hw
    go_enter Try.func14, Try.ntmps14
    go_wp2
    go_ret2
    exact ⟨rfl, 0, rfl⟩
  have hd : decide (q < 1) = false := by simpa using hq1
  have HC : Hid (runI xs i j q = runF xs q (B.toNat - loB i) (loB i) 0) := by show runI xs i j q = _; rw [runI_yes hq1, eB]
  have hA : loB i ≤ 9223372036854775807 := by unfold loB; omega
  generalize loB i = A at *
  clear h hc eB
  go_enter Try.func14, Try.ntmps14
  go_wp2_with fail
  refine hw.mono ?_
  rintro e w' ⟨rfl, rfl⟩
  clear hw
  go_wp2_with fail
  go_loopw [10, 11] (fun x y wr => ∃ t k s n : Nat, t ≤ B.toNat - A ∧ Hid (s + k = A + t) ∧ (k : Int) < q ∧ x = .int .i64 (s : Int) ∧ y = .int .i64 ((s + k : Nat) : Int) ∧ wr = w'.drewN n ∧ Hid (runF xs q (B.toNat - A) A 0 = runF xs q (B.toNat - A - t) (s + k) k)) (fun _ y _ => B.toNat - (intOf y).toNat)
  case atStart => exact ⟨0, 0, A, 0, by omega, rfl, by omega, rfl, rfl, rfl, rfl⟩
  case round =>
    obtain ⟨t, k, s, n, ht, HK, hkq, rfl, rfl, rfl, HR⟩ := hrel
    have hsa := Int.le_of_eq (congrArg Nat.cast HK.out : ((s + k : Nat) : Int) = ((A + t : Nat) : Int))
    have hsb := Int.le_of_eq (congrArg Nat.cast HK.out.symm : ((A + t : Nat) : Int) = ((s + k : Nat) : Int))
    by_cases hlt : ((s + k : Nat) : Int) < B
    · have ha := has_any _ xs ((s + k : Nat) : Int) _ (H.out.drewN n) hb hl
      rw [bitI_nat] at ha
      cases hbit : bitN xs (s + k) with
      | true =>
        rw [hbit] at ha
        have HS : Hid (runF xs q (B.toNat - A) A 0 = runF xs q (B.toNat - A - (t + 1)) (s + k + 1 + 0) 0) := by
          exact runF_next1 HR.out (by omega) hbit
        clear HR hbit
        go_wp2_with fail
        refine ha.mono ?_
        rintro e w1 ⟨rfl, m, rfl⟩
        clear ha
        go_wp2
        go_roundw
        case rel => exact ⟨t + 1, 0, s + k + 1, n + m, by omega, (by show _ = _; omega), by omega, by go_num, by go_num, by simp, HS⟩
        case measure => simp [intOf]; omega
      | false =>
        rw [hbit] at ha
        by_cases hend : (k : Int) + 1 = q
        · have HS : Hid (runI xs i j q = some s) := by
            exact HC.out.trans (runF_next3 HR.out (by omega) hbit hend)
          clear HR hbit HC
          have kt : ((s : Int) + (k : Int) - (s : Int) == q - 1) = true := by simp; omega
          go_wp2_with fail
          refine ha.mono ?_
          rintro e w1 ⟨rfl, m, rfl⟩
          clear ha
          go_wp2
          go_ret2
          rw [HS.out]
          exact ⟨rfl, n + m, rfl⟩
        · have HS : Hid (runF xs q (B.toNat - A) A 0 = runF xs q (B.toNat - A - (t + 1)) (s + (k + 1)) (k + 1)) := by
            exact runF_next2 HR.out (by omega) hbit hend
          clear HR hbit
          have kt : ((s : Int) + (k : Int) - (s : Int) == q - 1) = false := by simp; omega
          go_wp2_with fail
          refine ha.mono ?_
          rintro e w1 ⟨rfl, m, rfl⟩
          clear ha
          go_wp2
          go_roundw
          case rel => exact ⟨t + 1, k + 1, s, n + m, by omega, (by show _ = _; omega), by omega, by go_num, by go_num, by simp, HS⟩
          case measure => simp [intOf]; omega
    · have HS : Hid (runI xs i j q = none) := by
        exact HC.out.trans (runF_stop HR.out (by omega))
      clear HR HC
      go_wp2
      go_ret2
      rw [HS.out]
      exact ⟨rfl, n, rfl⟩
/-- First: a row of one. -/
theorem first_any (v : Value) (xs : List Int) (i j : Int) (w : World) (h : Bs w v xs) (hb : IsBy xs) (hl : xs.length ≤ 1099511627776) (hi : i ≤ 9223372036854775807) : Calls Try.prog 12 #[v, .int .i64 i, .int .i64 j] w fun e w' => e = .returned (placed (runI xs i j 1)) ∧ ∃ n, w' = w.drewN n := by
  have hr := run_any v xs i j 1 w h hb hl hi (by decide) (by decide)
  unfold placed at hr ⊢
  generalize runV (runI xs i j 1) = r at *
  generalize (runI xs i j 1).isSome = o at *
  obtain ⟨a, c, rfl, hc⟩ := h.formB
  clear h hc
  go_enter Try.func12, Try.ntmps12
  go_wp2_with fail
  refine hr.mono ?_
  rintro e w' ⟨rfl, n, rfl⟩
  clear hr
  go_wp2
  go_ret2
  exact ⟨rfl, n, rfl⟩
end Go.Proofs.Ytmlhjcjonfalhaa

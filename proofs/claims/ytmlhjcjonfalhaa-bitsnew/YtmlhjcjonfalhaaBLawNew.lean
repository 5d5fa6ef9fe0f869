/-
  BitsNew answers true for every number.
-/
import Derived.Test.YtmlhjcjonfalhaaBNew
namespace Go.Proofs.Ytmlhjcjonfalhaa
open Go.RowKit

set_option maxHeartbeats 4000000 in
theorem law_bnew (n : Int) (w : World) : Calls Try.prog 4 #[.int .i64 n] w fun e w' => e = .returned (.bool true) ∧ Chg (fun _ => False) w w' := by
  by_cases h1 : 16384 < n ∧ n ≤ 1048576
  · have k1 : decide (16384 < n) = true := by simpa using h1.1
    have k2 : decide (n ≤ 1048576) = true := by simpa using h1.2
    clear h1
    go_enter Try.func4, Try.ntmps4
    go_wp2_with fail
    refine (knownB w).mono ?_
    rintro e w1 ⟨rfl, hc⟩
    have HC : Hid (Chg (fun _ => False) w w1) := hc
    clear hc
    go_wp2
    go_ret
    exact ⟨rfl, HC.out⟩
  by_cases h2 : n < 0 ∨ 1048576 < n
  · have HN : Hid (n < 0 ∨ 1048576 < n) := h2
    have hs : ∀ w', (convert 25 9 (.slice none 0 0)).run Try.prog w' = .ok (.string (strB [])) w' := fun w' => run_strM (.inl ⟨rfl, rfl⟩)
    have hs2 : ∀ w', (convert 22 9 (.slice none 0 0)).run Try.prog w' = .ok (.string (strB [])) w' := fun w' => run_strB (.inl ⟨rfl, rfl⟩)
    have hb0 : ∀ w', Bs w' (.slice none 0 0) [] := fun w' => .inl ⟨rfl, rfl⟩
    have hc0 : cntI [] 0 1048576 = 0 := rfl
    have HB0 : Hid ((∀ w', Bs w' (.slice none 0 0) []) ∧ cntI [] 0 1048576 = 0) := ⟨hb0, hc0⟩
    generalize strB [] = t at *
    clear hb0 hc0
    by_cases h16 : 16384 < n
    · have k1 : decide (16384 < n) = true := by simpa using h16
      have k2 : decide (n ≤ 1048576) = false := by simp; omega
      clear h1 h2
      go_enter Try.func4, Try.ntmps4
      go_wp2_with fail
      refine (knownB w).mono ?_
      rintro e w1 ⟨rfl, hc⟩
      have HC : Hid (Chg (fun _ => False) w w1) := hc
      clear hc
      go_wp2_with fail
      refine (newB_no n w1 HN.out).mono ?_
      rintro e w2 ⟨rfl, rfl⟩
      go_wp2_with fail
      refine (rnew_no n w2 HN.out).mono ?_
      rintro e w3 ⟨rfl, rfl⟩
      go_wp2_with fail
      refine (count_any _ [] 0 1048576 w3 (HB0.out.1 w3) (fun x hx => by cases hx) (by decide) (by decide)).mono ?_
      rw [HB0.out.2]
      rintro e w4 ⟨rfl, m, rfl⟩
      go_wp2
      go_ret
      exact ⟨rfl, HC.out.trans (Chg.drewN _ _ _) (fun _ _ h => h)⟩
    · have k1 : decide (16384 < n) = false := by simpa using h16
      clear h1 h2
      go_enter Try.func4, Try.ntmps4
      go_wp2_with fail
      refine (knownB w).mono ?_
      rintro e w1 ⟨rfl, hc⟩
      have HC : Hid (Chg (fun _ => False) w w1) := hc
      clear hc
      go_wp2_with fail
      refine (newB_no n w1 HN.out).mono ?_
      rintro e w2 ⟨rfl, rfl⟩
      go_wp2_with fail
      refine (rnew_no n w2 HN.out).mono ?_
      rintro e w3 ⟨rfl, rfl⟩
      go_wp2_with fail
      refine (count_any _ [] 0 1048576 w3 (HB0.out.1 w3) (fun x hx => by cases hx) (by decide) (by decide)).mono ?_
      rw [HB0.out.2]
      rintro e w4 ⟨rfl, m, rfl⟩
      go_wp2
      go_ret
      exact ⟨rfl, HC.out.trans (Chg.drewN _ _ _) (fun _ _ h => h)⟩
  obtain ⟨k, rfl⟩ := Int.eq_ofNat_of_zero_le (show 0 ≤ n by omega)
  have k1 : decide (16384 < (k : Int)) = false := by simp; omega
  have hk : k ≤ 16384 := by omega
  clear h1 h2
  go_enter Try.func4, Try.ntmps4
  go_wp2_with fail
  refine (knownB w).mono ?_
  rintro e w1 ⟨rfl, hc⟩
  have HC : Hid (Chg (fun _ => False) w w1) := hc
  clear hc
  go_wp2_with fail
  refine (newB_ok k w1 (by omega)).mono ?_
  rintro e w2 ⟨rfl, h2, hc2⟩
  go_wp2_with fail
  refine (rnew_ok k w2 (by omega)).mono ?_
  rintro e w3 ⟨rfl, h3, hc3⟩
  have H2 : Bs w3 (.slice (some ⟨w1.heap.size, 0, none⟩) ((k + 7) / 8) ((k + 7) / 8)) (noughts ((k + 7) / 8)) := (h2.kept hc3 (fun h => h)).bs
  have hs := run_strM H2
  have hs2 := run_strB h3.bs
  have HC3 : Hid (Chg (fun _ => False) w w3 ∧ Bs w3 (.slice (some ⟨w1.heap.size, 0, none⟩) ((k + 7) / 8) ((k + 7) / 8)) (noughts ((k + 7) / 8)) ∧ cntI (noughts ((k + 7) / 8)) 0 1048576 = 0) := ⟨(HC.out.trans hc2 (fun _ _ h => h)).trans hc3 (fun _ _ h => h), H2, cnt_zero (fun j _ => noughts_bit _ _)⟩
  generalize strB (noughts ((k + 7) / 8)) = t at *
  clear h2 hc2 h3 hc3 H2 HC
  go_wp2_with fail
  refine (count_any _ _ 0 1048576 w3 HC3.out.2.1 (noughts_by _) (by rw [noughts_len]; omega) (by decide)).mono ?_
  rw [HC3.out.2.2]
  rintro e w4 ⟨rfl, m, rfl⟩
  go_wp2
  go_ret
  exact ⟨rfl, HC3.out.1.trans (Chg.drewN _ _ _) (fun _ _ h => h)⟩
end Go.Proofs.Ytmlhjcjonfalhaa

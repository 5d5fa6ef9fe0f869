/-
  BitsCounts answers true for every slice of bytes and every three numbers.
-/
import Derived.Test.YtmlhjcjonfalhaaBCopy
namespace Go.Proofs.Ytmlhjcjonfalhaa
open Go.RowKit

theorem cntI_nat {xs : List Int} {a b : Nat} (h : b ≤ 8 * xs.length) : cntI xs (a : Int) (b : Int) = cnt xs a (b - a) := by
  have e1 : loB (a : Int) = a := by simp [loB]
  have e2 : hiB xs (b : Int) = b := by unfold hiB; omega
  unfold cntI
  rw [e1, e2]
theorem runI_nat {xs : List Int} {a b n : Nat} (h : b ≤ 8 * xs.length) (hn : 1 ≤ n) : runI xs (a : Int) (b : Int) (n : Int) = runF xs (n : Int) (b - a) a 0 := by
  have e1 : loB (a : Int) = a := by simp [loB]
  have e2 : hiB xs (b : Int) = b := by unfold hiB; omega
  rw [runI_yes (by omega), e1, e2]

/-- What the law reckons. -/
theorem counts_facts (xs : List Int) (a b c : Nat) (h1 : a ≤ b) (h2 : b ≤ c) (h3 : c ≤ 8 * xs.length) :
    ∃ n n1 n2 : Nat, cntI xs a c = n ∧ cntI xs a b = n1 ∧ cntI xs b c = n2 ∧ n = n1 + n2 ∧ n ≤ c - a ∧
      ((runI xs a c 1 = none ∧ n = c - a) ∨ ∃ s : Nat, runI xs a c 1 = some s ∧ n < c - a ∧ a ≤ s ∧ s < c ∧ bitI xs (s : Int) = false ∧ cntI xs a s = s - a) := by
  refine ⟨_, _, _, rfl, rfl, rfl, ?_, ?_, ?_⟩
  · rw [cntI_nat h3, cntI_nat (by omega), cntI_nat h3]
    have e : c - a = (b - a) + (c - b) := by omega
    rw [e, cnt_add]
    congr 2
    omega
  · rw [cntI_nat h3]; exact cnt_le _ _ _
  · have er : runI xs (a : Int) (c : Int) 1 = runF xs 1 (c - a) a 0 := runI_nat (n := 1) h3 (by omega)
    rw [cntI_nat h3, er]
    rcases runF_first xs (c - a) a with h | ⟨s, g1, g2, g3, g4, g5, g6⟩
    · exact .inl h
    · refine .inr ⟨s, g1, g6, g2, by omega, by rw [bitI_nat]; exact g4, ?_⟩
      rw [cntI_nat (by omega)]
      exact g5

set_option maxHeartbeats 8000000 in
theorem law_bcounts_in (v : Value) (bs : List Int) (a b c : Nat) (w : World) (hv : Bs w v bs) (hb : IsBy bs) (hl : bs.length ≤ 100) (h1 : a ≤ b) (h2 : b ≤ c) (h3 : c ≤ 8 * bs.length) : Calls Try.prog 6 #[v, .int .i64 (a : Int), .int .i64 (b : Int), .int .i64 (c : Int)] w fun e w' => e = .returned (.bool true) ∧ Chg (fun _ => False) w w' := by
  have H : Hid (Bs w v bs) := hv
  obtain ⟨va, vc, rfl, hvc⟩ := hv.formB
  obtain ⟨n, n1, n2, e0, e1, e2, e3, e4, e5⟩ := counts_facts bs a b c h1 h2 h3
  have HE : Hid (cntI bs a c = n ∧ cntI bs a b = n1 ∧ cntI bs b c = n2) := ⟨e0, e1, e2⟩
  clear hv hvc e0 e1 e2
  have k1 : decide (100 < (bs.length : Int)) = false := by simp; omega
  have k2 : decide ((a : Int) < 0) = false := by simp
  have k3 : decide ((b : Int) < (a : Int)) = false := by simp; omega
  have k4 : decide ((c : Int) < (b : Int)) = false := by simp; omega
  have k5 : decide (8 * (bs.length : Int) < (c : Int)) = false := by simp; omega
  have k6 : ((n : Int) == (n1 : Int) + (n2 : Int)) = true := by simp; omega
  have k7 : ((n : Int) != (n1 : Int) + (n2 : Int)) = false := by simp; omega
  have b1 : n1 ≤ 1000 := by omega
  have b2 : n2 ≤ 1000 := by omega
  clear e3
  go_enter Try.func6, Try.ntmps6
  go_wp2_with fail
  refine (knownB w).mono ?_
  rintro e w1 ⟨rfl, hc⟩
  obtain ⟨g, ma, mc, w2, hr, hm, hc2, hg, _⟩ := copied (H.out.kept hc (fun _ _ _ _ _ h => h)) (by omega)
  have HC : Hid (Chg (fun _ => False) w w2 ∧ Bs w2 (.slice ma bs.length mc) bs) := ⟨hc.trans hc2 (fun _ _ h => h), hm.bs⟩
  clear hc H hm hc2 hg
  go_wp2_with (at_builtin; go_must (refine Lib.wpList_append_run _ rfl _ _ _ _ rfl _ _ rfl rfl _ _ hr ?_))
  clear hr
  go_wp2_with fail
  refine (count_any _ _ _ _ _ HC.out.2 hb (by omega) (by omega)).mono ?_
  rw [HE.out.1]
  rintro e w3 ⟨rfl, m3, rfl⟩
  go_wp2_with fail
  refine (first_any _ _ _ _ _ (HC.out.2.drewN _) hb (by omega) (by omega)).mono ?_
  rcases e5 with ⟨e5, e6⟩ | ⟨s, e5, e6, e7, e8, e9, e10⟩
  · rw [e5]
    unfold placed runV
    rintro e w4 ⟨rfl, m4, rfl⟩
    have k8 : decide ((n : Int) < (c : Int) - (a : Int)) = false := by simp; omega
    clear e5 e6
    go_wp2_with fail
    refine (count_any _ _ _ _ _ (HC.out.2.drewN _) hb (by omega) (by omega)).mono ?_
    rw [HE.out.2.1]
    rintro e w5 ⟨rfl, m5, rfl⟩
    go_wp2_with fail
    refine (count_any _ _ _ _ _ (HC.out.2.drewN _) hb (by omega) (by omega)).mono ?_
    rw [HE.out.2.2]
    rintro e w6 ⟨rfl, m6, rfl⟩
    go_wp2
    go_ret
    exact ⟨rfl, HC.out.1.trans (Chg.drewN _ _ _) (fun _ _ h => h)⟩
  · rw [e5]
    unfold placed runV
    rintro e w4 ⟨rfl, m4, rfl⟩
    have HS : Hid (bitI bs (s : Int) = false ∧ cntI bs a s = s - a) := ⟨e9, e10⟩
    have k8 : decide ((n : Int) < (c : Int) - (a : Int)) = true := by simp; omega
    have k9 : decide ((a : Int) ≤ (s : Int)) = true := by simp; omega
    have k10 : decide ((s : Int) < (c : Int)) = true := by simp; omega
    have k11 : (((s - a : Nat) : Int) == (s : Int) - (a : Int)) = true := by simp; omega
    generalize s - a = d at *
    clear e5 e9 e10
    go_wp2_with fail
    refine (count_any _ _ _ _ _ (HC.out.2.drewN _) hb (by omega) (by omega)).mono ?_
    rw [HE.out.2.1]
    rintro e w5 ⟨rfl, m5, rfl⟩
    go_wp2_with fail
    refine (count_any _ _ _ _ _ (HC.out.2.drewN _) hb (by omega) (by omega)).mono ?_
    rw [HE.out.2.2]
    rintro e w6 ⟨rfl, m6, rfl⟩
    go_wp2_with fail
    refine (has_any _ _ _ _ (HC.out.2.drewN _) hb (by omega)).mono ?_
    rw [HS.out.1]
    rintro e w7 ⟨rfl, m7, rfl⟩
    go_wp2_with fail
    refine (count_any _ _ _ _ _ (HC.out.2.drewN _) hb (by omega) (by omega)).mono ?_
    rw [HS.out.2]
    rintro e w8 ⟨rfl, m8, rfl⟩
    go_wp2
    go_ret
    exact ⟨rfl, HC.out.1.trans (Chg.drewN _ _ _) (fun _ _ h => h)⟩
set_option maxHeartbeats 8000000 in
theorem law_bcounts (v : Value) (bs : List Int) (a b c : Int) (w : World) (hv : Bs w v bs) (hb : IsBy bs) : Calls Try.prog 6 #[v, .int .i64 a, .int .i64 b, .int .i64 c] w fun e w' => e = .returned (.bool true) ∧ Chg (fun _ => False) w w' := by
  have H : Hid (Bs w v bs ∧ IsBy bs) := ⟨hv, hb⟩
  obtain ⟨va, vc, rfl, hvc⟩ := hv.formB
  clear hv hb hvc
  by_cases g1 : 100 < bs.length
  · have k1 : decide (100 < (bs.length : Int)) = true := by simp; omega
    clear g1
    go_enter Try.func6, Try.ntmps6
    go_wp2_with fail
    refine (knownB w).mono ?_
    rintro e w1 ⟨rfl, hc⟩
    have HC : Hid (Chg (fun _ => False) w w1) := hc
    clear hc
    go_wp2
    go_ret
    exact ⟨rfl, HC.out⟩
  have k1 : decide (100 < (bs.length : Int)) = false := by simp; omega
  by_cases g2 : a < 0
  · have k2 : decide (a < 0) = true := by simpa using g2
    clear g1 g2
    go_enter Try.func6, Try.ntmps6
    go_wp2_with fail
    refine (knownB w).mono ?_
    rintro e w1 ⟨rfl, hc⟩
    have HC : Hid (Chg (fun _ => False) w w1) := hc
    clear hc
    go_wp2
    go_ret
    exact ⟨rfl, HC.out⟩
  have k2 : decide (a < 0) = false := by simpa using g2
  by_cases g3 : b < a
  · have k3 : decide (b < a) = true := by simpa using g3
    clear g1 g2 g3
    go_enter Try.func6, Try.ntmps6
    go_wp2_with fail
    refine (knownB w).mono ?_
    rintro e w1 ⟨rfl, hc⟩
    have HC : Hid (Chg (fun _ => False) w w1) := hc
    clear hc
    go_wp2
    go_ret
    exact ⟨rfl, HC.out⟩
  have k3 : decide (b < a) = false := by simpa using g3
  by_cases g4 : c < b
  · have k4 : decide (c < b) = true := by simpa using g4
    clear g1 g2 g3 g4
    go_enter Try.func6, Try.ntmps6
    go_wp2_with fail
    refine (knownB w).mono ?_
    rintro e w1 ⟨rfl, hc⟩
    have HC : Hid (Chg (fun _ => False) w w1) := hc
    clear hc
    go_wp2
    go_ret
    exact ⟨rfl, HC.out⟩
  have k4 : decide (c < b) = false := by simpa using g4
  by_cases g5 : 8 * (bs.length : Int) < c
  · have k5 : decide (8 * (bs.length : Int) < c) = true := by simpa using g5
    have hl : bs.length ≤ 100 := by omega
    clear g1 g2 g3 g4 g5
    go_enter Try.func6, Try.ntmps6
    go_wp2_with fail
    refine (knownB w).mono ?_
    rintro e w1 ⟨rfl, hc⟩
    have HC : Hid (Chg (fun _ => False) w w1) := hc
    clear hc
    go_wp2
    go_ret
    exact ⟨rfl, HC.out⟩
  obtain ⟨A, rfl⟩ := Int.eq_ofNat_of_zero_le (show 0 ≤ a by omega)
  obtain ⟨B, rfl⟩ := Int.eq_ofNat_of_zero_le (show 0 ≤ b by omega)
  obtain ⟨C, rfl⟩ := Int.eq_ofNat_of_zero_le (show 0 ≤ c by omega)
  exact law_bcounts_in _ bs A B C w H.out.1 H.out.2 (by omega) (by omega) (by omega) (by omega)
end Go.Proofs.Ytmlhjcjonfalhaa

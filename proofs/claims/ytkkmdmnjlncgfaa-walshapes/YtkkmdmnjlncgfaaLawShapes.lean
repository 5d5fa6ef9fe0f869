/-
  WalShapes answers true for every number of blocks.
-/
import Derived.Test.YtkkmdmnjlncgfaaWKnown
namespace Go.Proofs.Ytkkmdmnjlncgfaa
open Go.RowKit Go.Maps

set_option maxHeartbeats 1600000 in
theorem shapes_any (nb : Nat) (w : World) (h0 : 1 ≤ nb) (h1 : nb ≤ 300) : Calls Try.prog 19 #[.int .i64 (nb : Int)] w fun e w' => e = .returned (.bool true) ∧ Chg (fun _ => False) w w' := by
  by_cases hs : nb < 66
  · have k1 : decide ((nb : Int) < 66) = true := by simp; omega
    have hq := eqL_none
    go_enter Try.func19, Try.ntmps19
    go_wp2_with fail
    refine (new_ok nb w (by omega) (by omega)).mono ?_
    rintro e w1 ⟨F, p, rfl, d1, hc1, hF⟩
    have H1 : Hid (Dk w1 F p (St.new nb) ∧ Chg (fun _ => False) w w1) := ⟨d1, hc1⟩
    clear d1 hc1 hF
    go_wp2_with fail
    refine (format_small F p (St.new nb) w1 H1.out.1 (by show nb ≤ 65; omega)).mono ?_
    rintro e w2 ⟨rfl, rfl⟩
    have H2 : Hid (Chg (fun _ => False) w w2) := H1.out.2
    clear H1
    go_wp2
    go_ret
    exact ⟨rfl, H2.out⟩
  · have k1 : decide ((nb : Int) < 66) = false := by simp; omega
    obtain ⟨K, hK⟩ : ∃ K, nb = K + 65 := ⟨nb - 65, by omega⟩
    have HK : Hid (nb = K + 65) := hK
    clear hK
    go_enter Try.func19, Try.ntmps19
    go_wp2_with fail
    refine (new_ok nb w (by omega) (by omega)).mono ?_
    rintro e w1 ⟨F, p, rfl, d1, hc1, hF⟩
    have H1 : Hid (Dk w1 F p (St.new nb) ∧ Nw (fun b => b < w.heap.size) w w1 F (fun _ => False)) := ⟨d1, Nw.ofNew hc1 hF⟩
    clear d1 hc1 hF
    go_wp2_with fail
    refine (format_up (N := K + 2) (K := K) F (St.new nb) H1.out.1 H1.out.2 (fun _ => rfl) HK.out (by have := HK.out; omega) rfl (by show (0 : Int) < 1; decide) (by show 0 + K + 2 ≤ K + 2; omega) (by have := HK.out; omega)).mono ?_
    rintro e w2 ⟨pl, rfl, h2, _⟩
    have H2 : Hid (LogUp (fun b => b < w.heap.size) w w2 p pl K (fun _ => zeros 512) (fun _ => none) 0 (K + 2)) := h2
    have hq := neL_some ⟨pl, 0, none⟩
    clear h2 H1
    go_wp2_with fail
    refine (blocks_up H2.out).mono ?_
    rintro e w3 ⟨rfl, rfl⟩
    have H3 : Hid (Chg (fun _ => False) w w3) := H2.out.chg
    have kk : (nb : Int) = (K : Int) + 65 := by have := HK.out; omega
    have hKb : K ≤ 300 := by have := HK.out; omega
    rw [kk] at *
    clear H2 HK kk k1
    go_wp2
    go_ret
    refine ⟨?_, H3.out⟩
    simp
    omega

set_option maxHeartbeats 1600000 in
theorem law_shapes (n : Int) (w : World) : Calls Try.prog 4 #[.int .i64 n] w fun e w' => e = .returned (.bool true) ∧ Chg (fun _ => False) w w' := by
  by_cases hb : n < 1 ∨ 300 < n
  · by_cases h3 : 300 < n
    · have k1 : decide (300 < n) = true := by simpa using h3
      go_enter Try.func4, Try.ntmps4
      go_wp2_with fail
      refine (known_any w).mono ?_
      rintro e w1 ⟨rfl, hc⟩
      have HC : Hid (Chg (fun _ => False) w w1) := hc
      clear hc hb
      go_wp2
      go_ret
      exact ⟨rfl, HC.out⟩
    · have k1 : decide (300 < n) = false := by simpa using h3
      have k2 : decide (n < 1) = true := by simp; omega
      go_enter Try.func4, Try.ntmps4
      go_wp2_with fail
      refine (known_any w).mono ?_
      rintro e w1 ⟨rfl, hc⟩
      have HC : Hid (Chg (fun _ => False) w w1) := hc
      clear hc hb
      go_wp2
      go_ret
      exact ⟨rfl, HC.out⟩
  · obtain ⟨nb, rfl⟩ := Int.eq_ofNat_of_zero_le (show 0 ≤ n by omega)
    have k1 : decide ((300 : Int) < (nb : Int)) = false := by simp; omega
    have k2 : decide ((nb : Int) < 1) = false := by simp; omega
    have h0 : 1 ≤ nb := by omega
    have h1 : nb ≤ 300 := by omega
    clear hb
    go_enter Try.func4, Try.ntmps4
    go_wp2_with fail
    refine (known_any w).mono ?_
    rintro e w1 ⟨rfl, hc⟩
    have HC : Hid (Chg (fun _ => False) w w1) := hc
    clear hc
    go_wp2_with fail
    refine (new_ok nb w1 (by omega) (by omega)).mono ?_
    rintro e w2 ⟨F, p, rfl, d2, hc2, hF⟩
    have H2 : Hid (Dk w2 F p (St.new nb) ∧ Chg (fun _ => False) w w2) := ⟨d2, HC.out.trans hc2 (fun _ _ h => h)⟩
    clear d2 hc2 hF HC
    have hq := eqL_none
    by_cases hs : nb < 66
    · have k3 : decide ((nb : Int) < 66) = true := by simp; omega
      go_wp2_with fail
      refine (open_small F p (St.new nb) w2 H2.out.1 (by show nb ≤ 65; omega)).mono ?_
      rintro e w3 ⟨rfl, rfl⟩
      have H3 : Hid (Chg (fun _ => False) w w3) := H2.out.2
      clear H2
      go_wp2_with fail
      refine (shapes_any nb w3 h0 h1).mono ?_
      rintro e w4 ⟨rfl, hc4⟩
      have H4 : Hid (Chg (fun _ => False) w w4) := H3.out.trans hc4 (fun _ _ h => h)
      clear H3 hc4
      go_wp2
      go_ret
      exact ⟨rfl, H4.out⟩
    · have k3 : decide ((nb : Int) < 66) = false := by simp; omega
      go_wp2_with fail
      refine (open_none F p (nb - 65) (St.new nb) w2 H2.out.1 rfl (by show nb = nb - 65 + 65; omega) (by omega) rfl (by show 0 < 1099511627776; decide)).mono ?_
      rintro e w3 ⟨rfl, hc3⟩
      have H3 : Hid (Chg (fun _ => False) w w3) := H2.out.2.trans hc3 (fun _ _ h => h)
      clear H2 hc3
      go_wp2_with fail
      refine (shapes_any nb w3 h0 h1).mono ?_
      rintro e w4 ⟨rfl, hc4⟩
      have H4 : Hid (Chg (fun _ => False) w w4) := H3.out.trans hc4 (fun _ _ h => h)
      clear H3 hc4
      go_wp2
      go_ret
      exact ⟨rfl, H4.out⟩
end Go.Proofs.Ytkkmdmnjlncgfaa

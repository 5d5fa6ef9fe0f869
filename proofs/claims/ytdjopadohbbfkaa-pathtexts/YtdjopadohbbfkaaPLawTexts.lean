/-
  PathTexts.
-/
import Derived.Test.YtdjopadohbbfkaaPKnown
namespace Go.Proofs.Ytdjopadohbbfkaa
open Go.RowKit

set_option maxHeartbeats 3200000 in
theorem law_texts (s t : ByteArray) (w : World) : Calls Try.prog 3 #[.string s, .string t] w fun e w' => e = .returned (.bool true) ∧ Below w.heap.size w w' := by
  by_cases h1 : 2000 < s.size
  · have q1 : 2000 < (s.size : Int) := by omega
    go_enter Try.func3, Try.ntmps3
    go_wp2_with (go_at_call 6; refine (known_any _).mono ?_; rintro e w1 ⟨rfl, B⟩)
    go_ret
    exact ⟨rfl, B⟩
  have q1 : ¬ 2000 < (s.size : Int) := by omega
  by_cases h2 : 2000 < t.size
  · have q2 : 2000 < (t.size : Int) := by omega
    go_enter Try.func3, Try.ntmps3
    go_wp2_with (go_at_call 6; refine (known_any _).mono ?_; rintro e w1 ⟨rfl, B⟩)
    go_ret
    exact ⟨rfl, B⟩
  have q2 : ¬ 2000 < (t.size : Int) := by omega
  have HS : s.size ≤ 3000 := by omega
  have HT : t.size ≤ 3000 := by omega
  have HL : Hid ((spN s).length ≤ 1000000) := Nat.le_trans (spN_len s) (by omega)
  obtain ⟨E, hE⟩ : ∃ E, Hid (spE s = E) := ⟨_, rfl⟩
  obtain ⟨NS, hN⟩ : ∃ NS, Hid (spN s = NS) := ⟨_, rfl⟩
  obtain ⟨PU, hU⟩ : ∃ PU, Hid (paU s = PU) := ⟨_, rfl⟩
  obtain ⟨PN, hP⟩ : ∃ PN, Hid (paN s = PN) := ⟨_, rfl⟩
  obtain ⟨PE, hPE⟩ : ∃ PE, Hid (paE s = PE) := ⟨_, rfl⟩
  obtain ⟨U, hUn⟩ : ∃ U, Hid (unB s t = U) := ⟨_, rfl⟩
  rw [hN.out] at HL
  clear h1 h2
  go_enter Try.func3, Try.ntmps3
  go_wp2_with (first
    | (go_at_call 6; refine (known_any _).mono ?_; rintro e w1 ⟨rfl, B⟩)
    | (go_at_call 7; refine (split_any s _ HS).mono ?_; rintro e w2 ⟨v, rfl, hT2, hB⟩; rw [hE.out]; rw [hN.out] at hT2; have B2 := B.trans (hB.mono B.size); clear hB B)
    | (go_at_call 8; refine (rsplit_any s _ HS).mono ?_; rintro e w3 ⟨v3, rfl, hT3, hB⟩; rw [hE.out]; rw [hN.out] at hT3; have B3 := B2.trans (hB.mono B2.size); have hT2 := hT2.below hB; clear hB B2)
    | (go_at_call 9; refine (parent_any s _ HS).mono ?_; rintro e w4 ⟨rfl, hB⟩; rw [hU.out, hP.out, hPE.out]; have B4 := B3.trans (hB.mono B3.size); have hT2 := hT2.below hB; have hT3 := hT3.below hB; clear hB B3)
    | (go_at_call 10; refine (rparent_any s _ HS).mono ?_; rintro e w5 ⟨rfl, hB⟩; rw [hU.out, hP.out, hPE.out]; have B5 := B4.trans (hB.mono B4.size); have hT2 := hT2.below hB; have hT3 := hT3.below hB; clear hB B4)
    | (go_at_call 11; refine (ltexts_yes _ _ NS _ hT2 hT3 HL.out).mono ?_; rintro e w6 ⟨rfl, hB⟩; have B6 := B5.trans (hB.mono B5.size); clear hB B5)
    | (go_at_call 12; refine (under_any s t _ HS HT).mono ?_; rintro e w7 ⟨rfl, hB⟩; rw [hUn.out]; have B7 := B6.trans (hB.mono B6.size); clear hB B6)
    | (go_at_call 13; refine (runder_any s t _ HS HT).mono ?_; rintro e w8 ⟨rfl, hB⟩; rw [hUn.out]; have B8 := B7.trans (hB.mono B7.size); clear hB B7))
  go_ret
  exact ⟨by first | rfl | simp, B8⟩
end Go.Proofs.Ytdjopadohbbfkaa

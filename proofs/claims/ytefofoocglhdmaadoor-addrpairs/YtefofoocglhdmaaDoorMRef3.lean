/-
  A text's parts, by the document's loop; a domain by its parts.
-/
import Derived.Test.YtefofoocglhdmaaDoorMRef2
import Derived.Test.YtefofoocglhdmaaDoorMLawDom
namespace Go.Proofs.YtefofoocglhdmaaDoor
open Go.RowKit

/-- Parts so far, the next one from a on, i being looked at. -/
def RsD (L : List UInt8) (ok : List UInt8 → Bool) (parts a i : Nat) : Prop :=
  ∃ d : List (List UInt8), d.all ok = true ∧ d.length = parts ∧ parts ≤ a ∧ ((a ≤ i ∧ i ≤ L.length ∧ (∀ j, a ≤ j → j < i → L.getD j 0 ≠ 46) ∧ cutD L = d ++ cutD (L.drop a)) ∨ (i = L.length + 1 ∧ a = i ∧ cutD L = d))
theorem RsD.start (L : List UInt8) (ok : List UInt8 → Bool) : RsD L ok 0 0 0 := ⟨[], rfl, rfl, Nat.le_refl _, .inl ⟨Nat.le_refl _, Nat.zero_le _, fun j _ h => by omega, rfl⟩⟩
theorem RsD.skip {L : List UInt8} {ok : List UInt8 → Bool} {parts a i : Nat} (h : RsD L ok parts a i) (hi : i < L.length) (hc : ¬ L.getD i 0 = 46) : RsD L ok parts a (i + 1) := by
  obtain ⟨d, h1, h2, h0, h3 | h3⟩ := h
  · refine ⟨d, h1, h2, h0, .inl ⟨by omega, by omega, fun j hp hl => ?_, h3.2.2.2⟩⟩
    rcases (by omega : j < i ∨ j = i) with h | rfl
    · exact h3.2.2.1 j hp h
    · exact hc
  · omega
theorem drop_mem {L : List UInt8} {a i : Nat} (h : ∀ j, a ≤ j → j < i → L.getD j 0 ≠ 46) : ∀ x ∈ (L.drop a).take (i - a), x ≠ 46 := by
  intro x hx
  obtain ⟨j, hj, rfl⟩ := List.mem_iff_getElem.1 hx
  rw [List.length_take, List.length_drop] at hj
  rw [List.getElem_take, List.getElem_drop]
  have := h (a + j) (by omega) (by omega)
  simpa [List.getD, show a + j < L.length by omega] using this
theorem RsD.part {L : List UInt8} {ok : List UInt8 → Bool} {parts a i : Nat} (h : RsD L ok parts a i) (hi : i ≤ L.length) (hc : i < L.length → L.getD i 0 = 46) :
    a ≤ i ∧ parts ≤ a ∧ (ok ((L.drop a).take (i - a)) = true → RsD L ok (parts + 1) (i + 1) (i + 1)) ∧ (ok ((L.drop a).take (i - a)) = false → (cutD L).all ok = false) := by
  obtain ⟨d, h1, h2, h0, h3 | h3⟩ := h
  · obtain ⟨p, q, r, e⟩ := h3
    have hm := drop_mem r
    refine ⟨p, h0, ?_⟩
    by_cases hlt : i < L.length
    · have e1 : L.drop a = (L.drop a).take (i - a) ++ 46 :: L.drop (i + 1) := by
        have h4 : (L.drop a).drop (i - a) = 46 :: L.drop (i + 1) := by
          rw [List.drop_drop, show a + (i - a) = i by omega, List.drop_eq_getElem_cons hlt]
          congr 1
          have := hc hlt
          simpa [List.getD, hlt] using this
        conv => lhs; rw [← List.take_append_drop (i - a) (L.drop a), h4]
      have e2 : cutD (L.drop a) = (L.drop a).take (i - a) :: cutD (L.drop (i + 1)) := by
        conv => lhs; rw [e1]
        exact cutD_at _ _ hm
      rw [e2] at e
      exact ⟨fun ho => ⟨d ++ [(L.drop a).take (i - a)], by simp [h1, ho], by simp [h2], by omega, .inl ⟨Nat.le_refl _, by omega, fun j h1 h2 => by omega, by rw [e]; simp⟩⟩, fun ho => by rw [e]; simp [ho]⟩
    · obtain rfl : i = L.length := by omega
      have e1 : (L.drop a).take (L.length - a) = L.drop a := List.take_of_length_le (by rw [List.length_drop]; exact Nat.le_refl _)
      rw [e1] at hm ⊢
      rw [cutD_none _ hm] at e
      exact ⟨fun ho => ⟨d ++ [L.drop a], by simp [h1, ho], by simp [h2], by omega, .inr ⟨rfl, rfl, e⟩⟩, fun ho => by rw [e]; simp [ho]⟩
  · omega
theorem RsD.fin {L : List UInt8} {ok : List UInt8 → Bool} {parts a i : Nat} (h : RsD L ok parts a i) (hi : ¬ i ≤ L.length) : (cutD L).all ok = true ∧ (cutD L).length = parts := by
  obtain ⟨d, h1, h2, h0, h3 | h3⟩ := h
  · omega
  · rw [h3.2.2]; exact ⟨h1, h2⟩
theorem RsD.le {L : List UInt8} {ok : List UInt8 → Bool} {parts a i : Nat} (h : RsD L ok parts a i) : i ≤ L.length + 1 ∧ a ≤ i ∧ parts ≤ a := by
  obtain ⟨d, h1, h2, h0, h3 | h3⟩ := h <;> omega

theorem cut_char {l x : List UInt8} {c : UInt8} (hx : x ∈ cutD l) (hc : c ∈ x) : c ∈ l ∧ c ≠ 46 := by
  induction l generalizing x with
  | nil => simp [cutD] at hx; subst hx; cases hc
  | cons y ys ih =>
    have hne := cutD_ne ys
    by_cases hy : y = 46
    · rw [cutD, if_pos hy] at hx
      rcases List.mem_cons.1 hx with rfl | hx
      · cases hc
      · obtain ⟨a, b⟩ := ih hx hc
        exact ⟨by simp [a], b⟩
    · rw [cutD, if_neg hy] at hx
      cases hcy : cutD ys with
      | nil => exact absurd hcy hne
      | cons u v =>
        rw [hcy] at hx
        rcases List.mem_cons.1 hx with rfl | hx
        · rcases List.mem_cons.1 hc with rfl | hc
          · exact ⟨by simp, hy⟩
          · obtain ⟨a, b⟩ := ih (x := u) (by rw [hcy]; simp) hc
            exact ⟨by simp [a], b⟩
        · obtain ⟨a, b⟩ := ih (x := x) (by rw [hcy]; simp [show x ∈ v from hx]) hc
          exact ⟨by simp [a], b⟩
/-- Every byte is one of these or a dot just if every part has these alone. -/
theorem parts_all {p : UInt8 → Bool} {l : List UInt8} : (∀ c ∈ l, orD p c = true) ↔ ∀ x ∈ cutD l, x.all p = true := by
  constructor
  · intro h x hx
    refine List.all_eq_true.2 fun c hc => ?_
    obtain ⟨a, b⟩ := cut_char hx hc
    have := h c a
    unfold orD at this
    simpa [b] using this
  · intro h c hc
    unfold orD
    rcases cutD_mem hc with rfl | ⟨x, h1, h2⟩
    · simp
    · simp [List.all_eq_true.1 (h x h1) c h2]
theorem dw_nil {p : UInt8 → Bool} {l : List UInt8} (h : l.dropWhile p = []) : ∀ c ∈ l, p c = true := by
  intro c hc
  have e := List.takeWhile_append_dropWhile (p := p) (l := l)
  rw [h, List.append_nil] at e
  rw [← e] at hc
  exact List.all_eq_true.1 (tw_all p l) c hc
theorem dom_labels {l : List UInt8} (h91 : ¬ l.headD 0 = 91) : (fits l && domS l) = (cutD l).all lab63 := by
  have hS : domS l = (decide (0 < dotN inLab okLab l) && ((l.dropWhile (orD inLab)) == [])) := by unfold domS; rw [if_neg h91]
  by_cases ha : (cutD l).all lab63 = true
  · rw [ha]
    have hch := parts_all.2 fun x hx => by
      have := List.all_eq_true.1 ha x hx
      unfold lab63 at this
      simp only [Bool.and_eq_true] at this
      exact this.2
    have h1 : (cutD l).all okLab = true := List.all_eq_true.2 fun x hx => by
      have := List.all_eq_true.1 ha x hx
      unfold lab63 at this
      simp only [Bool.and_eq_true] at this
      exact this.1.1
    have h2 : fits l = true := List.all_eq_true.2 fun x hx => by
      have := List.all_eq_true.1 ha x hx
      unfold lab63 at this
      simp only [Bool.and_eq_true] at this
      exact this.1.2
    have hn : dotN inLab okLab l = (cutD l).length := by unfold dotN; rw [(tw_id hch).1, if_pos h1]
    rw [h2, hS, hn, (tw_id hch).2, decide_eq_true (cutD_pos l)]; rfl
  · have ha' : (cutD l).all lab63 = false := by simpa using ha
    rw [ha']
    by_cases hf : fits l = true
    · rw [hf, hS]
      by_cases hd : l.dropWhile (orD inLab) = []
      · have hch := dw_nil hd
        have hn : dotN inLab okLab l = 0 := by
          unfold dotN
          rw [(tw_id hch).1, if_neg]
          intro h1
          refine ha (List.all_eq_true.2 fun x hx => ?_)
          unfold lab63
          rw [List.all_eq_true.1 h1 x hx, parts_all.1 hch x hx]
          have := List.all_eq_true.1 hf x hx
          rw [this]; rfl
        rw [hn]; rfl
      · have : (l.dropWhile (orD inLab) == []) = false := beq_eq_false_iff_ne.2 hd
        rw [this]; simp
    · have : fits l = false := by simpa using hf
      rw [this]; rfl
end Go.Proofs.YtefofoocglhdmaaDoor

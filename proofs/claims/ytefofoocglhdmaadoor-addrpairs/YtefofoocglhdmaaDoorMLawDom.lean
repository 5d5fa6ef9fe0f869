/-
  AddrDomains.
-/
import Derived.Test.YtefofoocglhdmaaDoorMKnown
namespace Go.Proofs.YtefofoocglhdmaaDoor
open Go.RowKit

def inAl (c : UInt8) : Bool := inDig c || inLow c || inCap c
def goodP (x : List UInt8) : Bool := !(x == []) && decide (x.length ≤ 63) && x.all inAl
theorem cutD_app (a b : List UInt8) : cutD (a ++ 46 :: b) = cutD a ++ cutD b := by
  induction a with
  | nil => rfl
  | cons x xs ih =>
    rw [List.cons_append, cutD]
    have hne := cutD_ne xs
    split
    · rename_i h; rw [cutD, if_pos h, ih]; rfl
    · rename_i h
      rw [cutD, if_neg h, ih]
      cases hc : cutD xs with
      | nil => exact absurd hc hne
      | cons u v => rfl
theorem cutD_snoc (s : List UInt8) (c : UInt8) (hc : ¬ c = 46) : ∃ i x, cutD s = i ++ [x] ∧ cutD (s ++ [c]) = i ++ [x ++ [c]] := by
  induction s with
  | nil => exact ⟨[], [], rfl, by rw [List.nil_append, cutD, if_neg hc]; rfl⟩
  | cons y ys ih =>
    obtain ⟨i, x, h1, h2⟩ := ih
    by_cases hy : y = 46
    · exact ⟨[] :: i, x, by rw [cutD, if_pos hy, h1]; rfl, by rw [List.cons_append, cutD, if_pos hy, h2]; rfl⟩
    · cases i with
      | nil =>
        refine ⟨[], y :: x, by rw [cutD, if_neg hy, h1]; rfl, by rw [List.cons_append, cutD, if_neg hy, h2]; rfl⟩
      | cons u v => exact ⟨(y :: u) :: v, x, by rw [cutD, if_neg hy, h1]; rfl, by rw [List.cons_append, cutD, if_neg hy, h2]; rfl⟩
theorem cutD_mem {s : List UInt8} {c : UInt8} (h : c ∈ s) : c = 46 ∨ ∃ x ∈ cutD s, c ∈ x := by
  induction s with
  | nil => cases h
  | cons y ys ih =>
    have hne := cutD_ne ys
    by_cases hy : y = 46
    · rw [cutD, if_pos hy]
      rcases List.mem_cons.1 h with rfl | h
      · exact .inl hy
      · rcases ih h with e | ⟨x, h1, h2⟩
        · exact .inl e
        · exact .inr ⟨x, by simp [h1], h2⟩
    · rw [cutD, if_neg hy]
      cases hc : cutD ys with
      | nil => exact absurd hc hne
      | cons u v =>
        rcases List.mem_cons.1 h with rfl | h
        · exact .inr ⟨c :: u, by simp, by simp⟩
        · rcases ih h with e | ⟨x, h1, h2⟩
          · exact .inl e
          · rw [hc] at h1
            rcases List.mem_cons.1 h1 with rfl | h1
            · exact .inr ⟨y :: x, by simp, by simp [h2]⟩
            · exact .inr ⟨x, by simp [h1], h2⟩
/-- Labels with dots between. -/
def Gd (s : List UInt8) : Prop := (cutD s).all goodP = true
theorem Gd.char {s : List UInt8} (h : Gd s) {c : UInt8} (hc : c ∈ s) : c = 46 ∨ inAl c = true := by
  rcases cutD_mem hc with e | ⟨x, h1, h2⟩
  · exact .inl e
  · have := List.all_eq_true.1 h x h1
    unfold goodP at this
    simp only [Bool.and_eq_true] at this
    exact .inr (List.all_eq_true.1 this.2 c h2)
theorem al_lab {c : UInt8} (h : inAl c = true) : inLab c = true := by
  unfold inAl at h
  unfold inLab
  rw [h]; rfl
theorem al_ne {c : UInt8} (h : inAl c = true) : ¬ c = 45 ∧ ¬ c = 91 ∧ ¬ c = 93 := by
  refine ⟨?_, ?_, ?_⟩ <;> (rintro rfl; revert h; decide)
theorem Gd.lab {s : List UInt8} (h : Gd s) : ∀ c ∈ s, orD inLab c = true := fun c hc => by
  unfold orD
  rcases h.char hc with rfl | e
  · simp
  · simp [al_lab e]
theorem tw_id {p : UInt8 → Bool} {s : List UInt8} (h : ∀ c ∈ s, p c = true) : s.takeWhile p = s ∧ s.dropWhile p = [] := by
  induction s with
  | nil => exact ⟨rfl, rfl⟩
  | cons x xs ih =>
    have hx := h x (by simp)
    obtain ⟨a, b⟩ := ih fun c hc => h c (by simp [hc])
    rw [List.takeWhile_cons_of_pos hx, List.dropWhile_cons_of_pos hx, a, b]
    exact ⟨rfl, rfl⟩
theorem good_lab {x : List UInt8} (h : goodP x = true) : okLab x = true := by
  unfold goodP at h
  simp only [Bool.and_eq_true, Bool.not_eq_true', decide_eq_true_eq] at h
  obtain ⟨⟨h1, _⟩, h3⟩ := h
  have hall := List.all_eq_true.1 h3
  unfold okLab
  cases x with
  | nil => cases h1
  | cons a b =>
    have ha := (al_ne (hall a (by simp))).1
    have hl := (al_ne (hall ((a :: b).getLastD 0) (by
      rw [List.getLastD_cons]
      exact List.getLastD_mem_cons))).1
    have e1 : ((a :: b).headD 0 == 45) = false := beq_eq_false_iff_ne.2 ha
    have e2 : ((a :: b).getLastD 0 == 45) = false := beq_eq_false_iff_ne.2 hl
    rw [e1, e2]; rfl
theorem Gd.head {s t : List UInt8} (h : Gd s) : ¬ (s ++ t).headD 0 = 91 ∨ s = [] := by
  cases s with
  | nil => exact .inr rfl
  | cons a b =>
    refine .inl ?_
    show ¬ a = 91
    rcases h.char (c := a) (by simp) with rfl | e
    · decide
    · exact (al_ne e).2.1
theorem Gd.ne {s : List UInt8} (h : Gd s) : s ≠ [] := by
  rintro rfl
  have : goodP [] = true := by
    have h' := h
    unfold Gd at h'
    simpa [cutD] using h'
  revert this; decide
theorem Gd.hd {s : List UInt8} (h : Gd s) (t : List UInt8) : ¬ (s ++ t).headD 0 = 91 := (h.head).resolve_right h.ne
theorem dots_bad {s : List UInt8} (hs : ∀ c ∈ s, orD inLab c = true) (h91 : ¬ s.headD 0 = 91) (hb : (cutD s).all okLab = false) : domS s = false := by
  have h0 : dotN inLab okLab s = 0 := by unfold dotN; rw [(tw_id hs).1, if_neg (by rw [hb]; simp)]
  unfold domS
  rw [if_neg h91, h0]; rfl
theorem domB_no {s : List UInt8} (h : domS s = false) : domB s = false := by unfold domB; rw [h]; simp
theorem Gd.yes {s : List UInt8} (h : Gd s) : domB s = decide (s.length ≤ 255) := by
  have h1 : (cutD s).all okLab = true := List.all_eq_true.2 fun x hx => good_lab (List.all_eq_true.1 h x hx)
  have h2 : fits s = true := by
    unfold fits
    refine List.all_eq_true.2 fun x hx => ?_
    have := List.all_eq_true.1 h x hx
    unfold goodP at this
    simp only [Bool.and_eq_true] at this
    exact this.1.2
  have h91 : ¬ s.headD 0 = 91 := by have := h.hd []; simpa using this
  have hn : dotN inLab okLab s = (cutD s).length := by unfold dotN; rw [(tw_id h.lab).1, if_pos h1]
  have hS : domS s = true := by
    unfold domS
    rw [if_neg h91, hn, (tw_id h.lab).2, decide_eq_true (cutD_pos s)]; rfl
  unfold domB
  rw [h2, hS]; simp
theorem Gd.dot {s : List UInt8} (h : Gd s) : domB (s ++ [46]) = false := by
  refine domB_no (dots_bad (fun c hc => ?_) (h.hd _) ?_)
  · rcases List.mem_append.1 hc with hc | hc
    · exact h.lab c hc
    · simp at hc; subst hc; rfl
  · rw [cutD_app]; simp [cutD]; intro _; decide
theorem Gd.dot1 {s : List UInt8} (h : Gd s) : domB (46 :: s) = false := by
  refine domB_no (dots_bad (fun c hc => ?_) (by simp) ?_)
  · rcases List.mem_cons.1 hc with rfl | hc
    · rfl
    · exact h.lab c hc
  · rw [cutD, if_pos rfl]; rfl
theorem Gd.dots {s : List UInt8} (h : Gd s) : domB (s ++ [46, 46, 97]) = false := by
  refine domB_no (dots_bad (fun c hc => ?_) (h.hd _) ?_)
  · rcases List.mem_append.1 hc with hc | hc
    · exact h.lab c hc
    · simp at hc; rcases hc with rfl | rfl <;> decide
  · rw [show s ++ [46, 46, 97] = s ++ 46 :: [46, 97] from rfl, cutD_app, List.all_append]
    have : (cutD [46, 97]).all okLab = false := by decide
    rw [this]; simp
theorem Gd.bra {s : List UInt8} (h : Gd s) : domB (91 :: s) = false := by
  refine domB_no ?_
  have : ¬ s.dropWhile (orD inDig) = [93] := by
    intro e
    have hm : (93 : UInt8) ∈ s := by
      have h2 : (93 : UInt8) ∈ s.dropWhile (orD inDig) := by rw [e]; simp
      exact (List.dropWhile_sublist _).subset h2
    rcases h.char hm with e | e
    · revert e; decide
    · revert e; decide
  unfold domS
  rw [if_pos (by rfl)]
  have e : ((91 :: s).tail.dropWhile (orD inDig) == [93]) = false := beq_eq_false_iff_ne.2 this
  rw [e]; simp
theorem Gd.dash {s : List UInt8} (h : Gd s) : domB (s ++ [45]) = false := by
  refine domB_no (dots_bad (fun c hc => ?_) (h.hd _) ?_)
  · rcases List.mem_append.1 hc with hc | hc
    · exact h.lab c hc
    · simp at hc; subst hc; decide
  · obtain ⟨i, x, _, h2⟩ := cutD_snoc s 45 (by decide)
    rw [h2, List.all_append]
    have : okLab (x ++ [45]) = false := by unfold okLab; simp
    simp [this]
theorem Gd.one {t : List UInt8} (h : goodP t = true) : Gd t := by
  have hn : ∀ x ∈ t, x ≠ 46 := fun x hx e => by
    subst e
    unfold goodP at h
    simp only [Bool.and_eq_true] at h
    have := List.all_eq_true.1 h.2 _ hx
    revert this; decide
  unfold Gd
  rw [cutD_none t hn]
  simp [h]
theorem Gd.more {s t : List UInt8} (hs : Gd s) (h : goodP t = true) : Gd (s ++ 46 :: t) := by
  have := Gd.one h
  unfold Gd at *
  rw [cutD_app, List.all_append, hs, this]; rfl
end Go.Proofs.YtefofoocglhdmaaDoor

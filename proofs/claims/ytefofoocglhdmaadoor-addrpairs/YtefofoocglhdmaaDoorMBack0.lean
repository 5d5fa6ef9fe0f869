/-
  What is printed is read as it: rows of bytes.
-/
import Derived.Test.YtefofoocglhdmaaDoorMQuo
namespace Go.Proofs.YtefofoocglhdmaaDoor
open Go.RowKit

theorem quo_plain {c : UInt8} (r : List UInt8) (h1 : ¬ c = 34) (h2 : ¬ c = 92) (hp : prt c = true) : quo (c :: r) = (quo r).map fun x => (c :: x.1, x.2) := by
  rw [quo.eq_def]; simp [h1, h2, hp]
theorem quo_slash {c : UInt8} (r : List UInt8) (hp : prt c = true) : quo (92 :: c :: r) = (quo r).map fun x => (c :: x.1, x.2) := by
  rw [quo.eq_def]; simp [hp]
/-- In quotes t says l. -/
def Qt (t l : List UInt8) : Prop := ∀ r, quo (t ++ r) = (quo r).map fun x => (l ++ x.1, x.2)
theorem Qt.nil : Qt [] [] := fun r => by rw [List.nil_append]; cases quo r <;> simp
theorem Qt.slash {t l : List UInt8} {c : UInt8} (h : Qt t l) (hp : prt c = true) : Qt (t ++ [92, c]) (l ++ [c]) := fun r => by
  rw [List.append_assoc, h, show [92, c] ++ r = 92 :: c :: r from rfl, quo_slash r hp]
  cases quo r <;> simp
theorem Qt.plain {t l : List UInt8} {c : UInt8} (h : Qt t l) (h1 : ¬ c = 34) (h2 : ¬ c = 92) (hp : prt c = true) : Qt (t ++ [c]) (l ++ [c]) := fun r => by
  rw [List.append_assoc, h, show [c] ++ r = c :: r from rfl, quo_plain r h1 h2 hp]
  cases quo r <;> simp
theorem Qt.ofL (l : List UInt8) (h : l.all prt = true) : Qt (quoL l) l := by
  induction l with
  | nil => exact Qt.nil
  | cons c r ih =>
    rw [List.all_cons, Bool.and_eq_true] at h
    intro x
    have e := ih h.2 x
    rw [quoL]
    by_cases hc : c = 34 ∨ c = 92
    · rw [if_pos hc, List.cons_append, List.cons_append, quo_slash _ h.1, e]
      cases quo x <;> simp
    · rw [if_neg hc, List.cons_append, quo_plain _ (fun e => hc (.inl e)) (fun e => hc (.inr e)) h.1, e]
      cases quo x <;> simp
theorem Qt.close {t l : List UInt8} (h : Qt t l) (r : List UInt8) : quo (t ++ 34 :: r) = some (l, r) := by
  rw [h, quo.eq_def]; simp
theorem loc_quoted {t l : List UInt8} (h : Qt t l) (hl : ¬ l = []) (r : List UInt8) : loc (34 :: (t ++ 34 :: r)) = some (l, r) := by
  unfold loc
  rw [if_pos (show (34 :: (t ++ 34 :: r)).headD 0 = 34 from rfl), show (34 :: (t ++ 34 :: r)).tail = t ++ 34 :: r from rfl, h.close r]
  simp [hl]
theorem tw_stop {p : UInt8 → Bool} (a : List UInt8) {c : UInt8} (b : List UInt8) (h : ∀ x ∈ a, p x = true) (hc : p c = false) : (a ++ c :: b).takeWhile p = a ∧ (a ++ c :: b).dropWhile p = c :: b := by
  induction a with
  | nil => simp [hc]
  | cons x xs ih =>
    have e := ih (fun y hy => h y (by simp [hy]))
    have hx := h x (by simp)
    rw [List.cons_append, List.takeWhile_cons_of_pos hx, List.dropWhile_cons_of_pos hx, e.1, e.2]
    exact ⟨rfl, rfl⟩
theorem tw_whole {p : UInt8 → Bool} (a : List UInt8) (h : ∀ x ∈ a, p x = true) : a.takeWhile p = a := by
  induction a with
  | nil => rfl
  | cons x xs ih => rw [List.takeWhile_cons_of_pos (h x (by simp)), ih (fun y hy => h y (by simp [hy]))]
theorem all_of_drop {p : UInt8 → Bool} {a b : List UInt8} (h : a.dropWhile p = b) : ∀ x ∈ a, p x = true ∨ x ∈ b := by
  induction a generalizing b with
  | nil => intro x hx; cases hx
  | cons y ys ih =>
    intro x hx
    by_cases hy : p y = true
    · rw [List.dropWhile_cons_of_pos hy] at h
      rcases List.mem_cons.1 hx with rfl | hx
      · exact .inl hy
      · exact ih h x hx
    · rw [List.dropWhile_cons_of_neg hy] at h
      exact .inr (h ▸ hx)
theorem isW_all {a : List UInt8} (h : isW a = true) : (∀ x ∈ a, orD inWrd x = true) ∧ 0 < dotN inWrd okWrd a ∧ ¬ a = [] := by
  unfold isW at h
  rw [Bool.and_eq_true, decide_eq_true_eq, beq_iff_eq] at h
  refine ⟨fun x hx => (all_of_drop h.2 x hx).elim id (fun h => by cases h), h.1, ?_⟩
  rintro rfl
  revert h
  decide
theorem loc_words {a : List UInt8} (h : isW a = true) (r : List UInt8) : loc (a ++ 64 :: r) = some (a, 64 :: r) ∧ ¬ (a ++ 64 :: r).headD 0 = 62 ∧ ¬ (a ++ 64 :: r).headD 0 = 64 := by
  obtain ⟨h1, h2, h3⟩ := isW_all h
  obtain ⟨t1, t2⟩ := tw_stop a r h1 (show orD inWrd 64 = false by decide)
  cases a with
  | nil => exact absurd rfl h3
  | cons c x =>
    have hc := h1 c (by simp)
    have n34 : ¬ c = 34 := by rintro rfl; exact absurd hc (by decide)
    have n62 : ¬ c = 62 := by rintro rfl; exact absurd hc (by decide)
    have n64 : ¬ c = 64 := by rintro rfl; exact absurd hc (by decide)
    refine ⟨?_, n62, n64⟩
    unfold loc
    rw [if_neg (show ¬ (c :: x ++ 64 :: r).headD 0 = 34 from n34), t1, t2]
    rw [if_pos ?_]
    unfold dotN at h2 ⊢
    rw [t1]
    rw [tw_whole _ h1] at h2
    exact h2
theorem domS_all {d : List UInt8} (h : domS d = true) : ∀ x ∈ d, inDom x = true := by
  unfold domS at h
  have HD : ∀ x, orD inDig x = true → inDom x = true := fun x hx => by
    simp only [orD, inDom, inLab, Bool.or_eq_true] at hx ⊢
    rcases hx with hx | hx
    · exact .inr (.inl (.inl (.inl hx)))
    · exact .inl (.inl (.inl hx))
  have HL : ∀ x, orD inLab x = true → inDom x = true := fun x hx => by
    simp only [orD, inDom, Bool.or_eq_true] at hx ⊢
    rcases hx with hx | hx
    · exact .inr hx
    · exact .inl (.inl (.inl hx))
  split at h
  · rename_i h91
    rw [Bool.and_eq_true, beq_iff_eq] at h
    intro x hx
    cases d with
    | nil => cases hx
    | cons c y =>
      rcases List.mem_cons.1 hx with rfl | hx
      · rw [show x = 91 from h91]; decide
      · rcases all_of_drop h.2 x hx with h3 | h3
        · exact HD x h3
        · rw [List.mem_singleton.1 h3]; decide
  · rw [Bool.and_eq_true, beq_iff_eq] at h
    intro x hx
    rcases all_of_drop h.2 x hx with h3 | h3
    · exact HL x h3
    · cases h3
theorem mbx_lcl {a d more : List UInt8} (x : List UInt8) (_ha : locB a = true) (hd : domS d = true) (hx : loc x = some (a, 64 :: (d ++ 62 :: more))) : mbx x = some (a, d, 62 :: more) := by
  obtain ⟨t1, t2⟩ := tw_stop d more (domS_all hd) (show inDom 62 = false by decide)
  unfold mbx
  rw [hx]
  simp only [List.headD_cons, List.tail_cons, if_pos, t1, t2, hd]
theorem locB_all {a : List UInt8} (h : locB a = true) : a.all prt = true ∧ ¬ a = [] := by
  unfold locB at h
  simp only [Bool.and_eq_true, decide_eq_true_eq] at h
  refine ⟨h.2, ?_⟩
  rintro rfl
  have := h.1.1
  simp at this
/-- Behind the bracket. -/
def ins (a d : List UInt8) : List UInt8 := lcl a ++ 64 :: (d ++ [62])
theorem ins_eq (a d more : List UInt8) : ins a d ++ more = lcl a ++ 64 :: (d ++ 62 :: more) := by unfold ins; simp
theorem clo_ins {a d : List UInt8} (more : List UInt8) (ha : locB a = true) (hd : domS d = true) : clo (mbx (ins a d ++ more)) = some (a, d, more) ∧ ¬ (ins a d ++ more).headD 0 = 62 ∧ ¬ (ins a d ++ more).headD 0 = 64 := by
  obtain ⟨h1, h2⟩ := locB_all ha
  rw [ins_eq]
  unfold lcl
  split
  · rename_i hw
    obtain ⟨q1, q2, q3⟩ := loc_words hw (d ++ 62 :: more)
    refine ⟨?_, q2, q3⟩
    rw [mbx_lcl _ ha hd q1]; rfl
  · have e : (34 :: (quoL a ++ [34])) ++ 64 :: (d ++ 62 :: more) = 34 :: (quoL a ++ 34 :: (64 :: (d ++ 62 :: more))) := by simp
    rw [e]
    refine ⟨?_, (show ¬ (34 : UInt8) = 62 by decide), (show ¬ (34 : UInt8) = 64 by decide)⟩
    rw [mbx_lcl _ ha hd (loc_quoted (Qt.ofL a h1) h2 _)]; rfl
theorem pth_ins {a d : List UInt8} (more : List UInt8) (ha : locB a = true) (hd : domS d = true) : pth (60 :: (ins a d ++ more)) = some (a, d, more) := by
  obtain ⟨h1, h2, h3⟩ := clo_ins more ha hd
  unfold pth
  rw [if_pos (show (60 :: (ins a d ++ more)).headD 0 = 60 from rfl), List.tail_cons, if_neg h2, if_neg h3, h1]
theorem domB_S {d : List UInt8} (h : domB d = true) : domS d = true := by
  unfold domB at h; rw [Bool.and_eq_true] at h; exact h.2
theorem rgt_parts {a d : List UInt8} (h : rgt a d = true) : (a = [] ∧ d = []) ∨ nul a d = false ∧ locB a = true ∧ domS d = true ∧ (wrt a d).length ≤ 256 := by
  unfold rgt at h
  cases hn : nul a d with
  | true =>
    unfold nul at hn
    rw [Bool.and_eq_true, beq_iff_eq, beq_iff_eq] at hn
    exact .inl hn
  | false =>
    rw [hn, Bool.false_or, Bool.and_eq_true, Bool.and_eq_true, decide_eq_true_eq] at h
    exact .inr ⟨rfl, h.1.1, domB_S h.1.2, h.2⟩
theorem pathR_prn {a d : List UInt8} (more : List UInt8) (h : rgt a d = true) : pathR (prn a d ++ more) = (a, d, more, 0) := by
  have hp : pth (prn a d ++ more) = some (a, d, more) := by
    unfold prn
    rw [if_pos h]
    rcases rgt_parts h with ⟨rfl, rfl⟩ | ⟨h1, h2, h3, _⟩
    · rfl
    · rw [h1, if_neg (by decide)]
      exact pth_ins more h2 h3
  unfold pathR
  rw [hp]
  show (if rgt a d = true then _ else _) = _
  rw [if_pos h]
theorem parseR_of {a d l : List UInt8} (h : pathR l = (a, d, [], 0)) : parseR l = (a, d, 0) := by
  unfold parseR; rw [h]; rfl
theorem parseR_prn {a d : List UInt8} (h : rgt a d = true) : parseR (prn a d) = (a, d, 0) := by
  have := pathR_prn [] h
  rw [List.append_nil] at this
  exact parseR_of this
theorem lcl_le (a : List UInt8) : (lcl a).length ≤ 2 * a.length + 2 := by
  unfold lcl
  have := quoL_len a
  split
  · omega
  · simp; omega
/-- At x.y. -/
theorem rgt_xy {l : List UInt8} (h : locB l = true) : rgt l [120, 46, 121] = true := by
  unfold rgt
  have h2 : domB [120, 46, 121] = true := by decide
  have h3 : (wrt l [120, 46, 121]).length ≤ 256 := by
    have := lcl_le l
    have h4 : l.length ≤ 64 := by
      unfold locB at h
      simp only [Bool.and_eq_true, decide_eq_true_eq] at h
      exact h.1.2
    unfold wrt
    simp only [List.length_cons, List.length_append, List.length_nil]
    omega
  rw [h, h2, decide_eq_true h3]; simp
theorem parseR_quoted {t l : List UInt8} (h : Qt t l) (hl : locB l = true) : parseR (60 :: 34 :: (t ++ [34, 64, 120, 46, 121, 62])) = (l, [120, 46, 121], 0) := by
  apply parseR_of
  have h1 := loc_quoted h (locB_all hl).2 [64, 120, 46, 121, 62]
  have h2 : mbx (34 :: (t ++ [34, 64, 120, 46, 121, 62])) = some (l, [120, 46, 121], [62]) := mbx_lcl (d := [120, 46, 121]) (more := []) _ hl (by decide) h1
  have n1 : ¬ (34 :: (t ++ [34, 64, 120, 46, 121, 62])).headD 0 = 62 := show ¬ (34 : UInt8) = 62 by decide
  have n2 : ¬ (34 :: (t ++ [34, 64, 120, 46, 121, 62])).headD 0 = 64 := show ¬ (34 : UInt8) = 64 by decide
  unfold pathR pth
  rw [if_pos (show (60 :: 34 :: (t ++ [34, 64, 120, 46, 121, 62])).headD 0 = 60 from rfl), List.tail_cons, if_neg n1, if_neg n2, h2]
  show (if rgt l [120, 46, 121] = true then _ else _) = _
  rw [if_pos (rgt_xy hl)]; rfl
end Go.Proofs.YtefofoocglhdmaaDoor

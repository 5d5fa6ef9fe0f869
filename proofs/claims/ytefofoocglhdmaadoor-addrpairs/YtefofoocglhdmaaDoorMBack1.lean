/-
  A route, printed address behind it.
-/
import Derived.Test.YtefofoocglhdmaaDoorMBack0
import Derived.Test.YtefofoocglhdmaaDoorMKnown
namespace Go.Proofs.YtefofoocglhdmaaDoor
open Go.RowKit

theorem rteF_le (r : List UInt8) : (r.dropWhile inDom).tail.length ≤ r.length := by
  have h1 := dw_le inDom r
  have h2 : (r.dropWhile inDom).tail.length ≤ (r.dropWhile inDom).length := by simp
  omega
theorem rteF_more : ∀ (k : Nat) (l : List UInt8) (n m : Nat), l.length ≤ k → l.length < n → l.length < m → rteF n l = rteF m l := by
  intro k
  induction k with
  | zero =>
    intro l n m hk hn hm
    have : l = [] := List.eq_nil_of_length_eq_zero (by omega)
    subst this
    cases n with
    | zero => simp at hn
    | succ n => cases m with
      | zero => simp at hm
      | succ m => rfl
  | succ k ih =>
    intro l n m hk hn hm
    cases n with
    | zero => omega
    | succ n => cases m with
      | zero => omega
      | succ m =>
        rw [rteF, rteF]
        cases l with
        | nil => rfl
        | cons c r =>
          have h1 := rteF_le r
          simp only [List.length_cons] at hk hn hm
          rw [ih _ n m (by rw [List.tail_cons]; omega) (by rw [List.tail_cons]; omega) (by rw [List.tail_cons]; omega)]
theorem rte_hop {d : List UInt8} (y : List UInt8) (h : domS d = true) : rte (64 :: (d ++ 44 :: y)) = rte y ∧ rte (64 :: (d ++ 58 :: y)) = some y := by
  obtain ⟨t1, t2⟩ := tw_stop d y (domS_all h) (show inDom 44 = false by decide)
  obtain ⟨s1, s2⟩ := tw_stop d y (domS_all h) (show inDom 58 = false by decide)
  constructor
  · unfold rte
    rw [rteF, if_pos (show (64 :: (d ++ 44 :: y)).headD 0 = 64 from rfl), List.tail_cons, t1, t2, if_pos h, if_pos (show (44 :: y).headD 0 = 44 from rfl), List.tail_cons]
    exact rteF_more y.length y _ _ (Nat.le_refl _) (by simp; omega) (by omega)
  · have n1 : ¬ (58 :: y).headD 0 = 44 := show ¬ (58 : UInt8) = 44 by decide
    unfold rte
    rw [rteF, if_pos (show (64 :: (d ++ 58 :: y)).headD 0 = 64 from rfl), List.tail_cons, s1, s2, if_pos h, if_neg n1, if_pos (show (58 :: y).headD 0 = 58 from rfl), List.tail_cons]
/-- Hops of a route, commas between. -/
def Rt (R : List UInt8) : Prop := (∀ y, rte (R ++ 44 :: y) = rte y ∧ rte (R ++ 58 :: y) = some y) ∧ R.headD 0 = 64
theorem Rt.one {d : List UInt8} (h : domS d = true) : Rt (64 :: d) := ⟨fun y => rte_hop y h, rfl⟩
theorem Rt.more {R d : List UInt8} (hR : Rt R) (h : domS d = true) : Rt (R ++ 44 :: 64 :: d) := by
  refine ⟨fun y => ?_, ?_⟩
  · rw [List.append_assoc, List.append_assoc]
    obtain ⟨h1, h2⟩ := rte_hop y h
    exact ⟨((hR.1 (64 :: (d ++ 44 :: y))).1).trans h1, ((hR.1 (64 :: (d ++ 58 :: y))).1).trans h2⟩
  · have := hR.2
    cases R with
    | nil => exact absurd this (by decide)
    | cons c r => exact this
theorem prn_tail {a d : List UInt8} (h : rgt a d = true) (hn : ¬ a = []) : prn a d = 60 :: ins a d ∧ locB a = true ∧ domS d = true := by
  rcases rgt_parts h with ⟨e, _⟩ | ⟨h1, h2, h3, _⟩
  · exact absurd e hn
  · refine ⟨?_, h2, h3⟩
    unfold prn
    rw [if_pos h, h1, if_neg (by decide)]; rfl
theorem parseR_route {R a d : List UInt8} (hR : Rt R) (h : rgt a d = true) (hn : ¬ a = []) : parseR (60 :: (R ++ 58 :: ins a d)) = (a, d, 0) := by
  obtain ⟨_, h2, h3⟩ := prn_tail h hn
  have hc := (clo_ins [] h2 h3).1
  rw [List.append_nil] at hc
  apply parseR_of
  have hh : (R ++ 58 :: ins a d).headD 0 = 64 := by
    have := hR.2
    cases R with
    | nil => exact absurd this (by decide)
    | cons c r => exact this
  have n1 : ¬ (R ++ 58 :: ins a d).headD 0 = 62 := by rw [hh]; decide
  unfold pathR pth
  rw [if_pos (show (60 :: (R ++ 58 :: ins a d)).headD 0 = 60 from rfl), List.tail_cons, if_neg n1, if_pos hh, (hR.1 (ins a d)).2]
  show (match clo (mbx (ins a d)) with | none => _ | some (a, d, r) => if rgt a d = true then _ else _) = _
  rw [hc]
  show (if rgt a d = true then _ else _) = _
  rw [if_pos h]
end Go.Proofs.YtefofoocglhdmaaDoor

/-
  Names of package dir.
-/
import Derived.Test.YtdcmkcplklkfmaaDoorDPut
import Derived.Test.YtdcmkcplklkfmaaDoorDSort
import Derived.Sort.OwnSorted
namespace Go.Proofs.YtdcmkcplklkfmaaDoor
open Go.RowKit Go.Sort

theorem info9 : (Tryd.prog.info? 9).map (fun i => (i.zero, i.size, i.bytes)) = some (some (.string ByteArray.empty), 1, 16) := by kernel_rfl
/-- The names of the slots that are not free, in their order. -/
def namesL (es : List En) : List (List UInt8) := (es.filter fun e => decide (1 ≤ e.nm.size)).map fun e => e.nm.data.toList
theorem namesL_take (es : List En) (k : Nat) (hk : k < es.length) : namesL (es.take (k + 1)) = namesL (es.take k) ++ (if 1 ≤ (es.getD k En.fr).nm.size then [(es.getD k En.fr).nm.data.toList] else []) := by
  have e : es.take (k + 1) = es.take k ++ [es.getD k En.fr] := by
    rw [List.take_add_one]; simp [List.getD, hk]
  rw [e]
  generalize es.getD k En.fr = x
  unfold namesL
  rw [List.filter_append, List.map_append]
  by_cases h : 1 ≤ x.nm.size
  · simp [h]
  · simp [h]
theorem namesL_le (es : List En) : (namesL es).length ≤ es.length := by
  unfold namesL
  rw [List.length_map]
  exact List.length_filter_le _ _
theorem encStr_data (s : ByteArray) : encStr s.data.toList = .string s := by simp [encStr]
/-- .. rising. -/
def sortL (l : List (List UInt8)) : List (List UInt8) := l.mergeSort fun x y => decide (x ≤ y)
theorem sortL_len (l : List (List UInt8)) : (sortL l).length = l.length := by simp [sortL]

theorem own_kept1 {w w' : World} {N T n : Nat} {u : Value} {xs : List Value} (h : w.ownsRow N T 1 u n xs) (hb : Below w.heap.size w w') : w'.ownsRow N T 1 u n xs := by
  refine ⟨h.1, ?_⟩
  rcases h.2 with h | ⟨g, cap, cur, h1, h2, h3, h4⟩
  · exact .inl h
  · exact .inr ⟨g, cap, cur, h1, h2, by rw [hb.block g (lt_of_block h3)]; exact h3, h4⟩
theorem own_sl1 {w : World} {N T n : Nat} {v : Value} {xs : List Value} (h : w.ownsRow N T 1 v n xs) : ∃ a cap, v = .slice a n cap := by
  rcases h.2 with ⟨rfl, rfl⟩ | ⟨g, cap, cur, rfl, _⟩
  · exact ⟨_, _, rfl⟩
  · exact ⟨_, _, rfl⟩
theorem grown_below {w w' : World} {N T n : Nat} {v : Value} {xs : List Value} (h : w.ownsRow N T 1 v n xs) (hg : w.grownBy w' v.ownBlock) (hN : N ≤ w.heap.size) : Below N w w' := by
  refine (Chg.ofGrown hg).below hN fun k hk => ?_
  rcases h.2 with ⟨rfl, _⟩ | ⟨g, cap, cur, rfl, hb, _⟩
  · cases hk
  · have : g = k := by simpa [Value.ownBlock] using hk
    omega

/-- slices.Sort of texts of one's own. -/
theorem sort_any (N : Nat) (v : Value) (ss : List (List UInt8)) (w : World) (ho : w.ownsRow N 9 1 v ss.length (ss.map encStr)) (hl : ss.length ≤ 1099511627776) (hN : N ≤ w.heap.size) :
    Calls Tryd.prog 60 #[v] w fun e w' => e = .returned (.tuple #[]) ∧ w'.ownsRow N 9 1 v ss.length ((sortL ss).map encStr) ∧ Below N w w' := by
  by_cases h0 : ss.length = 0
  · have e0 : ss = [] := List.eq_nil_of_length_eq_zero h0
    subst e0
    obtain ⟨a, c, rfl⟩ := own_sl1 ho
    refine (AnyM.slices_Sort_string_none Tryd.sortS a c w).mono ?_
    rintro e w' ⟨rfl, rfl⟩
    exact ⟨rfl, by simpa [sortL] using ho, Below.refl _ _⟩
  · rcases ho.2 with ⟨_, h⟩ | ⟨g, cap, cur, rfl, hb, hg, h1, h2, h3, h4⟩
    · exact absurd h h0
    · refine (AnyM.slices_Sort_string Tryd.sortS g 0 cap ss w (holds_of_block hg (by simpa using h4)) (Array.getElem?_eq_some_iff.1 hg).1 (by omega)).mono ?_
      rintro e w' ⟨rfl, n, os, rfl⟩
      refine ⟨rfl, ownsRow_sorted (sortL_len ss) hb hg h1 h2 h3, ?_⟩
      exact grown_below ho (grownBy_sorted _) hN

end Go.Proofs.YtdcmkcplklkfmaaDoor

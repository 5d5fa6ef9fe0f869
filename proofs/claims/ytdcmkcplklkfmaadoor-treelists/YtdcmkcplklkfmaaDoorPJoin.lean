/-
  Join, Parent and Under of package path.
-/
import Derived.Test.YtdcmkcplklkfmaaDoorPSplit
import Derived.Shelf.Strings.OnBuilder
import Derived.BigQuiet
import Derived.Deep.QuietTactic
namespace Go.Proofs.YtdcmkcplklkfmaaDoor
open Go.RowKit

/-- The path of names. -/
def jn (ss : List ByteArray) : List UInt8 := if ss = [] then [47] else ss.flatMap fun x => 47 :: x.data.toList
def jnE (ss : List ByteArray) : Int := if chkE ss = 0 then (if 256 < (jn ss).length then 5 else 0) else chkE ss
def jnS (ss : List ByteArray) : ByteArray := if jnE ss = 0 then bl (jn ss) else ⟨#[]⟩
theorem join_jn (ss : List ByteArray) : 47 :: Lib.join (ss.map (·.data.toList)) [47] = jn ss := by
  cases ss with
  | nil => rfl
  | cons x r =>
    rw [List.map_cons, Lib.join_cons, Lib.joinTail, jn, if_neg (by simp), List.flatMap_cons, List.cons_append]
    congr 2
    rw [List.map_map, List.flatMap_def]
    rfl
theorem jn_len (ss : List ByteArray) (h : ss.all nameB = true) : (jn ss).length ≤ 49 * ss.length + 1 := by
  unfold jn
  split
  · simp
  · have : ∀ l : List ByteArray, l.all nameB = true → (l.flatMap fun x => 47 :: x.data.toList).length ≤ 49 * l.length := by
      intro l
      induction l with
      | nil => simp
      | cons x r ih =>
        intro h
        rw [List.all_cons, Bool.and_eq_true] at h
        have h1 := (nameB_parts h.1).2.1
        have h2 := ih h.2
        have e : x.size = x.data.toList.length := by simp
        rw [List.flatMap_cons, List.length_append, List.length_cons, List.length_cons]
        omega
    have := this ss h
    omega
theorem cutL_flat (l : List UInt8) : (cutL l).flatMap (fun x => 47 :: x) = 47 :: l := by
  induction l with
  | nil => rfl
  | cons x xs ih =>
    rw [cutL]
    by_cases h : x = 47
    · rw [if_pos h, List.flatMap_cons, ih, h]; rfl
    · rw [cutL_cons xs, List.flatMap_cons, List.cons_append] at ih
      injection ih with _ ih
      rw [if_neg h, List.flatMap_cons, List.cons_append, List.cons_append, ih]
theorem jn_cut (l : List UInt8) : jn ((cutL l).map bl) = 47 :: l := by
  unfold jn
  rw [if_neg (by have := cutL_ne l; simpa using this), List.flatMap_map, ← cutL_flat l]
theorem jn_take (ss : List ByteArray) (k : Nat) : (jn (ss.take k)).length ≤ (jn ss).length := by
  unfold jn
  by_cases h0 : ss = []
  · simp [h0]
  · by_cases hk : ss.take k = []
    · rw [if_pos hk, if_neg h0]
      cases ss with
      | nil => exact absurd rfl h0
      | cons x r => rw [List.flatMap_cons]; simp
    · rw [if_neg hk, if_neg h0]
      conv => rhs; rw [← List.take_append_drop k ss, List.flatMap_append, List.length_append]
      omega
theorem jnE_ways (ss : List ByteArray) : (jnE ss = 0 ∧ chkE ss = 0 ∧ (jn ss).length ≤ 256) ∨ (jnE ss = 5 ∧ chkE ss = 0 ∧ 256 < (jn ss).length) ∨ (jnE ss = 5 ∧ chkE ss = 5) ∨ (jnE ss = 12 ∧ chkE ss = 12) := by
  unfold jnE
  rcases chkE_ways ss with ⟨h, _, _⟩ | h | h
  · rw [h, if_pos rfl]
    by_cases h2 : 256 < (jn ss).length
    · rw [if_pos h2]; exact .inr (.inl ⟨rfl, rfl, h2⟩)
    · rw [if_neg h2]; exact .inl ⟨rfl, rfl, by omega⟩
  · rw [h]; exact .inr (.inr (.inl ⟨rfl, rfl⟩))
  · rw [h]; exact .inr (.inr (.inr ⟨rfl, rfl⟩))
/-- Names that Split told. -/
theorem sp_ok {s : ByteArray} (h : spE s = 0) : (spN s).all nameB = true ∧ (spN s).length ≤ 8 ∧ jn (spN s) = s.data.toList ∧ s.size ≤ 256 := by
  by_cases h1 : 256 < s.size
  · unfold spE at h; rw [if_pos h1] at h; exact absurd h (by decide)
  by_cases h2 : s.data.toList = [47]
  · have : spN s = [] := by unfold spN; rw [if_neg (by simp [h2])]
    rw [this]
    exact ⟨rfl, by simp, by rw [h2]; rfl, by omega⟩
  have hn : spN s = (cutL (s.data.toList.drop 1)).map bl := by unfold spN; rw [if_pos ⟨h, h2⟩]
  unfold spE at h
  rw [if_neg h1, if_neg h2] at h
  by_cases h3 : Lib.hasPrefix s.data.toList [47] = true
  · rw [if_pos h3] at h
    rw [hn]
    rcases chkE_ways ((cutL (s.data.toList.drop 1)).map bl) with ⟨_, a, b⟩ | e | e
    · refine ⟨a, b, ?_, by omega⟩
      rw [jn_cut]
      cases hl : s.data.toList with
      | nil => rw [hl] at h3; cases h3
      | cons x r =>
        rw [hl] at h3
        have : x = 47 := by
          unfold Lib.hasPrefix at h3
          simp [List.isPrefixOf] at h3
          exact h3.symm
        rw [this]; rfl
    · rw [e] at h; exact absurd h (by decide)
    · rw [e] at h; exact absurd h (by decide)
  · rw [if_neg h3] at h; exact absurd h (by decide)
theorem chk_zero {ss : List ByteArray} (h : ss.all nameB = true) (h8 : ss.length ≤ 8) : chkE ss = 0 := by
  unfold chkE; rw [if_pos h, if_neg (by omega)]
theorem sp_front {s : ByteArray} (h : spE s = 0) (k : Nat) : jnE ((spN s).take k) = 0 := by
  obtain ⟨h1, h2, h3, h4⟩ := sp_ok h
  have hc : chkE ((spN s).take k) = 0 := chk_zero (List.all_eq_true.2 fun x hx => List.all_eq_true.1 h1 x (List.mem_of_mem_take hx)) (by simp; omega)
  have hj := jn_take (spN s) k
  have e : s.size = s.data.toList.length := by simp
  rw [h3] at hj
  unfold jnE
  rw [hc, if_pos rfl, if_neg (by omega)]

end Go.Proofs.YtdcmkcplklkfmaaDoor

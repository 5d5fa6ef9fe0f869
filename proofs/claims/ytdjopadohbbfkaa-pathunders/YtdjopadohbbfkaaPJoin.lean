/-
  Join, Parent and Under of package path.
-/
import Derived.Test.YtdjopadohbbfkaaPSplit
import Derived.BigQuiet
import Derived.Deep.QuietTactic
namespace Go.Proofs.Ytdjopadohbbfkaa
open Go.RowKit

/-- The path of names. -/
def jn (ss : List ByteArray) : List UInt8 := if ss = [] then [47] else ss.flatMap fun x => 47 :: x.data.toList
def jnE (ss : List ByteArray) : Int := if chkE ss = 0 then (if 256 < (jn ss).length then 5 else 0) else chkE ss
def jnS (ss : List ByteArray) : ByteArray := if jnE ss = 0 then bl (jn ss) else ⟨#[]⟩
theorem join_jn (ss : List ByteArray) : 47 :: Lib.join (ss.map (·.data.toList)) [47] = jn ss := by
  cases ss with
  | nil => rfl
  | cons x r =>
    rw [List.map_cons, Lib.join_cons, Lib.joinTail, jn, if_neg (by simp), List.flatMap_cons, List.cons_append]
    congr 2
    rw [List.map_map, List.flatMap_def]
    rfl
theorem jn_len (ss : List ByteArray) (h : ss.all nameB = true) : (jn ss).length ≤ 49 * ss.length + 1 := by
  unfold jn
  split
  · simp
  · have : ∀ l : List ByteArray, l.all nameB = true → (l.flatMap fun x => 47 :: x.data.toList).length ≤ 49 * l.length := by
      intro l
      induction l with
      | nil => simp
      | cons x r ih =>
        intro h
        rw [List.all_cons, Bool.and_eq_true] at h
        have h1 := (nameB_parts h.1).2.1
        have h2 := ih h.2
        have e : x.size = x.data.toList.length := by simp
        rw [List.flatMap_cons, List.length_append, List.length_cons, List.length_cons]
        omega
    have := this ss h
    omega
theorem cutL_flat (l : List UInt8) : (cutL l).flatMap (fun x => 47 :: x) = 47 :: l := by
  induction l with
  | nil => rfl
  | cons x xs ih =>
    rw [cutL]
    by_cases h : x = 47
    · rw [if_pos h, List.flatMap_cons, ih, h]; rfl
    · rw [cutL_cons xs, List.flatMap_cons, List.cons_append] at ih
      injection ih with _ ih
      rw [if_neg h, List.flatMap_cons, List.cons_append, List.cons_append, ih]
theorem jn_cut (l : List UInt8) : jn ((cutL l).map bl) = 47 :: l := by
  unfold jn
  rw [if_neg (by have := cutL_ne l; simpa using this), List.flatMap_map, ← cutL_flat l]
theorem jn_take (ss : List ByteArray) (k : Nat) : (jn (ss.take k)).length ≤ (jn ss).length := by
  unfold jn
  by_cases h0 : ss = []
  · simp [h0]
  · by_cases hk : ss.take k = []
    · rw [if_pos hk, if_neg h0]
      cases ss with
      | nil => exact absurd rfl h0
      | cons x r => rw [List.flatMap_cons]; simp
    · rw [if_neg hk, if_neg h0]
      conv => rhs; rw [← List.take_append_drop k ss, List.flatMap_append, List.length_append]
      omega
theorem jnE_ways (ss : List ByteArray) : (jnE ss = 0 ∧ chkE ss = 0 ∧ (jn ss).length ≤ 256) ∨ (jnE ss = 5 ∧ chkE ss = 0 ∧ 256 < (jn ss).length) ∨ (jnE ss = 5 ∧ chkE ss = 5) ∨ (jnE ss = 12 ∧ chkE ss = 12) := by
  unfold jnE
  rcases chkE_ways ss with ⟨h, _, _⟩ | h | h
  · rw [h, if_pos rfl]
    by_cases h2 : 256 < (jn ss).length
    · rw [if_pos h2]; exact .inr (.inl ⟨rfl, rfl, h2⟩)
    · rw [if_neg h2]; exact .inl ⟨rfl, rfl, by omega⟩
  · rw [h]; exact .inr (.inr (.inl ⟨rfl, rfl⟩))
  · rw [h]; exact .inr (.inr (.inr ⟨rfl, rfl⟩))
/-- Names that Split told. -/
theorem sp_ok {s : ByteArray} (h : spE s = 0) : (spN s).all nameB = true ∧ (spN s).length ≤ 8 ∧ jn (spN s) = s.data.toList ∧ s.size ≤ 256 := by
  by_cases h1 : 256 < s.size
  · unfold spE at h; rw [if_pos h1] at h; exact absurd h (by decide)
  by_cases h2 : s.data.toList = [47]
  · have : spN s = [] := by unfold spN; rw [if_neg (by simp [h2])]
    rw [this]
    exact ⟨rfl, by simp, by rw [h2]; rfl, by omega⟩
  have hn : spN s = (cutL (s.data.toList.drop 1)).map bl := by unfold spN; rw [if_pos ⟨h, h2⟩]
  unfold spE at h
  rw [if_neg h1, if_neg h2] at h
  by_cases h3 : Lib.hasPrefix s.data.toList [47] = true
  · rw [if_pos h3] at h
    rw [hn]
    rcases chkE_ways ((cutL (s.data.toList.drop 1)).map bl) with ⟨_, a, b⟩ | e | e
    · refine ⟨a, b, ?_, by omega⟩
      rw [jn_cut]
      cases hl : s.data.toList with
      | nil => rw [hl] at h3; cases h3
      | cons x r =>
        rw [hl] at h3
        have : x = 47 := by
          unfold Lib.hasPrefix at h3
          simp [List.isPrefixOf] at h3
          exact h3.symm
        rw [this]; rfl
    · rw [e] at h; exact absurd h (by decide)
    · rw [e] at h; exact absurd h (by decide)
  · rw [if_neg h3] at h; exact absurd h (by decide)
theorem chk_zero {ss : List ByteArray} (h : ss.all nameB = true) (h8 : ss.length ≤ 8) : chkE ss = 0 := by
  unfold chkE; rw [if_pos h, if_neg (by omega)]
theorem sp_front {s : ByteArray} (h : spE s = 0) (k : Nat) : jnE ((spN s).take k) = 0 := by
  obtain ⟨h1, h2, h3, h4⟩ := sp_ok h
  have hc : chkE ((spN s).take k) = 0 := chk_zero (List.all_eq_true.2 fun x hx => List.all_eq_true.1 h1 x (List.mem_of_mem_take hx)) (by simp; omega)
  have hj := jn_take (spN s) k
  have e : s.size = s.data.toList.length := by simp
  rw [h3] at hj
  unfold jnE
  rw [hc, if_pos rfl, if_neg (by omega)]

theorem joinl_any (v : Value) (ss : List ByteArray) (w : World) (hv : Tx w v ss) (h : ss.all nameB = true) (h8 : ss.length ≤ 8) :
    Calls Try.prog 22 #[v, .string ⟨#[47]⟩] w fun e w' => e = .returned (.string ⟨(Lib.join (ss.map (·.data.toList)) [47]).toArray⟩) ∧ Below w.heap.size w w' := by
  obtain ⟨a, c, rfl, h1, h2, h3, hx⟩ := hv
  by_cases h0 : 0 < ss.length
  · obtain ⟨b, off, rfl, hc⟩ := hx h0
    have hb : b < w.heap.size := World.block_lt_of_cell? w _ (hc 0 h0)
    have hj := jn_len ss h
    rw [← join_jn, List.length_cons] at hj
    exact Try.strings_Join b off c ss ⟨#[47]⟩ w (fun j x hxj => by
      have hj := (List.getElem?_eq_some_iff.1 hxj).1
      rw [hc j hj, List.getD_eq_getElem?_getD, hxj]; rfl) hb (by omega) h1 (by show (Lib.join (ss.map (·.data.toList)) [47]).length ≤ _; omega)
  · have e0 : ss = [] := List.eq_nil_of_length_eq_zero (by omega)
    subst e0
    refine (Try.strings_Join_none a c ⟨#[47]⟩ w).mono fun e w' ⟨he, hw⟩ => ⟨he, ?_⟩
    rw [hw]; exact Below.refl _ _

set_option maxHeartbeats 1600000 in
theorem join_any (v : Value) (ss : List ByteArray) (w : World) (hv : Tx w v ss) (hl : ss.length ≤ 1000000) :
    Calls Try.prog 14 #[v] w fun e w' => e = .returned (.tuple #[.string (jnS ss), .int .i64 (jnE ss)]) ∧ Below w.heap.size w w' := by
  have HCK : Hid (Calls Try.prog 18 #[v] w fun e w' => e = .returned (.int .i64 (chkE ss)) ∧ w' = w) := check_any v ss w hv hl
  have HJ : Hid (chkE ss = 0 → Calls Try.prog 22 #[v, .string ⟨#[47]⟩] w fun e w' => e = .returned (.string ⟨(Lib.join (ss.map (·.data.toList)) [47]).toArray⟩) ∧ Below w.heap.size w w') := fun h0 => by
    rcases chkE_ways ss with ⟨_, a, b⟩ | e | e
    · exact joinl_any v ss w hv a b
    · rw [e] at h0; exact absurd h0 (by decide)
    · rw [e] at h0; exact absurd h0 (by decide)
  obtain ⟨J, hJ⟩ : ∃ J : ByteArray, Hid (⟨(Lib.join (ss.map (·.data.toList)) [47]).toArray⟩ = J) := ⟨_, rfl⟩
  obtain ⟨P, hP⟩ : ∃ P : ByteArray, Hid (bl (jn ss) = P) := ⟨_, rfl⟩
  have hadd : (⟨#[47]⟩ : ByteArray) ++ J = P := by
    rw [← hJ.out, ← hP.out, ← join_jn]
    apply ByteArray.ext
    simp
  have hPs : P.size = (jn ss).length := by rw [← hP.out]; rfl
  have hJs : chkE ss = 0 → J.size ≤ 1000 := fun h0 => by
    rcases chkE_ways ss with ⟨_, a, b⟩ | e | e
    · have h1 := jn_len ss a
      have h2 : P.size = 1 + J.size := by rw [← hadd, ByteArray.size_append]; rfl
      omega
    · rw [e] at h0; exact absurd h0 (by decide)
    · rw [e] at h0; exact absurd h0 (by decide)
  obtain ⟨a, c, rfl⟩ := hv.form
  clear hv
  rcases jnE_ways ss with ⟨e1, e2, e3⟩ | ⟨e1, e2, e3⟩ | ⟨e1, e2⟩ | ⟨e1, e2⟩
  · have HE : Hid (jnE ss = 0) := e1
    have HS : Hid (jnS ss = P) := by show _ = _; unfold jnS; rw [if_pos e1]; exact hP.out
    have HK : Hid (chkE ss = 0) := e2
    have hJ1 := hJs e2
    have q0 : ¬ (9223372036854775807 < 1 + J.size) := by omega
    have q1 : ¬ 256 < (P.size : Int) := by omega
    clear e1 e2 e3 hPs hJs
    go_enter Try.func14, Try.ntmps14
    go_wp2_with (first
      | (go_at_call 18; refine HCK.out.mono ?_; rintro e w1 ⟨rfl, rfl⟩; rw [HK.out])
      | (go_at_call 22; refine (HJ.out HK.out).mono ?_; rintro e w1 ⟨rfl, hB⟩; rw [hJ.out]))
    go_ret2
    exact ⟨by rw [HE.out, HS.out]; rfl, hB⟩
  · have HE : Hid (jnE ss = 5) := e1
    have HS : Hid (jnS ss = ⟨#[]⟩) := by show _ = _; unfold jnS; rw [if_neg (by rw [e1]; decide)]
    have HK : Hid (chkE ss = 0) := e2
    have hJ1 := hJs e2
    have q0 : ¬ (9223372036854775807 < 1 + J.size) := by omega
    have q1 : 256 < (P.size : Int) := by omega
    clear e1 e2 e3 hPs hJs
    go_enter Try.func14, Try.ntmps14
    go_wp2_with (first
      | (go_at_call 18; refine HCK.out.mono ?_; rintro e w1 ⟨rfl, rfl⟩; rw [HK.out])
      | (go_at_call 22; refine (HJ.out HK.out).mono ?_; rintro e w1 ⟨rfl, hB⟩; rw [hJ.out]))
    go_ret2
    exact ⟨by rw [HE.out, HS.out]; rfl, hB⟩
  · have HE : Hid (jnE ss = 5) := e1
    have HS : Hid (jnS ss = ⟨#[]⟩) := by show _ = _; unfold jnS; rw [if_neg (by rw [e1]; decide)]
    have HK : Hid (chkE ss = 5) := e2
    clear e1 e2 hPs hadd hJs
    go_enter Try.func14, Try.ntmps14
    go_wp2_with (go_at_call 18; refine HCK.out.mono ?_; rintro e w1 ⟨rfl, rfl⟩; rw [HK.out])
    go_ret2
    exact ⟨by rw [HE.out, HS.out]; rfl, Below.refl _ _⟩
  · have HE : Hid (jnE ss = 12) := e1
    have HS : Hid (jnS ss = ⟨#[]⟩) := by show _ = _; unfold jnS; rw [if_neg (by rw [e1]; decide)]
    have HK : Hid (chkE ss = 12) := e2
    clear e1 e2 hPs hadd hJs
    go_enter Try.func14, Try.ntmps14
    go_wp2_with (go_at_call 18; refine HCK.out.mono ?_; rintro e w1 ⟨rfl, rfl⟩; rw [HK.out])
    go_ret2
    exact ⟨by rw [HE.out, HS.out]; rfl, Below.refl _ _⟩
end Go.Proofs.Ytdjopadohbbfkaa

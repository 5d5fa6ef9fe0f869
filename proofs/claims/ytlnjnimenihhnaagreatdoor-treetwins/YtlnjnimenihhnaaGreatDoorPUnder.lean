/-
  Join, Parent and Under of package path.
-/
import Derived.Test.YtlnjnimenihhnaaGreatDoorPSplit
import Derived.Shelf.Strings.OnBuilder
import Derived.BigQuiet
import Derived.Deep.QuietTactic
namespace Go.Proofs.YtlnjnimenihhnaaGreatDoor
open Go.RowKit

/-- The path of names. -/
def jn (ss : List ByteArray) : List UInt8 := if ss = [] then [47] else ss.flatMap fun x => 47 :: x.data.toList
def jnE (ss : List ByteArray) : Int := if chkE ss = 0 then (if 256 < (jn ss).length then 5 else 0) else chkE ss
def jnS (ss : List ByteArray) : ByteArray := if jnE ss = 0 then bl (jn ss) else ⟨#[]⟩
theorem cutL_flat (l : List UInt8) : (cutL l).flatMap (fun x => 47 :: x) = 47 :: l := by
  induction l with
  | nil => rfl
  | cons x xs ih =>
    rw [cutL]
    by_cases h : x = 47
    · rw [if_pos h, List.flatMap_cons, ih, h]; rfl
    · rw [cutL_cons xs, List.flatMap_cons, List.cons_append] at ih
      injection ih with _ ih
      rw [if_neg h, List.flatMap_cons, List.cons_append, List.cons_append, ih]
theorem jn_cut (l : List UInt8) : jn ((cutL l).map bl) = 47 :: l := by
  unfold jn
  rw [if_neg (by have := cutL_ne l; simpa using this), List.flatMap_map, ← cutL_flat l]
/-- Names that Split told. -/
theorem sp_ok {s : ByteArray} (h : spE s = 0) : (spN s).all nameB = true ∧ (spN s).length ≤ 8 ∧ jn (spN s) = s.data.toList ∧ s.size ≤ 256 := by
  by_cases h1 : 256 < s.size
  · unfold spE at h; rw [if_pos h1] at h; exact absurd h (by decide)
  by_cases h2 : s.data.toList = [47]
  · have : spN s = [] := by unfold spN; rw [if_neg (by simp [h2])]
    rw [this]
    exact ⟨rfl, by simp, by rw [h2]; rfl, by omega⟩
  have hn : spN s = (cutL (s.data.toList.drop 1)).map bl := by unfold spN; rw [if_pos ⟨h, h2⟩]
  unfold spE at h
  rw [if_neg h1, if_neg h2] at h
  by_cases h3 : Lib.hasPrefix s.data.toList [47] = true
  · rw [if_pos h3] at h
    rw [hn]
    rcases chkE_ways ((cutL (s.data.toList.drop 1)).map bl) with ⟨_, a, b⟩ | e | e
    · refine ⟨a, b, ?_, by omega⟩
      rw [jn_cut]
      cases hl : s.data.toList with
      | nil => rw [hl] at h3; cases h3
      | cons x r =>
        rw [hl] at h3
        have : x = 47 := by
          unfold Lib.hasPrefix at h3
          simp [List.isPrefixOf] at h3
          exact h3.symm
        rw [this]; rfl
    · rw [e] at h; exact absurd h (by decide)
    · rw [e] at h; exact absurd h (by decide)
  · rw [if_neg h3] at h; exact absurd h (by decide)
end Go.Proofs.YtlnjnimenihhnaaGreatDoor

namespace Go.Proofs.YtlnjnimenihhnaaGreatDoor
open Go.RowKit

theorem Tx.front {w : World} {a : Option Addr} {n c : Nat} {ss : List ByteArray} (h : Tx w (.slice a n c) ss) (p : Nat) (hp : p ≤ n) : Tx w (.slice a p c) (ss.take p) := by
  obtain ⟨a', c', e, h1, h2, h3, hx⟩ := h
  injection e with e1 e2 e3
  subst e1; subst e3; subst e2
  have hl : (ss.take p).length = p := by simp; omega
  refine ⟨_, c, by rw [hl], by omega, h2, h3, fun h0 => ?_⟩
  obtain ⟨b', off, e1, hc⟩ := hx (by omega)
  refine ⟨b', off, e1, fun j hj => ?_⟩
  rw [hl] at hj
  rw [hc j (by omega)]
  congr 2
  simp [List.getD, hj]
theorem Tx.cap {w : World} {a : Option Addr} {n c : Nat} {ss : List ByteArray} (h : Tx w (.slice a n c) ss) : ss.length ≤ c := by
  obtain ⟨a', c', e, h1, h2, h3, hx⟩ := h
  injection e with e1 e2 e3
  omega
theorem equal_any (u v : Value) (xs ys : List ByteArray) (w : World) (hu : Tx w u xs) (hv : Tx w v ys) (hl : xs.length ≤ 1000000) (hl2 : ys.length ≤ 1000000) :
    Calls Tryz.prog 83 #[u, v] w fun e w' => e = .returned (.bool (decide (xs = ys))) ∧ Below w.heap.size w w' := by
  obtain ⟨a, c, rfl, h1, h2, h3, hx⟩ := hu
  obtain ⟨a', c', rfl, h1', h2', h3', hx'⟩ := hv
  by_cases h0 : 0 < xs.length
  · by_cases h0' : 0 < ys.length
    · obtain ⟨b, off, rfl, hc⟩ := hx h0
      obtain ⟨b', off', rfl, hc'⟩ := hx' h0'
      refine (Tryz.slices_Equal_string b off xs.length c b' off' ys.length c' xs ys w (Nat.le_refl _) (Nat.le_refl _) (by omega) (by omega) hc hc').mono fun e w' ⟨he, q, hw⟩ => ⟨?_, ?_⟩
      · rw [he, List.take_length, List.take_length]
      · rw [hw]; exact below_drN (Below.refl _ _) q
    · have e0 : ys = [] := List.eq_nil_of_length_eq_zero (by omega)
      subst e0
      refine (Tryz.slices_Equal_string_lens a a' xs.length c 0 c' w (by omega)).mono fun e w' ⟨he, hw⟩ => ⟨?_, ?_⟩
      · rw [he]
        have : ¬ xs = [] := by intro e; rw [e] at h0; simp at h0
        simp [this]
      · rw [hw]; exact Below.refl _ _
  · have e0 : xs = [] := List.eq_nil_of_length_eq_zero (by omega)
    subst e0
    refine (Tryz.slices_Equal_string_empty a a' c ys.length c' w (by omega)).mono fun e w' ⟨he, hw⟩ => ⟨?_, ?_⟩
    · rw [he]
      by_cases h0' : ys = []
      · simp [h0']
      · have : ¬ ys.length = 0 := fun h => h0' (List.eq_nil_of_length_eq_zero h)
        have h2 : ¬ [] = ys := fun h => h0' h.symm
        simp [this, h2]
    · rw [hw]; exact Below.refl _ _
/-- Does the one stand at the other, or below it? -/
def unB (a b : ByteArray) : Bool := decide (spE a = 0) && (decide (spE b = 0) && decide (spN a = (spN b).take (spN a).length))
theorem spE_ways (s : ByteArray) : spE s = 0 ∨ spE s = 5 ∨ spE s = 12 := by
  unfold spE
  split
  · exact .inr (.inl rfl)
  · split
    · exact .inl rfl
    · split
      · rcases chkE_ways ((cutL (s.data.toList.drop 1)).map bl) with ⟨h, _⟩ | h | h
        · exact .inl h
        · exact .inr (.inl h)
        · exact .inr (.inr h)
      · exact .inr (.inr rfl)
theorem spN_len (s : ByteArray) : (spN s).length ≤ 8 := by
  rcases spE_ways s with h | h | h
  · exact (sp_ok h).2.1
  · unfold spN; rw [if_neg (by rw [h]; simp)]; simp
  · unfold spN; rw [if_neg (by rw [h]; simp)]; simp
/-- Parent's error, path and name. -/
def paE (s : ByteArray) : Int := if spE s = 0 then (if spN s = [] then 12 else 0) else spE s
def paU (s : ByteArray) : ByteArray := if paE s = 0 then bl (jn ((spN s).take ((spN s).length - 1))) else ⟨#[]⟩
def paN (s : ByteArray) : ByteArray := if paE s = 0 then (spN s).getD ((spN s).length - 1) ByteArray.empty else ⟨#[]⟩

set_option maxHeartbeats 1600000 in
theorem under_bad1 (a b : ByteArray) (n : Int) (w : World) (hs : a.size ≤ 3000) (hE : spE a = n) (hn : n = 5 ∨ n = 12) :
    Calls Tryz.prog 49 #[.string a, .string b] w fun e w' => e = .returned (.bool (unB a b)) ∧ Below w.heap.size w w' := by
  have HS : Hid (Calls Tryz.prog 47 #[.string a] w fun e w' => ∃ v, e = .returned (.tuple #[v, .int .i64 (spE a)]) ∧ Tx w' v (spN a) ∧ Below w.heap.size w w') := split_any a w hs
  have hn0 : ¬ n = 0 := by rcases hn with rfl | rfl <;> decide
  have HU : Hid (unB a b = false) := by show _ = _; unfold unB; rw [hE, decide_eq_false hn0]; rfl
  have HE : Hid (spE a = n) := hE
  have q : (n == 0) = false := beq_eq_false_iff_ne.2 hn0
  clear hE hn hn0
  go_enter Tryz.func49, Tryz.ntmps49
  go_wp2_with (go_at_call 47; refine HS.out.mono ?_; rintro e w1 ⟨v, rfl, hT, hB⟩; rw [HE.out])
  go_ret
  exact ⟨by rw [HU.out]; rfl, hB⟩
set_option maxHeartbeats 1600000 in
theorem under_bad2 (a b : ByteArray) (n : Int) (w : World) (hs : a.size ≤ 3000) (hs2 : b.size ≤ 3000) (hA : spE a = 0) (hE : spE b = n) (hn : n = 5 ∨ n = 12) :
    Calls Tryz.prog 49 #[.string a, .string b] w fun e w' => e = .returned (.bool (unB a b)) ∧ Below w.heap.size w w' := by
  have HS : Hid (∀ (s : ByteArray) (w : World), s.size ≤ 3000 → Calls Tryz.prog 47 #[.string s] w fun e w' => ∃ v, e = .returned (.tuple #[v, .int .i64 (spE s)]) ∧ Tx w' v (spN s) ∧ Below w.heap.size w w') := split_any
  have hn0 : ¬ n = 0 := by rcases hn with rfl | rfl <;> decide
  have HU : Hid (unB a b = false) := by show _ = _; unfold unB; rw [hE, hA, decide_eq_false hn0]; rfl
  have HE : Hid (spE b = n) := hE
  have HA : Hid (spE a = 0) := hA
  have q : (n == 0) = false := beq_eq_false_iff_ne.2 hn0
  clear hE hn hA
  go_enter Tryz.func49, Tryz.ntmps49
  go_wp2_with (go_at_call 47; with_reducible refine (HS.out a _ hs).mono ?_; rintro e w1 ⟨v, rfl, hT, hB⟩; rw [HA.out]; obtain ⟨sa, sc, rfl⟩ := hT.form)
  clear hT
  go_wp2_with (go_at_call 47; with_reducible refine (HS.out b _ hs2).mono ?_; rintro e w2 ⟨v, rfl, hT, hB2⟩; rw [HE.out]; obtain ⟨sa2, sc2, rfl⟩ := hT.form)
  go_ret
  exact ⟨by rw [HU.out]; rfl, hB.trans (hB2.mono hB.size)⟩
set_option maxHeartbeats 1600000 in
theorem under_short (a b : ByteArray) (w : World) (hs : a.size ≤ 3000) (hs2 : b.size ≤ 3000) (hA : spE a = 0) (hE : spE b = 0) (hn : (spN b).length < (spN a).length) :
    Calls Tryz.prog 49 #[.string a, .string b] w fun e w' => e = .returned (.bool (unB a b)) ∧ Below w.heap.size w w' := by
  have HS : Hid (∀ (s : ByteArray) (w : World), s.size ≤ 3000 → Calls Tryz.prog 47 #[.string s] w fun e w' => ∃ v, e = .returned (.tuple #[v, .int .i64 (spE s)]) ∧ Tx w' v (spN s) ∧ Below w.heap.size w w') := split_any
  have HU : Hid (unB a b = false) := by
    show _ = _
    unfold unB
    rw [hE, hA, decide_eq_false (p := spN a = _)]; · rfl
    intro e
    have := congrArg List.length e
    rw [List.length_take] at this
    omega
  have HE : Hid (spE b = 0) := hE
  have HA : Hid (spE a = 0) := hA
  have q : ((spN b).length : Int) < (spN a).length := by omega
  clear hE hn hA
  go_enter Tryz.func49, Tryz.ntmps49
  go_wp2_with (go_at_call 47; with_reducible refine (HS.out a _ hs).mono ?_; rintro e w1 ⟨v, rfl, hT, hB⟩; rw [HA.out]; obtain ⟨sa, sc, rfl⟩ := hT.form)
  clear hT
  go_wp2_with (go_at_call 47; with_reducible refine (HS.out b _ hs2).mono ?_; rintro e w2 ⟨v, rfl, hT, hB2⟩; rw [HE.out]; obtain ⟨sa2, sc2, rfl⟩ := hT.form)
  go_ret
  exact ⟨by rw [HU.out]; rfl, hB.trans (hB2.mono hB.size)⟩
set_option maxHeartbeats 1600000 in
theorem under_ok (a b : ByteArray) (w : World) (hs : a.size ≤ 3000) (hs2 : b.size ≤ 3000) (hA : spE a = 0) (hE : spE b = 0) (hn : (spN a).length ≤ (spN b).length) :
    Calls Tryz.prog 49 #[.string a, .string b] w fun e w' => e = .returned (.bool (unB a b)) ∧ Below w.heap.size w w' := by
  have HS : Hid (∀ (s : ByteArray) (w : World), s.size ≤ 3000 → Calls Tryz.prog 47 #[.string s] w fun e w' => ∃ v, e = .returned (.tuple #[v, .int .i64 (spE s)]) ∧ Tx w' v (spN s) ∧ Below w.heap.size w w') := split_any
  have HU : Hid (unB a b = decide (spN a = (spN b).take (spN a).length)) := by
    show _ = _
    unfold unB
    rw [hE, hA]; rfl
  have HE : Hid (spE b = 0) := hE
  have HA : Hid (spE a = 0) := hA
  have q : ¬ ((spN b).length : Int) < (spN a).length := by omega
  have l1 := spN_len a
  have l2 := spN_len b
  obtain ⟨X, hX⟩ : ∃ X, Hid (spN a = X) := ⟨_, rfl⟩
  obtain ⟨Y, hY⟩ : ∃ Y, Hid (spN b = Y) := ⟨_, rfl⟩
  have hXY : X.length ≤ Y.length := by rw [← hX.out, ← hY.out]; exact hn
  rw [hX.out] at l1 q
  rw [hY.out] at l2 q
  clear hE hA hn
  go_enter Tryz.func49, Tryz.ntmps49
  go_wp2_with (go_at_call 47; with_reducible refine (HS.out a _ hs).mono ?_; rintro e w1 ⟨v, rfl, hT, hB⟩; rw [HA.out]; rw [hX.out] at hT; obtain ⟨sa, sc, rfl⟩ := hT.form)
  go_wp2_with (first
    | (go_at_call 47; with_reducible refine (HS.out b _ hs2).mono ?_; rintro e w2 ⟨v, rfl, hT2, hB2⟩; rw [HE.out]; rw [hY.out] at hT2; obtain ⟨sa2, sc2, rfl⟩ := hT2.form; have q3 : (X.length : Int) ≤ (sc2 : Int) := by (have := hT2.cap; omega))
    | (go_at_call 83; refine (equal_any _ _ X (Y.take X.length) _ (hT.below hB2) (hT2.front X.length hXY) (by omega) (by rw [List.length_take]; omega)).mono ?_; rintro e w3 ⟨rfl, hB3⟩))
  go_ret
  refine ⟨by rw [HU.out, hX.out, hY.out]; rfl, (hB.trans (hB2.mono hB.size)).trans (hB3.mono ?_)⟩
  exact Nat.le_trans hB.size hB2.size
theorem under_any (a b : ByteArray) (w : World) (hs : a.size ≤ 3000) (hs2 : b.size ≤ 3000) :
    Calls Tryz.prog 49 #[.string a, .string b] w fun e w' => e = .returned (.bool (unB a b)) ∧ Below w.heap.size w w' := by
  rcases spE_ways a with h | h | h
  · rcases spE_ways b with h' | h' | h'
    · by_cases hn : (spN b).length < (spN a).length
      · exact under_short a b w hs hs2 h h' hn
      · exact under_ok a b w hs hs2 h h' (by omega)
    · exact under_bad2 a b 5 w hs hs2 h h' (.inl rfl)
    · exact under_bad2 a b 12 w hs hs2 h h' (.inr rfl)
  · exact under_bad1 a b 5 w hs h (.inl rfl)
  · exact under_bad1 a b 12 w hs h (.inr rfl)
end Go.Proofs.YtlnjnimenihhnaaGreatDoor

/-
  The document's Under.
-/
import Derived.Test.YtdjopadohbbfkaaPRefMore
namespace Go.Proofs.Ytdjopadohbbfkaa
open Go.RowKit

theorem take_same {X Y : List ByteArray} (hl : X.length ≤ Y.length) (h : ∀ j, j < X.length → X.getD j ByteArray.empty = Y.getD j ByteArray.empty) : X = Y.take X.length := by
  apply List.ext_getElem
  · rw [List.length_take]; omega
  · intro j h1 h2
    have := h j h1
    rw [List.getElem_take]
    simpa [List.getD, h1, show j < Y.length by omega] using this
theorem take_other {X Y : List ByteArray} {j : Nat} (hj : j < X.length) (hl : X.length ≤ Y.length) (h : ¬ X.getD j ByteArray.empty = Y.getD j ByteArray.empty) : ¬ X = Y.take X.length := by
  intro e
  apply h
  have h2 : j < Y.length := by omega
  have : X[j]? = (Y.take X.length)[j]? := by rw [← e]
  rw [List.getElem?_take, if_pos hj] at this
  rw [List.getD_eq_getElem?_getD, List.getD_eq_getElem?_getD, this]

set_option maxHeartbeats 1600000 in
theorem runder_bad (a b : ByteArray) (n m : Int) (w : World) (hs : a.size ≤ 3000) (hs2 : b.size ≤ 3000) (hE : spE a = n) (hF : spE b = m) (hn : ¬ n = 0) :
    Calls Try.prog 13 #[.string a, .string b] w fun e w' => e = .returned (.bool (unB a b)) ∧ Below w.heap.size w w' := by
  have HS : Hid (∀ (s : ByteArray) (w : World), s.size ≤ 3000 → Calls Try.prog 8 #[.string s] w fun e w' => ∃ v, e = .returned (.tuple #[v, .int .i64 (spE s)]) ∧ Tx w' v (spN s) ∧ Below w.heap.size w w') := rsplit_any
  have HU : Hid (unB a b = false) := by show _ = _; unfold unB; rw [hE, decide_eq_false hn]; rfl
  have HE : Hid (spE a = n) := hE
  have HF : Hid (spE b = m) := hF
  have q : (n == 0) = false := beq_eq_false_iff_ne.2 hn
  clear hE hF
  go_enter Try.func13, Try.ntmps13
  go_wp2_with (first
    | (go_at_call 8; with_reducible refine (HS.out a _ hs).mono ?_; rintro e w1 ⟨v, rfl, hT, hB⟩; rw [HE.out]; obtain ⟨sa, sc, rfl⟩ := hT.form; clear hT)
    | (go_at_call 8; with_reducible refine (HS.out b _ hs2).mono ?_; rintro e w2 ⟨v, rfl, hT, hB2⟩; rw [HF.out]; obtain ⟨sa2, sc2, rfl⟩ := hT.form))
  go_ret
  exact ⟨by rw [HU.out]; rfl, hB.trans (hB2.mono hB.size)⟩
set_option maxHeartbeats 1600000 in
theorem runder_bad2 (a b : ByteArray) (n : Int) (w : World) (hs : a.size ≤ 3000) (hs2 : b.size ≤ 3000) (hA : spE a = 0) (hE : spE b = n) (hn : ¬ n = 0) :
    Calls Try.prog 13 #[.string a, .string b] w fun e w' => e = .returned (.bool (unB a b)) ∧ Below w.heap.size w w' := by
  have HS : Hid (∀ (s : ByteArray) (w : World), s.size ≤ 3000 → Calls Try.prog 8 #[.string s] w fun e w' => ∃ v, e = .returned (.tuple #[v, .int .i64 (spE s)]) ∧ Tx w' v (spN s) ∧ Below w.heap.size w w') := rsplit_any
  have HU : Hid (unB a b = false) := by show _ = _; unfold unB; rw [hE, hA, decide_eq_false hn]; rfl
  have HE : Hid (spE b = n) := hE
  have HA : Hid (spE a = 0) := hA
  have q : (n == 0) = false := beq_eq_false_iff_ne.2 hn
  clear hE hA
  go_enter Try.func13, Try.ntmps13
  go_wp2_with (first
    | (go_at_call 8; with_reducible refine (HS.out a _ hs).mono ?_; rintro e w1 ⟨v, rfl, hT, hB⟩; rw [HA.out]; obtain ⟨sa, sc, rfl⟩ := hT.form; clear hT)
    | (go_at_call 8; with_reducible refine (HS.out b _ hs2).mono ?_; rintro e w2 ⟨v, rfl, hT, hB2⟩; rw [HE.out]; obtain ⟨sa2, sc2, rfl⟩ := hT.form))
  go_ret
  exact ⟨by rw [HU.out]; rfl, hB.trans (hB2.mono hB.size)⟩
set_option maxHeartbeats 1600000 in
theorem runder_short (a b : ByteArray) (w : World) (hs : a.size ≤ 3000) (hs2 : b.size ≤ 3000) (hA : spE a = 0) (hE : spE b = 0) (hn : (spN b).length < (spN a).length) :
    Calls Try.prog 13 #[.string a, .string b] w fun e w' => e = .returned (.bool (unB a b)) ∧ Below w.heap.size w w' := by
  have HS : Hid (∀ (s : ByteArray) (w : World), s.size ≤ 3000 → Calls Try.prog 8 #[.string s] w fun e w' => ∃ v, e = .returned (.tuple #[v, .int .i64 (spE s)]) ∧ Tx w' v (spN s) ∧ Below w.heap.size w w') := rsplit_any
  have HU : Hid (unB a b = false) := by
    show _ = _
    unfold unB
    rw [hE, hA, decide_eq_false (p := spN a = _)]; · rfl
    intro e
    have := congrArg List.length e
    rw [List.length_take] at this
    omega
  have HE : Hid (spE b = 0) := hE
  have HA : Hid (spE a = 0) := hA
  have q : ((spN b).length : Int) < (spN a).length := by omega
  clear hE hn hA
  go_enter Try.func13, Try.ntmps13
  go_wp2_with (first
    | (go_at_call 8; with_reducible refine (HS.out a _ hs).mono ?_; rintro e w1 ⟨v, rfl, hT, hB⟩; rw [HA.out]; obtain ⟨sa, sc, rfl⟩ := hT.form; clear hT)
    | (go_at_call 8; with_reducible refine (HS.out b _ hs2).mono ?_; rintro e w2 ⟨v, rfl, hT, hB2⟩; rw [HE.out]; obtain ⟨sa2, sc2, rfl⟩ := hT.form))
  go_ret
  exact ⟨by rw [HU.out]; rfl, hB.trans (hB2.mono hB.size)⟩
set_option maxHeartbeats 1600000 in
theorem runder_ok (a b : ByteArray) (w : World) (hs : a.size ≤ 3000) (hs2 : b.size ≤ 3000) (hA : spE a = 0) (hE : spE b = 0) (hn : (spN a).length ≤ (spN b).length) :
    Calls Try.prog 13 #[.string a, .string b] w fun e w' => e = .returned (.bool (unB a b)) ∧ Below w.heap.size w w' := by
  have HS : Hid (∀ (s : ByteArray) (w : World), s.size ≤ 3000 → Calls Try.prog 8 #[.string s] w fun e w' => ∃ v, e = .returned (.tuple #[v, .int .i64 (spE s)]) ∧ Tx w' v (spN s) ∧ Below w.heap.size w w') := rsplit_any
  have HU : Hid (unB a b = decide (spN a = (spN b).take (spN a).length)) := by
    show _ = _
    unfold unB
    rw [hE, hA]; rfl
  have HE : Hid (spE b = 0) := hE
  have HA : Hid (spE a = 0) := hA
  have q : ¬ ((spN b).length : Int) < (spN a).length := by omega
  have l1 := spN_len a
  have l2 := spN_len b
  obtain ⟨X, hX⟩ : ∃ X, Hid (spN a = X) := ⟨_, rfl⟩
  obtain ⟨Y, hY⟩ : ∃ Y, Hid (spN b = Y) := ⟨_, rfl⟩
  have hXY : X.length ≤ Y.length := by rw [← hX.out, ← hY.out]; exact hn
  rw [hX.out] at l1 q
  rw [hY.out] at l2 q
  clear hE hA hn
  go_enter Try.func13, Try.ntmps13
  go_wp2_with (first
    | (go_at_call 8; with_reducible refine (HS.out a _ hs).mono ?_; rintro e w1 ⟨v, rfl, hT, hB⟩; rw [HA.out]; rw [hX.out] at hT; obtain ⟨sa, sc, rfl⟩ := hT.form)
    | (go_at_call 8; with_reducible refine (HS.out b _ hs2).mono ?_; rintro e w2 ⟨v, rfl, hT2, hB2⟩; rw [HE.out]; rw [hY.out] at hT2; obtain ⟨sa2, sc2, rfl⟩ := hT2.form))
  have hT1 := hT.below hB2
  have B := hB.trans (hB2.mono hB.size)
  clear hT hB hB2
  go_loopw [9] (fun i wr => ∃ k : Nat, k ≤ X.length ∧ i = .int .i64 k ∧ Below w.heap.size w wr ∧ Below w2.heap.size w2 wr ∧ Hid (∀ j, j < k → X.getD j ByteArray.empty = Y.getD j ByteArray.empty)) (fun i _ => X.length - (intOf i).toNat)
  case atStart => exact ⟨0, Nat.zero_le _, rfl, B, Below.refl _ _, fun j h => by omega⟩
  case round =>
    clear B
    obtain ⟨k, hk, rfl, B, B2, hA⟩ := hrel
    by_cases hlt : k < X.length
    · have q1 : (k : Int) < X.length := by omega
      have q2 : (k : Int) < Y.length := by omega
      obtain ⟨b1, off, rfl, hc⟩ := (hT1.below B2).nth hlt
      obtain ⟨b2, off2, rfl, hc2⟩ := (hT2.below B2).nth (show k < Y.length by omega)
      have c1 := hc k hlt
      have c2 := hc2 k (by omega)
      clear hc hc2
      by_cases hx : X.getD k ByteArray.empty = Y.getD k ByteArray.empty
      · have hA' : Hid (∀ j, j < k + 1 → X.getD j ByteArray.empty = Y.getD j ByteArray.empty) := fun j h => by
          rcases (by omega : j < k ∨ j = k) with h | rfl
          · exact hA.out j h
          · exact hx
        obtain ⟨x, hxx⟩ : ∃ x, Hid (Y.getD k ByteArray.empty = x) := ⟨_, rfl⟩
        rw [hx] at c1
        rw [hxx.out] at c1 c2
        clear hx
        go_wp2_with fail
        go_quiet (fail)
        go_wp2_with fail
        go_roundw
        case rel => exact ⟨k + 1, by omega, by go_num, below_drN B _, below_drN B2 _, hA'⟩
        case measure => simp [intOf]; omega
      · have HU2 : Hid (unB a b = false) := by
          show _ = _
          rw [HU.out, hX.out, hY.out]
          exact decide_eq_false (take_other hlt hXY hx)
        obtain ⟨x, hxx⟩ : ∃ x, Hid (X.getD k ByteArray.empty = x) := ⟨_, rfl⟩
        obtain ⟨y, hyy⟩ : ∃ y, Hid (Y.getD k ByteArray.empty = y) := ⟨_, rfl⟩
        have hne : ¬ x = y := by rw [← hxx.out, ← hyy.out]; exact hx
        rw [hxx.out] at c1
        rw [hyy.out] at c2
        clear hx
        have q3 : (x.toList == y.toList) = false := by
          refine beq_eq_false_iff_ne.2 fun e => hne ?_
          rw [ByteArray.toList_eq, ByteArray.toList_eq] at e
          exact ByteArray.ext (Array.toList_inj.1 e)
        go_wp2_with fail
        go_quiet (fail)
        go_wp2_with fail
        go_ret
        exact ⟨by rw [HU2.out]; rfl, below_drN B _⟩
    · have q1 : ¬ (k : Int) < X.length := by omega
      have HU2 : Hid (unB a b = true) := by
        show _ = _
        rw [HU.out, hX.out, hY.out]
        exact decide_eq_true (take_same hXY fun j hj => hA.out j (by omega))
      go_wp2_with fail
      go_ret
      exact ⟨by rw [HU2.out]; rfl, B⟩
theorem runder_any (a b : ByteArray) (w : World) (hs : a.size ≤ 3000) (hs2 : b.size ≤ 3000) :
    Calls Try.prog 13 #[.string a, .string b] w fun e w' => e = .returned (.bool (unB a b)) ∧ Below w.heap.size w w' := by
  by_cases h : spE a = 0
  · by_cases h' : spE b = 0
    · by_cases hn : (spN b).length < (spN a).length
      · exact runder_short a b w hs hs2 h h' hn
      · exact runder_ok a b w hs hs2 h h' (by omega)
    · exact runder_bad2 a b _ w hs hs2 h rfl h'
  · exact runder_bad a b _ _ w hs hs2 rfl rfl h
end Go.Proofs.Ytdjopadohbbfkaa

/-
  Through a cache of which nothing is pinned each block reads as it was put last; plain lists and numbers.
-/
import Derived.Test.YtioloobeakjbeaaWritesPure
namespace Go.Proofs.Ytioloobeakjbeaa.Reads

/-- Through the cache block n reads W n. -/
structure Inv (size : Nat) (W : Nat → List Int) (S : St) (C : Ca) : Prop where
  pw : Pw S
  nb : S.nb = 6
  size : C.size = size
  pins : ∀ i ∈ C.L, i.pins = 0
  b : ∀ i ∈ C.L, i.b = W i.n
  disk : ∀ n, n < 6 → C.isDirty n = false → S.last n = W n
theorem Inv.new {size : Nat} : Inv size (fun _ => zeros 512) (St.new 6) (Ca.new size) := ⟨Pw.new 6, rfl, rfl, fun _i hi => (List.not_mem_nil hi).elim, fun _i hi => (List.not_mem_nil hi).elim, fun _ _ _ => rfl⟩
theorem dirty_none {C : Ca} {n : Nat} (h : C.has n = false) : C.isDirty n = false := by
  cases e : C.isDirty n with
  | false => rfl
  | true =>
    obtain ⟨i, hi, e1, _⟩ := mem_isDirty.1 e
    have := Ca.has_iff.2 ⟨i, hi, e1⟩
    rw [h] at this; cases this
/-- What the disk has of another block behind a use. -/
theorem Inv.other {size : Nat} {W : Nat → List Int} {S S' : St} {C C' : Ca} {n : Nat} {fb : List Int} {ys : List It} {k : It} (h : Inv size W S C) (u : Used S C n fb S' C' ys k) {m : Nat} (hm : m < 6) (hne : m ≠ n) (hd : ∀ i ∈ ys, i.n = m → i.dirty = false) : S'.last m = W m := by
  cases e : C.isDirty m with
  | false =>
    have h1 := h.disk m hm e
    rcases u.gone with g | ⟨g, hg, hgd, _, hS, _⟩
    · rw [g]; exact h1
    · rw [hS, wrote_last, if_neg (fun e2 => ?_)]
      · exact h1
      · have := mem_isDirty.2 ⟨g, hg, e2.symm, hgd⟩
        rw [e] at this; cases this
  | true =>
    obtain ⟨i, hi, e1, e2⟩ := mem_isDirty.1 e
    rcases u.kept i hi (by rw [e1]; exact hne) with q | ⟨_, q⟩ | q
    · have := hd i q e1
      rw [e2] at this; cases this
    · rw [q, wrote_last, e1, if_pos rfl, h.b i hi, e1]
    · rw [e2] at q; cases q
theorem Used.same {S S' : St} {C C' : Ca} {n : Nat} {fb : List Int} {ys : List It} {k : It} (u : Used S C n fb S' C' ys k) : S'.last n = S.last n := by
  rcases u.gone with g | ⟨g, _, _, hgn, hS, _⟩
  · rw [g]
  · rw [hS, wrote_last, if_neg (fun e => hgn e.symm)]
theorem Inv.get {size : Nat} {W : Nat → List Int} {S : St} {C : Ca} (h : Inv size W S C) (hw : C.Wf S.nb) {n : Nat} (hn : n < 6) : ∃ S' C', _root_.Go.Proofs.Ytioloobeakjbeaa.get S C n = ⟨0, S', C'⟩ ∧ getB S C n = W n ∧ Inv size W S' C' := by
  have hnb : n < S.nb := by rw [h.nb]; exact hn
  obtain ⟨S', C', ys, k, u⟩ := used_of (S.last n) h.pw hw h.pins hnb
  have hget : _root_.Go.Proofs.Ytioloobeakjbeaa.get S C n = ⟨0, S', C'⟩ := by rw [get_eq h.pw hnb, u.eq]
  have hkb : k.b = W n := by
    rcases u.kin with e | e
    · rw [h.b k e, u.kn]
    · rw [e.1]; exact h.disk n hn (dirty_none e.2)
  refine ⟨S', C', hget, ?_, u.pw, u.nb.trans h.nb, u.size.trans h.size, fun i hi => ?_, fun i hi => ?_, fun m hm hd => ?_⟩
  · unfold getB
    rw [hget, if_pos rfl]
    simp [Ca.lastB, u.L, hkb]
  · rw [u.L] at hi
    rcases List.mem_append.1 hi with e | e
    · exact (u.pins h.pins).1 i e
    · simp at e; subst e; exact (u.pins h.pins).2
  · rw [u.L] at hi
    rcases List.mem_append.1 hi with e | e
    · exact h.b i (u.yin i e).1
    · simp at e; subst e; rw [u.kn]; exact hkb
  · by_cases e : m = n
    · subst e
      rw [Used.same u]
      refine h.disk m hm ?_
      rcases u.kin with q | q
      · cases e2 : C.isDirty m with
        | false => rfl
        | true =>
          obtain ⟨i, hi, e3, e4⟩ := mem_isDirty.1 e2
          have h1 := Ca.item_of hw hi
          have h2 := Ca.item_of hw q
          have : i = k := by rw [← h1, e3, ← u.kn, h2]
          have hk : k ∈ C'.L := by rw [u.L]; simp
          have := mem_isDirty.2 ⟨k, hk, u.kn, by rw [← this]; exact e4⟩
          rw [hd] at this; cases this
      · exact dirty_none q.2
    · refine h.other u hm e (fun i hi e2 => ?_)
      cases e3 : i.dirty with
      | false => rfl
      | true =>
        have := mem_isDirty.2 ⟨i, by rw [u.L]; exact List.mem_append_left _ hi, e2, e3⟩
        rw [hd] at this; cases this
theorem Inv.put {size : Nat} {W : Nat → List Int} {S : St} {C : Ca} (h : Inv size W S C) (hw : C.Wf S.nb) {n : Nat} (hn : n < 6) {b : List Int} (hb : b.length = 512) : ∃ S' C', _root_.Go.Proofs.Ytioloobeakjbeaa.put S C n b = ⟨0, S', C'⟩ ∧ Inv size (upd W n b) S' C' := by
  have hnb : n < S.nb := by rw [h.nb]; exact hn
  obtain ⟨S', C', ys, k, u⟩ := used_of (zeros 512) h.pw hw h.pins hnb
  have hL : (C'.last fun i => { i with b := b, dirty := true }).L = ys ++ [{ k with b := b, dirty := true }] := by show modLast _ C'.L = _; rw [u.L, modLast_snoc]
  refine ⟨S', C'.last fun i => { i with b := b, dirty := true }, ?_, u.pw, u.nb.trans h.nb, u.size.trans h.size, fun i hi => ?_, fun i hi => ?_, fun m hm hd => ?_⟩
  · rw [put_eq hb (by rw [u.eq]), u.eq]
  · rw [hL] at hi
    rcases List.mem_append.1 hi with e | e
    · exact (u.pins h.pins).1 i e
    · simp at e; subst e; exact (u.pins h.pins).2
  · rw [hL] at hi
    rcases List.mem_append.1 hi with e | e
    · rw [upd_other _ _ (u.yin i e).2]; exact h.b i (u.yin i e).1
    · simp at e
      subst e
      show b = upd W n b k.n
      rw [u.kn, upd_same]
  · by_cases e : m = n
    · subst e
      have := mem_isDirty.2 ⟨{ k with b := b, dirty := true }, by rw [hL]; simp, u.kn, rfl⟩
      rw [hd] at this; cases this
    · rw [upd_other _ _ e]
      refine h.other u hm e (fun i hi e2 => ?_)
      cases e3 : i.dirty with
      | false => rfl
      | true =>
        have := mem_isDirty.2 ⟨i, by rw [hL]; exact List.mem_append_left _ hi, e2, e3⟩
        rw [hd] at this; cases this
theorem Inv.flush {size : Nat} {W : Nat → List Int} {S : St} {C : Ca} (h : Inv size W S C) (hS : S.Wf) (hw : C.Wf S.nb) : ∃ S', _root_.Go.Proofs.Ytioloobeakjbeaa.flush S C = ⟨0, S', C.clean⟩ ∧ Pw S' ∧ S'.nb = 6 ∧ (∀ n, n < 6 → S'.last n = W n) ∧ S'.waiting = 0 ∧ S'.writes ≤ S.writes + 6 := by
  obtain ⟨S', h1, h2, h3, h4, h5, h6, h7⟩ := flush_ok h.pw hS hw
  have hdl : (C.dirties S.nb).length ≤ S.nb := by
    have := List.length_filter_le (fun n => C.isDirty n) (List.range S.nb)
    rwa [List.length_range] at this
  refine ⟨S', h1, h2, h4.trans h.nb, fun n hn => ?_, waiting_zero h6, by rw [h5]; rw [h.nb] at hdl ⊢; omega⟩
  rw [h7 n (by rw [h.nb]; exact hn)]
  cases e : C.isDirty n with
  | true =>
    obtain ⟨_, e2, e3⟩ := Ca.isDirty_item hw e
    rw [if_pos rfl, h.b _ e3, e2]
  | false => rw [if_neg (by decide)]; exact h.disk n hn e
end Go.Proofs.Ytioloobeakjbeaa.Reads

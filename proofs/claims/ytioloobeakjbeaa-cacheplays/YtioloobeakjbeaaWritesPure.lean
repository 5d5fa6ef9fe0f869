/-
  A cache of which nothing is pinned, over a disk with power: what each call writes; plain lists and numbers.
-/
import Derived.Test.YtioloobeakjbeaaCPure
namespace Go.Proofs.Ytioloobeakjbeaa

theorem sub_len : ∀ {A B : List Nat}, A.Nodup → (∀ a ∈ A, a ∈ B) → A.length ≤ B.length
  | [], _, _, _ => Nat.zero_le _
  | a :: A, B, hd, hs => by
    obtain ⟨h1, h2⟩ := List.nodup_cons.1 hd
    have ha : a ∈ B := hs a (by simp)
    have := sub_len (A := A) (B := B.erase a) h2 (fun x hx => (List.mem_erase_of_ne (fun e : x = a => h1 (e ▸ hx))).2 (hs x (by simp [hx])))
    rw [List.length_erase_of_mem ha] at this
    have hp : 0 < B.length := List.length_pos_of_mem ha
    simp only [List.length_cons]
    omega

/-- What a use is, nothing being pinned. -/
structure Used (S : St) (C : Ca) (n : Nat) (fb : List Int) (S' : St) (C' : Ca) (ys : List It) (k : It) : Prop where
  eq : use S C n 0 fb = ⟨0, S', C'⟩
  pw : Pw S'
  nb : S'.nb = S.nb
  size : C'.size = C.size
  L : C'.L = ys ++ [k]
  kn : k.n = n
  yin : ∀ i ∈ ys, i ∈ C.L ∧ i.n ≠ n
  kin : k ∈ C.L ∨ (k = ⟨n, fb, false, 0⟩ ∧ C.has n = false)
  wr : ∃ d e, S'.writes = S.writes + d ∧ C'.evicted = C.evicted + e ∧ d ≤ e ∧ e ≤ 1
  gone : S' = S ∨ ∃ g ∈ C.L, g.dirty = true ∧ g.n ≠ n ∧ S' = S.wrote g.n g.b ∧ ∀ i ∈ ys, i.n ≠ g.n
  kept : ∀ i ∈ C.L, i.n ≠ n → i ∈ ys ∨ (i.dirty = true ∧ S' = S.wrote i.n i.b) ∨ i.dirty = false
  few : C.hits + C.misses + 1 = C'.hits + C'.misses
theorem used_of {S : St} {C : Ca} {n : Nat} (fb : List Int) (hp : Pw S) (hC : C.Wf S.nb) (h0 : ∀ i ∈ C.L, i.pins = 0) (hn : n < S.nb) : ∃ S' C' ys k, Used S C n fb S' C' ys k := by
  cases hh : C.has n with
  | true =>
    obtain ⟨i, hi, e⟩ := Ca.has_iff.1 hh
    obtain ⟨xs, ys, e2⟩ := List.append_of_mem hi
    have hf := Ca.filter_eq hC.uniq e2
    rw [e] at hf
    refine ⟨S, C.hit n, (C.L.filter fun i => i.n != n), i, use_hit 0 fb hn hh, hp, rfl, rfl, ?_, e, fun j hj => ?_, .inl hi, ⟨0, 0, rfl, rfl, Nat.le_refl _, Nat.zero_le _⟩, .inl rfl, fun j hj hne => .inl (List.mem_filter.2 ⟨hj, by simpa using hne⟩), by show _ = C.hits + 1 + C.misses; omega⟩
    · show _ ++ (C.L.filter fun i => i.n == n) = _
      rw [hf.2]
    · have := List.mem_filter.1 hj
      exact ⟨this.1, by simpa using this.2⟩
  | false =>
    have hno : ∀ i ∈ C.L, i.n ≠ n := fun i hi e => by
      have := Ca.has_iff.2 ⟨i, hi, e⟩
      rw [hh] at this; cases this
    by_cases hl : C.L.length = C.size
    · obtain ⟨g, hg⟩ : ∃ g, C.goes = some g := by
        cases hg : C.goes with
        | some g => exact ⟨g, rfl⟩
        | none =>
          exfalso
          have hpos := hC.pos
          cases hL : C.L with
          | nil => rw [hL] at hl; simp at hl; omega
          | cons i L =>
            have := List.find?_eq_none.1 hg i (by rw [hL]; simp)
            simp [h0 i (by rw [hL]; simp)] at this
      obtain ⟨g1, g2⟩ := Ca.goes_mem hg
      have hgn := hC.lt g g1
      have hgb := hC.len g g1
      have he : cleanE S g = 0 := by
        unfold cleanE
        split
        · exact hp.writeE hgn hgb
        · rfl
      have hS : cleanS S g = if g.dirty then S.wrote g.n g.b else S := by
        unfold cleanS
        split
        · exact hp.write hgn hgb
        · rfl
      have hys : ∀ j ∈ (C.L.filter fun i => i.n != g.n), j ∈ C.L ∧ j.n ≠ n := fun j hj => ⟨(List.mem_filter.1 hj).1, hno j (List.mem_filter.1 hj).1⟩
      have huq : ∀ j ∈ C.L, j.n = g.n → j = g := fun j hj e => by
        have h1 := Ca.item_of hC hj
        have h2 := Ca.item_of hC g1
        rw [← h1, e, h2]
      cases hd : g.dirty with
      | true =>
        rw [hd, if_pos rfl] at hS
        refine ⟨S.wrote g.n g.b, (C.out g.n).add n fb, (C.L.filter fun i => i.n != g.n), ⟨n, fb, false, 0⟩, by rw [use_goes hn hh hl hg he, hS], hp.wrote _ _, rfl, rfl, rfl, rfl, hys, .inr ⟨rfl, hh⟩, ⟨1, 1, rfl, rfl, Nat.le_refl _, Nat.le_refl _⟩, .inr ⟨g, g1, hd, hno g g1, rfl, fun j hj => by have := (List.mem_filter.1 hj).2; simpa using this⟩, fun j hj hne => ?_, by show _ = C.hits + (C.misses + 1); omega⟩
        by_cases e : j.n = g.n
        · rw [huq j hj e]
          exact .inr (.inl ⟨hd, rfl⟩)
        · exact .inl (List.mem_filter.2 ⟨hj, by simpa using e⟩)
      | false =>
        rw [hd, if_neg (by decide)] at hS
        refine ⟨S, (C.out g.n).add n fb, (C.L.filter fun i => i.n != g.n), ⟨n, fb, false, 0⟩, by rw [use_goes hn hh hl hg he, hS], hp, rfl, rfl, rfl, rfl, hys, .inr ⟨rfl, hh⟩, ⟨0, 1, rfl, rfl, Nat.zero_le _, Nat.le_refl _⟩, .inl rfl, fun j hj hne => ?_, by show _ = C.hits + (C.misses + 1); omega⟩
        by_cases e : j.n = g.n
        · rw [huq j hj e]
          exact .inr (.inr hd)
        · exact .inl (List.mem_filter.2 ⟨hj, by simpa using e⟩)
    · exact ⟨S, C.add n fb, C.L, ⟨n, fb, false, 0⟩, use_room hn hh hl, hp, rfl, rfl, rfl, rfl, fun j hj => ⟨hj, hno j hj⟩, .inr ⟨rfl, hh⟩, ⟨0, 0, rfl, rfl, Nat.le_refl _, Nat.zero_le _⟩, .inl rfl, fun j hj _ => .inl hj, by show _ = C.hits + (C.misses + 1); omega⟩
theorem Used.pins {S S' : St} {C C' : Ca} {n : Nat} {fb : List Int} {ys : List It} {k : It} (h : Used S C n fb S' C' ys k) (h0 : ∀ i ∈ C.L, i.pins = 0) : (∀ i ∈ ys, i.pins = 0) ∧ k.pins = 0 := by
  refine ⟨fun i hi => h0 i (h.yin i hi).1, ?_⟩
  rcases h.kin with e | e
  · exact h0 k e
  · rw [e.1]
/-- What is dirty behind a use: it was. -/
theorem Used.dirty {S S' : St} {C C' : Ca} {n : Nat} {fb : List Int} {ys : List It} {k : It} (h : Used S C n fb S' C' ys k) : ∀ i ∈ C'.L, i.dirty = true → i ∈ C.L := fun i hi hd => by
  rw [h.L] at hi
  rcases List.mem_append.1 hi with e | e
  · exact (h.yin i e).1
  · simp at e
    subst e
    rcases h.kin with e | e
    · exact e
    · rw [e.1] at hd; cases hd
theorem mem_isDirty {C : Ca} {n : Nat} : C.isDirty n = true ↔ ∃ i ∈ C.L, i.n = n ∧ i.dirty = true := by
  unfold Ca.isDirty
  rw [List.any_eq_true]
  constructor
  · rintro ⟨i, hi, hc⟩
    simp only [Bool.and_eq_true, beq_iff_eq] at hc
    exact ⟨i, hi, hc⟩
  · rintro ⟨i, hi, h1, h2⟩
    exact ⟨i, hi, by simp [h1, h2]⟩
theorem held_le {C : Ca} {nb : Nat} (h : C.Wf nb) : (C.held nb).length ≤ C.size := by
  have := sub_len (A := C.held nb) (B := C.L.map It.n) (List.nodup_range.sublist List.filter_sublist) (fun n hn => by
    obtain ⟨i, hi, e⟩ := Ca.has_iff.1 (List.mem_filter.1 hn).2
    rw [← e]; exact List.mem_map_of_mem hi)
  have h2 := h.few
  simp at this
  omega

namespace Writes
structure Inv (size : Nat) (S : St) (C : Ca) : Prop where
  pw : Pw S
  nb : S.nb = 16
  size : C.size = size
  pins : ∀ i ∈ C.L, i.pins = 0
theorem Inv.new {size : Nat} : Inv size (St.new 16) (Ca.new size) := ⟨Pw.new 16, rfl, rfl, fun _i hi => (List.not_mem_nil hi).elim⟩
/-- A Get, nothing being dirty. -/
theorem Inv.get {size : Nat} {S : St} {C : Ca} (h : Inv size S C) (hw : C.Wf S.nb) (hd : ∀ i ∈ C.L, i.dirty = false) {n : Nat} (hn : n < 16) : ∃ C', _root_.Go.Proofs.Ytioloobeakjbeaa.get S C n = ⟨0, S, C'⟩ ∧ Inv size S C' ∧ (∀ i ∈ C'.L, i.dirty = false) ∧ C'.hits + C'.misses = C.hits + C.misses + 1 ∧ C'.evicted ≤ C.evicted + 1 := by
  have hnb : n < S.nb := by rw [h.nb]; exact hn
  obtain ⟨S', C', ys, k, u⟩ := used_of (S.last n) h.pw hw h.pins hnb
  have hSS : S' = S := by
    rcases u.gone with e | ⟨g, hg, e, _⟩
    · exact e
    · rw [hd g hg] at e; cases e
  subst hSS
  obtain ⟨d, e, _, e2, _, e4⟩ := u.wr
  refine ⟨C', by rw [get_eq h.pw hnb, u.eq], ⟨h.pw, h.nb, u.size.trans h.size, fun i hi => ?_⟩, fun i hi => ?_, u.few.symm, by omega⟩
  · rw [u.L] at hi
    rcases List.mem_append.1 hi with e | e
    · exact (u.pins h.pins).1 i e
    · simp at e; subst e; exact (u.pins h.pins).2
  · cases hdi : i.dirty with
    | false => rfl
    | true => have := hd i (u.dirty i hi hdi); rw [hdi] at this; cases this
/-- A Put. -/
theorem Inv.put {size : Nat} {S : St} {C : Ca} (h : Inv size S C) (hw : C.Wf S.nb) {n : Nat} (hn : n < 16) {b : List Int} (hb : b.length = 512) : ∃ S' C', _root_.Go.Proofs.Ytioloobeakjbeaa.put S C n b = ⟨0, S', C'⟩ ∧ Inv size S' C' ∧ (C'.dirties 16).length ≤ (C.dirties 16).length + 1 ∧
    C'.hits + C'.misses = C.hits + C.misses + 1 ∧ ∃ d e, S'.writes = S.writes + d ∧ C'.evicted = C.evicted + e ∧ d ≤ e ∧ e ≤ 1 := by
  have hnb : n < S.nb := by rw [h.nb]; exact hn
  obtain ⟨S', C', ys, k, u⟩ := used_of (zeros 512) h.pw hw h.pins hnb
  have hL : (C'.last fun i => { i with b := b, dirty := true }).L = ys ++ [{ k with b := b, dirty := true }] := by show modLast _ C'.L = _; rw [u.L, modLast_snoc]
  refine ⟨S', C'.last fun i => { i with b := b, dirty := true }, ?_, ⟨u.pw, u.nb.trans h.nb, u.size.trans h.size, fun i hi => ?_⟩, ?_, u.few.symm, u.wr⟩
  · rw [put_eq hb (by rw [u.eq]), u.eq]
  · rw [hL] at hi
    rcases List.mem_append.1 hi with e | e
    · exact (u.pins h.pins).1 i e
    · simp at e; subst e; exact (u.pins h.pins).2
  · have := sub_len (A := (C'.last fun i => { i with b := b, dirty := true }).dirties 16) (B := n :: C.dirties 16) (dirties_nodup _ _) (fun x hx => by
      obtain ⟨hx1, hx2⟩ := mem_dirties.1 hx
      obtain ⟨i, hi, e1, e2⟩ := mem_isDirty.1 hx2
      rw [hL] at hi
      rcases List.mem_append.1 hi with e | e
      · exact List.mem_cons_of_mem _ (mem_dirties.2 ⟨hx1, mem_isDirty.2 ⟨i, (u.yin i e).1, e1, e2⟩⟩)
      · simp at e
        subst e
        rw [← e1]
        show k.n ∈ _
        rw [u.kn]; simp)
    simpa using this
end Writes
end Go.Proofs.Ytioloobeakjbeaa

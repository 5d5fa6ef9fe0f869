/-
  What Put, Get and Flush come to on a disk that has power and is not armed; plain lists and numbers.
-/
import Derived.Test.YtioloobeakjbeaaState
namespace Go.Proofs.Ytioloobeakjbeaa

/-- A disk with power that is not armed. -/
structure Pw (S : St) : Prop where
  off : S.off = false
  arm : S.arm < 1
theorem Pw.new (nb : Nat) : Pw (St.new nb) := ⟨rfl, by show (0 : Int) < 1; decide⟩
theorem Pw.readE {S : St} (h : Pw S) {n : Nat} (hn : n < S.nb) : S.readE n = 0 := by
  unfold St.readE
  rw [if_neg (by rw [h.off]; decide), if_pos ⟨by omega, by omega⟩]
theorem Pw.readV {S : St} (h : Pw S) {n : Nat} (hn : n < S.nb) : S.readV n = S.last n := by
  unfold St.readV
  rw [if_pos (h.readE hn), Int.toNat_natCast]
theorem Pw.writeE {S : St} (h : Pw S) {n : Nat} {b : List Int} (hn : n < S.nb) (hb : b.length = 512) : S.writeE n b = 0 := by
  unfold St.writeE
  rw [if_neg (by rw [h.off]; decide), if_neg (by simp [St.okW, hb]; omega), if_neg (by have := h.arm; omega)]
theorem Pw.write {S : St} (h : Pw S) {n : Nat} {b : List Int} (hn : n < S.nb) (hb : b.length = 512) : S.write n b = S.wrote n b := by
  unfold St.write
  rw [if_neg (by rw [h.off]; decide), if_neg (by simp [St.okW, hb]; omega), if_neg (by have := h.arm; omega), Int.toNat_natCast, St.pushed_eq]
  unfold St.struck
  rw [if_pos h.arm]
theorem Pw.wrote {S : St} (h : Pw S) (n : Nat) (b : List Int) : Pw (S.wrote n b) := ⟨h.off, h.arm⟩
theorem wrote_last (S : St) (n k : Nat) (b : List Int) : (S.wrote n b).last k = if k = n then b else S.last k := by
  unfold St.last St.ver St.wrote
  by_cases e : k = n
  · subst e
    simp [upd_same]
  · simp [upd_other _ _ e, e]
theorem synced_last (S : St) (k : Nat) : S.synced.last k = S.last k := rfl
theorem Pw.synced {S : St} (h : Pw S) : Pw S.synced := ⟨h.off, h.arm⟩
theorem Pw.sync {S : St} (h : Pw S) : S.sync = S.synced ∧ S.syncE = 0 := by
  unfold St.sync St.syncE
  rw [if_neg (by rw [h.off]; decide), if_neg (by rw [h.off]; decide)]
  exact ⟨rfl, rfl⟩

namespace Ca
theorem not_has {C : Ca} {n : Nat} (h : ∀ i ∈ C.L, i.n ≠ n) : C.has n = false := by
  cases e : C.has n with
  | false => rfl
  | true =>
    obtain ⟨i, hi, e2⟩ := has_iff.1 e
    exact absurd e2 (h i hi)
end Ca

/-- A block that was not held, with room. -/
theorem use_room {S : St} {C : Ca} {n : Nat} {fb : List Int} (hn : n < S.nb) (hh : C.has n = false) (hr : C.L.length ≠ C.size) : use S C n 0 fb = ⟨0, S, C.add n fb⟩ := by
  unfold use
  rw [if_neg (by omega), Int.toNat_natCast, if_neg (by rw [hh]; decide)]
  unfold miss
  rw [if_neg hr, if_neg (by decide)]
theorem use_hit {S : St} {C : Ca} {n : Nat} (fe : Int) (fb : List Int) (hn : n < S.nb) (hh : C.has n = true) : use S C n fe fb = ⟨0, S, C.hit n⟩ := by
  unfold use
  rw [if_neg (by omega), Int.toNat_natCast, if_pos hh]
/-- A block that was not held, with one to go. -/
theorem use_goes {S : St} {C : Ca} {n : Nat} {fb : List Int} {g : It} (hn : n < S.nb) (hh : C.has n = false) (hr : C.L.length = C.size) (hg : C.goes = some g) (he : cleanE S g = 0) : use S C n 0 fb = ⟨0, cleanS S g, (C.out g.n).add n fb⟩ := by
  unfold use
  rw [if_neg (by omega), Int.toNat_natCast, if_neg (by rw [hh]; decide)]
  unfold miss
  rw [if_pos hr, hg]
  simp only []
  rw [if_neg (by decide), if_neg (by rw [he]; decide)]
theorem get_eq {S : St} (h : Pw S) {C : Ca} {n : Nat} (hn : n < S.nb) : get S C n = use S C n 0 (S.last n) := by
  unfold get
  rw [h.readE hn, h.readV hn]
theorem put_eq {S : St} {C : Ca} {n : Int} {b : List Int} (hb : b.length = 512) (he : (use S C n 0 (zeros 512)).e = 0) : put S C n b = ⟨0, (use S C n 0 (zeros 512)).S, (use S C n 0 (zeros 512)).C.last fun i => { i with b := b, dirty := true }⟩ := by
  unfold put
  rw [if_neg (by simpa using hb), if_neg (by rw [he]; decide)]
theorem put_room {S : St} {C : Ca} {n : Nat} {b : List Int} (hn : n < S.nb) (hb : b.length = 512) (hh : C.has n = false) (hr : C.L.length ≠ C.size) :
    put S C n b = ⟨0, S, { C with L := C.L ++ [⟨n, b, true, 0⟩], misses := C.misses + 1 }⟩ := by
  have e := use_room (fb := zeros 512) hn hh hr
  rw [put_eq hb (by rw [e]), e]
  unfold Ca.last Ca.add
  simp only []
  rw [modLast_snoc]
theorem get_room {S : St} (h : Pw S) {C : Ca} {n : Nat} (hn : n < S.nb) (hh : C.has n = false) (hr : C.L.length ≠ C.size) : get S C n = ⟨0, S, C.add n (S.last n)⟩ ∧ getB S C n = S.last n := by
  have e : get S C n = ⟨0, S, C.add n (S.last n)⟩ := by rw [get_eq h hn, use_room hn hh hr]
  refine ⟨e, ?_⟩
  unfold getB
  rw [e, if_pos rfl]
  simp [Ca.lastB, Ca.add]

/-! ### Flush -/
namespace Ca
/-- The blocks of l are clean. -/
def cleaned (C : Ca) (l : List Nat) : Ca := { C with L := C.L.map fun i => if i.n ∈ l then { i with dirty := false } else i }
theorem cleaned_nil (C : Ca) : C.cleaned [] = C := by
  unfold cleaned
  have : (C.L.map fun i => if i.n ∈ ([] : List Nat) then { i with dirty := false } else i) = C.L := by simp
  rw [this]
theorem mod_cleaned (C : Ca) (n : Nat) (l : List Nat) : (C.mod n fun i => { i with dirty := false }).cleaned l = C.cleaned (n :: l) := by
  unfold cleaned mod
  simp only [List.map_map, Ca.mk.injEq, true_and, and_true]
  refine List.map_congr_left (fun i _ => ?_)
  simp only [Function.comp, List.mem_cons]
  by_cases e : i.n = n
  · by_cases e2 : i.n ∈ l <;> simp [e]
  · by_cases e2 : i.n ∈ l <;> simp [e, e2]
theorem item_mod_b {C : Ca} (n k : Nat) (f : It → It) (hf : ∀ i, (f i).n = i.n ∧ (f i).b = i.b) : ((C.mod n f).item k).b = (C.item k).b := by
  unfold item mod
  simp only [List.find?_map]
  have e : ((fun i : It => i.n == k) ∘ fun i => if i.n = n then f i else i) = fun i => i.n == k := by
    funext i
    simp only [Function.comp]
    split
    · rw [(hf i).1]
    · rfl
  rw [e]
  cases C.L.find? fun i => i.n == k with
  | none => rfl
  | some i =>
    simp only [Option.map_some, Option.getD_some]
    split
    · exact (hf i).2
    · rfl
theorem isDirty_mod {C : Ca} {n k : Nat} (h : k ≠ n) : (C.mod n fun i => { i with dirty := false }).isDirty k = C.isDirty k := by
  unfold isDirty mod
  rw [List.any_map]
  congr 1
  funext i
  simp only [Function.comp]
  by_cases e : i.n = n
  · rw [if_pos e]
    have : (i.n == k) = false := by simp; omega
    simp [this]
  · rw [if_neg e]
theorem isDirty_item {C : Ca} {nb n : Nat} (h : C.Wf nb) (hd : C.isDirty n = true) : (C.item n).dirty = true ∧ (C.item n).n = n ∧ C.item n ∈ C.L := by
  unfold isDirty at hd
  obtain ⟨i, hi, hc⟩ := List.any_eq_true.1 hd
  simp only [Bool.and_eq_true, beq_iff_eq] at hc
  have := item_of h hi
  rw [hc.1] at this
  rw [this]
  exact ⟨hc.2, hc.1, hi⟩
end Ca

theorem flushTo_ok : ∀ (l : List Nat) {S : St} {C : Ca}, Pw S → S.Wf → C.Wf S.nb → l.Nodup → (∀ n ∈ l, C.isDirty n = true) →
    ∃ S', flushTo S C l = ⟨0, S', C.cleaned l⟩ ∧ Pw S' ∧ S'.Wf ∧ S'.nb = S.nb ∧ S'.writes = S.writes + l.length ∧ ∀ n, S'.last n = if n ∈ l then (C.item n).b else S.last n
  | [], S, C, hp, hw, _, _, _ => ⟨S, by rw [Ca.cleaned_nil]; rfl, hp, hw, rfl, rfl, fun n => by simp⟩
  | n :: l, S, C, hp, hw, hC, hd, hl => by
    obtain ⟨i1, i2, i3⟩ := Ca.isDirty_item hC (hl n (by simp))
    have hlen := hC.len _ i3
    have hlt := hC.lt _ i3
    rw [i2] at hlt
    have e1 : cleanE S (C.item n) = 0 := by unfold cleanE; rw [if_pos i1, i2]; exact hp.writeE hlt hlen
    have e2 : cleanS S (C.item n) = S.wrote n (C.item n).b := by unfold cleanS; rw [if_pos i1, i2]; exact hp.write hlt hlen
    obtain ⟨hn, hd2⟩ := List.nodup_cons.1 hd
    have hC2 := Ca.mod_wf hC n (fun i => { i with dirty := false }) (fun _ => rfl) (fun _ => rfl) (fun _ => Nat.le_refl _)
    obtain ⟨S', h1, h2, h3, h4, h5, h6⟩ := flushTo_ok l (S := S.wrote n (C.item n).b) (C := C.mod n fun i => { i with dirty := false }) (hp.wrote _ _) (St.wrote_wf hw hlt hlen) hC2 hd2 (fun k hk => by
      rw [Ca.isDirty_mod (n := n) (k := k) (fun e => hn (by rw [← e]; exact hk))]; exact hl k (by simp [hk]))
    refine ⟨S', ?_, h2, h3, h4, ?_, fun k => ?_⟩
    · unfold flushTo
      rw [if_neg (by rw [e1]; decide), e2, h1, Ca.mod_cleaned]
    · rw [h5]
      show S.writes + 1 + l.length = _
      simp; omega
    · rw [h6 k, Ca.item_mod_b n k (fun i => { i with dirty := false }) (fun _ => ⟨rfl, rfl⟩), wrote_last]
      by_cases e : k = n
      · subst e
        rw [if_neg hn, if_pos rfl, if_pos (by simp)]
      · rw [if_neg e]
        by_cases e2 : k ∈ l
        · rw [if_pos e2, if_pos (by simp [e2])]
        · rw [if_neg e2, if_neg (by simp [e, e2])]

/-- All blocks are clean. -/
def Ca.clean (C : Ca) : Ca := { C with L := C.L.map fun i => { i with dirty := false } }
theorem dirties_nodup (C : Ca) (nb : Nat) : (C.dirties nb).Nodup := List.nodup_range.sublist List.filter_sublist
theorem mem_dirties {C : Ca} {nb n : Nat} : n ∈ C.dirties nb ↔ n < nb ∧ C.isDirty n = true := by
  unfold Ca.dirties
  rw [List.mem_filter, List.mem_range]
theorem cleaned_all {C : Ca} {nb : Nat} (h : C.Wf nb) : C.cleaned (C.dirties nb) = C.clean := by
  unfold Ca.cleaned Ca.clean
  simp only [Ca.mk.injEq, true_and, and_true]
  refine List.map_congr_left (fun i hi => ?_)
  split
  · rfl
  · rename_i hd
    have : i.dirty = false := by
      cases e : i.dirty with
      | false => rfl
      | true => exact absurd (mem_dirties.2 ⟨h.lt i hi, by unfold Ca.isDirty; exact List.any_eq_true.2 ⟨i, hi, by simp [e]⟩⟩) hd
    cases i
    simp_all
theorem flush_ok {S : St} {C : Ca} (hp : Pw S) (hw : S.Wf) (hC : C.Wf S.nb) : ∃ S', flush S C = ⟨0, S', C.clean⟩ ∧ Pw S' ∧ S'.Wf ∧ S'.nb = S.nb ∧ S'.writes = S.writes + (C.dirties S.nb).length ∧ (∀ n, S'.wait n = []) ∧ ∀ n, n < S.nb → S'.last n = if C.isDirty n then (C.item n).b else S.last n := by
  obtain ⟨S1, h1, h2, h3, h4, h5, h6⟩ := flushTo_ok (C.dirties S.nb) hp hw hC (dirties_nodup _ _) (fun n hn => (mem_dirties.1 hn).2)
  refine ⟨S1.synced, ?_, h2.synced, St.synced_wf h3, h4, h5, fun _ => rfl, fun n hn => ?_⟩
  · unfold flush
    rw [h1, if_neg (by simp), cleaned_all hC]
    simp only []
    rw [h2.sync.1, h2.sync.2]
  · rw [synced_last, h6]
    by_cases e : C.isDirty n = true
    · rw [if_pos (mem_dirties.2 ⟨hn, e⟩), if_pos e]
    · rw [if_neg (fun h => e (mem_dirties.1 h).2), if_neg e]
theorem waiting_zero {S : St} (h : ∀ n, S.wait n = []) : S.waiting = 0 := by
  unfold St.waiting
  have : ((List.range S.nb).map fun n => (S.wait n).length) = List.replicate S.nb 0 := by
    rw [List.eq_replicate_iff]
    refine ⟨by simp, fun b hb => ?_⟩
    obtain ⟨n, _, rfl⟩ := List.mem_map.1 hb
    rw [h n]; rfl
  rw [this]; simp
theorem clean_dirties {C : Ca} (nb : Nat) : C.clean.dirties nb = [] := by
  unfold Ca.dirties
  rw [List.filter_eq_nil_iff]
  intro n _ h
  unfold Ca.isDirty Ca.clean at h
  obtain ⟨i, hi, hc⟩ := List.any_eq_true.1 h
  obtain ⟨j, _, rfl⟩ := List.mem_map.1 hi
  simp at hc
end Go.Proofs.Ytioloobeakjbeaa

namespace Go.Proofs.Ytioloobeakjbeaa

theorem sub_len : ∀ {A B : List Nat}, A.Nodup → (∀ a ∈ A, a ∈ B) → A.length ≤ B.length
  | [], _, _, _ => Nat.zero_le _
  | a :: A, B, hd, hs => by
    obtain ⟨h1, h2⟩ := List.nodup_cons.1 hd
    have ha : a ∈ B := hs a (by simp)
    have := sub_len (A := A) (B := B.erase a) h2 (fun x hx => (List.mem_erase_of_ne (fun e : x = a => h1 (e ▸ hx))).2 (hs x (by simp [hx])))
    rw [List.length_erase_of_mem ha] at this
    have hp : 0 < B.length := List.length_pos_of_mem ha
    simp only [List.length_cons]
    omega

/-- What a use is, nothing being pinned. -/
structure Used (S : St) (C : Ca) (n : Nat) (fb : List Int) (S' : St) (C' : Ca) (ys : List It) (k : It) : Prop where
  eq : use S C n 0 fb = ⟨0, S', C'⟩
  pw : Pw S'
  nb : S'.nb = S.nb
  size : C'.size = C.size
  L : C'.L = ys ++ [k]
  kn : k.n = n
  yin : ∀ i ∈ ys, i ∈ C.L ∧ i.n ≠ n
  kin : k ∈ C.L ∨ (k = ⟨n, fb, false, 0⟩ ∧ C.has n = false)
  wr : ∃ d e, S'.writes = S.writes + d ∧ C'.evicted = C.evicted + e ∧ d ≤ e ∧ e ≤ 1
  gone : S' = S ∨ ∃ g ∈ C.L, g.dirty = true ∧ g.n ≠ n ∧ S' = S.wrote g.n g.b ∧ ∀ i ∈ ys, i.n ≠ g.n
  kept : ∀ i ∈ C.L, i.n ≠ n → i ∈ ys ∨ (i.dirty = true ∧ S' = S.wrote i.n i.b) ∨ i.dirty = false
  few : C.hits + C.misses + 1 = C'.hits + C'.misses
theorem used_of {S : St} {C : Ca} {n : Nat} (fb : List Int) (hp : Pw S) (hC : C.Wf S.nb) (h0 : ∀ i ∈ C.L, i.pins = 0) (hn : n < S.nb) : ∃ S' C' ys k, Used S C n fb S' C' ys k := by
  cases hh : C.has n with
  | true =>
    obtain ⟨i, hi, e⟩ := Ca.has_iff.1 hh
    obtain ⟨xs, ys, e2⟩ := List.append_of_mem hi
    have hf := Ca.filter_eq hC.uniq e2
    rw [e] at hf
    refine ⟨S, C.hit n, (C.L.filter fun i => i.n != n), i, use_hit 0 fb hn hh, hp, rfl, rfl, ?_, e, fun j hj => ?_, .inl hi, ⟨0, 0, rfl, rfl, Nat.le_refl _, Nat.zero_le _⟩, .inl rfl, fun j hj hne => .inl (List.mem_filter.2 ⟨hj, by simpa using hne⟩), by show _ = C.hits + 1 + C.misses; omega⟩
    · show _ ++ (C.L.filter fun i => i.n == n) = _
      rw [hf.2]
    · have := List.mem_filter.1 hj
      exact ⟨this.1, by simpa using this.2⟩
  | false =>
    have hno : ∀ i ∈ C.L, i.n ≠ n := fun i hi e => by
      have := Ca.has_iff.2 ⟨i, hi, e⟩
      rw [hh] at this; cases this
    by_cases hl : C.L.length = C.size
    · obtain ⟨g, hg⟩ : ∃ g, C.goes = some g := by
        cases hg : C.goes with
        | some g => exact ⟨g, rfl⟩
        | none =>
          exfalso
          have hpos := hC.pos
          cases hL : C.L with
          | nil => rw [hL] at hl; simp at hl; omega
          | cons i L =>
            have := List.find?_eq_none.1 hg i (by rw [hL]; simp)
            simp [h0 i (by rw [hL]; simp)] at this
      obtain ⟨g1, g2⟩ := Ca.goes_mem hg
      have hgn := hC.lt g g1
      have hgb := hC.len g g1
      have he : cleanE S g = 0 := by
        unfold cleanE
        split
        · exact hp.writeE hgn hgb
        · rfl
      have hS : cleanS S g = if g.dirty then S.wrote g.n g.b else S := by
        unfold cleanS
        split
        · exact hp.write hgn hgb
        · rfl
      have hys : ∀ j ∈ (C.L.filter fun i => i.n != g.n), j ∈ C.L ∧ j.n ≠ n := fun j hj => ⟨(List.mem_filter.1 hj).1, hno j (List.mem_filter.1 hj).1⟩
      have huq : ∀ j ∈ C.L, j.n = g.n → j = g := fun j hj e => by
        have h1 := Ca.item_of hC hj
        have h2 := Ca.item_of hC g1
        rw [← h1, e, h2]
      cases hd : g.dirty with
      | true =>
        rw [hd, if_pos rfl] at hS
        refine ⟨S.wrote g.n g.b, (C.out g.n).add n fb, (C.L.filter fun i => i.n != g.n), ⟨n, fb, false, 0⟩, by rw [use_goes hn hh hl hg he, hS], hp.wrote _ _, rfl, rfl, rfl, rfl, hys, .inr ⟨rfl, hh⟩, ⟨1, 1, rfl, rfl, Nat.le_refl _, Nat.le_refl _⟩, .inr ⟨g, g1, hd, hno g g1, rfl, fun j hj => by have := (List.mem_filter.1 hj).2; simpa using this⟩, fun j hj hne => ?_, by show _ = C.hits + (C.misses + 1); omega⟩
        by_cases e : j.n = g.n
        · rw [huq j hj e]
          exact .inr (.inl ⟨hd, rfl⟩)
        · exact .inl (List.mem_filter.2 ⟨hj, by simpa using e⟩)
      | false =>
        rw [hd, if_neg (by decide)] at hS
        refine ⟨S, (C.out g.n).add n fb, (C.L.filter fun i => i.n != g.n), ⟨n, fb, false, 0⟩, by rw [use_goes hn hh hl hg he, hS], hp, rfl, rfl, rfl, rfl, hys, .inr ⟨rfl, hh⟩, ⟨0, 1, rfl, rfl, Nat.zero_le _, Nat.le_refl _⟩, .inl rfl, fun j hj hne => ?_, by show _ = C.hits + (C.misses + 1); omega⟩
        by_cases e : j.n = g.n
        · rw [huq j hj e]
          exact .inr (.inr hd)
        · exact .inl (List.mem_filter.2 ⟨hj, by simpa using e⟩)
    · exact ⟨S, C.add n fb, C.L, ⟨n, fb, false, 0⟩, use_room hn hh hl, hp, rfl, rfl, rfl, rfl, fun j hj => ⟨hj, hno j hj⟩, .inr ⟨rfl, hh⟩, ⟨0, 0, rfl, rfl, Nat.le_refl _, Nat.zero_le _⟩, .inl rfl, fun j hj _ => .inl hj, by show _ = C.hits + (C.misses + 1); omega⟩
theorem Used.pins {S S' : St} {C C' : Ca} {n : Nat} {fb : List Int} {ys : List It} {k : It} (h : Used S C n fb S' C' ys k) (h0 : ∀ i ∈ C.L, i.pins = 0) : (∀ i ∈ ys, i.pins = 0) ∧ k.pins = 0 := by
  refine ⟨fun i hi => h0 i (h.yin i hi).1, ?_⟩
  rcases h.kin with e | e
  · exact h0 k e
  · rw [e.1]
/-- What is dirty behind a use: it was. -/
theorem Used.dirty {S S' : St} {C C' : Ca} {n : Nat} {fb : List Int} {ys : List It} {k : It} (h : Used S C n fb S' C' ys k) : ∀ i ∈ C'.L, i.dirty = true → i ∈ C.L := fun i hi hd => by
  rw [h.L] at hi
  rcases List.mem_append.1 hi with e | e
  · exact (h.yin i e).1
  · simp at e
    subst e
    rcases h.kin with e | e
    · exact e
    · rw [e.1] at hd; cases hd
theorem mem_isDirty {C : Ca} {n : Nat} : C.isDirty n = true ↔ ∃ i ∈ C.L, i.n = n ∧ i.dirty = true := by
  unfold Ca.isDirty
  rw [List.any_eq_true]
  constructor
  · rintro ⟨i, hi, hc⟩
    simp only [Bool.and_eq_true, beq_iff_eq] at hc
    exact ⟨i, hi, hc⟩
  · rintro ⟨i, hi, h1, h2⟩
    exact ⟨i, hi, by simp [h1, h2]⟩
theorem held_le {C : Ca} {nb : Nat} (h : C.Wf nb) : (C.held nb).length ≤ C.size := by
  have := sub_len (A := C.held nb) (B := C.L.map It.n) (List.nodup_range.sublist List.filter_sublist) (fun n hn => by
    obtain ⟨i, hi, e⟩ := Ca.has_iff.1 (List.mem_filter.1 hn).2
    rw [← e]; exact List.mem_map_of_mem hi)
  have h2 := h.few
  simp at this
  omega

namespace Writes
structure Inv (size : Nat) (S : St) (C : Ca) : Prop where
  pw : Pw S
  nb : S.nb = 16
  size : C.size = size
  pins : ∀ i ∈ C.L, i.pins = 0
theorem Inv.new {size : Nat} : Inv size (St.new 16) (Ca.new size) := ⟨Pw.new 16, rfl, rfl, fun _i hi => (List.not_mem_nil hi).elim⟩
/-- A Get, nothing being dirty. -/
theorem Inv.get {size : Nat} {S : St} {C : Ca} (h : Inv size S C) (hw : C.Wf S.nb) (hd : ∀ i ∈ C.L, i.dirty = false) {n : Nat} (hn : n < 16) : ∃ C', _root_.Go.Proofs.Ytioloobeakjbeaa.get S C n = ⟨0, S, C'⟩ ∧ Inv size S C' ∧ (∀ i ∈ C'.L, i.dirty = false) ∧ C'.hits + C'.misses = C.hits + C.misses + 1 ∧ C'.evicted ≤ C.evicted + 1 := by
  have hnb : n < S.nb := by rw [h.nb]; exact hn
  obtain ⟨S', C', ys, k, u⟩ := used_of (S.last n) h.pw hw h.pins hnb
  have hSS : S' = S := by
    rcases u.gone with e | ⟨g, hg, e, _⟩
    · exact e
    · rw [hd g hg] at e; cases e
  subst hSS
  obtain ⟨d, e, _, e2, _, e4⟩ := u.wr
  refine ⟨C', by rw [get_eq h.pw hnb, u.eq], ⟨h.pw, h.nb, u.size.trans h.size, fun i hi => ?_⟩, fun i hi => ?_, u.few.symm, by omega⟩
  · rw [u.L] at hi
    rcases List.mem_append.1 hi with e | e
    · exact (u.pins h.pins).1 i e
    · simp at e; subst e; exact (u.pins h.pins).2
  · cases hdi : i.dirty with
    | false => rfl
    | true => have := hd i (u.dirty i hi hdi); rw [hdi] at this; cases this
/-- A Put. -/
theorem Inv.put {size : Nat} {S : St} {C : Ca} (h : Inv size S C) (hw : C.Wf S.nb) {n : Nat} (hn : n < 16) {b : List Int} (hb : b.length = 512) : ∃ S' C', _root_.Go.Proofs.Ytioloobeakjbeaa.put S C n b = ⟨0, S', C'⟩ ∧ Inv size S' C' ∧ (C'.dirties 16).length ≤ (C.dirties 16).length + 1 ∧
    C'.hits + C'.misses = C.hits + C.misses + 1 ∧ ∃ d e, S'.writes = S.writes + d ∧ C'.evicted = C.evicted + e ∧ d ≤ e ∧ e ≤ 1 := by
  have hnb : n < S.nb := by rw [h.nb]; exact hn
  obtain ⟨S', C', ys, k, u⟩ := used_of (zeros 512) h.pw hw h.pins hnb
  have hL : (C'.last fun i => { i with b := b, dirty := true }).L = ys ++ [{ k with b := b, dirty := true }] := by show modLast _ C'.L = _; rw [u.L, modLast_snoc]
  refine ⟨S', C'.last fun i => { i with b := b, dirty := true }, ?_, ⟨u.pw, u.nb.trans h.nb, u.size.trans h.size, fun i hi => ?_⟩, ?_, u.few.symm, u.wr⟩
  · rw [put_eq hb (by rw [u.eq]), u.eq]
  · rw [hL] at hi
    rcases List.mem_append.1 hi with e | e
    · exact (u.pins h.pins).1 i e
    · simp at e; subst e; exact (u.pins h.pins).2
  · have := sub_len (A := (C'.last fun i => { i with b := b, dirty := true }).dirties 16) (B := n :: C.dirties 16) (dirties_nodup _ _) (fun x hx => by
      obtain ⟨hx1, hx2⟩ := mem_dirties.1 hx
      obtain ⟨i, hi, e1, e2⟩ := mem_isDirty.1 hx2
      rw [hL] at hi
      rcases List.mem_append.1 hi with e | e
      · exact List.mem_cons_of_mem _ (mem_dirties.2 ⟨hx1, mem_isDirty.2 ⟨i, (u.yin i e).1, e1, e2⟩⟩)
      · simp at e
        subst e
        rw [← e1]
        show k.n ∈ _
        rw [u.kn]; simp)
    simpa using this
end Writes
end Go.Proofs.Ytioloobeakjbeaa

/-
  CachePins answers true.
-/
import Derived.Test.YtioloobeakjbeaaNums
namespace Go.Proofs.Ytioloobeakjbeaa
open Go.RowKit Go.Maps

namespace Pins
/-- How many of the first 40. -/
def cnt (P : Nat → Bool) : Nat := ((List.range 40).filter P).length
theorem filter_upd {P : Nat → Bool} {n : Nat} (hP : P n = false) : ∀ {l : List Nat}, l.Nodup → n ∈ l → (l.filter (upd P n true)).length = (l.filter P).length + 1
  | [], _, h => (List.not_mem_nil h).elim
  | a :: l, hd, hm => by
    obtain ⟨h1, h2⟩ := List.nodup_cons.1 hd
    by_cases e : a = n
    · subst e
      have hl : l.filter (upd P a true) = l.filter P := List.filter_congr (fun x hx => upd_other P true (fun e => h1 (e ▸ hx)))
      rw [List.filter_cons_of_pos (by rw [upd_same]), List.filter_cons_of_neg (by rw [hP]; decide), hl]; rfl
    · have hm2 : n ∈ l := by
        rcases List.mem_cons.1 hm with h | h
        · exact absurd h.symm e
        · exact h
      have ih := filter_upd hP h2 hm2
      have hu : upd P n true a = P a := upd_other P true e
      cases hPa : P a with
      | true => rw [List.filter_cons_of_pos (by rw [hu, hPa]), List.filter_cons_of_pos hPa, List.length_cons, List.length_cons, ih]
      | false => rw [List.filter_cons_of_neg (by rw [hu, hPa]; decide), List.filter_cons_of_neg (by rw [hPa]; decide), ih]
theorem cnt_upd {P : Nat → Bool} {n : Nat} (hn : n < 40) (hP : P n = false) : cnt (upd P n true) = cnt P + 1 := filter_upd hP List.nodup_range (List.mem_range.2 hn)
theorem cnt_nodup (P : Nat → Bool) : ((List.range 40).filter P).Nodup := List.nodup_range.sublist List.filter_sublist

structure Inv (size : Nat) (P : Nat → Bool) (S : St) (C : Ca) : Prop where
  pw : Pw S
  nb : S.nb = 40
  size : C.size = size
  pin : ∀ n, P n = true → n < 32 ∧ ∃ i ∈ C.L, i.n = n ∧ i.pins ≠ 0
  un : ∀ i ∈ C.L, P i.n = false → i.pins = 0
  cl : ∀ i ∈ C.L, i.dirty = false
theorem Inv.new {size : Nat} : Inv size (fun _ => false) (St.new 40) (Ca.new size) := ⟨Pw.new 40, rfl, rfl, fun n h => (by cases h), fun i hi => (List.not_mem_nil hi).elim, fun i hi => (List.not_mem_nil hi).elim⟩
theorem Inv.pinned {size : Nat} {P : Nat → Bool} {S : St} {C : Ca} (h : Inv size P S C) (hw : C.Wf S.nb) : ∀ i ∈ C.L, P i.n = true → i.pins ≠ 0 := fun i hi hP => by
  obtain ⟨_, k, hk, e1, e2⟩ := h.pin _ hP
  have h1 := Ca.item_of hw hi
  have h2 := Ca.item_of hw hk
  rw [e1] at h2
  rw [← h1, h2]
  exact e2
/-- How many are pinned, at most. -/
theorem Inv.le {size : Nat} {P : Nat → Bool} {S : St} {C : Ca} (h : Inv size P S C) : cnt P ≤ C.L.length := by
  have := sub_len (A := (List.range 40).filter P) (B := C.L.map It.n) (cnt_nodup P) (fun n hn => by
    obtain ⟨_, i, hi, e, _⟩ := h.pin n (List.mem_filter.1 hn).2
    rw [← e]; exact List.mem_map_of_mem hi)
  simpa [cnt] using this
/-- None goes. -/
theorem Inv.none {size : Nat} {P : Nat → Bool} {S : St} {C : Ca} (h : Inv size P S C) (hw : C.Wf S.nb) (hc : cnt P = size) : C.goes = none ∧ C.L.length = C.size ∧ ∀ n, P n = false → C.has n = false := by
  have hle := h.le
  have hf := hw.few
  rw [h.size] at hf
  have hlen : C.L.length = size := by omega
  have hall : ∀ i ∈ C.L, P i.n = true := fun i hi => by
    cases e : P i.n with
    | true => rfl
    | false =>
      exfalso
      have h2 := sub_len (A := i.n :: (List.range 40).filter P) (B := C.L.map It.n) (List.nodup_cons.2 ⟨fun hm => (by have := (List.mem_filter.1 hm).2; rw [e] at this; cases this), cnt_nodup P⟩) (fun n hn => by
        rcases List.mem_cons.1 hn with e2 | e2
        · rw [e2]; exact List.mem_map_of_mem hi
        · obtain ⟨_, k, hk, e3, _⟩ := h.pin n (List.mem_filter.1 e2).2
          rw [← e3]; exact List.mem_map_of_mem hk)
      have h3 : cnt P + 1 ≤ C.L.length := by simpa [cnt] using h2
      omega
  refine ⟨?_, by rw [h.size]; exact hlen, fun n hn => Ca.not_has (fun i hi e => ?_)⟩
  · unfold Ca.goes
    rw [List.find?_eq_none]
    intro i hi
    have := h.pinned hw i hi (hall i hi)
    simpa using this
  · have := hall i hi
    rw [e, hn] at this; cases this
/-- One goes. -/
theorem Inv.some {size : Nat} {P : Nat → Bool} {S : St} {C : Ca} (h : Inv size P S C) (hw : C.Wf S.nb) (hc : cnt P < size) (hl : C.L.length = C.size) : ∃ g, C.goes = some g ∧ g ∈ C.L ∧ P g.n = false ∧ cleanE S g = 0 ∧ cleanS S g = S := by
  cases hg : C.goes with
  | none =>
    exfalso
    have hall : ∀ i ∈ C.L, P i.n = true := fun i hi => by
      cases e : P i.n with
      | true => rfl
      | false =>
        have h0 := h.un i hi e
        have := List.find?_eq_none.1 hg i hi
        simp [h0] at this
    have h2 := sub_len (A := C.L.map It.n) (B := (List.range 40).filter P) hw.uniq (fun n hn => by
      obtain ⟨i, hi, rfl⟩ := List.mem_map.1 hn
      have := hw.lt i hi
      rw [h.nb] at this
      exact List.mem_filter.2 ⟨List.mem_range.2 this, hall i hi⟩)
    have h3 : C.L.length ≤ cnt P := by simpa [cnt] using h2
    rw [hl, h.size] at h3
    omega
  | some g =>
    obtain ⟨h1, h2⟩ := Ca.goes_mem hg
    refine ⟨g, rfl, h1, ?_, ?_, ?_⟩
    · cases e : P g.n with
      | false => rfl
      | true => exact absurd h2 (h.pinned hw g h1 e)
    · unfold cleanE; rw [h.cl g h1]; rfl
    · unfold cleanS; rw [h.cl g h1]; rfl
/-- A use of a block: what it does to the items. -/
theorem Inv.used {size : Nat} {P : Nat → Bool} {S : St} {C : Ca} (h : Inv size P S C) (hw : C.Wf S.nb) {n : Nat} (hn : n < 40) (hP : P n = true ∨ cnt P < size) (fb : List Int) :
    ∃ C', use S C n 0 fb = ⟨0, S, C'⟩ ∧ C'.size = size ∧ ∃ ys k, C'.L = ys ++ [k] ∧ k.n = n ∧ k.dirty = false ∧ (∀ i ∈ ys, i ∈ C.L ∧ i.n ≠ n) ∧ (∀ i ∈ C.L, P i.n = true → i ∈ C'.L) ∧ (k ∈ C.L ∨ (k.pins = 0 ∧ C.has n = false)) := by
  have hnb : n < S.nb := by rw [h.nb]; exact hn
  cases hh : C.has n with
  | true =>
    obtain ⟨i, hi, e⟩ := Ca.has_iff.1 hh
    obtain ⟨xs, ys, e2⟩ := List.append_of_mem hi
    have hf := Ca.filter_eq hw.uniq e2
    rw [e] at hf
    refine ⟨C.hit n, use_hit 0 fb hnb hh, h.size, (C.L.filter fun i => i.n != n), i, ?_, e, h.cl i hi, fun j hj => ?_, fun j hj _ => ?_, .inl hi⟩
    · show _ ++ (C.L.filter fun i => i.n == n) = _
      rw [hf.2]
    · have := List.mem_filter.1 hj
      exact ⟨this.1, by simpa using this.2⟩
    · show j ∈ (C.L.filter fun i => i.n != n) ++ (C.L.filter fun i => i.n == n)
      by_cases e3 : j.n = n
      · exact List.mem_append_right _ (List.mem_filter.2 ⟨hj, by simpa using e3⟩)
      · exact List.mem_append_left _ (List.mem_filter.2 ⟨hj, by simpa using e3⟩)
  | false =>
    have hPn : P n = false := by
      cases e : P n with
      | false => rfl
      | true =>
        obtain ⟨_, i, hi, e2, _⟩ := h.pin n e
        have := Ca.has_iff.2 ⟨i, hi, e2⟩
        rw [hh] at this; cases this
    have hc : cnt P < size := by
      rcases hP with e | e
      · rw [hPn] at e; cases e
      · exact e
    have hno : ∀ i ∈ C.L, i.n ≠ n := fun i hi e => by
      have := Ca.has_iff.2 ⟨i, hi, e⟩
      rw [hh] at this; cases this
    by_cases hl : C.L.length = C.size
    · obtain ⟨g, h1, h2, h3, h4, h5⟩ := h.some hw hc hl
      refine ⟨(C.out g.n).add n fb, by rw [use_goes hnb hh hl h1 h4, h5], h.size, (C.L.filter fun i => i.n != g.n), ⟨n, fb, false, 0⟩, rfl, rfl, rfl, fun j hj => ?_, fun j hj hPj => ?_, .inr ⟨rfl, rfl⟩⟩
      · have := (List.mem_filter.1 hj).1
        exact ⟨this, hno j this⟩
      · refine List.mem_append_left _ (List.mem_filter.2 ⟨hj, ?_⟩)
        have : j.n ≠ g.n := fun e => by rw [e, h3] at hPj; cases hPj
        simpa using this
    · exact ⟨C.add n fb, use_room hnb hh hl, h.size, C.L, ⟨n, fb, false, 0⟩, rfl, rfl, rfl, fun j hj => ⟨hj, hno j hj⟩, fun j hj _ => List.mem_append_left _ hj, .inr ⟨rfl, rfl⟩⟩
/-- Pin of a block that may be. -/
theorem Inv.pinOk {size : Nat} {P : Nat → Bool} {S : St} {C : Ca} (h : Inv size P S C) (hw : C.Wf S.nb) {n : Nat} (hn : n < 32) (hP : P n = true ∨ cnt P < size) :
    ∃ C', _root_.Go.Proofs.Ytioloobeakjbeaa.pin S C n = ⟨0, S, C'⟩ ∧ Inv size (upd P n true) S C' := by
  have hnb : n < S.nb := by rw [h.nb]; omega
  obtain ⟨C1, h1, h2, ys, k, h3, h4, h5, h6, h7, h8⟩ := h.used hw (by omega : n < 40) hP (S.last n)
  have hget : _root_.Go.Proofs.Ytioloobeakjbeaa.get S C n = ⟨0, S, C1⟩ := by rw [get_eq h.pw hnb, h1]
  refine ⟨C1.last fun i => { i with pins := i.pins + 1 }, ?_, ?_⟩
  · unfold _root_.Go.Proofs.Ytioloobeakjbeaa.pin
    rw [hget, if_neg (by simp)]
  · have hL : (C1.last fun i => { i with pins := i.pins + 1 }).L = ys ++ [{ k with pins := k.pins + 1 }] := by show modLast _ C1.L = _; rw [h3, modLast_snoc]
    refine ⟨h.pw, h.nb, h2, fun x hx => ?_, fun i hi hPi => ?_, fun i hi => ?_⟩
    · by_cases e : x = n
      · subst e
        exact ⟨hn, { k with pins := k.pins + 1 }, by rw [hL]; simp, h4, Nat.succ_ne_zero _⟩
      · rw [upd_other _ _ e] at hx
        obtain ⟨q1, i, q2, q3, q4⟩ := h.pin x hx
        have q5 := h7 i q2 (by rw [q3]; exact hx)
        rw [h3] at q5
        rcases List.mem_append.1 q5 with q6 | q6
        · exact ⟨q1, i, by rw [hL]; exact List.mem_append_left _ q6, q3, q4⟩
        · simp at q6
          rw [q6, h4] at q3
          exact absurd q3.symm e
    · rw [hL] at hi
      rcases List.mem_append.1 hi with e | e
      · obtain ⟨e1, e2⟩ := h6 i e
        rw [upd_other _ _ e2] at hPi
        exact h.un i e1 hPi
      · simp at e
        subst e
        rw [show ({ k with pins := k.pins + 1 } : It).n = n from h4, upd_same] at hPi
        cases hPi
    · rw [hL] at hi
      rcases List.mem_append.1 hi with e | e
      · exact h.cl i (h6 i e).1
      · simp at e; subst e; exact h5
/-- Get of a block that is not pinned. -/
theorem Inv.getOk {size : Nat} {P : Nat → Bool} {S : St} {C : Ca} (h : Inv size P S C) (hw : C.Wf S.nb) {n : Nat} (h0 : 32 ≤ n) (hn : n < 40) (hc : cnt P < size) :
    ∃ C', _root_.Go.Proofs.Ytioloobeakjbeaa.get S C n = ⟨0, S, C'⟩ ∧ Inv size P S C' := by
  have hnb : n < S.nb := by rw [h.nb]; omega
  have hPn : P n = false := by
    cases e : P n with
    | false => rfl
    | true => have := (h.pin n e).1; omega
  obtain ⟨C1, h1, h2, ys, k, h3, h4, h5, h6, h7, h8⟩ := h.used hw hn (.inr hc) (S.last n)
  refine ⟨C1, by rw [get_eq h.pw hnb, h1], h.pw, h.nb, h2, fun x hx => ?_, fun i hi hPi => ?_, fun i hi => ?_⟩
  · obtain ⟨q1, i, q2, q3, q4⟩ := h.pin x hx
    exact ⟨q1, i, h7 i q2 (by rw [q3]; exact hx), q3, q4⟩
  · rw [h3] at hi
    rcases List.mem_append.1 hi with e | e
    · exact h.un i (h6 i e).1 hPi
    · simp at e
      subst e
      rcases h8 with e | e
      · exact h.un i e hPi
      · exact e.1
  · rw [h3] at hi
    rcases List.mem_append.1 hi with e | e
    · exact h.cl i (h6 i e).1
    · simp at e; subst e; exact h5
/-- All are pinned: it is busy. -/
theorem Inv.busy {size : Nat} {P : Nat → Bool} {S : St} {C : Ca} (h : Inv size P S C) (hw : C.Wf S.nb) {n : Nat} (hn : n < 40) (hPn : P n = false) (hc : cnt P = size) : _root_.Go.Proofs.Ytioloobeakjbeaa.get S C n = ⟨13, S, C⟩ ∧ _root_.Go.Proofs.Ytioloobeakjbeaa.pin S C n = ⟨13, S, C⟩ := by
  have hnb : n < S.nb := by rw [h.nb]; omega
  obtain ⟨h1, h2, h3⟩ := h.none hw hc
  have hh := h3 n hPn
  have hg : _root_.Go.Proofs.Ytioloobeakjbeaa.get S C n = ⟨13, S, C⟩ := by
    rw [get_eq h.pw hnb]
    unfold use
    rw [if_neg (by omega), Int.toNat_natCast, if_neg (by rw [hh]; decide)]
    unfold miss
    rw [if_pos h2, h1]
  refine ⟨hg, ?_⟩
  unfold _root_.Go.Proofs.Ytioloobeakjbeaa.pin
  rw [hg, if_pos (by simp)]
/-- What is held, of those that are pinned. -/
theorem Inv.held {size : Nat} {P : Nat → Bool} {S : St} {C : Ca} (h : Inv size P S C) : ((C.held 40).filter P).length = cnt P := by
  unfold Ca.held cnt
  rw [List.filter_filter]
  congr 1
  refine List.filter_congr (fun n _ => ?_)
  cases hP : P n with
  | false => rfl
  | true =>
    obtain ⟨_, i, hi, e, _⟩ := h.pin n hP
    rw [Ca.has_iff.2 ⟨i, hi, e⟩]; rfl
end Pins
open Pins

/-- Block q is an array of 40 bools. -/
def Arr (W : World) (q : Nat) (P : Nat → Bool) : Prop := ∃ cs : Array Value, W.heap[q]? = some (.cells cs 66 (0, 0)) ∧ cs.size = 40 ∧ ∀ n, n < 40 → cs[n]? = some (.bool (P n))
theorem Arr.cell {W : World} {q : Nat} {P : Nat → Bool} (h : Arr W q P) {n : Nat} (hn : n < 40) : W.cell? ⟨q, n, none⟩ = some (.bool (P n)) ∧ W.frozen? ⟨q, n, none⟩ = false := by
  obtain ⟨cs, h1, h2, h3⟩ := h
  exact ⟨by rw [cell_of_row W q n _ _ _ h1]; exact h3 n hn, by simp [World.frozen?, h1]⟩
theorem Arr.lt {W : World} {q : Nat} {P : Nat → Bool} (h : Arr W q P) : q < W.heap.size := by
  obtain ⟨cs, h1, _⟩ := h
  exact (Array.getElem?_eq_some_iff.1 h1).1
theorem Arr.kept {E : Nat → Prop} {W W' : World} {q : Nat} {P : Nat → Bool} (h : Arr W q P) (hc : Chg E W W') (hE : ¬ E q) : Arr W' q P := by
  have hl := h.lt
  obtain ⟨cs, h1, h2⟩ := h
  exact ⟨cs, (hc.block q hl hE).trans h1, h2⟩
theorem Arr.set {W : World} {q : Nat} {P : Nat → Bool} (h : Arr W q P) {n : Nat} (hn : n < 40) : Arr (W.setCell ⟨q, n, none⟩ (.bool true)) q (upd P n true) := by
  obtain ⟨cs, h1, h2, h3⟩ := h
  refine ⟨_, heap_setCell_same W q n _ _ (.bool true) h1, by simpa using h2, fun k hk => ?_⟩
  by_cases e : k = n
  · subst e
    rw [upd_same, Array.getElem?_setIfInBounds, if_pos rfl, if_pos (by rw [h2]; exact hk)]
  · rw [upd_other _ _ e, Array.getElem?_setIfInBounds, if_neg (fun e2 => e e2.symm)]
    exact h3 k hk
theorem Arr.new (w : World) : Arr (w.alloc (.cells #[Value.bool false, Value.bool false, Value.bool false, Value.bool false, Value.bool false, Value.bool false, Value.bool false, Value.bool false, Value.bool false, Value.bool false, Value.bool false, Value.bool false, Value.bool false, Value.bool false, Value.bool false, Value.bool false, Value.bool false, Value.bool false, Value.bool false, Value.bool false, Value.bool false, Value.bool false, Value.bool false, Value.bool false, Value.bool false, Value.bool false, Value.bool false, Value.bool false, Value.bool false, Value.bool false, Value.bool false, Value.bool false, Value.bool false, Value.bool false, Value.bool false, Value.bool false, Value.bool false, Value.bool false, Value.bool false, Value.bool false] 66)) w.heap.size (fun _ => false) := by
  refine ⟨_, heap_alloc_new w _, rfl, fun n hn => ?_⟩
  have h : n = 0 ∨ n = 1 ∨ n = 2 ∨ n = 3 ∨ n = 4 ∨ n = 5 ∨ n = 6 ∨ n = 7 ∨ n = 8 ∨ n = 9 ∨ n = 10 ∨ n = 11 ∨ n = 12 ∨ n = 13 ∨ n = 14 ∨ n = 15 ∨ n = 16 ∨ n = 17 ∨ n = 18 ∨ n = 19 ∨ n = 20 ∨ n = 21 ∨ n = 22 ∨ n = 23 ∨ n = 24 ∨ n = 25 ∨ n = 26 ∨ n = 27 ∨ n = 28 ∨ n = 29 ∨ n = 30 ∨ n = 31 ∨ n = 32 ∨ n = 33 ∨ n = 34 ∨ n = 35 ∨ n = 36 ∨ n = 37 ∨ n = 38 ∨ n = 39 := by omega
  rcases h with rfl | rfl | rfl | rfl | rfl | rfl | rfl | rfl | rfl | rfl | rfl | rfl | rfl | rfl | rfl | rfl | rfl | rfl | rfl | rfl | rfl | rfl | rfl | rfl | rfl | rfl | rfl | rfl | rfl | rfl | rfl | rfl | rfl | rfl | rfl | rfl | rfl | rfl | rfl | rfl <;> rfl
/-- The array, apart from the disk and the cache. -/
structure Side (F G : Nat → Prop) (W : World) (q : Nat) (P : Nat → Bool) : Prop where
  arr : Arr W q P
  f : ¬ F q
  g : ¬ G q
theorem Side.to {F G F' G' : Nat → Prop} {W W' : World} {q : Nat} {P : Nat → Bool} (h : Side F G W q P) (k : Gr F G W W' F' G') : Side F' G' W' q P := by
  have hl := h.arr.lt
  refine ⟨h.arr.kept k.chg (fun e => ?_), fun e => ?_, fun e => ?_⟩
  · rcases e with e | e
    · exact h.f e
    · exact h.g e
  · rcases k.f q e with e | e
    · exact h.f e
    · omega
  · rcases k.g q e with e | e
    · exact h.g e
    · omega

/-- A store into the array. -/
theorem side_set {F G : Nat → Prop} {w W : World} {q c p n : Nat} {P : Nat → Bool} {S : St} {C : Ca} (hq : w.heap.size ≤ q) (h : Cc W F G c p S C) (hn : Nw F G w W) (hs : Side F G W q P) (hn40 : n < 40) :
    Cc (W.setCell ⟨q, n, none⟩ (.bool true)) F G c p S C ∧ Nw F G w (W.setCell ⟨q, n, none⟩ (.bool true)) ∧ Side F G (W.setCell ⟨q, n, none⟩ (.bool true)) q (upd P n true) := by
  have hc : Chg (fun b => b = q) W (W.setCell ⟨q, n, none⟩ (.bool true)) := Chg.setCell _ _ _ rfl
  refine ⟨h.kept hc (fun b hb e => ?_), ⟨hn.chg.trans hc (fun i hi e => by omega), hn.f⟩, hs.arr.set hn40, hs.f, hs.g⟩
  subst e
  rcases hb with e | e
  · exact hs.f e
  · exact hs.g e

set_option maxHeartbeats 6400000 in
set_option maxRecDepth 100000 in
theorem law_pins (sz : Int) (v1 v2 : Value) (l1 l2 : List Int) (w : World) (hv1 : Is w v1 l1) (hv2 : Is w v2 l2) : Calls Try.prog 5 #[.int .i64 sz, v1, v2] w fun e w' => e = .returned (.bool true) ∧ Chg (fun _ => False) w w' := by
  obtain ⟨va1, vc1, hvf1, _⟩ := hv1.form
  obtain ⟨va2, vc2, hvf2, _⟩ := hv2.form
  subst hvf1 hvf2
  have HV : Hid (Is w (.slice va1 l1.length vc1) l1 ∧ Is w (.slice va2 l2.length vc2) l2) := ⟨hv1, hv2⟩
  clear hv1 hv2
  go_enter Try.func5, Try.ntmps5
  go_wp2_with fail
  refine (known_any w).mono ?_
  rintro e w0 ⟨rfl, hc0⟩
  have HC0 : Hid (Chg (fun _ => False) w w0) := hc0
  clear hc0
  by_cases hbad : sz < 1 ∨ 20 < sz ∨ 20 < l1.length ∨ 100 < l2.length
  · by_cases b1 : sz < 1
    · have k1 : decide (sz < 1) = true := by simpa using b1
      clear hbad b1
      go_wp2
      go_ret
      exact ⟨rfl, HC0.out⟩
    have k1 : decide (sz < 1) = false := by simpa using b1
    by_cases b2 : 20 < sz
    · have k2 : decide (20 < sz) = true := by simpa using b2
      clear hbad b1 b2
      go_wp2
      go_ret
      exact ⟨rfl, HC0.out⟩
    have k2 : decide (20 < sz) = false := by simpa using b2
    by_cases b3 : 20 < l1.length
    · have k3 : decide ((20 : Int) < (l1.length : Int)) = true := by simp; omega
      clear hbad b1 b2 b3
      go_wp2
      go_ret
      exact ⟨rfl, HC0.out⟩
    have k3 : decide ((20 : Int) < (l1.length : Int)) = false := by simp; omega
    have k4 : decide ((100 : Int) < (l2.length : Int)) = true := by simp; omega
    clear hbad b1 b2 b3
    go_wp2
    go_ret
    exact ⟨rfl, HC0.out⟩
  obtain ⟨size, rfl⟩ := Int.eq_ofNat_of_zero_le (show 0 ≤ sz by omega)
  have k1 : decide ((size : Int) < 1) = false := by simp; omega
  have k2 : decide (20 < (size : Int)) = false := by simp; omega
  have k3 : decide ((20 : Int) < (l1.length : Int)) = false := by simp; omega
  have k4 : decide ((100 : Int) < (l2.length : Int)) = false := by simp; omega
  have hs1 : 0 < size := by omega
  have hs2 : size ≤ 20 := by omega
  have hl1 : l1.length ≤ 20 := by omega
  have hl2 : l2.length ≤ 100 := by omega
  clear hbad
  go_wp2_with fail
  refine (new_ok 40 w0 (by decide) (by decide)).mono ?_
  rintro e w1 ⟨F, p, rfl, h1, hc1, hF⟩
  have H1 : Hid (Dk w1 F p (St.new 40) ∧ Chg (fun _ => False) w0 w1 ∧ ∀ b, F b → w0.heap.size ≤ b) := ⟨h1, hc1, hF⟩
  clear h1 hc1 hF k1 k2 k3 k4
  go_wp2_with fail
  refine (cnew_ok p size 40 w1 hs1 (by omega) (by decide)).mono ?_
  rintro e w2 ⟨c, G, m, r, nd, rfl, h2, hc2, hG⟩
  have h20 := Cc.start H1.out.1 H1.out.2.1 H1.out.2.2 h2 hc2 hG
  have hs0 := HC0.out.size
  have H2 : Hid (Cc w2 F G c p (St.new 40) (Ca.new size) ∧ Nw F G w w2) := ⟨h20.1, HC0.out.trans h20.2.chg (fun _ _ h => h), fun b hb => by have := h20.2.f b hb; omega⟩
  have hq := eq32_some' ⟨c, 0, none⟩
  clear h2 hc2 hG H1 h20 hs0
  obtain ⟨w3, hw3⟩ : ∃ w3, w2.alloc (.cells #[Value.bool false, Value.bool false, Value.bool false, Value.bool false, Value.bool false, Value.bool false, Value.bool false, Value.bool false, Value.bool false, Value.bool false, Value.bool false, Value.bool false, Value.bool false, Value.bool false, Value.bool false, Value.bool false, Value.bool false, Value.bool false, Value.bool false, Value.bool false, Value.bool false, Value.bool false, Value.bool false, Value.bool false, Value.bool false, Value.bool false, Value.bool false, Value.bool false, Value.bool false, Value.bool false, Value.bool false, Value.bool false, Value.bool false, Value.bool false, Value.bool false, Value.bool false, Value.bool false, Value.bool false, Value.bool false, Value.bool false] 66) = w3 := ⟨_, rfl⟩
  have H3 : Hid (Cc w3 F G c p (St.new 40) (Ca.new size) ∧ Nw F G w w3 ∧ Side F G w3 w2.heap.size (fun _ => false)) := by
    have hc : Chg (fun _ => False) w2 w3 := by rw [← hw3]; exact Chg.alloc _ _ _
    refine ⟨H2.out.1.kept hc (fun _ _ h => h), H2.out.2.more hc, by rw [← hw3]; exact Arr.new w2, fun e => ?_, fun e => ?_⟩
    · have := H2.out.1.lt _ (.inl e); omega
    · have := H2.out.1.lt _ (.inr e); omega
  obtain ⟨q, hqq⟩ : ∃ q, w2.heap.size = q := ⟨_, rfl⟩
  have HQ : Hid (w.heap.size ≤ q) := (show w.heap.size ≤ q by rw [← hqq]; exact H2.out.2.chg.size)
  rw [hqq] at H3
  have hc0 : cnt (fun _ => false) = 0 := rfl
  go_wp2_with fail
  clear hw3 H2
  go_loopg [11, 13, 14, 15] (l1.length) (fun gg h x _ _ wr => ∃ (j : Nat) (P : Nat → Bool) (F G : Nat → Prop) (C : Ca), j ≤ l1.length ∧ x = .int .i64 (j : Int) ∧ h = .int .i64 ((cnt P : Nat) : Int) ∧ cnt P ≤ size ∧ l1.length - j ≤ gg ∧ Hid (Cc wr F G c p (St.new 40) C ∧ Nw F G w wr ∧ Inv size P (St.new 40) C ∧ Side F G wr q P ∧ C.hits + C.misses ≤ j ∧ C.evicted ≤ j))
  case atStart => exact ⟨0, fun _ => false, F, G, _, Nat.zero_le _, rfl, by rw [hc0]; rfl, by rw [hc0]; exact Nat.zero_le _, by omega, H3.out.1, H3.out.2.1, Inv.new, H3.out.2.2, Nat.le_refl _, Nat.le_refl _⟩
  case round =>
    clear H3 hc0
    obtain ⟨j, P, F, G, C, hj, rfl, rfl, hcs, hgg, HX⟩ := hrel
    by_cases hlt : j < l1.length
    · have k1 : decide ((j : Int) < (l1.length : Int)) = true := by simp; omega
      have k1' : (j : Int) < (l1.length : Int) := by omega
      obtain ⟨vb, vo, hva, hcs1⟩ := (HV.out.1.kept HX.out.2.1.chg (fun _ _ h => h)).nth hlt
      have hcell := hcs1 j hlt
      subst hva
      generalize l1.getD j 0 = x at *
      obtain ⟨n, hn⟩ : ∃ n : Nat, x % 32 = (n : Int) := ⟨(x % 32).toNat, by omega⟩
      have hn32 : n < 32 := by omega
      have hand : bits .and .i64 x 31 = (n : Int) := by rw [and31, hn]
      have hb := HX.out.2.2.2.2
      have hpf := pin_full (S := St.new 40) (C := C) (n : Int) HX.out.1.wf.1 HX.out.1.wf.2
      have HPF : Hid (Good (St.new 40) C 1 (_root_.Go.Proofs.Ytioloobeakjbeaa.pin (St.new 40) C n)) := hpf
      clear hcs1 hn hpf
      go_wp2_with fail
      refine (pin_any F G c p (St.new 40) C n wr HX.out.1 (by decide) (by omega) (by omega)).mono ?_
      rintro e w4 ⟨rfl, F4, G4, h4, g4⟩
      have H4 : Hid (Cc w4 F4 G4 c p (_root_.Go.Proofs.Ytioloobeakjbeaa.pin (St.new 40) C n).S (_root_.Go.Proofs.Ytioloobeakjbeaa.pin (St.new 40) C n).C ∧ Nw F4 G4 w w4 ∧ Side F4 G4 w4 q P) := ⟨h4, HX.out.2.1.to g4, HX.out.2.2.2.1.to g4⟩
      obtain ⟨ac, af⟩ := H4.out.2.2.arr.cell (show n < 40 by omega)
      have hn40 : (n : Int) < 40 := by omega
      clear h4 g4 hcell hand
      by_cases hP : P n = true
      · obtain ⟨C', hpin, hinv⟩ := HX.out.2.2.1.pinOk HX.out.1.wf.2 hn32 (.inl hP)
        have hup : upd P n true = P := by
          funext k
          by_cases e : k = n
          · rw [e, upd_same, hP]
          · rw [upd_other _ _ e]
        rw [hup] at hinv
        have HN : Hid (_root_.Go.Proofs.Ytioloobeakjbeaa.pin (St.new 40) C n = ⟨0, St.new 40, C'⟩ ∧ Inv size P (St.new 40) C' ∧ upd P n true = P) := ⟨hpin, hinv, hup⟩
        rw [hP] at ac
        have e0 : (_root_.Go.Proofs.Ytioloobeakjbeaa.pin (St.new 40) C n).e = 0 := by rw [hpin]
        rw [e0]
        clear hpin hinv hup hP e0
        go_wp2
        go_roundg (l1.length - (j + 1))
        case measure => omega
        case rel =>
          have hs := side_set HQ.out H4.out.1 H4.out.2.1 H4.out.2.2 (show n < 40 by omega)
          have hpf := HPF.out
          rw [HN.out.2.2] at hs
          rw [HN.out.1] at hs hpf
          exact ⟨j + 1, P, F4, G4, C', by omega, by go_num, rfl, hcs, Nat.le_refl _, hs.1, hs.2.1, HN.out.2.1, hs.2.2, by have := hpf.uses; simp at this; omega, by have := hpf.ev; simp at this; omega⟩
      · have hPf : P n = false := by simpa using hP
        rw [hPf] at ac
        by_cases hc : cnt P < size
        · have k2 : decide (((cnt P : Nat) : Int) < (size : Int)) = true := by simp; omega
          obtain ⟨C', hpin, hinv⟩ := HX.out.2.2.1.pinOk HX.out.1.wf.2 hn32 (.inr hc)
          have hcu := cnt_upd (P := P) (show n < 40 by omega) hPf
          have HN : Hid (_root_.Go.Proofs.Ytioloobeakjbeaa.pin (St.new 40) C n = ⟨0, St.new 40, C'⟩ ∧ Inv size (upd P n true) (St.new 40) C' ∧ cnt (upd P n true) = cnt P + 1) := ⟨hpin, hinv, hcu⟩
          have e0 : (_root_.Go.Proofs.Ytioloobeakjbeaa.pin (St.new 40) C n).e = 0 := by rw [hpin]
          rw [e0]
          have hcs20 : cnt P < 20 := by omega
          clear hpin hinv hcu hP hPf e0
          generalize hcp : cnt P = cp at *
          go_wp2
          go_roundg (l1.length - (j + 1))
          case measure => omega
          case rel =>
            have hs := side_set HQ.out H4.out.1 H4.out.2.1 H4.out.2.2 (show n < 40 by omega)
            have hpf := HPF.out
            rw [HN.out.1] at hs hpf
            exact ⟨j + 1, upd P n true, F4, G4, C', by omega, by go_num, by rw [HN.out.2.2]; go_num, by rw [HN.out.2.2]; omega, Nat.le_refl _, hs.1, hs.2.1, HN.out.2.1, hs.2.2, by have := hpf.uses; simp at this; omega, by have := hpf.ev; simp at this; omega⟩
        · have k2 : decide (((cnt P : Nat) : Int) < (size : Int)) = false := by simp; omega
          obtain ⟨_, hpin⟩ := HX.out.2.2.1.busy HX.out.1.wf.2 (show n < 40 by omega) hPf (by omega)
          have HN : Hid (_root_.Go.Proofs.Ytioloobeakjbeaa.pin (St.new 40) C n = ⟨13, St.new 40, C⟩) := hpin
          have e0 : (_root_.Go.Proofs.Ytioloobeakjbeaa.pin (St.new 40) C n).e = 13 := by rw [hpin]
          rw [e0]
          clear hpin hP hPf e0
          generalize hcp : cnt P = cp at *
          go_wp2
          go_roundg (l1.length - (j + 1))
          case measure => omega
          case rel =>
            have h4 := H4.out
            rw [HN.out] at h4
            exact ⟨j + 1, P, F4, G4, C, by omega, by go_num, by rw [hcp], by rw [hcp]; exact hcs, Nat.le_refl _, h4.1, h4.2.1, HX.out.2.2.1, h4.2.2, by omega, by omega⟩
    · have hje : j = l1.length := by omega
      subst hje
      have k1 : decide ((l1.length : Int) < (l1.length : Int)) = false := by simp
      go_wp2_with fail
      go_loopg [16, 17, 18, 19] (l2.length) (fun gg x _ _ _ wr => ∃ (j : Nat) (F G : Nat → Prop) (C : Ca), j ≤ l2.length ∧ x = .int .i64 (j : Int) ∧ l2.length - j ≤ gg ∧ Hid (Cc wr F G c p (St.new 40) C ∧ Nw F G w wr ∧ Inv size P (St.new 40) C ∧ Side F G wr q P ∧ C.hits + C.misses ≤ 20 + j ∧ C.evicted ≤ 20 + j))
      case atStart => exact ⟨0, F, G, C, Nat.zero_le _, rfl, by omega, HX.out.1, HX.out.2.1, HX.out.2.2.1, HX.out.2.2.2.1, by have := HX.out.2.2.2.2; omega, by have := HX.out.2.2.2.2; omega⟩
      case round =>
        clear HX
        obtain ⟨j, F, G, C, hj, rfl, hgg, HX⟩ := hrel
        by_cases hlt : j < l2.length
        · have k1 : decide ((j : Int) < (l2.length : Int)) = true := by simp; omega
          have k1' : (j : Int) < (l2.length : Int) := by omega
          obtain ⟨vb, vo, hva, hcs1⟩ := (HV.out.2.kept HX.out.2.1.chg (fun _ _ h => h)).nth hlt
          have hcell := hcs1 j hlt
          subst hva
          generalize l2.getD j 0 = x at *
          obtain ⟨n, hn⟩ : ∃ n : Nat, x % 8 = (n : Int) := ⟨(x % 8).toNat, by omega⟩
          have hn8 : n < 8 := by omega
          have hand : bits .and .i64 x 7 = (n : Int) := by rw [and7, hn]
          have hb := HX.out.2.2.2.2
          have hpf := get_full (S := St.new 40) (C := C) ((32 + n : Nat) : Int) HX.out.1.wf.1 HX.out.1.wf.2
          have HPF : Hid (Good (St.new 40) C 1 (_root_.Go.Proofs.Ytioloobeakjbeaa.get (St.new 40) C ((32 + n : Nat) : Int))) := hpf
          have hPn : P (32 + n) = false := by
            cases e : P (32 + n) with
            | false => rfl
            | true => have := (HX.out.2.2.1.pin _ e).1; omega
          clear hcs1 hn hpf
          go_wp2_with fail
          rw [show (32 : Int) + (n : Int) = ((32 + n : Nat) : Int) by omega]
          refine (get_any F G c p (St.new 40) C ((32 + n : Nat) : Int) wr HX.out.1 (by decide) (by omega) (by omega)).mono ?_
          rintro e w4 ⟨u4, F4, G4, rfl, h4, g4, _, _⟩
          have H4 : Hid (Cc w4 F4 G4 c p (_root_.Go.Proofs.Ytioloobeakjbeaa.get (St.new 40) C ((32 + n : Nat) : Int)).S (_root_.Go.Proofs.Ytioloobeakjbeaa.get (St.new 40) C ((32 + n : Nat) : Int)).C ∧ Nw F4 G4 w w4 ∧ Side F4 G4 w4 q P) := ⟨h4, HX.out.2.1.to g4, HX.out.2.2.2.1.to g4⟩
          clear h4 g4 hcell hand
          by_cases hc : cnt P < size
          · have k2 : decide (((cnt P : Nat) : Int) < (size : Int)) = true := by simp; omega
            obtain ⟨C', hget, hinv⟩ := HX.out.2.2.1.getOk HX.out.1.wf.2 (n := 32 + n) (by omega) (by omega) hc
            have HN : Hid (_root_.Go.Proofs.Ytioloobeakjbeaa.get (St.new 40) C ((32 + n : Nat) : Int) = ⟨0, St.new 40, C'⟩ ∧ Inv size P (St.new 40) C') := ⟨hget, hinv⟩
            have e0 : (_root_.Go.Proofs.Ytioloobeakjbeaa.get (St.new 40) C ((32 + n : Nat) : Int)).e = 0 := by rw [hget]
            rw [e0]
            clear hget hinv e0 hPn
            generalize hcp : cnt P = cp at *
            go_wp2
            go_roundg (l2.length - (j + 1))
            case measure => omega
            case rel =>
              have h4 := H4.out
              have hpf := HPF.out
              rw [HN.out.1] at h4 hpf
              exact ⟨j + 1, F4, G4, C', by omega, by go_num, Nat.le_refl _, h4.1, h4.2.1, HN.out.2, h4.2.2, by have := hpf.uses; simp at this; omega, by have := hpf.ev; simp at this; omega⟩
          · have k2 : decide (((cnt P : Nat) : Int) < (size : Int)) = false := by simp; omega
            obtain ⟨hget, _⟩ := HX.out.2.2.1.busy HX.out.1.wf.2 (n := 32 + n) (by omega) hPn (by omega)
            have HN : Hid (_root_.Go.Proofs.Ytioloobeakjbeaa.get (St.new 40) C ((32 + n : Nat) : Int) = ⟨13, St.new 40, C⟩) := hget
            have e0 : (_root_.Go.Proofs.Ytioloobeakjbeaa.get (St.new 40) C ((32 + n : Nat) : Int)).e = 13 := by rw [hget]
            rw [e0]
            clear hget e0 hPn
            generalize hcp : cnt P = cp at *
            go_wp2
            go_roundg (l2.length - (j + 1))
            case measure => omega
            case rel =>
              have h4 := H4.out
              rw [HN.out] at h4
              exact ⟨j + 1, F4, G4, C, by omega, by go_num, Nat.le_refl _, h4.1, h4.2.1, HX.out.2.2.1, h4.2.2, by omega, by omega⟩
        · have hje : j = l2.length := by omega
          subst hje
          have k1 : decide ((l2.length : Int) < (l2.length : Int)) = false := by simp
          obtain ⟨m, r, ls, nd, hck⟩ := HX.out.1
          have HCA : Hid (CaAt wr G c p 40 C m r ls nd) := hck.ca
          clear hck
          go_wp2_with fail
          refine (held_any G c p 40 C m r ls nd wr HCA.out).mono ?_
          rintro e w4 ⟨v4, rfl, ho4, hc4⟩
          have hlen40 : (C.held 40).length ≤ 40 := by
            have := List.length_filter_le (fun n => C.has n) (List.range 40)
            rwa [List.length_range] at this
          have hmem40 : ∀ n ∈ C.held 40, n < 40 := fun n hn => List.mem_range.1 (List.mem_filter.1 hn).1
          have H4 : Hid (w4.ownsRow wr.heap.size 3 1 v4 (C.held 40).length (icells (C.held 40)) ∧ Nw F G w w4 ∧ Arr w4 q P ∧ ((C.held 40).filter P).length = cnt P ∧ ∀ n ∈ C.held 40, n < 40) := ⟨ho4, HX.out.2.1.more hc4, HX.out.2.2.2.1.arr.kept hc4 (fun h => h), HX.out.2.2.1.held, hmem40⟩
          obtain ⟨a4, cp4, hv4⟩ := own_slice ho4
          clear ho4 hc4 HCA HX hmem40
          subst hv4
          generalize C.held 40 = Z at *
          go_wp2_with fail
          go_loopg [21, 22] (Z.length) (fun gg k x wr => ∃ j : Nat, j ≤ Z.length ∧ x = .int .i64 (j : Int) ∧ k = .int .i64 ((((Z.take j).filter P).length : Nat) : Int) ∧ wr = w4 ∧ Z.length - j ≤ gg)
          case atStart => exact ⟨0, Nat.zero_le _, rfl, rfl, rfl, by omega⟩
          case round =>
            obtain ⟨j, hj, rfl, rfl, rfl, hgg⟩ := hrel
            by_cases hlt : j < Z.length
            · have k1 : decide ((j : Int) < (Z.length : Int)) = true := by simp; omega
              have k1' : (j : Int) < (Z.length : Int) := by omega
              obtain ⟨g, hva⟩ : ∃ g, a4 = some ⟨g, 0, none⟩ := by
                rcases H4.out.1.2 with ⟨e, h0⟩ | ⟨g, cap, cur, e, _⟩
                · omega
                · simp at e; exact ⟨g, e.1⟩
              subst hva
              have hcell := own_cells H4.out.1 j hlt
              have hzm : Z.getD j 0 ∈ Z := by
                have : Z.getD j 0 = Z[j] := by simp [List.getD, hlt]
                rw [this]; exact List.getElem_mem hlt
              have hz40 := H4.out.2.2.2.2 _ hzm
              have htk : Z.take (j + 1) = Z.take j ++ [Z.getD j 0] := by
                rw [List.take_add_one]
                congr 1
                simp [List.getD, hlt]
              obtain ⟨z, hz⟩ : ∃ z, Z.getD j 0 = z := ⟨_, rfl⟩
              rw [hz] at hcell hz40 htk
              have HT : Hid (Z.take (j + 1) = Z.take j ++ [z]) := htk
              obtain ⟨ac, af⟩ := H4.out.2.2.1.cell hz40
              have hz40i : (z : Int) < 40 := by omega
              have hcl : ((Z.take j).filter P).length ≤ 40 := by
                have h1 := List.length_filter_le P (Z.take j)
                rw [List.length_take] at h1
                omega
              clear hzm htk hz
              cases hP : P z with
              | true =>
                have HPZ : Hid (P z = true) := hP
                rw [hP] at ac
                clear hP
                generalize hkk : ((Z.take j).filter P).length = kk at *
                go_wp2
                go_roundg (Z.length - (j + 1))
                case measure => omega
                case rel => exact ⟨j + 1, by omega, by go_num, by rw [HT.out, List.filter_append, List.length_append, hkk, List.filter_cons_of_pos HPZ.out]; go_num, rfl, Nat.le_refl _⟩
              | false =>
                have HPZ : Hid (P z = false) := hP
                rw [hP] at ac
                clear hP
                generalize hkk : ((Z.take j).filter P).length = kk at *
                go_wp2
                go_roundg (Z.length - (j + 1))
                case measure => omega
                case rel => exact ⟨j + 1, by omega, by go_num, by rw [HT.out, List.filter_append, List.length_append, hkk, List.filter_cons_of_neg (by rw [HPZ.out]; decide)]; rfl, rfl, Nat.le_refl _⟩
            · have hje : j = Z.length := by omega
              subst hje
              have k1 : decide ((Z.length : Int) < (Z.length : Int)) = false := by simp
              have hfin : ((Z.take Z.length).filter P).length = cnt P := by rw [List.take_length]; exact H4.out.2.2.2.1
              rw [hfin]
              have HE : Hid (Chg (fun _ => False) w wr) := H4.out.2.1.chg
              clear hfin H4
              generalize cnt P = cp at *
              go_wp2
              go_ret
              exact ⟨by simp, HE.out⟩
end Go.Proofs.Ytioloobeakjbeaa

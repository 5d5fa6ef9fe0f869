/-
  The document's tree and what stands at each path.
-/
import Derived.Test.YtlnjnimenihhnaaGreatDoorVMem
import Derived.Test.YtlnjnimenihhnaaGreatDoorDStr
import Derived.Test.YtlnjnimenihhnaaGreatDoorTFew
import Derived.Test.YtlnjnimenihhnaaGreatDoorTAdd
namespace Go.Proofs.YtlnjnimenihhnaaGreatDoor
open Go.RowKit Go.Maps

/-- Slots es are a directory's of s slots, with the names kn; f tells a name's number. -/
structure Sl (es : List En) (s : Nat) (kn : List ByteArray) (f : ByteArray → Nat) : Prop where
  len : es.length = s
  perm : (namesL es).Perm (kn.map fun x => x.data.toList)
  ino : ∀ e ∈ es, 1 ≤ e.nm.size → e.ino = (f e.nm : Int) + 1
/-- Each path's thing. -/
structure Tie (F : Pth → Option Nd) (R : Rs) (num : Pth → Nat) : Prop where
  root : num [] = 0
  inj : ∀ p q, (F p).isSome = true → (F q).isSome = true → num p = num q → p = q
  fil : ∀ p bs, F p = some (.file bs) → R.at (num p) = .file bs
  dir : ∀ p s kn, F p = some (.dir s kn) → ∃ es, R.at (num p) = .dir es ∧ Sl es s kn (fun x => num (p ++ [x]))
theorem Tie.lt {F : Pth → Option Nd} {R : Rs} {num : Pth → Nat} (h : Tie F R num) {p : Pth} (hp : (F p).isSome = true) : num p < R.L.length := by
  obtain ⟨nd, hn⟩ := Option.isSome_iff_exists.1 hp
  cases nd with
  | file bs => exact at_lt (by rw [h.fil p bs hn]; simp)
  | dir s kn =>
    obtain ⟨es, he, _⟩ := h.dir p s kn hn
    exact at_lt (by rw [he]; simp)
theorem nmEq {a b : ByteArray} : (a.toList == b.toList) = true ↔ a = b := by
  rw [beq_iff_eq, ByteArray.toList_eq, ByteArray.toList_eq]
  exact ⟨toList_inj, fun h => h ▸ rfl⟩
theorem nmNe {a b : ByteArray} : (a.toList == b.toList) = false ↔ ¬ a = b := by
  rw [← nmEq]
  simp
theorem names_mem (es : List En) (x : ByteArray) : x.data.toList ∈ namesL es ↔ 1 ≤ x.size ∧ ∃ e ∈ es, e.nm = x := by
  unfold namesL
  rw [List.mem_map]
  constructor
  · rintro ⟨e, he, h⟩
    rw [List.mem_filter] at he
    have := toList_inj h
    subst this
    exact ⟨of_decide_eq_true he.2, e, he.1, rfl⟩
  · rintro ⟨h1, e, he, rfl⟩
    exact ⟨e, List.mem_filter.2 ⟨he, decide_eq_true h1⟩, rfl⟩
theorem Sl.mem {es : List En} {s : Nat} {kn : List ByteArray} {f : ByteArray → Nat} (h : Sl es s kn f) {x : ByteArray} (hx : 1 ≤ x.size) : x ∈ kn ↔ ∃ e ∈ es, e.nm = x := by
  have h1 := h.perm.mem_iff (a := x.data.toList)
  rw [names_mem] at h1
  constructor
  · intro hk
    exact (h1.2 (List.mem_map.2 ⟨x, hk, rfl⟩)).2
  · intro he
    obtain ⟨y, hy, e⟩ := List.mem_map.1 (h1.1 ⟨hx, he⟩)
    rw [← toList_inj e]; exact hy
/-- Where a name is. -/
theorem Sl.idx {es : List En} {s : Nat} {kn : List ByteArray} {f : ByteArray → Nat} (h : Sl es s kn f) {x : ByteArray} (hx : 1 ≤ x.size) (hk : x ∈ kn) :
    ∃ k : Nat, IdxN es x (k : Int) ∧ k < es.length ∧ (En.at es k).nm = x ∧ (En.at es k).ino = (f x : Int) + 1 := by
  obtain ⟨r, hr⟩ := Idx.ex es x
  rcases hr with ⟨rfl, hn⟩ | ⟨k, rfl, h1, h2, h3⟩
  · obtain ⟨e, he, hex⟩ := (h.mem hx).1 hk
    obtain ⟨j, hj, rfl⟩ := List.mem_iff_getElem.1 he
    have := hn j hj
    rw [nmNe] at this
    exact absurd (by simpa [En.at, List.getD, hj] using hex) this
  · refine ⟨k, .inr ⟨hx, .inr ⟨k, rfl, h1, h2, h3⟩⟩, h1, nmEq.1 h2, ?_⟩
    have e1 := nmEq.1 h2
    have e2 : En.at es k ∈ es := by rw [show En.at es k = es[k] by simp [En.at, List.getD, h1]]; exact List.getElem_mem h1
    have := h.ino _ e2 (by rw [e1]; exact hx)
    rw [e1] at this
    exact this
theorem Sl.idxNo {es : List En} {s : Nat} {kn : List ByteArray} {f : ByteArray → Nat} (h : Sl es s kn f) {x : ByteArray} (hx : 1 ≤ x.size) (hk : ¬ x ∈ kn) : IdxN es x (-1) := by
  refine .inr ⟨hx, .inl ⟨rfl, fun j hj => ?_⟩⟩
  rw [nmNe]
  intro e
  refine hk ((h.mem hx).2 ⟨En.at es j, ?_, e⟩)
  rw [show En.at es j = es[j] by simp [En.at, List.getD, hj]]; exact List.getElem_mem hj
theorem namesL_app (a b : List En) : namesL (a ++ b) = namesL a ++ namesL b := by simp [namesL]
theorem namesL_one (e : En) : namesL [e] = if 1 ≤ e.nm.size then [e.nm.data.toList] else [] := by
  unfold namesL
  by_cases h : 1 ≤ e.nm.size <;> simp [h]
/-- A slot's name, and the others. -/
theorem namesL_cut (es : List En) (k : Nat) (hk : k < es.length) : ∃ rest, (namesL es).Perm (namesL [En.at es k] ++ rest) ∧ ∀ e', (namesL (es.set k e')).Perm (namesL [e'] ++ rest) := by
  have e1 : es = es.take k ++ (En.at es k :: es.drop (k + 1)) := by
    have : En.at es k = es[k] := by simp [En.at, List.getD, hk]
    rw [this, List.getElem_cons_drop, List.take_append_drop]
  have hsh : ∀ e, (namesL (es.take k ++ (e :: es.drop (k + 1)))).Perm (namesL [e] ++ (namesL (es.take k) ++ namesL (es.drop (k + 1)))) := by
    intro e
    have : e :: es.drop (k + 1) = [e] ++ es.drop (k + 1) := rfl
    rw [this, namesL_app, namesL_app, ← List.append_assoc, ← List.append_assoc]
    exact List.Perm.append_right _ List.perm_append_comm
  refine ⟨namesL (es.take k) ++ namesL (es.drop (k + 1)), ?_, fun e' => ?_⟩
  · have := hsh (En.at es k)
    rw [← e1] at this
    exact this
  · have e2 : es.set k e' = es.take k ++ (e' :: es.drop (k + 1)) := by
      conv => lhs; rw [e1]
      rw [List.set_append_right _ _ (by simp; omega)]
      simp [Nat.min_eq_left (Nat.le_of_lt hk)]
    rw [e2]
    exact hsh e'
theorem mem_set {α : Type} {l : List α} {k : Nat} {x e : α} (h : e ∈ l.set k x) : e = x ∨ e ∈ l := (List.mem_or_eq_of_mem_set h).symm
/-- A free slot takes a name; a slot more. -/
theorem Sl.set {es : List En} {s : Nat} {kn : List ByteArray} {f : ByteArray → Nat} (h : Sl es s kn f) {x : ByteArray} (hx : 1 ≤ x.size) {k : Nat} (hk : k < es.length) (h0 : ¬ 1 ≤ (En.at es k).nm.size) (i : Int) {g : ByteArray → Nat} (hi : i = (g x : Int) + 1) (hg : ∀ y ∈ kn, g y = f y) : Sl (es.set k ⟨x, i⟩) s (x :: kn) g := by
  obtain ⟨rest, h1, h2⟩ := namesL_cut es k hk
  refine ⟨by rw [List.length_set]; exact h.len, ?_, fun e he hs => ?_⟩
  · have h3 := h2 ⟨x, i⟩
    rw [namesL_one, if_pos (show 1 ≤ (⟨x, i⟩ : En).nm.size from hx)] at h3
    rw [namesL_one, if_neg h0] at h1
    refine h3.trans ?_
    rw [List.map_cons, List.singleton_append]
    exact (h1.symm.trans h.perm).cons _
  · rcases mem_set he with rfl | he
    · exact hi
    · rw [h.ino e he hs, hg]
      exact (h.mem hs).2 ⟨e, he, rfl⟩
theorem Sl.app {es : List En} {s : Nat} {kn : List ByteArray} {f : ByteArray → Nat} (h : Sl es s kn f) {x : ByteArray} (hx : 1 ≤ x.size) (i : Int) {g : ByteArray → Nat} (hi : i = (g x : Int) + 1) (hg : ∀ y ∈ kn, g y = f y) : Sl (es ++ [⟨x, i⟩]) (s + 1) (x :: kn) g := by
  refine ⟨by simp [h.len], ?_, fun e he hs => ?_⟩
  · rw [namesL_app, namesL_one, if_pos (show 1 ≤ (⟨x, i⟩ : En).nm.size from hx), List.map_cons]
    exact List.perm_append_comm.trans (by rw [List.singleton_append]; exact h.perm.cons _)
  · rcases List.mem_append.1 he with he | he
    · rw [h.ino e he hs, hg]
      exact (h.mem hs).2 ⟨e, he, rfl⟩
    · rw [List.mem_singleton] at he
      subst he
      exact hi
theorem Sl.ext {es : List En} {s : Nat} {kn : List ByteArray} {f g : ByteArray → Nat} (h : Sl es s kn f) (hg : ∀ y ∈ kn, g y = f y) : Sl es s kn g :=
  ⟨h.len, h.perm, fun e he hs => by rw [h.ino e he hs, hg]; exact (h.mem hs).2 ⟨e, he, rfl⟩⟩
theorem perm_dele {kn : List ByteArray} (hn : kn.Nodup) {x : ByteArray} (hx : x ∈ kn) : kn.Perm (x :: dele kn x) := by
  induction kn with
  | nil => cases hx
  | cons y kn ih =>
    obtain ⟨h1, h2⟩ := List.nodup_cons.1 hn
    by_cases e : y = x
    · subst e
      have : dele (y :: kn) y = kn := by
        have : dele (y :: kn) y = dele kn y := by simp [dele]
        rw [this, dele_not h1]
      rw [this]
    · have e2 : dele (y :: kn) x = y :: dele kn x := by simp [dele, e]
      rw [e2]
      rcases List.mem_cons.1 hx with rfl | hx
      · exact absurd rfl e
      · exact ((ih h2 hx).cons y).trans (List.Perm.swap _ _ _)
theorem namesL_nil1 : namesL [En.fr] = [] := by rw [namesL_one, if_neg (by decide)]
/-- A name's slot becomes free. -/
theorem Sl.del {es : List En} {s : Nat} {kn : List ByteArray} {f : ByteArray → Nat} (h : Sl es s kn f) (hn : kn.Nodup) {x : ByteArray} (hx : 1 ≤ x.size) (hm : x ∈ kn) {k : Nat} (hk : k < es.length) (he : (En.at es k).nm = x) : Sl (es.set k En.fr) s (dele kn x) f := by
  obtain ⟨rest, h1, h2⟩ := namesL_cut es k hk
  refine ⟨by rw [List.length_set]; exact h.len, ?_, fun e he hs => ?_⟩
  · have h3 := h2 En.fr
    rw [namesL_nil1, List.nil_append] at h3
    rw [namesL_one, he, if_pos hx, List.singleton_append] at h1
    refine h3.trans ?_
    have h4 : (x.data.toList :: rest).Perm ((x :: dele kn x).map fun x => x.data.toList) := h1.symm.trans (h.perm.trans ((perm_dele hn hm).map _))
    rw [List.map_cons] at h4
    exact (List.perm_cons _).1 h4
  · rcases mem_set he with rfl | he
    · exact absurd hs (by decide)
    · exact h.ino e he hs
/-- A slot's name becomes another one. -/
theorem Sl.ren {es : List En} {s : Nat} {kn : List ByteArray} {f : ByteArray → Nat} (h : Sl es s kn f) (hn : kn.Nodup) {x y : ByteArray} (hx : 1 ≤ x.size) (hy : 1 ≤ y.size) (hm : x ∈ kn) {k : Nat} (hk : k < es.length) (he : (En.at es k).nm = x) {i : Int} {g : ByteArray → Nat} (hi : i = (g y : Int) + 1) (hg : ∀ z ∈ dele kn x, g z = f z) : Sl (es.set k ⟨y, i⟩) s (y :: dele kn x) g := by
  have h1 := h.del hn hx hm hk he
  have h2 := h1.set hy (k := k) (by rw [List.length_set]; exact hk) (by
    have : En.at (es.set k En.fr) k = En.fr := by simp [En.at, List.getD, hk]
    rw [this]; decide) i hi hg
  rw [List.set_set] at h2
  exact h2
/-- A slot gets another number. -/
theorem Sl.point {es : List En} {s : Nat} {kn : List ByteArray} {f : ByteArray → Nat} (h : Sl es s kn f) (hn : kn.Nodup) {x : ByteArray} (hx : 1 ≤ x.size) {k : Nat} (hk : k < es.length) (he : (En.at es k).nm = x) {i : Int} {g : ByteArray → Nat} (hi : i = (g x : Int) + 1) (hg : ∀ z ∈ kn, ¬ z = x → g z = f z) : Sl (es.set k ⟨x, i⟩) s kn g := by
  obtain ⟨rest, h1, h2⟩ := namesL_cut es k hk
  have h3 := h2 ⟨x, i⟩
  rw [namesL_one, if_pos (show 1 ≤ (⟨x, i⟩ : En).nm.size from hx)] at h3
  rw [namesL_one, he, if_pos hx] at h1
  have hnd : (namesL es).Nodup := h.perm.nodup_iff.2 (List.Pairwise.map _ (fun a b hab e => hab (toList_inj e)) hn)
  refine ⟨by rw [List.length_set]; exact h.len, h3.trans (h1.symm.trans h.perm), fun e he2 hs => ?_⟩
  obtain ⟨j, hj, rfl⟩ := List.mem_iff_getElem.1 he2
  by_cases ej : k = j
  · subst ej
    simp [hi]
  · rw [List.getElem_set_ne ej] at hs ⊢
    have hj' : j < es.length := by simpa using hj
    rw [h.ino es[j] (List.getElem_mem hj') hs, hg]
    · exact (h.mem hs).2 ⟨es[j], List.getElem_mem hj', rfl⟩
    · intro e
      obtain ⟨rest', g1, g2⟩ := namesL_cut es k hk
      have g3 := g2 En.fr
      rw [namesL_nil1, List.nil_append] at g3
      have hmem : es[j].nm.data.toList ∈ namesL (es.set k En.fr) := (names_mem _ _).2 ⟨hs, es[j], List.mem_iff_getElem.2 ⟨j, by simpa using hj', by rw [List.getElem_set_ne ej]⟩, rfl⟩
      have g4 := g3.mem_iff.1 hmem
      have g5 := g1.nodup_iff.1 hnd
      rw [namesL_one, he, if_pos hx, List.singleton_append, List.nodup_cons] at g5
      rw [e] at g4
      exact g5.1 g4
/-- Whether a slot is free. -/
theorem Sl.free {es : List En} {s : Nat} {kn : List ByteArray} {f : ByteArray → Nat} (h : Sl es s kn f) :
    (kn.length < s ∧ ∃ k : Nat, Idx es ⟨#[]⟩ (k : Int) ∧ k < es.length ∧ ¬ 1 ≤ (En.at es k).nm.size) ∨ (¬ kn.length < s ∧ Idx es ⟨#[]⟩ (-1)) := by
  have hl : (namesL es).length = kn.length := by rw [h.perm.length_eq, List.length_map]
  obtain ⟨r, hr⟩ := Idx.ex es ⟨#[]⟩
  rcases hr with ⟨rfl, hn⟩ | ⟨k, rfl, h1, h2, h3⟩
  · refine .inr ⟨?_, .inl ⟨rfl, hn⟩⟩
    have : namesL es = es.map fun e => e.nm.data.toList := by
      unfold namesL
      rw [List.filter_eq_self.2]
      intro e he
      obtain ⟨j, hj, rfl⟩ := List.mem_iff_getElem.1 he
      have := hn j hj
      rw [nmNe] at this
      apply decide_eq_true
      apply Nat.pos_of_ne_zero
      intro e0
      apply this
      rw [show En.at es j = es[j] by simp [En.at, List.getD, hj]]
      generalize es[j].nm = z at e0 ⊢
      obtain ⟨⟨l⟩⟩ := z
      have : l = [] := List.eq_nil_of_length_eq_zero e0
      rw [this]
    rw [this, List.length_map, h.len] at hl
    omega
  · have e1 := nmEq.1 h2
    refine .inl ⟨?_, k, .inr ⟨k, rfl, h1, h2, h3⟩, h1, by rw [e1]; decide⟩
    obtain ⟨rest, g1, g2⟩ := namesL_cut es k h1
    rw [namesL_one, e1, if_neg (by decide), List.nil_append] at g1
    have g3 := (g2 ⟨⟨#[65]⟩, 0⟩)
    rw [namesL_one, if_pos (by decide)] at g3
    have g4 := g3.length_eq
    have g5 : (namesL (es.set k ⟨⟨#[65]⟩, 0⟩)).length ≤ es.length := by
      unfold namesL
      rw [List.length_map]
      exact Nat.le_trans (List.length_filter_le _ _) (by simp)
    rw [List.length_append, List.length_singleton, ← g1.length_eq, hl] at g4
    have := h.len
    omega
/-- What a way comes to. -/
def wlkA (F : Pth → Option Nd) : Pth → Pth → Int
  | _, [] => 0
  | p, x :: r => match F p with
    | some (.dir _ _) => if (F (p ++ [x])).isSome = true then wlkA F (p ++ [x]) r else 8
    | _ => 11
theorem wlk_fol (F : Pth → Option Nd) : ∀ (r p : Pth), (F p).isSome = true → wlkA F p r = if folA F p r = 0 then (if (F (p ++ r)).isSome = true then 0 else 8) else folA F p r
  | [], p, h => by simp [wlkA, folA, h]
  | x :: r, p, h => by
    obtain ⟨nd, hn⟩ := Option.isSome_iff_exists.1 h
    cases nd with
    | file bs => simp [wlkA, folA, hn]
    | dir s kn =>
      simp only [wlkA, folA, hn]
      by_cases hx : (F (p ++ [x])).isSome = true
      · rw [if_pos hx, wlk_fol F r (p ++ [x]) hx]
        simp
      · rw [if_neg hx]
        have hx' : F (p ++ [x]) = none := by simpa using hx
        cases r with
        | nil => simp [folA, hx']
        | cons y r => simp [folA, hx']
/-- What the names of a path come to. -/
def wlkE (F : Pth → Option Nd) (ns : Pth) : Int := wlkA F [] ns
end Go.Proofs.YtlnjnimenihhnaaGreatDoor

/-
  The cache's blocks in memory: a ring of nodes, by use, and a map from block numbers to them; and the contracts of leave and enter.
-/
import Derived.Test.YtioloobeakjbeaaDisk
import Derived.Test.YtioloobeakjbeaaState
import Derived.BigRegion
namespace Go.Proofs.Ytioloobeakjbeaa
open Go.RowKit Go.Maps

/-- What a node of the ring holds. -/
structure Node where
  n : Nat
  v : Value
  b : List Int
  d : Bool
  k : Nat
  x : Nat
  y : Nat
def Node.it (a : Node) : It := ⟨a.n, a.b, a.d, a.k⟩
/-- Block a is a node. -/
def Nd (w : World) (a : Nat) (N : Node) : Prop :=
  w.heap[a]? = some (.cells #[.int .i64 (N.n : Int), N.v, .bool N.d, .int .i64 (N.k : Int), .pointer (some ⟨N.x, 0, none⟩), .pointer (some ⟨N.y, 0, none⟩)] 95 (0, 0))
theorem Nd.c0 {w : World} {a : Nat} {N : Node} (h : Nd w a N) : w.cell? ⟨a, 0, none⟩ = some (.int .i64 (N.n : Int)) := by rw [cell_of_row w a 0 _ _ _ h]; rfl
theorem Nd.c1 {w : World} {a : Nat} {N : Node} (h : Nd w a N) : w.cell? ⟨a, 1, none⟩ = some N.v := by rw [cell_of_row w a 1 _ _ _ h]; rfl
theorem Nd.c2 {w : World} {a : Nat} {N : Node} (h : Nd w a N) : w.cell? ⟨a, 2, none⟩ = some (.bool N.d) := by rw [cell_of_row w a 2 _ _ _ h]; rfl
theorem Nd.c3 {w : World} {a : Nat} {N : Node} (h : Nd w a N) : w.cell? ⟨a, 3, none⟩ = some (.int .i64 (N.k : Int)) := by rw [cell_of_row w a 3 _ _ _ h]; rfl
theorem Nd.c4 {w : World} {a : Nat} {N : Node} (h : Nd w a N) : w.cell? ⟨a, 4, none⟩ = some (.pointer (some ⟨N.x, 0, none⟩)) := by rw [cell_of_row w a 4 _ _ _ h]; rfl
theorem Nd.c5 {w : World} {a : Nat} {N : Node} (h : Nd w a N) : w.cell? ⟨a, 5, none⟩ = some (.pointer (some ⟨N.y, 0, none⟩)) := by rw [cell_of_row w a 5 _ _ _ h]; rfl
theorem Nd.fr {w : World} {a : Nat} {N : Node} (h : Nd w a N) (i : Nat) : w.frozen? ⟨a, i, none⟩ = false := by
  have h' : w.heap[a]? = some (.cells _ 95 (0, 0)) := h
  simp [World.frozen?, h']
theorem Nd.lt {w : World} {a : Nat} {N : Node} (h : Nd w a N) : a < w.heap.size := (Array.getElem?_eq_some_iff.1 h).1
theorem Nd.same {w w' : World} {a : Nat} {N : Node} (h : Nd w a N) (hb : w'.heap[a]? = w.heap[a]?) : Nd w' a N := hb.trans h

/-- The nodes of M. -/
def Nds (w : World) (M : List Nat) (nd : Nat → Node) : Prop := ∀ a ∈ M, Nd w a (nd a)
def setX (nd : Nat → Node) (a z : Nat) : Nat → Node := fun b => if b = a then { nd b with x := z } else nd b
def setY (nd : Nat → Node) (a z : Nat) : Nat → Node := fun b => if b = a then { nd b with y := z } else nd b
def setD (nd : Nat → Node) (a : Nat) (d : Bool) : Nat → Node := fun b => if b = a then { nd b with d := d } else nd b
def setK (nd : Nat → Node) (a k : Nat) : Nat → Node := fun b => if b = a then { nd b with k := k } else nd b
def setB (nd : Nat → Node) (a : Nat) (bs : List Int) : Nat → Node := fun b => if b = a then { nd b with b := bs } else nd b
theorem Nds.set {w : World} {M : List Nat} {nd nd' : Nat → Node} (h : Nds w M nd) {a i : Nat} {v : Value} (ha : a ∈ M) (h1 : Nd (w.setCell ⟨a, i, none⟩ v) a (nd' a)) (h2 : ∀ b, b ≠ a → nd' b = nd b) : Nds (w.setCell ⟨a, i, none⟩ v) M nd' := by
  intro b hb
  by_cases e : b = a
  · subst e; exact h1
  · rw [h2 b e]
    exact (h b hb).same (Below.heap_setCell w _ _ b (fun e2 => e e2))
theorem Nds.setX {w : World} {M : List Nat} {nd : Nat → Node} (h : Nds w M nd) {a : Nat} (ha : a ∈ M) (z : Nat) : Nds (w.setCell ⟨a, 4, none⟩ (.pointer (some ⟨z, 0, none⟩))) M (setX nd a z) := by
  refine h.set ha ?_ (fun b hb => by simp [_root_.Go.Proofs.Ytioloobeakjbeaa.setX, hb])
  have := heap_setCell_same w a 4 _ _ (.pointer (some ⟨z, 0, none⟩)) (h a ha)
  simpa [Nd, _root_.Go.Proofs.Ytioloobeakjbeaa.setX] using this
theorem Nds.setY {w : World} {M : List Nat} {nd : Nat → Node} (h : Nds w M nd) {a : Nat} (ha : a ∈ M) (z : Nat) : Nds (w.setCell ⟨a, 5, none⟩ (.pointer (some ⟨z, 0, none⟩))) M (setY nd a z) := by
  refine h.set ha ?_ (fun b hb => by simp [_root_.Go.Proofs.Ytioloobeakjbeaa.setY, hb])
  have := heap_setCell_same w a 5 _ _ (.pointer (some ⟨z, 0, none⟩)) (h a ha)
  simpa [Nd, _root_.Go.Proofs.Ytioloobeakjbeaa.setY] using this
theorem Nds.setD {w : World} {M : List Nat} {nd : Nat → Node} (h : Nds w M nd) {a : Nat} (ha : a ∈ M) (d : Bool) : Nds (w.setCell ⟨a, 2, none⟩ (.bool d)) M (setD nd a d) := by
  refine h.set ha ?_ (fun b hb => by simp [_root_.Go.Proofs.Ytioloobeakjbeaa.setD, hb])
  have := heap_setCell_same w a 2 _ _ (.bool d) (h a ha)
  simpa [Nd, _root_.Go.Proofs.Ytioloobeakjbeaa.setD] using this
theorem Nds.setK {w : World} {M : List Nat} {nd : Nat → Node} (h : Nds w M nd) {a : Nat} (ha : a ∈ M) (k : Nat) : Nds (w.setCell ⟨a, 3, none⟩ (.int .i64 (k : Int))) M (setK nd a k) := by
  refine h.set ha ?_ (fun b hb => by simp [_root_.Go.Proofs.Ytioloobeakjbeaa.setK, hb])
  have := heap_setCell_same w a 3 _ _ (.int .i64 (k : Int)) (h a ha)
  simpa [Nd, _root_.Go.Proofs.Ytioloobeakjbeaa.setK] using this
theorem Nds.kept {E : Nat → Prop} {w w' : World} {M : List Nat} {nd : Nat → Node} (h : Nds w M nd) (hc : Chg E w w') (hE : ∀ a ∈ M, ¬ E a) : Nds w' M nd := fun a ha => (h a ha).same (hc.block a (h a ha).lt (hE a ha))

/-- From a by its newer ones bs to z. -/
def Chain (nd : Nat → Node) : Nat → List Nat → Nat → Prop
  | a, [], z => (nd a).x = z ∧ (nd z).y = a
  | a, b :: bs, z => (nd a).x = b ∧ (nd b).y = a ∧ Chain nd b bs z
theorem chain_split {nd : Nat → Node} : ∀ {xs : List Nat} {a h z : Nat} {ys : List Nat}, Chain nd a (xs ++ h :: ys) z ↔ Chain nd a xs h ∧ Chain nd h ys z
  | [], a, h, z, ys => by simp [Chain, and_assoc]
  | x :: xs, a, h, z, ys => by simp only [List.cons_append, Chain, chain_split (xs := xs), and_assoc]
/-- The chain looks at the newer ones of a :: bs and the older ones of bs and z. -/
theorem chain_congr {nd nd' : Nat → Node} : ∀ {bs : List Nat} {a z : Nat}, Chain nd a bs z → (∀ b ∈ a :: bs, (nd' b).x = (nd b).x) → (∀ b ∈ bs ++ [z], (nd' b).y = (nd b).y) → Chain nd' a bs z
  | [], a, z, h, hx, hy => ⟨(hx a (by simp)).trans h.1, (hy z (by simp)).trans h.2⟩
  | b :: bs, a, z, h, hx, hy => ⟨(hx a (by simp)).trans h.1, (hy b (by simp)).trans h.2.1, chain_congr h.2.2 (fun c hc => hx c (by simp at hc ⊢; exact .inr hc)) (fun c hc => hy c (by simp at hc ⊢; exact .inr hc))⟩
theorem chain_y_mem {nd : Nat → Node} : ∀ {bs : List Nat} {a z : Nat}, Chain nd a bs z → (nd z).y ∈ a :: bs
  | [], a, z, h => by have h : (nd a).x = z ∧ (nd z).y = a := h; simp [h.2]
  | b :: bs, a, z, h => List.mem_cons_of_mem _ (chain_y_mem h.2.2)
/-- The last link is laid anew. -/
theorem chain_last {nd nd' : Nat → Node} : ∀ {bs : List Nat} {a z z' : Nat}, Chain nd a bs z → (a :: bs).Nodup → (∀ b ∈ a :: bs, b ≠ (nd z).y → (nd' b).x = (nd b).x) → (nd' (nd z).y).x = z' → (nd' z').y = (nd z).y → (∀ b ∈ bs, (nd' b).y = (nd b).y) → Chain nd' a bs z'
  | [], a, z, z', h, _, _, h1, h2, _ => by
    have h : (nd a).x = z ∧ (nd z).y = a := h
    rw [h.2] at h1 h2
    exact ⟨h1, h2⟩
  | b :: bs, a, z, z', h, hd, hx, h1, h2, hy => by
    have hne : a ≠ (nd z).y := fun e => (List.nodup_cons.1 hd).1 (e ▸ chain_y_mem h.2.2)
    exact ⟨(hx a (by simp) hne).trans h.1, (hy b (by simp)).trans h.2.1, chain_last h.2.2 (List.nodup_cons.1 hd).2 (fun c hc => hx c (List.mem_cons_of_mem _ hc)) h1 h2 (fun c hc => hy c (List.mem_cons_of_mem _ hc))⟩
theorem chain_x_mem {nd : Nat → Node} : ∀ {bs : List Nat} {a z : Nat}, Chain nd a bs z → (nd a).x ∈ bs ++ [z]
  | [], a, z, h => by have h : (nd a).x = z ∧ (nd z).y = a := h; simp [h.1]
  | b :: bs, a, z, h => by rw [h.1]; simp

theorem setX_x (nd : Nat → Node) (a z b : Nat) : (setX nd a z b).x = if b = a then z else (nd b).x := by unfold _root_.Go.Proofs.Ytioloobeakjbeaa.setX; split <;> rfl
theorem setX_y (nd : Nat → Node) (a z b : Nat) : (setX nd a z b).y = (nd b).y := by unfold _root_.Go.Proofs.Ytioloobeakjbeaa.setX; split <;> rfl
theorem setX_it (nd : Nat → Node) (a z b : Nat) : (setX nd a z b).it = (nd b).it ∧ (setX nd a z b).v = (nd b).v := by unfold _root_.Go.Proofs.Ytioloobeakjbeaa.setX; split <;> exact ⟨rfl, rfl⟩
theorem setY_x (nd : Nat → Node) (a z b : Nat) : (setY nd a z b).x = (nd b).x := by unfold _root_.Go.Proofs.Ytioloobeakjbeaa.setY; split <;> rfl
theorem setY_y (nd : Nat → Node) (a z b : Nat) : (setY nd a z b).y = if b = a then z else (nd b).y := by unfold _root_.Go.Proofs.Ytioloobeakjbeaa.setY; split <;> rfl
theorem setY_it (nd : Nat → Node) (a z b : Nat) : (setY nd a z b).it = (nd b).it ∧ (setY nd a z b).v = (nd b).v := by unfold _root_.Go.Proofs.Ytioloobeakjbeaa.setY; split <;> exact ⟨rfl, rfl⟩

/-- h leaves the ring. -/
def left (nd : Nat → Node) (h : Nat) : Nat → Node := setX (setY nd (nd h).x (nd h).y) (nd h).y (nd h).x
theorem left_it (nd : Nat → Node) (h b : Nat) : (left nd h b).it = (nd b).it ∧ (left nd h b).v = (nd b).v := by
  unfold left
  exact ⟨((setX_it _ _ _ _).1).trans (setY_it _ _ _ _).1, ((setX_it _ _ _ _).2).trans (setY_it _ _ _ _).2⟩
theorem left_x (nd : Nat → Node) (h b : Nat) : (left nd h b).x = if b = (nd h).y then (nd h).x else (nd b).x := by
  simp only [left, setX_x, setY_x]
theorem left_y (nd : Nat → Node) (h b : Nat) : (left nd h b).y = if b = (nd h).x then (nd h).y else (nd b).y := by
  simp only [left, setX_y, setY_y]
theorem chain_leave {nd : Nat → Node} {r h : Nat} {xs ys : List Nat} (hd : (r :: (xs ++ h :: ys)).Nodup) (hc : Chain nd r (xs ++ h :: ys) r) : Chain (left nd h) r (xs ++ ys) r := by
  obtain ⟨c1, c2⟩ := chain_split.1 hc
  have hd' : (r :: xs).Nodup ∧ h ∉ r :: xs ∧ h ∉ ys ∧ ys.Nodup ∧ (∀ a ∈ r :: xs, a ∉ ys) := by
    simp only [List.nodup_cons, List.mem_append, List.mem_cons, not_or, List.nodup_append] at hd
    obtain ⟨⟨h1, h2, h3⟩, h4, ⟨h5, h6⟩, h7⟩ := hd
    refine ⟨List.nodup_cons.2 ⟨h1, h4⟩, ?_, h5, h6, fun a ha => ?_⟩
    · simp only [List.mem_cons, not_or]
      exact ⟨fun e => h2 e.symm, fun hm => h7 h hm h (.inl rfl) rfl⟩
    · rcases List.mem_cons.1 ha with e | e
      · subst e; exact h3
      · exact fun hm => h7 a e a (.inr hm) rfl
  obtain ⟨d1, d2, d3, d4, d5⟩ := hd'
  have hy := chain_y_mem c1
  cases ys with
  | nil =>
    have c2 : (nd h).x = r ∧ (nd r).y = h := c2
    rw [List.append_nil]
    refine chain_last c1 d1 (fun b _ hb => by rw [left_x, if_neg hb]) (by rw [left_x, if_pos rfl, c2.1]) (by rw [left_y, if_pos c2.1.symm]) (fun b hb => ?_)
    rw [left_y, if_neg (fun e => ?_)]
    rw [c2.1] at e
    exact (List.nodup_cons.1 d1).1 (e ▸ hb)
  | cons q qs =>
    obtain ⟨e1, e2, e3⟩ : (nd h).x = q ∧ (nd q).y = h ∧ Chain nd q qs r := c2
    refine chain_split.2 ⟨chain_last c1 d1 (fun b _ hb => by rw [left_x, if_neg hb]) (by rw [left_x, if_pos rfl, e1]) (by rw [left_y, if_pos e1.symm]) (fun b hb => ?_), chain_congr e3 (fun b hb => ?_) (fun b hb => ?_)⟩
    · rw [left_y, if_neg (fun e => d5 b (List.mem_cons_of_mem _ hb) (by rw [e, e1]; simp))]
    · rw [left_x, if_neg (fun e : b = (nd h).y => d5 _ hy (e ▸ hb))]
    · rw [left_y, if_neg (fun e => ?_)]
      rw [e1] at e
      rcases List.mem_append.1 hb with hb | hb
      · exact (List.nodup_cons.1 d4).1 (e ▸ hb)
      · simp at hb
        exact d5 r (by simp) (by rw [← hb, e]; simp)

/-- h enters the ring of r, as the one that was used last. -/
def entered (nd : Nat → Node) (r h : Nat) : Nat → Node := setY (setX (setX (setY nd h (nd r).y) h r) (nd r).y h) r h
theorem entered_it (nd : Nat → Node) (r h b : Nat) : (entered nd r h b).it = (nd b).it ∧ (entered nd r h b).v = (nd b).v := by
  unfold entered
  exact ⟨(setY_it _ _ _ _).1.trans ((setX_it _ _ _ _).1.trans ((setX_it _ _ _ _).1.trans (setY_it _ _ _ _).1)), (setY_it _ _ _ _).2.trans ((setX_it _ _ _ _).2.trans ((setX_it _ _ _ _).2.trans (setY_it _ _ _ _).2))⟩
theorem entered_x (nd : Nat → Node) {r h : Nat} (b : Nat) : (entered nd r h b).x = if b = (nd r).y then h else if b = h then r else (nd b).x := by
  simp only [entered, setX_x, setY_x]
theorem entered_y (nd : Nat → Node) {r h : Nat} (b : Nat) : (entered nd r h b).y = if b = r then h else if b = h then (nd r).y else (nd b).y := by
  simp only [entered, setX_y, setY_y]
theorem chain_enter {nd : Nat → Node} {r h : Nat} {ls : List Nat} (hd : (r :: ls).Nodup) (hh : h ∉ r :: ls) (hc : Chain nd r ls r) : Chain (entered nd r h) r (ls ++ [h]) r := by
  have hy := chain_y_mem hc
  have hne : h ≠ (nd r).y := fun e => hh (e ▸ hy)
  have hnr : h ≠ r := fun e => hh (e ▸ List.mem_cons_self ..)
  refine chain_split.2 ⟨chain_last hc hd (fun b hb hb2 => ?_) (by rw [entered_x, if_pos rfl]) (by rw [entered_y, if_neg hnr, if_pos rfl]) (fun b hb => ?_), ?_, ?_⟩
  · rw [entered_x, if_neg hb2, if_neg (fun e : b = h => hh (e ▸ hb))]
  · rw [entered_y, if_neg (fun e : b = r => (List.nodup_cons.1 hd).1 (e ▸ hb)), if_neg (fun e : b = h => hh (e ▸ List.mem_cons_of_mem _ hb))]
  · rw [entered_x, if_neg hne, if_pos rfl]
  · rw [entered_y, if_pos rfl]

/-- The world behind leave. -/
def leftW (w : World) (X Y : Nat) : World := (w.setCell ⟨X, 5, none⟩ (.pointer (some ⟨Y, 0, none⟩))).setCell ⟨Y, 4, none⟩ (.pointer (some ⟨X, 0, none⟩))
theorem Nds.left {w : World} {M : List Nat} {nd : Nat → Node} (h : Nds w M nd) {a : Nat} (hx : (nd a).x ∈ M) (hy : (nd a).y ∈ M) : Nds (leftW w (nd a).x (nd a).y) M (left nd a) := (h.setY hx _).setX hy _
theorem chg_left (w : World) {M : List Nat} {X Y : Nat} (hx : X ∈ M) (hy : Y ∈ M) : Chg (fun b => b ∈ M) w (leftW w X Y) :=
  (Chg.setCell (S := fun b => b ∈ M) w _ _ hx).trans (Chg.setCell (S := fun b => b ∈ M) _ _ _ hy) (fun _ _ h => h)
/-- The world behind enter. -/
def enterW (w : World) (a r o : Nat) : World := (((w.setCell ⟨a, 5, none⟩ (.pointer (some ⟨o, 0, none⟩))).setCell ⟨a, 4, none⟩ (.pointer (some ⟨r, 0, none⟩))).setCell ⟨o, 4, none⟩ (.pointer (some ⟨a, 0, none⟩))).setCell ⟨r, 5, none⟩ (.pointer (some ⟨a, 0, none⟩))
theorem Nds.enter {w : World} {M : List Nat} {nd : Nat → Node} (h : Nds w M nd) {a r : Nat} (ha : a ∈ M) (hr : r ∈ M) (ho : (nd r).y ∈ M) : Nds (enterW w a r (nd r).y) M (entered nd r a) := (((h.setY ha _).setX ha _).setX ho _).setY hr _
theorem chg_enter (w : World) {M : List Nat} {a r o : Nat} (ha : a ∈ M) (hr : r ∈ M) (ho : o ∈ M) : Chg (fun b => b ∈ M) w (enterW w a r o) :=
  (((Chg.setCell (S := fun b => b ∈ M) w _ _ ha).trans (Chg.setCell (S := fun b => b ∈ M) _ _ _ ha) (fun _ _ h => h)).trans (Chg.setCell (S := fun b => b ∈ M) _ _ _ ho) (fun _ _ h => h)).trans (Chg.setCell (S := fun b => b ∈ M) _ _ _ hr) (fun _ _ h => h)

set_option maxHeartbeats 1600000 in
set_option maxRecDepth 100000 in
theorem leave_any (w : World) (a X Y : Nat) (c4 : w.cell? ⟨a, 4, none⟩ = some (.pointer (some ⟨X, 0, none⟩))) (c5 : w.cell? ⟨a, 5, none⟩ = some (.pointer (some ⟨Y, 0, none⟩)))
    (x5 : ∃ v, w.cell? ⟨X, 5, none⟩ = some v) (y4 : ∃ v, w.cell? ⟨Y, 4, none⟩ = some v) (fx : w.frozen? ⟨X, 5, none⟩ = false) (fy : w.frozen? ⟨Y, 4, none⟩ = false) (_hX : X ≠ a) (_hY : Y ≠ a) :
    Calls Try.prog 76 #[.pointer (some ⟨a, 0, none⟩)] w fun e w' => e = .returned (.tuple #[]) ∧ ∃ q, w' = (leftW w X Y).drewN q := by
  obtain ⟨v5, x5⟩ := x5
  obtain ⟨v4, y4⟩ := y4
  go_enter Try.func76, Try.ntmps76
  go_wp2_with fail
  go_region
  all_goals
    go_end0
    first | exact ⟨rfl, 0, rfl⟩ | exact ⟨rfl, 1, rfl⟩ | trace_state
end Go.Proofs.Ytioloobeakjbeaa

namespace Go.Proofs.Ytioloobeakjbeaa
open Go.RowKit Go.Maps

set_option maxHeartbeats 1600000 in
set_option maxRecDepth 100000 in
theorem enter_any (w : World) (a r o : Nat) (c5 : w.cell? ⟨r, 5, none⟩ = some (.pointer (some ⟨o, 0, none⟩)))
    (a5 : ∃ v, w.cell? ⟨a, 5, none⟩ = some v) (a4 : ∃ v, w.cell? ⟨a, 4, none⟩ = some v) (o4 : ∃ v, w.cell? ⟨o, 4, none⟩ = some v) (f1 : w.frozen? ⟨a, 5, none⟩ = false) (f2 : w.frozen? ⟨a, 4, none⟩ = false) (f3 : w.frozen? ⟨o, 4, none⟩ = false) (f4 : w.frozen? ⟨r, 5, none⟩ = false) (hr : r ≠ a) (ho : o ≠ a) :
    Calls Try.prog 77 #[.pointer (some ⟨a, 0, none⟩), .pointer (some ⟨r, 0, none⟩)] w fun e w' => e = .returned (.tuple #[]) ∧ ∃ q, w' = (enterW w a r o).drewN q := by
  obtain ⟨v5, a5⟩ := a5
  obtain ⟨v4, a4⟩ := a4
  obtain ⟨u4, o4⟩ := o4
  go_enter Try.func77, Try.ntmps77
  go_wp2_with fail
  go_region
  all_goals
    go_end0
    first | exact ⟨rfl, 0, rfl⟩ | exact ⟨rfl, 1, rfl⟩

/-! ### the map -/
theorem zero75 (w : World) : (zeroValue 75).run Try.prog w = .ok (.pointer none) w := by kernel_rfl
def ptr (a : Nat) : Value := .pointer (some ⟨a, 0, none⟩)
/-- The map m holds each node of ls at its number, and nothing else. -/
def Mp (w : World) (m nb : Nat) (ls : List Nat) (nd : Nat → Node) : Prop := ∃ f, MapIs w m nb f ∧ ∀ n v, n < nb → (f n = some v ↔ ∃ a ∈ ls, (nd a).n = n ∧ v = ptr a)
theorem Mp.lt {w : World} {m nb : Nat} {ls : List Nat} {nd : Nat → Node} (h : Mp w m nb ls nd) : m < w.heap.size := by obtain ⟨f, h, _⟩ := h; exact h.lt
theorem Mp.obj {w : World} {m nb : Nat} {ls : List Nat} {nd : Nat → Node} (h : Mp w m nb ls nd) : ∃ es clock, w.heap[m]? = some (.map es clock) := by obtain ⟨f, h, _⟩ := h; exact h.obj
theorem Mp.kept {w w' : World} {m nb : Nat} {ls : List Nat} {nd : Nat → Node} (h : Mp w m nb ls nd) (hb : w'.heap[m]? = w.heap[m]?) : Mp w' m nb ls nd := by obtain ⟨f, h, r⟩ := h; exact ⟨f, h.kept hb, r⟩
theorem Mp.congr {w : World} {m nb : Nat} {ls ls' : List Nat} {nd nd' : Nat → Node} (h : Mp w m nb ls nd) (hl : ∀ a, a ∈ ls' ↔ a ∈ ls) (hn : ∀ a ∈ ls, (nd' a).n = (nd a).n) : Mp w m nb ls' nd' := by
  obtain ⟨f, h, r⟩ := h
  refine ⟨f, h, fun n v hnb => (r n v hnb).trans ⟨?_, ?_⟩⟩
  · rintro ⟨a, ha, e, rfl⟩; exact ⟨a, (hl a).2 ha, (hn a ha).trans e, rfl⟩
  · rintro ⟨a, ha, e, rfl⟩; exact ⟨a, (hl a).1 ha, (hn a ((hl a).1 ha)).symm.trans e, rfl⟩
theorem Mp.new (w : World) (nb : Nat) (nd : Nat → Node) : Mp (w.alloc (.map #[] 0)) w.heap.size nb [] nd := ⟨_, MapIs.new w nb, fun n v _ => by simp⟩

theorem look_int {w : World} {m nb : Nat} {f : Nat → Option Value} (h : MapIs w m nb f) (x : Int) (h0 : -9223372036854775808 ≤ x) (h1 : x < 9223372036854775808) :
    ∃ v, (Instr.lookup 74 (.map (some m)) (.int .i64 x) false).run Try.prog w = .ok v w ∧ ((∃ n, n < nb ∧ x = (n : Int) ∧ v = (f n).getD (.pointer none)) ∨ ((∀ n, n < nb → x ≠ (n : Int)) ∧ v = .pointer none)) := by
  obtain ⟨c, D, ho, hD⟩ := h
  have hk : keyOf Try.prog 3 (.int .i64 x) = some (.int .i64 x) := keyOf_int_mk Try.underlying3 (WalkArith.wf_i64 (by omega))
  obtain ⟨v, ps, hrun, hv⟩ := ho.lookup law3 Try.underlying74 (zero75 w) (show hold (.pointer none) = some (.held (.pointer none), []) from rfl) hk
  refine ⟨v, hrun, ?_⟩
  have e : DataW.held v = D.atKey (.int .i64 x) (.held (.pointer none)) := by simpa [hold] using congrArg (Option.map Prod.fst) hv
  cases hh : Maps.has D (.int .i64 x) with
  | false =>
    rw [atKey_of_not_has hh] at e
    cases e
    by_cases hx : ∃ n, n < nb ∧ x = (n : Int)
    · obtain ⟨n, hn, rfl⟩ := hx
      refine .inl ⟨n, hn, rfl, ?_⟩
      have := hD.has n hn
      rw [show kn n = .int .i64 (n : Int) from rfl, hh] at this
      cases hf : f n with
      | none => rfl
      | some u => rw [hf] at this; cases this
    · exact .inr ⟨fun n hn e => hx ⟨n, hn, e⟩, rfl⟩
  | true =>
    obtain ⟨n, hn, ek⟩ := hD.keys _ hh
    have ex : x = (n : Int) := by simpa [kn] using ek
    subst ex
    refine .inl ⟨n, hn, rfl, ?_⟩
    have := hD.has n hn
    rw [show kn n = .int .i64 (n : Int) from rfl, hh] at this
    obtain ⟨u, hu⟩ := Option.isSome_iff_exists.1 this.symm
    rw [show (Lit.int .i64 (n : Int)) = kn n from rfl, hD.at' n u hn hu] at e
    cases e
    rw [hu]; rfl
theorem Mp.look {w : World} {m nb : Nat} {ls : List Nat} {nd : Nat → Node} (h : Mp w m nb ls nd) (hnb : nb ≤ 16384) {a : Nat} (ha : a ∈ ls) (hn : (nd a).n < nb) :
    (Instr.lookup 74 (.map (some m)) (.int .i64 ((nd a).n : Int)) false).run Try.prog w = .ok (ptr a) w := by
  obtain ⟨f, h, r⟩ := h
  obtain ⟨v, hrun, hv⟩ := look_int h ((nd a).n : Int) (by omega) (by omega)
  rw [hrun]
  rcases hv with ⟨n, hn2, e, rfl⟩ | ⟨h2, _⟩
  · have e2 : (nd a).n = n := by omega
    subst e2
    rw [(r _ (ptr a) hn).2 ⟨a, ha, rfl, rfl⟩]; rfl
  · exact absurd rfl (h2 _ hn)
theorem Mp.lookNone {w : World} {m nb : Nat} {ls : List Nat} {nd : Nat → Node} (h : Mp w m nb ls nd) (x : Int) (h0 : -9223372036854775808 ≤ x) (h1 : x < 9223372036854775808) (hno : ∀ a ∈ ls, ((nd a).n : Int) ≠ x) :
    (Instr.lookup 74 (.map (some m)) (.int .i64 x) false).run Try.prog w = .ok (.pointer none) w := by
  obtain ⟨f, h, r⟩ := h
  obtain ⟨v, hrun, hv⟩ := look_int h x h0 h1
  rw [hrun]
  rcases hv with ⟨n, hn, rfl, rfl⟩ | ⟨_, rfl⟩
  · cases hf : f n with
    | none => rfl
    | some u =>
      obtain ⟨a, ha, e, _⟩ := (r n u hn).1 hf
      exact absurd (by rw [e]) (hno a ha)
  · rfl
theorem store74 {w : World} {m nb n : Nat} {f : Nat → Option Value} (h : MapIs w m nb f) (hnb : nb ≤ 16384) (hn : n < nb) (v : Value) :
    ∃ w', (Instr.mapUpdate 74 (.map (some m)) (.int .i64 (n : Int)) v).run Try.prog w = .ok () w' ∧ MapIs w' m nb (upd f n (some v)) ∧ w.grownBy w' (some m) ∧ w'.heap.size = w.heap.size := by
  obtain ⟨c, D, ho, hD⟩ := h
  have hs := hD.size_le ho hnb
  obtain ⟨w', hrun, ho', ht⟩ := (own_size ho).store law3 Try.underlying74 (by unfold maxLen; omega) (key3 (show n < 16384 by omega)) (show hold v = some (.held v, []) from rfl)
  refine ⟨w', hrun, ⟨_, _, ho', hD.put ho hnb hn v⟩, ht.grown, ?_⟩
  obtain ⟨_, _, _, _, _, rfl⟩ := ht
  simp [ChangeMaps.setBlock]
theorem delete74 {w : World} {m nb n : Nat} {f : Nat → Option Value} (h : MapIs w m nb f) (hnb : nb ≤ 16384) (hn : n < nb) (ty : TypeId) :
    ∃ w', (Builtin.delete_ #[74, 3] ty #[.map (some m), .int .i64 (n : Int)]).run Try.prog w = .ok (.tuple #[]) w' ∧ MapIs w' m nb (upd f n none) ∧ w.grownBy w' (some m) ∧ w'.heap.size = w.heap.size := by
  obtain ⟨c, D, ho, hD⟩ := h
  obtain ⟨w', hrun, ho', ht⟩ := ho.drop law3 Try.underlying74 (key3 (show n < 16384 by omega)) ty
  refine ⟨w', hrun, ⟨_, _, ho', hD.del⟩, ht.grown, ?_⟩
  obtain ⟨_, _, _, _, _, rfl⟩ := ht
  simp [ChangeMaps.setBlock]
theorem Mp.store {w : World} {m nb : Nat} {ls : List Nat} {nd : Nat → Node} (h : Mp w m nb ls nd) (hnb : nb ≤ 16384) {a n : Nat} (hn : n < nb) (hno : ∀ b ∈ ls, (nd b).n ≠ n) (ha : (nd a).n = n) :
    ∃ w', (Instr.mapUpdate 74 (.map (some m)) (.int .i64 (n : Int)) (ptr a)).run Try.prog w = .ok () w' ∧ Mp w' m nb (ls ++ [a]) nd ∧ w.grownBy w' (some m) ∧ w'.heap.size = w.heap.size := by
  obtain ⟨f, h, r⟩ := h
  obtain ⟨w', hrun, h', hg, hs⟩ := store74 h hnb hn (ptr a)
  refine ⟨w', hrun, ⟨_, h', fun k v hk => ?_⟩, hg, hs⟩
  by_cases e : k = n
  · subst e
    rw [upd_same]
    constructor
    · intro h; cases h; exact ⟨a, by simp, ha, rfl⟩
    · rintro ⟨b, hb, e, rfl⟩
      rcases List.mem_append.1 hb with hb | hb
      · exact absurd e (hno b hb)
      · simp at hb; rw [hb]
  · rw [upd_other _ _ e, r k v hk]
    constructor
    · rintro ⟨b, hb, e, rfl⟩; exact ⟨b, List.mem_append_left _ hb, e, rfl⟩
    · rintro ⟨b, hb, e2, rfl⟩
      rcases List.mem_append.1 hb with hb | hb
      · exact ⟨b, hb, e2, rfl⟩
      · simp at hb; subst hb; exact absurd (e2.symm.trans ha) e
theorem Mp.delete {w : World} {m nb : Nat} {xs ys : List Nat} {a : Nat} {nd : Nat → Node} (h : Mp w m nb (xs ++ a :: ys) nd) (hnb : nb ≤ 16384) (hn : (nd a).n < nb) (hno : ∀ b ∈ xs ++ ys, (nd b).n ≠ (nd a).n) (ty : TypeId) :
    ∃ w', (Builtin.delete_ #[74, 3] ty #[.map (some m), .int .i64 ((nd a).n : Int)]).run Try.prog w = .ok (.tuple #[]) w' ∧ Mp w' m nb (xs ++ ys) nd ∧ w.grownBy w' (some m) ∧ w'.heap.size = w.heap.size := by
  obtain ⟨f, h, r⟩ := h
  obtain ⟨w', hrun, h', hg, hs⟩ := delete74 h hnb hn ty
  refine ⟨w', hrun, ⟨_, h', fun k v hk => ?_⟩, hg, hs⟩
  by_cases e : k = (nd a).n
  · subst e
    rw [upd_same]
    constructor
    · intro h; cases h
    · rintro ⟨b, hb, e, rfl⟩; exact absurd e (hno b hb)
  · rw [upd_other _ _ e, r k v hk]
    constructor
    · rintro ⟨b, hb, e2, rfl⟩
      refine ⟨b, ?_, e2, rfl⟩
      rcases List.mem_append.1 hb with hb | hb
      · exact List.mem_append_left _ hb
      · rcases List.mem_cons.1 hb with hb | hb
        · subst hb; exact absurd e2.symm e
        · exact List.mem_append_right _ hb
    · rintro ⟨b, hb, e2, rfl⟩
      refine ⟨b, ?_, e2, rfl⟩
      rcases List.mem_append.1 hb with hb | hb
      · exact List.mem_append_left _ hb
      · exact List.mem_append_right _ (List.mem_cons_of_mem _ hb)
end Go.Proofs.Ytioloobeakjbeaa

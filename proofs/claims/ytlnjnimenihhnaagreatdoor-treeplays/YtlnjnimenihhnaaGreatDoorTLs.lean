/-
  TreeLists: a round of the range over Walk.
-/
import Derived.Test.YtlnjnimenihhnaaGreatDoorTRows
namespace Go.Proofs.YtlnjnimenihhnaaGreatDoor
open Go.RowKit Go.Maps Go.Sort

abbrev iBx (n : Int) : Obj := .cells #[.int .i64 n] 3 (0, 0)
abbrev sBx (s : ByteArray) : Obj := .cells #[.string s] 9 (0, 0)
/-- Directories and files counted, the last text. -/
structure LsJ (W5 : World) (b0 D : Nat) (ob : Obj) (rows : List (ByteArray × Pth)) (i : Nat) (W : World) : Prop where
  chg : Chg (fun k => k = b0 ∨ k = b0 + 1 ∨ k = b0 + 1 + 1 ∨ k = D + 1) W5 W
  lp : W.heap[D + 1]? = some ob
  cn : ∃ (dn fn : Nat) (s : ByteArray), W.heap[b0]? = some (iBx dn) ∧ W.heap[b0 + 1]? = some (iBx fn) ∧ W.heap[b0 + 1 + 1]? = some (sBx s) ∧ dn + fn = i ∧ ∀ y, rows[i]? = some y → ¬ y.1 = s
theorem LsJ.below {W5 W W' : World} {b0 D i : Nat} {ob : Obj} {rows : List (ByteArray × Pth)} (h : LsJ W5 b0 D ob rows i W) (hb : Below W.heap.size W W') : LsJ W5 b0 D ob rows i W' := by
  have hk : ∀ k o, W.heap[k]? = some o → W'.heap[k]? = some o := fun k o ho => (hb.block k (Array.getElem?_eq_some_iff.1 ho).1).trans ho
  obtain ⟨dn, fn, s, h1, h2, h3, h4⟩ := h.cn
  exact ⟨h.chg.trans (Chg.ofBelowC hb) (fun _ _ h => h.elim), hk _ _ h.lp, dn, fn, s, hk _ _ h1, hk _ _ h2, hk _ _ h3, h4⟩
theorem box_cell {W : World} {b : Nat} {v : Value} {t : TypeId} (h : W.heap[b]? = some (.cells #[v] t (0, 0))) : W.cell? ⟨b, 0, none⟩ = some v ∧ W.frozen? ⟨b, 0, none⟩ = false := by
  refine ⟨by rw [cell_of_row _ _ _ _ _ _ h]; rfl, by simp [World.frozen?, h]⟩
theorem ls_more {W5 Wx : World} {b0 D i : Nat} {r1 r2 r3 : Loop} {rows : List (ByteArray × Pth)} {y : ByteArray × Pth} (h : LsJ W5 b0 D (.loop r1) rows i Wx) (hb : b0 + 2 < D) (hD : D + 1 < W5.heap.size) (hy : rows[i]? = some y) (hnext : ∀ z, rows[i + 1]? = some z → ¬ z.1 = y.1) (di : Bool) (ni ki : Int) :
    ∃ (dn fn : Nat) (s : ByteArray) (Wz W1 W2 : World), (Wx.alloc (inO di ni ki)).heap[D + 1]? = some (.loop r1) ∧ (Wx.alloc (inO di ni ki)).putObj (D + 1) (.loop r2) = Wz ∧ Wz.cell? ⟨b0 + 1 + 1, 0, none⟩ = some (.string s) ∧ ¬ y.1 = s ∧ Wz.frozen? ⟨b0 + 1 + 1, 0, none⟩ = false ∧ Wz.setCell ⟨b0 + 1 + 1, 0, none⟩ (.string y.1) = W1 ∧
      W1.cell? ⟨Wx.heap.size, 0, none⟩ = some (.bool di) ∧ W1.cell? ⟨b0, 0, none⟩ = some (.int .i64 dn) ∧ W1.cell? ⟨b0 + 1, 0, none⟩ = some (.int .i64 fn) ∧ W1.frozen? ⟨b0, 0, none⟩ = false ∧ W1.frozen? ⟨b0 + 1, 0, none⟩ = false ∧ dn + fn = i ∧
      (W1.setCell ⟨if di then b0 else b0 + 1, 0, none⟩ (.int .i64 ((if di then dn else fn : Nat) + 1 : Int))) = W2 ∧ W2.heap[D + 1]? = some (.loop r2) ∧ LsJ W5 b0 D (.loop r3) rows (i + 1) (W2.putObj (D + 1) (.loop r3)) := by
  obtain ⟨dn, fn, s, h1, h2, h3, h4, h5⟩ := h.cn
  have hs := h.chg.size
  have BA := below_alloc Wx (inO di ni ki)
  have IA := heap_alloc_new Wx (inO di ni ki)
  have zA : (Wx.alloc (inO di ni ki)).heap.size = Wx.heap.size + 1 := by simp
  generalize Wx.alloc (inO di ni ki) = Wa at *
  have ha : ∀ k o, Wx.heap[k]? = some o → Wa.heap[k]? = some o := fun k o ho => (BA.block k (Array.getElem?_eq_some_iff.1 ho).1).trans ho
  have cA : Chg (fun k => k = b0 ∨ k = b0 + 1 ∨ k = b0 + 1 + 1 ∨ k = D + 1) W5 Wa := h.chg.trans (Chg.ofBelowC BA) (fun _ _ h => h.elim)
  obtain ⟨Wz, hWz⟩ : ∃ Wz, Wa.putObj (D + 1) (.loop r2) = Wz := ⟨_, rfl⟩
  have hzo : ∀ k, ¬ k = D + 1 → Wz.heap[k]? = Wa.heap[k]? := fun k hk => by rw [← hWz]; exact World.putObj_heap_other hk
  have hzs : Wz.heap.size = Wa.heap.size := by rw [← hWz]; simp [World.putObj]
  have hzl : Wz.heap[D + 1]? = some (.loop r2) := by rw [← hWz]; exact World.putObj_heap_same (by omega)
  have cZ : Chg (fun k => k = D + 1) Wa Wz := by
    rw [← hWz]
    exact ⟨rfl, rfl, rfl, by simp [World.putObj], fun k _ hk => World.putObj_heap_other hk⟩
  have z3 := (hzo _ (by omega)).trans (ha _ _ h3)
  have zi : Wz.heap[Wx.heap.size]? = some (inO di ni ki) := (hzo _ (by omega)).trans IA
  obtain ⟨W1, hW1⟩ : ∃ W1, Wz.setCell ⟨b0 + 1 + 1, 0, none⟩ (.string y.1) = W1 := ⟨_, rfl⟩
  have c1 : Chg (fun k => k = b0 + 1 + 1) Wz W1 := by rw [← hW1]; exact Chg.setCell _ _ _ rfl
  have e1s : W1.heap.size = Wz.heap.size := by rw [← hW1]; simp
  have e13 : W1.heap[b0 + 1 + 1]? = some (sBx y.1) := by rw [← hW1]; exact heap_setCell_same Wz (b0 + 1 + 1) 0 _ 9 (.string y.1) z3
  have k1 : ∀ k o, ¬ k = D + 1 → ¬ k = b0 + 1 + 1 → Wa.heap[k]? = some o → W1.heap[k]? = some o := fun k o hk1 hk2 ho => by
    have := (Array.getElem?_eq_some_iff.1 ho).1
    exact (c1.block k (by omega) hk2).trans ((hzo k hk1).trans ho)
  have e10 := k1 _ _ (by omega) (by omega) (ha _ _ h1)
  have e11 := k1 _ _ (by omega) (by omega) (ha _ _ h2)
  have e1i := k1 _ _ (by omega) (by omega) IA
  have e1l : W1.heap[D + 1]? = some (.loop r2) := (c1.block _ (by omega) (by omega)).trans hzl
  obtain ⟨bd, hbd⟩ : ∃ bd, (if di then b0 else b0 + 1) = bd := ⟨_, rfl⟩
  have hbd2 : bd = b0 ∨ bd = b0 + 1 := by rw [← hbd]; cases di <;> simp
  obtain ⟨W2, hW2⟩ : ∃ W2, W1.setCell ⟨bd, 0, none⟩ (.int .i64 ((if di then dn else fn : Nat) + 1 : Int)) = W2 := ⟨_, rfl⟩
  have c2 : Chg (fun k => k = bd) W1 W2 := by rw [← hW2]; exact Chg.setCell _ _ _ rfl
  have e2l : W2.heap[D + 1]? = some (.loop r2) := (c2.block _ (by omega) (by omega)).trans e1l
  have e23 : W2.heap[b0 + 1 + 1]? = some (sBx y.1) := (c2.block _ (Array.getElem?_eq_some_iff.1 e13).1 (by omega)).trans e13
  have e2c : ∃ (dn' fn' : Nat), W2.heap[b0]? = some (iBx dn') ∧ W2.heap[b0 + 1]? = some (iBx fn') ∧ dn' + fn' = i + 1 := by
    cases di with
    | true =>
      simp only [if_true] at hbd hW2
      subst hbd
      refine ⟨dn + 1, fn, ?_, (c2.block _ (Array.getElem?_eq_some_iff.1 e11).1 (by omega)).trans e11, by omega⟩
      rw [← hW2]
      exact heap_setCell_same W1 b0 0 _ 3 _ e10
    | false =>
      simp only [Bool.false_eq_true, if_false] at hbd hW2
      subst hbd
      refine ⟨dn, fn + 1, (c2.block _ (Array.getElem?_eq_some_iff.1 e10).1 (by omega)).trans e10, ?_, by omega⟩
      rw [← hW2]
      exact heap_setCell_same W1 (b0 + 1) 0 _ 3 _ e11
  obtain ⟨dn', fn', p1, p2, p3⟩ := e2c
  obtain ⟨Wv, hWv⟩ : ∃ Wv, W2.putObj (D + 1) (.loop r3) = Wv := ⟨_, rfl⟩
  have hvo : ∀ j, ¬ j = D + 1 → Wv.heap[j]? = W2.heap[j]? := fun j h => by rw [← hWv]; exact World.putObj_heap_other h
  have e2s : W2.heap.size = W1.heap.size := by rw [← hW2]; simp
  have hvl : Wv.heap[D + 1]? = some (.loop r3) := by rw [← hWv]; exact World.putObj_heap_same (by omega)
  have cV : Chg (fun k => k = D + 1) W2 Wv := by
    rw [← hWv]
    exact ⟨rfl, rfl, rfl, by simp [World.putObj], fun k _ hk => World.putObj_heap_other hk⟩
  have cc : Chg (fun k => k = b0 ∨ k = b0 + 1 ∨ k = b0 + 1 + 1 ∨ k = D + 1) W5 Wv := (((cA.trans cZ (fun k _ h => by omega)).trans c1 (fun k _ h => by omega)).trans c2 (fun k _ h => by omega)).trans cV (fun k _ h => by omega)
  have bx := box_cell z3
  exact ⟨dn, fn, s, Wz, W1, W2, ha _ _ h.lp, hWz, bx.1, h5 y hy, bx.2, hW1, by rw [cell_of_row _ _ _ _ _ _ e1i]; rfl, (box_cell e10).1, (box_cell e11).1, (box_cell e10).2, (box_cell e11).2, h4, by rw [hbd]; exact hW2, e2l, by rw [hWv]; exact ⟨cc, hvl, dn', fn', y.1, (hvo _ (by omega)).trans p1, (hvo _ (by omega)).trans p2, (hvo _ (by omega)).trans e23, p3, hnext⟩⟩
/-- Sorted names rise. -/
theorem nmL_rise {kn : List ByteArray} (h : kn.Nodup) {i : Nat} {x y : List UInt8} (hx : (nmL kn)[i]? = some x) (hy : (nmL kn)[i + 1]? = some y) : x < y := by
  have tr : ∀ a b c : List UInt8, decide (a ≤ b) = true → decide (b ≤ c) = true → decide (a ≤ c) = true := by
    intro a b c h1 h2
    simp only [decide_eq_true_eq] at *
    exact List.le_trans h1 h2
  have to : ∀ a b : List UInt8, (decide (a ≤ b) || decide (b ≤ a)) = true := by
    intro a b
    simp only [Bool.or_eq_true, decide_eq_true_eq]
    exact List.le_total a b
  have hs : (nmL kn).Pairwise (fun a b => decide (a ≤ b) = true) := List.pairwise_mergeSort tr to _
  obtain ⟨l1, e1⟩ := List.getElem?_eq_some_iff.1 hx
  obtain ⟨l2, e2⟩ := List.getElem?_eq_some_iff.1 hy
  have h1 := (List.pairwise_iff_getElem.1 hs) i (i + 1) l1 l2 (by omega)
  have h2 := (List.pairwise_iff_getElem.1 (nmL_nodup h)) i (i + 1) l1 l2 (by omega)
  rw [e1, e2] at h1 h2
  simp only [decide_eq_true_eq] at h1
  exact Classical.byContradiction fun hn => h2 (List.le_antisymm h1 (List.not_lt.1 hn))
/-- Two names that stand side by side, read. -/
theorem nm_cells {w : World} {N n c : Nat} {a : Option Addr} {kn : List ByteArray} (h : w.ownsRow N 9 1 (.slice a n c) n ((nmL kn).map encStr)) (hn : kn.Nodup) {i : Nat} (hi : i + 1 < n) :
    ∃ (g : Nat) (X Y : ByteArray), a = some ⟨g, 0, none⟩ ∧ w.cell? ⟨g, i, none⟩ = some (.string X) ∧ w.cell? ⟨g, i + 1, none⟩ = some (.string Y) ∧ Op.bytesLess X.toList Y.toList = true := by
  have hl : (nmL kn).length = n := by have := h.1; simpa using this
  obtain ⟨x, hx⟩ : ∃ x, (nmL kn)[i]? = some x := ⟨_, List.getElem?_eq_getElem (by omega)⟩
  obtain ⟨y, hy⟩ : ∃ y, (nmL kn)[i + 1]? = some y := ⟨_, List.getElem?_eq_getElem (by omega)⟩
  have hlt := nmL_rise hn hx hy
  rcases h.2 with ⟨_, e⟩ | ⟨g, cap, cur, e, hb, hg, hnc, hcm, hcs, htk⟩
  · omega
  · cases e
    have key : ∀ (j : Nat) (z : List UInt8), (nmL kn)[j]? = some z → w.cell? ⟨g, j, none⟩ = some (.string ⟨z.toArray⟩) := by
      intro j z hz
      have h3 : cur.toList[j]? = some (encStr z) := by
        have h4 : (cur.toList.take (n * 1))[j]? = some (encStr z) := by rw [htk, List.getElem?_map, hz]; rfl
        rw [List.getElem?_take] at h4
        split at h4
        · exact h4
        · cases h4
      rw [cell_of_row _ _ _ _ _ _ hg]
      simpa [encStr] using h3
    refine ⟨g, _, _, rfl, key _ _ hx, key _ _ hy, ?_⟩
    rw [bytesLess_eq, Lib.toList_data, Lib.toList_data]
    simpa using hlt
end Go.Proofs.YtlnjnimenihhnaaGreatDoor

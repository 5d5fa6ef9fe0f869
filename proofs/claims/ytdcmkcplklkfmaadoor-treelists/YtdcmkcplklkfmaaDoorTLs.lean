/-
  What Walk hands back: each stop once.
-/
import Derived.Test.YtdcmkcplklkfmaaDoorTWalk
import Derived.Test.YtdcmkcplklkfmaaDoorTRows
namespace Go.Proofs.YtdcmkcplklkfmaaDoor
open Go.RowKit Go.Maps Go.Sort Go.Shelf

/-- A row of stops, read. -/
theorem own_stop {N n : Nat} {W : World} {a : Option Addr} {m c : Nat} {F : Pth → Option Nd} {rows : List (ByteArray × Pth)} (h : W.ownsRow N 79 4 (.slice a m c) n (rows.flatMap (stC F))) {i : Nat} {r : ByteArray × Pth} (hr : rows[i]? = some r) : ∃ g, a = some ⟨g, 0, none⟩ ∧ W.cell? ⟨g, i * 4, none⟩ = some (.string r.1) ∧ W.cell? ⟨g, i * 4 + 1, none⟩ = some (.bool (infD (F r.2)).1) ∧ W.cell? ⟨g, i * 4 + 2, none⟩ = some (.int .i64 (infD (F r.2)).2.1) ∧ W.cell? ⟨g, i * 4 + 3, none⟩ = some (.int .i64 (infD (F r.2)).2.2) := by
  have hi := (List.getElem?_eq_some_iff.1 hr).1
  have hl := h.1
  rw [stC_len] at hl
  rcases h.2 with ⟨_, e⟩ | ⟨g, cap, cur, e, hb, hg, hnc, hcm, hcs, htk⟩
  · omega
  · cases e
    refine ⟨g, rfl, ?_⟩
    have key : ∀ (l : List (ByteArray × Pth)) (i : Nat) (j : Nat), l[i]? = some r → j < 4 → (l.flatMap (stC F))[i * 4 + j]? = (stC F r)[j]? := by
      intro l
      induction l with
      | nil => intro i j h; cases h
      | cons x l ih =>
        intro i j h hj
        rw [List.flatMap_cons]
        cases i with
        | zero =>
          simp at h
          subst h
          rw [Nat.zero_mul, Nat.zero_add, List.getElem?_append_left (by simp [stC]; omega)]
        | succ i =>
          have e : (i + 1) * 4 + j = (stC F x).length + (i * 4 + j) := by simp [stC]; omega
          rw [e, List.getElem?_append_right (by omega), Nat.add_sub_cancel_left]
          exact ih i j (by simpa using h) hj
    have cell : ∀ j u, j < 4 → (stC F r)[j]? = some u → W.cell? ⟨g, i * 4 + j, none⟩ = some u := fun j u hj hu => by
      rw [cell_of_row _ _ _ _ _ _ hg]
      have h4 : (cur.toList.take (n * 4))[i * 4 + j]? = some u := by rw [htk, key rows i j hr hj, hu]
      rw [List.getElem?_take] at h4
      split at h4
      · simpa using h4
      · cases h4
    exact ⟨by have := cell 0 _ (by omega) rfl; simpa using this, cell 1 _ (by omega) rfl, cell 2 _ (by omega) rfl, cell 3 _ (by omega) rfl⟩
attribute [local go_sem] Oper.semAt_some
set_option maxHeartbeats 3200000 in
set_option maxRecDepth 100000 in
theorem Walk1_in (b N0 L n : Nat) (a : Option Addr) (c : Nat) (F : Pth → Option Nd) (rows : List (ByteArray × Pth)) (hn : rows.length = n) (hn2 : n ≤ 1000000) (J : Nat → World → Prop)
    (hJ : ∀ i W W', J i W → Below W.heap.size W W' → J i W')
    (hR : ∀ i W, J i W → W.cell? ⟨b, 0, none⟩ = some (.slice a n c) ∧ W.ownsRow N0 79 4 (.slice a n c) n (rows.flatMap (stC F)))
    (hY : ∀ m i r W, rows[i]? = some r → J i W → YieldAt Fence.wide m Tryd.prog L #[.string r.1, .agg #[.bool (infD (F r.2)).1, .int .i64 (infD (F r.2)).2.1, .int .i64 (infD (F r.2)).2.2]] W fun e W' => e = .returned (.bool true) ∧ J (i + 1) W')
    (W : World) (h0 : J 0 W) :
    Calls Tryd.prog 33 #[.func (.yield L) #[] #[], ptr b] W fun e W' => (∃ v, e = .returned v) ∧ J n W' := by
  have HJ : Hid (∀ i W W', J i W → Below W.heap.size W W' → J i W') := hJ
  have HR : Hid (∀ i W, J i W → W.cell? ⟨b, 0, none⟩ = some (.slice a n c) ∧ W.ownsRow N0 79 4 (.slice a n c) n (rows.flatMap (stC F))) := hR
  have HY : Hid (∀ m i r W, rows[i]? = some r → J i W → YieldAt Fence.wide m Tryd.prog L #[.string r.1, .agg #[.bool (infD (F r.2)).1, .int .i64 (infD (F r.2)).2.1, .int .i64 (infD (F r.2)).2.2]] W fun e W' => e = .returned (.bool true) ∧ J (i + 1) W') := hY
  have c1 := (hR 0 W h0).1
  clear hJ hR hY
  refine (callsIn_wide (n := 5)).1 (callsIn_of_wp Tryd.func33 rfl trivial ?_ rfl)
  simp only [Tryd.ntmps33, List.size_toArray, List.length_cons, List.length_nil, Nat.reduceAdd, Nat.reduceSub, Array.replicate_succ, Array.replicate_zero, List.push_toArray, List.append_toArray, List.nil_append, List.cons_append]
  gi_wp2_with fail
  gi_loopw [4, 7] (fun _ s7 wr => ∃ k : Nat, k ≤ n ∧ s7 = .int .i64 (k : Int) ∧ Hid (J k wr)) (fun _ s7 _ => n - (intOf s7).toNat)
  case atStart => exact ⟨0, by omega, rfl, h0⟩
  case round =>
    obtain ⟨k, hk, rfl, HS⟩ := hrel
    clear c1
    by_cases hlt : k < n
    · have q1 : (k : Int) < n := by omega
      obtain ⟨r, hr⟩ : ∃ r, rows[k]? = some r := ⟨_, List.getElem?_eq_getElem (by omega)⟩
      obtain ⟨g, rfl, c0, c1, c2, c3⟩ := own_stop (HR.out k wr HS.out).2 hr
      obtain ⟨Tx, Q⟩ := r
      obtain ⟨di, ni, ki, hinf⟩ : ∃ di ni ki, infD (F Q) = (di, ni, ki) := ⟨_, _, _, rfl⟩
      simp only [hinf] at c0 c1 c2 c3
      have BA := below_alloc wr (.cells #[.string Tx, .bool di, .int .i64 ni, .int .i64 ki] 79)
      have J2 := HJ.out k wr _ HS.out BA
      have hy0 := HY.out 4 k (Tx, Q) _ hr J2
      simp only [hinf] at hy0
      obtain ⟨fn, tmps, assign, body, hy, hR1⟩ := hy0
      clear BA J2
      gi_wp2_with fail
      refine hR1.mono ?_
      rintro e W3 ⟨rfl, J3⟩
      have HJ3 : Hid (J (k + 1) W3) := J3
      clear hR1 hy J3 c0 c1 c2 c3
      gi_wp2_with fail
      go_roundw
      case rel => exact ⟨k + 1, by omega, by go_num, HJ3.out⟩
      case measure => simp [intOf]; omega
    · have q1 : ¬ (k : Int) < n := by omega
      obtain rfl : k = n := by omega
      gi_wp2_with fail
      go_end0
      exact ⟨⟨_, rfl⟩, HS.out⟩
end Go.Proofs.YtdcmkcplklkfmaaDoor

namespace Go.Proofs.YtdcmkcplklkfmaaDoor
open Go.RowKit Go.Maps Go.Sort

abbrev iBx (n : Int) : Obj := .cells #[.int .i64 n] 3 (0, 0)
abbrev sBx (s : ByteArray) : Obj := .cells #[.string s] 9 (0, 0)
/-- Directories and files counted, the last text. -/
structure LsJ (W5 : World) (b0 D : Nat) (ob : Obj) (rows : List (ByteArray × Pth)) (i : Nat) (W : World) : Prop where
  chg : Chg (fun k => k = b0 ∨ k = b0 + 1 ∨ k = b0 + 1 + 1 ∨ k = D + 1) W5 W
  lp : W.heap[D + 1]? = some ob
  cn : ∃ (dn fn : Nat) (s : ByteArray), W.heap[b0]? = some (iBx dn) ∧ W.heap[b0 + 1]? = some (iBx fn) ∧ W.heap[b0 + 1 + 1]? = some (sBx s) ∧ dn + fn = i ∧ ∀ y, rows[i]? = some y → ¬ y.1 = s
theorem LsJ.below {W5 W W' : World} {b0 D i : Nat} {ob : Obj} {rows : List (ByteArray × Pth)} (h : LsJ W5 b0 D ob rows i W) (hb : Below W.heap.size W W') : LsJ W5 b0 D ob rows i W' := by
  have hk : ∀ k o, W.heap[k]? = some o → W'.heap[k]? = some o := fun k o ho => (hb.block k (Array.getElem?_eq_some_iff.1 ho).1).trans ho
  obtain ⟨dn, fn, s, h1, h2, h3, h4⟩ := h.cn
  exact ⟨h.chg.trans (Chg.ofBelowC hb) (fun _ _ h => h.elim), hk _ _ h.lp, dn, fn, s, hk _ _ h1, hk _ _ h2, hk _ _ h3, h4⟩
theorem box_cell {W : World} {b : Nat} {v : Value} {t : TypeId} (h : W.heap[b]? = some (.cells #[v] t (0, 0))) : W.cell? ⟨b, 0, none⟩ = some v ∧ W.frozen? ⟨b, 0, none⟩ = false := by
  refine ⟨by rw [cell_of_row _ _ _ _ _ _ h]; rfl, by simp [World.frozen?, h]⟩
theorem ls_more {W5 Wx : World} {b0 D i : Nat} {r1 r2 r3 : Loop} {rows : List (ByteArray × Pth)} {y : ByteArray × Pth} (h : LsJ W5 b0 D (.loop r1) rows i Wx) (hb : b0 + 2 < D) (hD : D + 1 < W5.heap.size) (hy : rows[i]? = some y) (hnext : ∀ z, rows[i + 1]? = some z → ¬ z.1 = y.1) (di : Bool) (ni ki : Int) :
    ∃ (dn fn : Nat) (s : ByteArray) (Wz W1 W2 : World), (Wx.alloc (inO di ni ki)).heap[D + 1]? = some (.loop r1) ∧ (Wx.alloc (inO di ni ki)).putObj (D + 1) (.loop r2) = Wz ∧ Wz.cell? ⟨b0 + 1 + 1, 0, none⟩ = some (.string s) ∧ ¬ y.1 = s ∧ Wz.frozen? ⟨b0 + 1 + 1, 0, none⟩ = false ∧ Wz.setCell ⟨b0 + 1 + 1, 0, none⟩ (.string y.1) = W1 ∧
      W1.cell? ⟨Wx.heap.size, 0, none⟩ = some (.bool di) ∧ W1.cell? ⟨b0, 0, none⟩ = some (.int .i64 dn) ∧ W1.cell? ⟨b0 + 1, 0, none⟩ = some (.int .i64 fn) ∧ W1.frozen? ⟨b0, 0, none⟩ = false ∧ W1.frozen? ⟨b0 + 1, 0, none⟩ = false ∧ dn + fn = i ∧
      (W1.setCell ⟨if di then b0 else b0 + 1, 0, none⟩ (.int .i64 ((if di then dn else fn : Nat) + 1 : Int))) = W2 ∧ W2.heap[D + 1]? = some (.loop r2) ∧ LsJ W5 b0 D (.loop r3) rows (i + 1) (W2.putObj (D + 1) (.loop r3)) := by
  obtain ⟨dn, fn, s, h1, h2, h3, h4, h5⟩ := h.cn
  have hs := h.chg.size
  have BA := below_alloc Wx (inO di ni ki)
  have IA := heap_alloc_new Wx (inO di ni ki)
  have zA : (Wx.alloc (inO di ni ki)).heap.size = Wx.heap.size + 1 := by simp
  generalize Wx.alloc (inO di ni ki) = Wa at *
  have ha : ∀ k o, Wx.heap[k]? = some o → Wa.heap[k]? = some o := fun k o ho => (BA.block k (Array.getElem?_eq_some_iff.1 ho).1).trans ho
  have cA : Chg (fun k => k = b0 ∨ k = b0 + 1 ∨ k = b0 + 1 + 1 ∨ k = D + 1) W5 Wa := h.chg.trans (Chg.ofBelowC BA) (fun _ _ h => h.elim)
  obtain ⟨Wz, hWz⟩ : ∃ Wz, Wa.putObj (D + 1) (.loop r2) = Wz := ⟨_, rfl⟩
  have hzo : ∀ k, ¬ k = D + 1 → Wz.heap[k]? = Wa.heap[k]? := fun k hk => by rw [← hWz]; exact World.putObj_heap_other hk
  have hzs : Wz.heap.size = Wa.heap.size := by rw [← hWz]; simp [World.putObj]
  have hzl : Wz.heap[D + 1]? = some (.loop r2) := by rw [← hWz]; exact World.putObj_heap_same (by omega)
  have cZ : Chg (fun k => k = D + 1) Wa Wz := by
    rw [← hWz]
    exact ⟨rfl, rfl, rfl, by simp [World.putObj], fun k _ hk => World.putObj_heap_other hk⟩
  have z3 := (hzo _ (by omega)).trans (ha _ _ h3)
  have zi : Wz.heap[Wx.heap.size]? = some (inO di ni ki) := (hzo _ (by omega)).trans IA
  obtain ⟨W1, hW1⟩ : ∃ W1, Wz.setCell ⟨b0 + 1 + 1, 0, none⟩ (.string y.1) = W1 := ⟨_, rfl⟩
  have c1 : Chg (fun k => k = b0 + 1 + 1) Wz W1 := by rw [← hW1]; exact Chg.setCell _ _ _ rfl
  have e1s : W1.heap.size = Wz.heap.size := by rw [← hW1]; simp
  have e13 : W1.heap[b0 + 1 + 1]? = some (sBx y.1) := by rw [← hW1]; exact heap_setCell_same Wz (b0 + 1 + 1) 0 _ 9 (.string y.1) z3
  have k1 : ∀ k o, ¬ k = D + 1 → ¬ k = b0 + 1 + 1 → Wa.heap[k]? = some o → W1.heap[k]? = some o := fun k o hk1 hk2 ho => by
    have := (Array.getElem?_eq_some_iff.1 ho).1
    exact (c1.block k (by omega) hk2).trans ((hzo k hk1).trans ho)
  have e10 := k1 _ _ (by omega) (by omega) (ha _ _ h1)
  have e11 := k1 _ _ (by omega) (by omega) (ha _ _ h2)
  have e1i := k1 _ _ (by omega) (by omega) IA
  have e1l : W1.heap[D + 1]? = some (.loop r2) := (c1.block _ (by omega) (by omega)).trans hzl
  obtain ⟨bd, hbd⟩ : ∃ bd, (if di then b0 else b0 + 1) = bd := ⟨_, rfl⟩
  have hbd2 : bd = b0 ∨ bd = b0 + 1 := by rw [← hbd]; cases di <;> simp
  obtain ⟨W2, hW2⟩ : ∃ W2, W1.setCell ⟨bd, 0, none⟩ (.int .i64 ((if di then dn else fn : Nat) + 1 : Int)) = W2 := ⟨_, rfl⟩
  have c2 : Chg (fun k => k = bd) W1 W2 := by rw [← hW2]; exact Chg.setCell _ _ _ rfl
  have e2l : W2.heap[D + 1]? = some (.loop r2) := (c2.block _ (by omega) (by omega)).trans e1l
  have e23 : W2.heap[b0 + 1 + 1]? = some (sBx y.1) := (c2.block _ (Array.getElem?_eq_some_iff.1 e13).1 (by omega)).trans e13
  have e2c : ∃ (dn' fn' : Nat), W2.heap[b0]? = some (iBx dn') ∧ W2.heap[b0 + 1]? = some (iBx fn') ∧ dn' + fn' = i + 1 := by
    cases di with
    | true =>
      simp only [if_true] at hbd hW2
      subst hbd
      refine ⟨dn + 1, fn, ?_, (c2.block _ (Array.getElem?_eq_some_iff.1 e11).1 (by omega)).trans e11, by omega⟩
      rw [← hW2]
      exact heap_setCell_same W1 b0 0 _ 3 _ e10
    | false =>
      simp only [Bool.false_eq_true, if_false] at hbd hW2
      subst hbd
      refine ⟨dn, fn + 1, (c2.block _ (Array.getElem?_eq_some_iff.1 e10).1 (by omega)).trans e10, ?_, by omega⟩
      rw [← hW2]
      exact heap_setCell_same W1 (b0 + 1) 0 _ 3 _ e11
  obtain ⟨dn', fn', p1, p2, p3⟩ := e2c
  obtain ⟨Wv, hWv⟩ : ∃ Wv, W2.putObj (D + 1) (.loop r3) = Wv := ⟨_, rfl⟩
  have hvo : ∀ j, ¬ j = D + 1 → Wv.heap[j]? = W2.heap[j]? := fun j h => by rw [← hWv]; exact World.putObj_heap_other h
  have e2s : W2.heap.size = W1.heap.size := by rw [← hW2]; simp
  have hvl : Wv.heap[D + 1]? = some (.loop r3) := by rw [← hWv]; exact World.putObj_heap_same (by omega)
  have cV : Chg (fun k => k = D + 1) W2 Wv := by
    rw [← hWv]
    exact ⟨rfl, rfl, rfl, by simp [World.putObj], fun k _ hk => World.putObj_heap_other hk⟩
  have cc : Chg (fun k => k = b0 ∨ k = b0 + 1 ∨ k = b0 + 1 + 1 ∨ k = D + 1) W5 Wv := (((cA.trans cZ (fun k _ h => by omega)).trans c1 (fun k _ h => by omega)).trans c2 (fun k _ h => by omega)).trans cV (fun k _ h => by omega)
  have bx := box_cell z3
  exact ⟨dn, fn, s, Wz, W1, W2, ha _ _ h.lp, hWz, bx.1, h5 y hy, bx.2, hW1, by rw [cell_of_row _ _ _ _ _ _ e1i]; rfl, (box_cell e10).1, (box_cell e11).1, (box_cell e10).2, (box_cell e11).2, h4, by rw [hbd]; exact hW2, e2l, by rw [hWv]; exact ⟨cc, hvl, dn', fn', y.1, (hvo _ (by omega)).trans p1, (hvo _ (by omega)).trans p2, (hvo _ (by omega)).trans e23, p3, hnext⟩⟩
/-- Sorted names rise. -/
theorem nmL_rise {kn : List ByteArray} (h : kn.Nodup) {i : Nat} {x y : List UInt8} (hx : (nmL kn)[i]? = some x) (hy : (nmL kn)[i + 1]? = some y) : x < y := by
  have tr : ∀ a b c : List UInt8, decide (a ≤ b) = true → decide (b ≤ c) = true → decide (a ≤ c) = true := by
    intro a b c h1 h2
    simp only [decide_eq_true_eq] at *
    exact List.le_trans h1 h2
  have to : ∀ a b : List UInt8, (decide (a ≤ b) || decide (b ≤ a)) = true := by
    intro a b
    simp only [Bool.or_eq_true, decide_eq_true_eq]
    exact List.le_total a b
  have hs : (nmL kn).Pairwise (fun a b => decide (a ≤ b) = true) := List.pairwise_mergeSort tr to _
  obtain ⟨l1, e1⟩ := List.getElem?_eq_some_iff.1 hx
  obtain ⟨l2, e2⟩ := List.getElem?_eq_some_iff.1 hy
  have h1 := (List.pairwise_iff_getElem.1 hs) i (i + 1) l1 l2 (by omega)
  have h2 := (List.pairwise_iff_getElem.1 (nmL_nodup h)) i (i + 1) l1 l2 (by omega)
  rw [e1, e2] at h1 h2
  simp only [decide_eq_true_eq] at h1
  exact Classical.byContradiction fun hn => h2 (List.le_antisymm h1 (List.not_lt.1 hn))
/-- Two names that stand side by side, read. -/
theorem nm_cells {w : World} {N n c : Nat} {a : Option Addr} {kn : List ByteArray} (h : w.ownsRow N 9 1 (.slice a n c) n ((nmL kn).map encStr)) (hn : kn.Nodup) {i : Nat} (hi : i + 1 < n) :
    ∃ (g : Nat) (X Y : ByteArray), a = some ⟨g, 0, none⟩ ∧ w.cell? ⟨g, i, none⟩ = some (.string X) ∧ w.cell? ⟨g, i + 1, none⟩ = some (.string Y) ∧ Op.bytesLess X.toList Y.toList = true := by
  have hl : (nmL kn).length = n := by have := h.1; simpa using this
  obtain ⟨x, hx⟩ : ∃ x, (nmL kn)[i]? = some x := ⟨_, List.getElem?_eq_getElem (by omega)⟩
  obtain ⟨y, hy⟩ : ∃ y, (nmL kn)[i + 1]? = some y := ⟨_, List.getElem?_eq_getElem (by omega)⟩
  have hlt := nmL_rise hn hx hy
  rcases h.2 with ⟨_, e⟩ | ⟨g, cap, cur, e, hb, hg, hnc, hcm, hcs, htk⟩
  · omega
  · cases e
    have key : ∀ (j : Nat) (z : List UInt8), (nmL kn)[j]? = some z → w.cell? ⟨g, j, none⟩ = some (.string ⟨z.toArray⟩) := by
      intro j z hz
      have h3 : cur.toList[j]? = some (encStr z) := by
        have h4 : (cur.toList.take (n * 1))[j]? = some (encStr z) := by rw [htk, List.getElem?_map, hz]; rfl
        rw [List.getElem?_take] at h4
        split at h4
        · exact h4
        · cases h4
      rw [cell_of_row _ _ _ _ _ _ hg]
      simpa [encStr] using h3
    refine ⟨g, _, _, rfl, key _ _ hx, key _ _ hy, ?_⟩
    rw [bytesLess_eq, Lib.toList_data, Lib.toList_data]
    simpa using hlt
end Go.Proofs.YtdcmkcplklkfmaaDoor

/-
  The document's log of the laws in memory, and the contracts of its small methods.
-/
import Derived.Test.YtmlhjcjonfalhaaGreatWAll
import Derived.BigRegion
namespace Go.Proofs.YtmlhjcjonfalhaaGreat
open Go.RowKit Go.Maps

/-- The first m cells of block q. -/
def Row (w : World) (q m : Nat) (g : Nat → Value) : Prop := ∃ (cs : Array Value) (ty : TypeId), w.heap[q]? = some (.cells cs ty (0, 0)) ∧ m ≤ cs.size ∧ ∀ n, n < m → cs[n]? = some (g n)
theorem Row.cell {w : World} {q m : Nat} {g : Nat → Value} (h : Row w q m g) {n : Nat} (hn : n < m) : w.cell? ⟨q, n, none⟩ = some (g n) := by
  obtain ⟨cs, ty, h1, h2, h3⟩ := h
  rw [cell_of_row w q n _ _ _ h1]; exact h3 n hn
theorem Row.fr {w : World} {q m : Nat} {g : Nat → Value} (h : Row w q m g) (n : Nat) : w.frozen? ⟨q, n, none⟩ = false := by
  obtain ⟨cs, ty, h1, h2, h3⟩ := h
  simp [World.frozen?, h1]
theorem Row.lt {w : World} {q m : Nat} {g : Nat → Value} (h : Row w q m g) : q < w.heap.size := by
  obtain ⟨cs, ty, h1, _⟩ := h
  exact (Array.getElem?_eq_some_iff.1 h1).1
theorem Row.kept {E : Nat → Prop} {w w' : World} {q m : Nat} {g : Nat → Value} (h : Row w q m g) (hc : Chg E w w') (hE : ¬ E q) : Row w' q m g := by
  have hl := h.lt
  obtain ⟨cs, ty, h1, h2⟩ := h
  exact ⟨cs, ty, (hc.block q hl hE).trans h1, h2⟩
theorem Row.sm {X : Nat → Prop} {w w' : World} {q m : Nat} {g : Nat → Value} (h : Row w q m g) (hs : Sm X w w') (hx : X q) : Row w' q m g := by
  obtain ⟨cs, ty, h1, h2⟩ := h
  exact ⟨cs, ty, (hs q hx).trans h1, h2⟩
theorem Row.set {w : World} {q m : Nat} {g : Nat → Value} (h : Row w q m g) {n : Nat} (hn : n < m) (v : Value) : Row (w.setCell ⟨q, n, none⟩ v) q m (upd g n v) := by
  obtain ⟨cs, ty, h1, h2, h3⟩ := h
  refine ⟨_, ty, heap_setCell_same w q n _ _ v h1, by simpa using h2, fun k hk => ?_⟩
  by_cases e : k = n
  · subst e
    rw [upd_same, Array.getElem?_setIfInBounds, if_pos rfl, if_pos (by omega)]
  · rw [upd_other _ _ e, Array.getElem?_setIfInBounds, if_neg (fun e2 => e e2.symm)]
    exact h3 k hk
theorem Row.congr {w : World} {q m : Nat} {g g' : Nat → Value} (h : Row w q m g) (e : ∀ n, n < m → g n = g' n) : Row w q m g' := by
  obtain ⟨cs, ty, h1, h2, h3⟩ := h
  exact ⟨cs, ty, h1, h2, fun n hn => by rw [h3 n hn, e n hn]⟩
theorem Row.own {w : World} {N e n g cap : Nat} {xs : List Value} {G : Nat → Value} (h : w.ownsRow N e 1 (.slice (some ⟨g, 0, none⟩) n cap) n xs) (hx : ∀ j, j < n → xs[j]? = some (G j)) : Row w g n G := by
  rcases h.2 with ⟨h1, _⟩ | ⟨g', cap', cur, h1, hb, hg, hnc, hcm, hcs, htake⟩
  · cases h1
  · cases h1
    refine ⟨cur, e, hg, by simp at hcs; omega, fun j hj => ?_⟩
    have := hx j hj
    rw [← htake] at this
    rw [List.getElem?_take] at this
    simp at this
    exact this.2

/-- The document's log: its blocks, which were written since the last Sync, how many transactions; the one that is open; how many Syncs. -/
structure Rf where
  L : Nat → ByteArray
  D : Nat → Bool
  pend : Nat
  op : Bool
  W : Nat → ByteArray
  wrote : Nat
  syncs : Nat
/-- .. in memory. -/
structure RfAt (w : World) (pr : Nat) (R : Rf) (lb lc db dc nb nc : Nat) (nv : Value) : Prop where
  blk : w.heap[pr]? = some (.cells #[.slice (some ⟨lb, 0, none⟩) 70 lc, .slice (some ⟨db, 0, none⟩) 70 dc, .int .i64 (R.pend : Int), .bool R.op, nv, .int .i64 (R.wrote : Int), .int .i64 (R.syncs : Int)] 48 (0, 0))
  l : Row w lb 70 (fun n => .string (R.L n))
  d : Row w db 70 (fun n => .bool (R.D n))
  n : R.op = true → nv = .slice (some ⟨nb, 0, none⟩) 70 nc ∧ 70 ≤ nc ∧ Row w nb 70 (fun n => .string (R.W n))
  nvf : ∃ a n c, nv = .slice a n c
  pl : pr ≠ lb
  pd : pr ≠ db
  pn : R.op = true → nb ≠ pr
  ld : lb ≠ db
  nl : R.op = true → nb ≠ lb ∧ nb ≠ db
  lcc : 70 ≤ lc
  dcc : 70 ≤ dc
section
variable {w w' : World} {pr : Nat} {R : Rf} {lb lc db dc nb nc : Nat} {nv : Value}
theorem RfAt.c0 (h : RfAt w pr R lb lc db dc nb nc nv) : w.cell? ⟨pr, 0, none⟩ = some (.slice (some ⟨lb, 0, none⟩) 70 lc) := by rw [cell_of_row w pr 0 _ _ _ h.blk]; rfl
theorem RfAt.c1 (h : RfAt w pr R lb lc db dc nb nc nv) : w.cell? ⟨pr, 1, none⟩ = some (.slice (some ⟨db, 0, none⟩) 70 dc) := by rw [cell_of_row w pr 1 _ _ _ h.blk]; rfl
theorem RfAt.c2 (h : RfAt w pr R lb lc db dc nb nc nv) : w.cell? ⟨pr, 2, none⟩ = some (.int .i64 (R.pend : Int)) := by rw [cell_of_row w pr 2 _ _ _ h.blk]; rfl
theorem RfAt.c3 (h : RfAt w pr R lb lc db dc nb nc nv) : w.cell? ⟨pr, 3, none⟩ = some (.bool R.op) := by rw [cell_of_row w pr 3 _ _ _ h.blk]; rfl
theorem RfAt.c4 (h : RfAt w pr R lb lc db dc nb nc nv) : w.cell? ⟨pr, 4, none⟩ = some nv := by rw [cell_of_row w pr 4 _ _ _ h.blk]; rfl
theorem RfAt.c5 (h : RfAt w pr R lb lc db dc nb nc nv) : w.cell? ⟨pr, 5, none⟩ = some (.int .i64 (R.wrote : Int)) := by rw [cell_of_row w pr 5 _ _ _ h.blk]; rfl
theorem RfAt.c6 (h : RfAt w pr R lb lc db dc nb nc nv) : w.cell? ⟨pr, 6, none⟩ = some (.int .i64 (R.syncs : Int)) := by rw [cell_of_row w pr 6 _ _ _ h.blk]; rfl
theorem RfAt.fr (h : RfAt w pr R lb lc db dc nb nc nv) (i : Nat) : w.frozen? ⟨pr, i, none⟩ = false := by simp [World.frozen?, h.blk]
theorem RfAt.lt (h : RfAt w pr R lb lc db dc nb nc nv) : pr < w.heap.size := (Array.getElem?_eq_some_iff.1 h.blk).1
theorem RfAt.kept {E : Nat → Prop} (h : RfAt w pr R lb lc db dc nb nc nv) (hc : Chg E w w') (h1 : ¬ E pr) (h2 : ¬ E lb) (h3 : ¬ E db) (h4 : R.op = true → ¬ E nb) : RfAt w' pr R lb lc db dc nb nc nv :=
  ⟨(hc.block pr h.lt h1).trans h.blk, h.l.kept hc h2, h.d.kept hc h3, fun ho => ⟨(h.n ho).1, (h.n ho).2.1, (h.n ho).2.2.kept hc (h4 ho)⟩, h.nvf, h.pl, h.pd, h.pn, h.ld, h.nl, h.lcc, h.dcc⟩
/-- Its blocks. -/
def RfB (pr lb db nb : Nat) (op : Bool) (b : Nat) : Prop := b = pr ∨ b = lb ∨ b = db ∨ (op = true ∧ b = nb)
theorem RfAt.sm {X : Nat → Prop} (h : RfAt w pr R lb lc db dc nb nc nv) (hs : Sm X w w') (hx : ∀ b, RfB pr lb db nb R.op b → X b) : RfAt w' pr R lb lc db dc nb nc nv :=
  ⟨(hs pr (hx pr (.inl rfl))).trans h.blk, h.l.sm hs (hx lb (.inr (.inl rfl))), h.d.sm hs (hx db (.inr (.inr (.inl rfl)))), fun ho => ⟨(h.n ho).1, (h.n ho).2.1, (h.n ho).2.2.sm hs (hx nb (.inr (.inr (.inr ⟨ho, rfl⟩))))⟩, h.nvf, h.pl, h.pd, h.pn, h.ld, h.nl, h.lcc, h.dcc⟩
/-- Only its struct has changed; what is open stays. -/
theorem RfAt.restruct {R' : Rf} (h : RfAt w pr R lb lc db dc nb nc nv) (hc : Chg (fun b => b = pr) w w') (hb : w'.heap[pr]? = some (.cells #[.slice (some ⟨lb, 0, none⟩) 70 lc, .slice (some ⟨db, 0, none⟩) 70 dc, .int .i64 (R'.pend : Int), .bool R'.op, nv, .int .i64 (R'.wrote : Int), .int .i64 (R'.syncs : Int)] 48 (0, 0)))
    (e1 : R'.L = R.L) (e2 : R'.D = R.D) (e3 : R'.W = R.W) (e4 : R'.op = true → R.op = true) : RfAt w' pr R' lb lc db dc nb nc nv :=
  ⟨hb, by rw [e1]; exact h.l.kept hc (Ne.symm h.pl), by rw [e2]; exact h.d.kept hc (Ne.symm h.pd), fun ho => ⟨(h.n (e4 ho)).1, (h.n (e4 ho)).2.1, by rw [e3]; exact (h.n (e4 ho)).2.2.kept hc (h.pn (e4 ho))⟩, h.nvf, h.pl, h.pd, fun ho => h.pn (e4 ho), h.ld, fun ho => h.nl (e4 ho), h.lcc, h.dcc⟩

set_option maxHeartbeats 400000 in
theorem ris_any (n : Int) (w : World) (h : RfAt w pr R lb lc db dc nb nc nv) : Calls Tryz.prog 75 #[.pointer (some ⟨pr, 0, none⟩), .int .i64 n] w fun e w' => e = .returned (.bool (decide (0 ≤ n ∧ n < 70))) ∧ w' = w := by
  have c0 := h.c0
  clear h
  by_cases h0 : 0 ≤ n
  · go_enter Tryz.func75, Tryz.ntmps75
    go_wp2
    go_ret
    simp [h0]
  · have k0 : decide (0 ≤ n) = false := by simpa using h0
    go_enter Tryz.func75, Tryz.ntmps75
    go_wp2
    go_ret
    simp

set_option maxHeartbeats 800000 in
theorem rabort_any (w : World) (h : RfAt w pr R lb lc db dc nb nc nv) : Calls Tryz.prog 73 #[.pointer (some ⟨pr, 0, none⟩)] w fun e w' => e = .returned (.tuple #[]) ∧ RfAt w' pr { R with op := false } lb lc db dc nb nc nv ∧ Chg (fun b => b = pr) w w' := by
  have c3 := h.c3
  have f3 := h.fr 3
  have hcs : Chg (fun b => b = pr) w (w.setCell ⟨pr, 3, none⟩ (.bool false)) := Chg.setCell _ _ _ rfl
  have HQ : Hid (RfAt (w.setCell ⟨pr, 3, none⟩ (.bool false)) pr { R with op := false } lb lc db dc nb nc nv ∧ Chg (fun b => b = pr) w (w.setCell ⟨pr, 3, none⟩ (.bool false))) := by
    refine ⟨h.restruct hcs ?_ rfl rfl rfl (fun h => by cases h), hcs⟩
    have := heap_setCell_same w pr 3 _ 48 (.bool false) h.blk
    simpa using this
  clear h hcs
  go_enter Tryz.func73, Tryz.ntmps73
  go_wp2
  go_end0
  exact ⟨rfl, HQ.out⟩

set_option maxHeartbeats 1600000 in
set_option maxRecDepth 100000 in
theorem rsync_any (w : World) (h : RfAt w pr R lb lc db dc nb nc nv) (hs : R.syncs < 1000000000) : Calls Tryz.prog 74 #[.pointer (some ⟨pr, 0, none⟩)] w fun e w' => e = .returned (.tuple #[]) ∧ RfAt w' pr { R with D := fun _ => false, pend := 0, syncs := R.syncs + 1 } lb lc db dc nb nc nv ∧ Chg (fun b => b = pr ∨ b = db) w w' := by
  have HK : Hid (RfAt w pr R lb lc db dc nb nc nv) := h
  have hdc := h.dcc
  clear h
  go_enter Tryz.func74, Tryz.ntmps74
  go_wp2
  go_loopw [2] (fun x wr => ∃ i, i ≤ 70 ∧ x = .int .i64 ((i : Nat) : Int) ∧ Hid (RfAt wr pr { R with D := fun n => if n < i then false else R.D n } lb lc db dc nb nc nv ∧ Chg (fun b => b = db) w wr)) (fun x _ => 70 - (intOf x).toNat)
  case atStart => exact ⟨0, by omega, rfl, by simpa using HK.out, Chg.refl _ _⟩
  case round =>
    obtain ⟨i, hi, rfl, HR⟩ := hrel
    have c0 := HR.out.1.c0
    by_cases hlt : i < 70
    · have hki : (i : Int) < 70 := by omega
      have c1 := HR.out.1.c1
      have cl := HR.out.1.d.cell hlt
      have fz := HR.out.1.d.fr i
      have hcs : Chg (fun b => b = db) wr (wr.setCell ⟨db, i, none⟩ (.bool false)) := Chg.setCell _ _ _ rfl
      have H2 : Hid (RfAt (wr.setCell ⟨db, i, none⟩ (.bool false)) pr { R with D := fun n => if n < i + 1 then false else R.D n } lb lc db dc nb nc nv ∧ Chg (fun b => b = db) w (wr.setCell ⟨db, i, none⟩ (.bool false))) := by
        have h := HR.out.1
        refine ⟨⟨(hcs.block pr h.lt h.pd).trans h.blk, h.l.kept hcs h.ld, (h.d.set hlt (.bool false)).congr (fun n _ => ?_), fun ho => ⟨(h.n ho).1, (h.n ho).2.1, (h.n ho).2.2.kept hcs (h.nl ho).2⟩, h.nvf, h.pl, h.pd, h.pn, h.ld, h.nl, h.lcc, h.dcc⟩, HR.out.2.trans hcs (fun _ _ h => h)⟩
        by_cases e : n = i
        · subst e; rw [upd_same]; simp
        · rw [upd_other _ _ e]
          by_cases h2 : n < i
          · simp [h2, show n < i + 1 by omega]
          · simp [h2, show ¬ n < i + 1 by omega]
      generalize (if i < i then false else R.D i) = bq at *
      clear HR hcs
      go_wp2
      go_roundw
      case rel => exact ⟨i + 1, by omega, by go_num, H2⟩
      case measure => simp [intOf]; omega
    · have hie : i = 70 := by omega
      subst hie
      have c2 := HR.out.1.c2
      have c6 := HR.out.1.c6
      have f2 := HR.out.1.fr 2
      have f6 := HR.out.1.fr 6
      have hcs : Chg (fun b => b = pr) wr ((wr.setCell ⟨pr, 2, none⟩ (.int .i64 0)).setCell ⟨pr, 6, none⟩ (.int .i64 ((R.syncs : Int) + 1))) := (Chg.setCell (S := fun b => b = pr) _ _ _ rfl).trans (Chg.setCell (S := fun b => b = pr) _ _ _ rfl) (fun _ _ h => h)
      have HQ : Hid (RfAt ((wr.setCell ⟨pr, 2, none⟩ (.int .i64 0)).setCell ⟨pr, 6, none⟩ (.int .i64 ((R.syncs : Int) + 1))) pr { R with D := fun _ => false, pend := 0, syncs := R.syncs + 1 } lb lc db dc nb nc nv ∧ Chg (fun b => b = pr ∨ b = db) w ((wr.setCell ⟨pr, 2, none⟩ (.int .i64 0)).setCell ⟨pr, 6, none⟩ (.int .i64 ((R.syncs : Int) + 1)))) := by
        have h := HR.out.1
        have g1 := heap_setCell_same wr pr 2 _ 48 (.int .i64 0) h.blk
        have g2 := heap_setCell_same _ pr 6 _ 48 (.int .i64 ((R.syncs : Int) + 1)) g1
        refine ⟨⟨by simpa using g2, h.l.kept hcs (Ne.symm h.pl), (h.d.kept hcs (Ne.symm h.pd)).congr (fun n hn => by simp [hn]), fun ho => ⟨(h.n ho).1, (h.n ho).2.1, (h.n ho).2.2.kept hcs (h.pn ho)⟩, h.nvf, h.pl, h.pd, h.pn, h.ld, h.nl, h.lcc, h.dcc⟩, (HR.out.2.mono (fun _ _ h => .inr h)).trans hcs (fun _ _ h => .inl h)⟩
      clear HR hcs
      go_wp2
      go_end0
      exact ⟨rfl, HQ.out⟩
end
end Go.Proofs.YtmlhjcjonfalhaaGreat

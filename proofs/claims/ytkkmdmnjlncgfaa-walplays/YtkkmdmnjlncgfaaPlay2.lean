/-
  A log and the document's beside it: the play of WalPlays; its acts.
-/
import Derived.Test.YtkkmdmnjlncgfaaPlay1
namespace Go.Proofs.Ytkkmdmnjlncgfaa
open Go.RowKit Go.Maps

theorem eqT_nn (w : World) : (binOp .eql 35 (.pointer none) (.pointer none)).run Try.prog w = .ok (.bool true) w := by kernel_rfl
theorem neqT_nn (w : World) : (binOp .neq 35 (.pointer none) (.pointer none)).run Try.prog w = .ok (.bool false) w := by kernel_rfl
theorem neqT_some (a : Addr) (w : World) : (binOp .neq 35 (.pointer (some a)) (.pointer none)).run Try.prog w = .ok (.bool true) w := by kernel_rfl

/-- The document's log tells what the log is. -/
structure Cor (R : Rf) (f : Nat → List Int) (com : Nat → Option (List Int)) (pend : Nat) (live : Bool) (own : Nat → Option (List Int)) (wrote : Nat) : Prop where
  l : ∀ n, n < 70 → R.L n = strOf (ovr f com n)
  d : ∀ n, n < 70 → R.D n = (com n).isSome
  p : R.pend = pend
  o : R.op = live
  w : live = true → (∀ n, n < 70 → R.W n = wstr (own n)) ∧ R.wrote = wrote
/-- A log, with its transaction or without. -/
def Up (X : Nat → Prop) (w0 w : World) (pd pl : Nat) (tv : Value) (f : Nat → List Int) (com : Nat → Option (List Int)) (pend : Nat) (live : Bool) (own : Nat → Option (List Int)) (wrote N : Nat) : Prop :=
  (tv = .pointer none ∧ live = false ∧ LogUp X w0 w pd pl 70 f com pend N) ∨ ∃ q, tv = .pointer (some ⟨q, 0, none⟩) ∧ TxUp X w0 w pd pl q 70 f com pend live own wrote N
/-- The play in memory. -/
structure PlAt (X : Nat → Prop) (w0 w : World) (pp pl : Nat) (tv : Value) (pr : Nat) (R : Rf) (lb lc db dc nb nc : Nat) (nv : Value) : Prop where
  blk : w.heap[pp]? = some (.cells #[.pointer (some ⟨pl, 0, none⟩), tv, .pointer (some ⟨pr, 0, none⟩)] 37 (0, 0))
  rf : RfAt w pr R lb lc db dc nb nc nv
  xp : X pp ∧ w0.heap.size ≤ pp
  xr : ∀ b, RfB pr lb db nb R.op b → X b ∧ w0.heap.size ≤ b
  ne : ∀ b, RfB pr lb db nb R.op b → b ≠ pp
/-- The whole, behind k acts. -/
def Pl (w0 w : World) (pd pp k : Nat) : Prop :=
  ∃ X pl tv pr R lb lc db dc nb nc nv f com pend live own wrote, PlAt X w0 w pp pl tv pr R lb lc db dc nb nc nv ∧ Up X w0 w pd pl tv f com pend live own wrote (1000 + 128 * k) ∧ Cor R f com pend live own wrote ∧ pend ≤ k ∧ R.syncs ≤ k

section
variable {X : Nat → Prop} {w0 w w' : World} {pd pp pl q pr : Nat} {tv : Value} {R : Rf} {lb lc db dc nb nc : Nat} {nv : Value} {f : Nat → List Int} {com own : Nat → Option (List Int)} {pend wrote N k : Nat} {live : Bool}
theorem PlAt.c0 (h : PlAt X w0 w pp pl tv pr R lb lc db dc nb nc nv) : w.cell? ⟨pp, 0, none⟩ = some (.pointer (some ⟨pl, 0, none⟩)) := by rw [cell_of_row w pp 0 _ _ _ h.blk]; rfl
theorem PlAt.c1 (h : PlAt X w0 w pp pl tv pr R lb lc db dc nb nc nv) : w.cell? ⟨pp, 1, none⟩ = some tv := by rw [cell_of_row w pp 1 _ _ _ h.blk]; rfl
theorem PlAt.c2 (h : PlAt X w0 w pp pl tv pr R lb lc db dc nb nc nv) : w.cell? ⟨pp, 2, none⟩ = some (.pointer (some ⟨pr, 0, none⟩)) := by rw [cell_of_row w pp 2 _ _ _ h.blk]; rfl
theorem PlAt.fr (h : PlAt X w0 w pp pl tv pr R lb lc db dc nb nc nv) (i : Nat) : w.frozen? ⟨pp, i, none⟩ = false := by simp [World.frozen?, h.blk]
theorem PlAt.sm (h : PlAt X w0 w pp pl tv pr R lb lc db dc nb nc nv) (hs : Sm X w w') : PlAt X w0 w' pp pl tv pr R lb lc db dc nb nc nv :=
  ⟨(hs pp h.xp.1).trans h.blk, h.rf.sm hs (fun b hb => (h.xr b hb).1), h.xp, h.xr, h.ne⟩
theorem PlAt.kept (h : PlAt X w0 w pp pl tv pr R lb lc db dc nb nc nv) (hc : Chg (fun _ => False) w w') : PlAt X w0 w' pp pl tv pr R lb lc db dc nb nc nv :=
  ⟨(hc.block pp (Array.getElem?_eq_some_iff.1 h.blk).1 (fun h => h)).trans h.blk, h.rf.kept hc (fun h => h) (fun h => h) (fun h => h) (fun _ h => h), h.xp, h.xr, h.ne⟩
theorem PlAt.xsub {X' : Nat → Prop} (h : PlAt X w0 w pp pl tv pr R lb lc db dc nb nc nv) (hx : ∀ b, X b → X' b) : PlAt X' w0 w pp pl tv pr R lb lc db dc nb nc nv :=
  ⟨h.blk, h.rf, ⟨hx _ h.xp.1, h.xp.2⟩, fun b hb => ⟨hx b (h.xr b hb).1, (h.xr b hb).2⟩, h.ne⟩
/-- The document's log did something to its own blocks. -/
theorem PlAt.did {E : Nat → Prop} {R' : Rf} {nb' nc' : Nat} {nv' : Value} (h : PlAt X w0 w pp pl tv pr R lb lc db dc nb nc nv) (hr : RfAt w' pr R' lb lc db dc nb' nc' nv') (hc : Chg E w w') (hE : ¬ E pp) (ho : R'.op = true → (R.op = true ∧ nb' = nb) ∨ (w.heap.size ≤ nb' ∧ nb' < w'.heap.size)) (h0 : w0.heap.size ≤ w.heap.size) :
    PlAt (addX X w.heap.size w'.heap.size) w0 w' pp pl tv pr R' lb lc db dc nb' nc' nv' := by
  have hl : pp < w.heap.size := (Array.getElem?_eq_some_iff.1 h.blk).1
  have hb : ∀ b, RfB pr lb db nb' R'.op b → RfB pr lb db nb R.op b ∨ (w.heap.size ≤ b ∧ b < w'.heap.size) := fun b hb => by
    rcases hb with e | e | e | ⟨e1, e2⟩
    · exact .inl (.inl e)
    · exact .inl (.inr (.inl e))
    · exact .inl (.inr (.inr (.inl e)))
    · rcases ho e1 with ⟨e3, e4⟩ | e3
      · exact .inl (.inr (.inr (.inr ⟨e3, e2.trans e4⟩)))
      · exact .inr (e2 ▸ e3)
  refine ⟨(hc.block pp hl hE).trans h.blk, hr, ⟨.inl h.xp.1, h.xp.2⟩, fun b hb' => ?_, fun b hb' => ?_⟩
  · rcases hb b hb' with e | e
    · exact ⟨.inl (h.xr b e).1, (h.xr b e).2⟩
    · exact ⟨.inr e, by omega⟩
  · rcases hb b hb' with e | e
    · exact h.ne b e
    · omega
theorem Up.chg (h : Up X w0 w pd pl tv f com pend live own wrote N) : Chg (fun _ => False) w0 w := by
  rcases h with ⟨_, _, h⟩ | ⟨q, _, h⟩
  · exact h.chg
  · exact h.chg
theorem Up.more (h : Up X w0 w pd pl tv f com pend live own wrote N) (hc : Chg (fun _ => False) w w') : Up X w0 w' pd pl tv f com pend live own wrote N := by
  rcases h with ⟨e1, e2, h⟩ | ⟨q, e1, h⟩
  · exact .inl ⟨e1, e2, h.more hc⟩
  · exact .inr ⟨q, e1, h.more hc⟩
theorem Up.mono {N' : Nat} (h : Up X w0 w pd pl tv f com pend live own wrote N) (hN : N ≤ N') : Up X w0 w pd pl tv f com pend live own wrote N' := by
  rcases h with ⟨e1, e2, h⟩ | ⟨q, e1, F, G, S, m, V, mt, Vt, h1, h2, h3, h4, h5, h6⟩
  · exact .inl ⟨e1, e2, h.mono hN⟩
  · exact .inr ⟨q, e1, F, G, S, m, V, mt, Vt, h1, h2, h3, h4, by omega, h6⟩
theorem Up.ref {E : Nat → Prop} (h : Up X w0 w pd pl tv f com pend live own wrote N) (hc : Chg E w w') (hE : ∀ b, b < w.heap.size → E b → X b ∧ w0.heap.size ≤ b) : Up (addX X w.heap.size w'.heap.size) w0 w' pd pl tv f com pend live own wrote N := by
  rcases h with ⟨e1, e2, h⟩ | ⟨q, e1, h⟩
  · exact .inl ⟨e1, e2, h.ref hc hE⟩
  · exact .inr ⟨q, e1, h.ref hc hE⟩
theorem Up.form (h : Up X w0 w pd pl tv f com pend live own wrote N) : tv = .pointer none ∨ ∃ q, tv = .pointer (some ⟨q, 0, none⟩) := by
  rcases h with ⟨e1, e2, h⟩ | ⟨q, e1, h⟩
  · exact .inl e1
  · exact .inr ⟨q, e1⟩
/-- With no transaction that is open: the log alone. -/
theorem Up.log (h : Up X w0 w pd pl tv f com pend false own wrote N) : LogUp X w0 w pd pl 70 f com pend N := by
  rcases h with ⟨_, _, h⟩ | ⟨q, _, h⟩
  · exact h
  · exact h.log
theorem Up.lt (h : Up X w0 w pd pl tv f com pend live own wrote N) : ∀ n b, com n = some b → n < 70 ∧ b.length = 512 := by
  rcases h with ⟨_, _, h⟩ | ⟨q, _, F, G, S, m, V, mt, Vt, h1, _⟩
  · exact h.lt.1
  · exact fun n b hb => ⟨(h1.lk.lg.mb.row n b hb).1, (h1.lk.lg.mb.row n b hb).2.1⟩
theorem Pl.up (h : Pl w0 w pd pp k) {k' : Nat} (hk : k ≤ k') : Pl w0 w pd pp k' := by
  obtain ⟨X, pl, tv, pr, R, lb, lc, db, dc, nb, nc, nv, f, com, pend, live, own, wrote, h1, h2, h3, h4, h5⟩ := h
  exact ⟨X, pl, tv, pr, R, lb, lc, db, dc, nb, nc, nv, f, com, pend, live, own, wrote, h1, h2.mono (by omega), h3, by omega, by omega⟩
theorem Pl.chg (h : Pl w0 w pd pp k) : Chg (fun _ => False) w0 w := by
  obtain ⟨X, pl, tv, pr, R, lb, lc, db, dc, nb, nc, nv, f, com, pend, live, own, wrote, h1, h2, h3, h4, h5⟩ := h
  exact h2.chg

theorem Pl.enter (h : Pl w0 w pd pp k) (o : Obj) : ∃ X pl tv pr R lb lc db dc nb nc nv f com pend live own wrote, PlAt X w0 (w.alloc o) pp pl tv pr R lb lc db dc nb nc nv ∧ Up X w0 (w.alloc o) pd pl tv f com pend live own wrote (1000 + 128 * k) ∧ Cor R f com pend live own wrote ∧ pend ≤ k ∧ R.syncs ≤ k ∧ X w.heap.size ∧ (∀ b, RfB pr lb db nb R.op b → b ≠ w.heap.size) ∧ pp ≠ w.heap.size := by
  obtain ⟨X, pl, tv, pr, R, lb, lc, db, dc, nb, nc, nv, f, com, pend, live, own, wrote, h1, h2, h3, h4, h5⟩ := h
  have hc : Chg (fun _ => False) w (w.alloc o) := Chg.alloc (fun _ => False) w o
  have h2' : Up (addX X w.heap.size (w.alloc o).heap.size) w0 (w.alloc o) pd pl tv f com pend live own wrote (1000 + 128 * k) := by
    rcases h2 with ⟨e1, e2, h⟩ | ⟨q, e1, h⟩
    · exact .inl ⟨e1, e2, h.add hc⟩
    · exact .inr ⟨q, e1, h.add hc⟩
  have hx : ∀ b, X b → b < w.heap.size := by
    rcases h2 with ⟨e1, e2, h⟩ | ⟨q, e1, h⟩
    · exact h.xlt
    · exact h.xlt
  refine ⟨addX X w.heap.size (w.alloc o).heap.size, pl, tv, pr, R, lb, lc, db, dc, nb, nc, nv, f, com, pend, live, own, wrote, (h1.kept hc).xsub (fun b hb => .inl hb), h2', h3, h4, h5, .inr ⟨Nat.le_refl _, by rw [World.size_alloc]; omega⟩, fun b hb => ?_, ?_⟩
  · have := hx b (h1.xr b hb).1; omega
  · have := hx pp h1.xp.1; omega
theorem Pl.more (h : Pl w0 w pd pp k) (hc : Chg (fun _ => False) w w') : Pl w0 w' pd pp k := by
  obtain ⟨X, pl, tv, pr, R, lb, lc, db, dc, nb, nc, nv, f, com, pend, live, own, wrote, h1, h2, h3, h4, h5⟩ := h
  exact ⟨X, pl, tv, pr, R, lb, lc, db, dc, nb, nc, nv, f, com, pend, live, own, wrote, h1.kept hc, h2.more hc, h3, h4, h5⟩

set_option maxHeartbeats 800000 in
set_option maxRecDepth 100000 in
theorem pstep_other (op n : Int) (bv : Value) (w : World) (h1 : op ≠ 1) (h2 : op ≠ 2) (h8 : op ≠ 8) (h3 : op ≠ 3) (h4 : op ≠ 4) (h5 : op ≠ 5) (h6 : op ≠ 6) (h7 : op ≠ 7) :
    Calls Try.prog 13 #[.pointer (some ⟨pp, 0, none⟩), .agg #[.int .i64 op, .int .i64 n, bv]] w fun e w' => e = .returned (.bool true) ∧ Chg (fun _ => False) w w' := by
  go_enter Try.func13, Try.ntmps13
  go_wp2
  go_ret
  exact ⟨rfl, Chg.alloc (fun _ => False) w _⟩
end
end Go.Proofs.Ytkkmdmnjlncgfaa

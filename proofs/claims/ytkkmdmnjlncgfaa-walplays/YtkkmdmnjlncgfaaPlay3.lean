/-
  The acts of a play: Begin, Abort, Sync.
-/
import Derived.Test.YtkkmdmnjlncgfaaPlay2
namespace Go.Proofs.Ytkkmdmnjlncgfaa
open Go.RowKit Go.Maps

section
variable {X : Nat → Prop} {w0 w w' : World} {pd pp pl q pr : Nat} {tv : Value} {R : Rf} {lb lc db dc nb nc : Nat} {nv : Value} {f : Nat → List Int} {com own : Nat → Option (List Int)} {pend wrote N k : Nat} {live : Bool}

theorem Cor.begun (h : Cor R f com pend false own wrote) : Cor { R with op := true, W := fun _ => ByteArray.empty, wrote := 0 } f com pend true (fun _ => none) 0 :=
  ⟨h.l, h.d, h.p, rfl, fun _ => ⟨fun _ _ => rfl, rfl⟩⟩
theorem pl_begun {w1 w2 : World} {nb' nc' : Nat} {nv' : Value} (h : PlAt X w0 w pp pl tv pr R lb lc db dc nb nc nv) (hcor : Cor R f com pend false own wrote) (ht : TxUp X w0 w1 pd pl q 70 f com pend true (fun _ => none) 0 (1000 + 128 * k)) (hs : Sm X w w1)
    (hr : RfAt w2 pr { R with op := true, W := fun _ => ByteArray.empty, wrote := 0 } lb lc db dc nb' nc' nv') (hc : Chg (fun b => b = pr) w1 w2) (h1 : w1.heap.size ≤ nb') (h2 : nb' < w2.heap.size) (hp : pend ≤ k) (hsy : R.syncs ≤ k) :
    w2.cell? ⟨pp, 1, none⟩ = some tv ∧ w2.frozen? ⟨pp, 1, none⟩ = false ∧ Hid (Pl w0 (w2.setCell ⟨pp, 1, none⟩ (.pointer (some ⟨q, 0, none⟩))) pd pp (k + 1)) := by
  have h0 := ht.chg.size
  have hpr : RfB pr lb db nb R.op pr := .inl rfl
  have p1 := h.sm hs
  have p2 := p1.did hr hc (fun e => h.ne pr hpr e.symm) (fun _ => .inr ⟨h1, h2⟩) h0
  have t2 := ht.ref hc (fun b _ e => e ▸ h.xr pr hpr)
  have hcs : Chg (fun b => b = pp) w2 (w2.setCell ⟨pp, 1, none⟩ (.pointer (some ⟨q, 0, none⟩))) := Chg.setCell _ _ _ rfl
  refine ⟨p2.c1, p2.fr 1, _, pl, .pointer (some ⟨q, 0, none⟩), pr, _, lb, lc, db, dc, nb', nc', nv', f, com, pend, true, _, 0, ⟨?_, ?_, p2.xp, p2.xr, p2.ne⟩, Up.mono (.inr ⟨q, rfl, t2.put p2.xp.1 p2.xp.2 hcs⟩) (by omega), hcor.begun, by omega, ?_⟩
  · have := heap_setCell_same w2 pp 1 _ 37 (.pointer (some ⟨q, 0, none⟩)) p2.blk
    simpa using this
  · exact p2.rf.kept hcs (p2.ne pr (.inl rfl)) (p2.ne lb (.inr (.inl rfl))) (p2.ne db (.inr (.inr (.inl rfl)))) (fun ho => p2.ne nb' (.inr (.inr (.inr ⟨ho, rfl⟩))))
  · show R.syncs ≤ k + 1; omega

set_option maxHeartbeats 1600000 in
set_option maxRecDepth 100000 in
theorem pstep_begin (n : Int) (bv : Value) (w : World) (h : Pl w0 w pd pp k) :
    Calls Try.prog 13 #[.pointer (some ⟨pp, 0, none⟩), .agg #[.int .i64 1, .int .i64 n, bv]] w fun e w' => e = .returned (.bool true) ∧ Pl w0 w' pd pp (k + 1) := by
  have HP : Hid (Pl w0 w pd pp k) := h
  obtain ⟨X, pl, tv, pr, R, lb, lc, db, dc, nb, nc, nv, f, com, pend, live, own, wrote, p1, u1, c1, b1, b2, x1, x2, x3⟩ := h.enter (.cells #[.int .i64 1, .int .i64 n, bv] 41)
  obtain ⟨w1, hw1⟩ : ∃ w1, w.alloc (.cells #[.int .i64 1, .int .i64 n, bv] 41) = w1 := ⟨_, rfl⟩
  have HW : Hid (Chg (fun _ => False) w w1) := by rw [← hw1]; exact Chg.alloc (fun _ => False) w _
  cases live with
  | true =>
    rw [hw1] at p1 u1
    rcases u1 with ⟨_, e, _⟩ | ⟨q, rfl, t1⟩
    · cases e
    have HK : Hid (PlAt X w0 w1 pp pl (.pointer (some ⟨q, 0, none⟩)) pr R lb lc db dc nb nc nv ∧ TxUp X w0 w1 pd pl q 70 f com pend true own wrote (1000 + 128 * k) ∧ R.op = true) := ⟨p1, t1, c1.o⟩
    have d0 := p1.c0
    have d2 := p1.c2
    rw [← hw1] at d0 d2
    have HW1 : Hid (w.alloc (.cells #[.int .i64 1, .int .i64 n, bv] 41) = w1) := hw1
    clear h p1 t1 c1 x1 x2 x3 hw1
    go_enter Try.func13, Try.ntmps13
    go_wp2_with fail
    rw [HW1.out]
    rw [HW1.out] at d0 d2
    refine (begin_busy_up HK.out.2.1).mono ?_
    rintro e w2 ⟨rfl, rfl⟩
    go_wp2_with fail
    refine (rbegin_busy w2 HK.out.1.rf HK.out.2.2).mono ?_
    rintro e w3 ⟨rfl, rfl⟩
    have hq := eqT_nn
    have hq2 := neqT_nn
    have HQ : Hid (Pl w0 w3 pd pp (k + 1)) := (HP.out.more HW.out).up (by omega)
    clear HK HP
    go_wp2
    go_ret
    exact ⟨rfl, HQ.out⟩
  | false =>
    rw [hw1] at p1 u1
    have HK : Hid (PlAt X w0 w1 pp pl tv pr R lb lc db dc nb nc nv ∧ LogUp X w0 w1 pd pl 70 f com pend (1000 + 128 * k) ∧ Cor R f com pend false own wrote) := ⟨p1, u1.log, c1⟩
    have d0 := p1.c0
    rw [← hw1] at d0
    have HW1 : Hid (w.alloc (.cells #[.int .i64 1, .int .i64 n, bv] 41) = w1) := hw1
    have HB : Hid (pend ≤ k ∧ R.syncs ≤ k) := ⟨b1, b2⟩
    obtain htv := u1.form
    clear h p1 u1 c1 x1 x2 x3 hw1 b1 b2
    go_enter Try.func13, Try.ntmps13
    go_wp2_with fail
    rw [HW1.out]
    rw [HW1.out] at d0
    refine (begin_up HK.out.2.1).mono ?_
    rintro e w2 ⟨q, rfl, t2, s2⟩
    have p2 := HK.out.1.sm s2
    have d2 := p2.c2
    have HT : Hid (TxUp X w0 w2 pd pl q 70 f com pend true (fun _ => none) 0 (1000 + 128 * k) ∧ Sm X w1 w2 ∧ RfAt w2 pr R lb lc db dc nb nc nv) := ⟨t2, s2, p2.rf⟩
    clear t2 s2 p2 d0
    go_wp2_with fail
    refine (rbegin_any w2 HT.out.2.2 HK.out.2.2.o).mono ?_
    rintro e w3 ⟨rfl, nb', nv', hr, hc, g1, g2⟩
    obtain ⟨e1, e2, HQ⟩ := pl_begun HK.out.1 HK.out.2.2 HT.out.1 HT.out.2.1 hr hc g1 g2 HB.out.1 HB.out.2
    have hq := eqT_some ⟨q, 0, none⟩
    have hq2 := neqT_some ⟨q, 0, none⟩
    clear HT HK hr hc g1 g2 HB d2
    rcases htv with rfl | ⟨q0, rfl⟩
    · go_wp2
      go_ret
      exact ⟨rfl, HQ.out⟩
    · go_wp2
      go_ret
      exact ⟨rfl, HQ.out⟩
end
end Go.Proofs.Ytkkmdmnjlncgfaa

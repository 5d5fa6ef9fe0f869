/-
  The acts of a play: Abort and Sync.
-/
import Derived.Test.YtkkmdmnjlncgfaaPlay3
namespace Go.Proofs.Ytkkmdmnjlncgfaa
open Go.RowKit Go.Maps

section
variable {X : Nat → Prop} {w0 w w' : World} {pd pp pl q pr : Nat} {tv : Value} {R : Rf} {lb lc db dc nb nc : Nat} {nv : Value} {f : Nat → List Int} {com own : Nat → Option (List Int)} {pend wrote N k : Nat} {live : Bool}

/-- The document's log did something to its own blocks, and made none. -/
theorem pl_ref {E : Nat → Prop} {R' : Rf} {nv' : Value} (h : PlAt X w0 w pp pl tv pr R lb lc db dc nb nc nv) (hu : Up X w0 w pd pl tv f com pend live own wrote N) (hr : RfAt w' pr R' lb lc db dc nb nc nv') (hc : Chg E w w') (hE : ∀ b, E b → RfB pr lb db nb R.op b) (ho : R'.op = true → R.op = true) :
    PlAt (addX X w.heap.size w'.heap.size) w0 w' pp pl tv pr R' lb lc db dc nb nc nv' ∧ Up (addX X w.heap.size w'.heap.size) w0 w' pd pl tv f com pend live own wrote N :=
  ⟨h.did hr hc (fun e => h.ne pp (hE pp e) rfl) (fun e => .inl ⟨ho e, rfl⟩) hu.chg.size, hu.ref hc (fun b _ e => h.xr b (hE b e))⟩
theorem Cor.aborted (h : Cor R f com pend live own wrote) (own' : Nat → Option (List Int)) (wrote' : Nat) : Cor { R with op := false } f com pend false own' wrote' := ⟨h.l, h.d, h.p, rfl, (fun e => by cases e)⟩
theorem Cor.synced (h : Cor R f com pend live own wrote) : Cor (rsyn R) (ovr f com) (fun _ => none) 0 live own wrote := ⟨h.l, fun _ _ => rfl, rfl, h.o, h.w⟩

set_option maxHeartbeats 1600000 in
set_option maxRecDepth 100000 in
theorem pstep_abort (n : Int) (bv : Value) (w : World) (h : Pl w0 w pd pp k) :
    Calls Try.prog 13 #[.pointer (some ⟨pp, 0, none⟩), .agg #[.int .i64 4, .int .i64 n, bv]] w fun e w' => e = .returned (.bool true) ∧ Pl w0 w' pd pp (k + 1) := by
  have HP : Hid (Pl w0 w pd pp k) := h
  obtain ⟨X, pl, tv, pr, R, lb, lc, db, dc, nb, nc, nv, f, com, pend, live, own, wrote, p1, u1, c1, b1, b2, x1, x2, x3⟩ := h.enter (.cells #[.int .i64 4, .int .i64 n, bv] 41)
  obtain ⟨w1, hw1⟩ : ∃ w1, w.alloc (.cells #[.int .i64 4, .int .i64 n, bv] 41) = w1 := ⟨_, rfl⟩
  have HW : Hid (Chg (fun _ => False) w w1) := by rw [← hw1]; exact Chg.alloc (fun _ => False) w _
  have d1 := p1.c1
  have HW1 : Hid (w.alloc (.cells #[.int .i64 4, .int .i64 n, bv] 41) = w1) := hw1
  rw [hw1] at p1 u1
  have HB : Hid (pend ≤ k ∧ R.syncs ≤ k ∧ Cor R f com pend live own wrote) := ⟨b1, b2, c1⟩
  rcases u1 with ⟨rfl, e, l1⟩ | ⟨q, rfl, t1⟩
  · have hq := neqT_nn
    have HQ : Hid (Pl w0 w1 pd pp (k + 1)) := (HP.out.more HW.out).up (by omega)
    clear h p1 c1 x1 x2 x3 l1 b1 b2 HB HP HW hw1
    go_enter Try.func13, Try.ntmps13
    go_wp2
    go_ret
    rw [HW1.out]
    exact ⟨rfl, HQ.out⟩
  · have hq := neqT_some ⟨q, 0, none⟩
    have AB : Hid (Calls Try.prog 16 #[.pointer (some ⟨q, 0, none⟩)] w1 fun e w2 => e = .returned (.tuple #[]) ∧ w2.cell? ⟨pp, 2, none⟩ = some (.pointer (some ⟨pr, 0, none⟩)) ∧ ∃ wrote', Hid (PlAt X w0 w2 pp pl (.pointer (some ⟨q, 0, none⟩)) pr R lb lc db dc nb nc nv ∧ TxUp X w0 w2 pd pl q 70 f com pend false (fun _ => none) wrote' (1000 + 128 * k))) := by
      cases live with
      | true =>
        refine (abort_up t1).mono ?_
        rintro e w2 ⟨rfl, t2, s2⟩
        exact ⟨rfl, (p1.sm s2).c2, _, p1.sm s2, t2⟩
      | false =>
        refine (abort_dead_up t1).mono ?_
        rintro e w2 ⟨rfl, rfl⟩
        have e := t1.ownNone
        subst e
        exact ⟨rfl, p1.c2, _, p1, t1⟩
    clear h p1 c1 x1 x2 x3 t1 b1 b2 HP HW hw1
    go_enter Try.func13, Try.ntmps13
    go_wp2_with fail
    rw [HW1.out]
    refine AB.out.mono ?_
    rintro e w2 ⟨rfl, d2, wrote', HK⟩
    rw [HW1.out] at d1
    clear AB d1
    go_wp2_with fail
    refine (rabort_any w2 HK.out.1.rf).mono ?_
    rintro e w3 ⟨rfl, hr, hc⟩
    have HQ : Hid (Pl w0 w3 pd pp (k + 1)) := by
      obtain ⟨p3, u3⟩ := pl_ref HK.out.1 (.inr ⟨q, rfl, HK.out.2⟩) hr hc (fun b e => .inl e) (fun e => by cases e)
      exact ⟨_, pl, _, pr, _, lb, lc, db, dc, nb, nc, nv, f, com, pend, false, _, wrote', p3, u3.mono (by omega), HB.out.2.2.aborted _ _, by have := HB.out.1; omega, by have := HB.out.2.1; show R.syncs ≤ k + 1; omega⟩
    clear HK HB hr hc d2
    go_wp2
    go_ret
    exact ⟨rfl, HQ.out⟩

set_option maxHeartbeats 1600000 in
set_option maxRecDepth 100000 in
theorem pstep_sync (n : Int) (bv : Value) (w : World) (h : Pl w0 w pd pp k) (hk : k < 1000) :
    Calls Try.prog 13 #[.pointer (some ⟨pp, 0, none⟩), .agg #[.int .i64 5, .int .i64 n, bv]] w fun e w' => e = .returned (.bool true) ∧ Pl w0 w' pd pp (k + 1) := by
  obtain ⟨X, pl, tv, pr, R, lb, lc, db, dc, nb, nc, nv, f, com, pend, live, own, wrote, p1, u1, c1, b1, b2, x1, x2, x3⟩ := h.enter (.cells #[.int .i64 5, .int .i64 n, bv] 41)
  obtain ⟨w1, hw1⟩ : ∃ w1, w.alloc (.cells #[.int .i64 5, .int .i64 n, bv] 41) = w1 := ⟨_, rfl⟩
  have d2 := p1.c2
  have HW1 : Hid (w.alloc (.cells #[.int .i64 5, .int .i64 n, bv] 41) = w1) := hw1
  rw [hw1] at p1 u1
  have HK : Hid (PlAt X w0 w1 pp pl tv pr R lb lc db dc nb nc nv ∧ Up X w0 w1 pd pl tv f com pend live own wrote (1000 + 128 * k) ∧ R.syncs ≤ k) := ⟨p1, u1, b2⟩
  have HB : Hid (pend ≤ k ∧ R.syncs ≤ k ∧ Cor R f com pend live own wrote) := ⟨b1, b2, c1⟩
  clear h p1 c1 x1 x2 x3 u1 b1 b2 hw1
  go_enter Try.func13, Try.ntmps13
  go_wp2_with fail
  rw [HW1.out]
  rw [HW1.out] at d2
  refine (rsync_any w1 HK.out.1.rf (by have := HK.out.2.2; omega)).mono ?_
  rintro e w2 ⟨rfl, hr, hc⟩
  obtain ⟨p2, u2⟩ := pl_ref HK.out.1 HK.out.2.1 hr hc (fun b e => by
    rcases e with e | e
    · exact .inl e
    · exact .inr (.inr (.inl e))) (fun e => e)
  obtain ⟨X2, hX2⟩ : ∃ X2, addX X w1.heap.size w2.heap.size = X2 := ⟨_, rfl⟩
  rw [hX2] at p2 u2
  have d0 := p2.c0
  have SY : Hid (Calls Try.prog 17 #[.pointer (some ⟨pl, 0, none⟩)] w2 fun e w3 => e = .returned (.int .i64 0) ∧ Hid (Pl w0 w3 pd pp (k + 1))) := by
    have hN : 1000 + 128 * k + 128 = 1000 + 128 * (k + 1) := by omega
    rcases u2 with ⟨e1, e2, l2⟩ | ⟨q, e1, t2⟩
    · refine (sync_up l2 (by omega)).mono ?_
      rintro e w3 ⟨rfl, l3, s3⟩
      rw [hN] at l3
      exact ⟨rfl, X2, pl, tv, pr, _, lb, lc, db, dc, nb, nc, nv, ovr f com, _, 0, live, own, wrote, p2.sm s3, .inl ⟨e1, e2, l3⟩, HB.out.2.2.synced, by omega, by have := HB.out.2.1; show R.syncs + 1 ≤ k + 1; omega⟩
    · refine (sync_upT t2 (by omega)).mono ?_
      rintro e w3 ⟨rfl, l3, s3⟩
      rw [hN] at l3
      exact ⟨rfl, X2, pl, tv, pr, _, lb, lc, db, dc, nb, nc, nv, ovr f com, _, 0, live, own, wrote, p2.sm s3, .inr ⟨q, e1, l3⟩, HB.out.2.2.synced, by omega, by have := HB.out.2.1; show R.syncs + 1 ≤ k + 1; omega⟩
  clear HK HB hr hc p2 u2 hX2 d2
  go_wp2_with fail
  refine SY.out.mono ?_
  rintro e w3 ⟨rfl, HQ⟩
  clear SY d0
  go_wp2
  go_ret
  exact ⟨rfl, HQ.out⟩
end
end Go.Proofs.Ytkkmdmnjlncgfaa

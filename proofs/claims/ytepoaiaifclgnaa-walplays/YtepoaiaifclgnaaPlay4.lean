/-
  The acts of a play: Abort and Sync.
-/
import Derived.Test.YtepoaiaifclgnaaRef5
namespace Go.Proofs.Ytepoaiaifclgnaa
open Go.RowKit Go.Maps

section
variable {X : Nat → Prop} {w0 w w' : World} {pd pp pl q pr : Nat} {tv : Value} {R : Rf} {lb lc db dc nb nc : Nat} {nv : Value} {f : Nat → List Int} {com own : Nat → Option (List Int)} {pend wrote N k : Nat} {live : Bool}

/-- The document's log did something to its own blocks, and made none. -/
theorem pl_ref {E : Nat → Prop} {R' : Rf} {nv' : Value} (h : PlAt X w0 w pp pl tv pr R lb lc db dc nb nc nv) (hu : Up X w0 w pd pl tv f com pend live own wrote N) (hr : RfAt w' pr R' lb lc db dc nb nc nv') (hc : Chg E w w') (hE : ∀ b, E b → RfB pr lb db nb R.op b) (ho : R'.op = true → R.op = true) :
    PlAt (addX X w.heap.size w'.heap.size) w0 w' pp pl tv pr R' lb lc db dc nb nc nv' ∧ Up (addX X w.heap.size w'.heap.size) w0 w' pd pl tv f com pend live own wrote N :=
  ⟨h.did hr hc (fun e => h.ne pp (hE pp e) rfl) (fun e => .inl ⟨ho e, rfl⟩) hu.chg.size, hu.ref hc (fun b _ e => h.xr b (hE b e))⟩
theorem Cor.aborted (h : Cor R f com pend live own wrote) (own' : Nat → Option (List Int)) (wrote' : Nat) : Cor { R with op := false } f com pend false own' wrote' := ⟨h.l, h.d, h.p, rfl, (fun e => by cases e)⟩
theorem Cor.synced (h : Cor R f com pend live own wrote) : Cor (rsyn R) (ovr f com) (fun _ => none) 0 live own wrote := ⟨h.l, fun _ _ => rfl, rfl, h.o, h.w⟩

set_option maxHeartbeats 1600000 in
set_option maxRecDepth 100000 in
theorem pstep_abort (n : Int) (bv : Value) (w : World) (h : Pl w0 w pd pp k) :
    Calls Try.prog 9 #[.pointer (some ⟨pp, 0, none⟩), .agg #[.int .i64 4, .int .i64 n, bv]] w fun e w' => e = .returned (.bool true) ∧ Pl w0 w' pd pp (k + 1) := by
  have HP : Hid (Pl w0 w pd pp k) := h
  obtain ⟨X, pl, tv, pr, R, lb, lc, db, dc, nb, nc, nv, f, com, pend, live, own, wrote, p1, u1, c1, b1, b2, x1, x2, x3⟩ := h.enter (.cells #[.int .i64 4, .int .i64 n, bv] 41)
  obtain ⟨w1, hw1⟩ : ∃ w1, w.alloc (.cells #[.int .i64 4, .int .i64 n, bv] 41) = w1 := ⟨_, rfl⟩
  have HW : Hid (Chg (fun _ => False) w w1) := by rw [← hw1]; exact Chg.alloc (fun _ => False) w _
  have d1 := p1.c1
  have HW1 : Hid (w.alloc (.cells #[.int .i64 4, .int .i64 n, bv] 41) = w1) := hw1
  rw [hw1] at p1 u1
  have HB : Hid (pend ≤ k ∧ R.syncs ≤ k ∧ Cor R f com pend live own wrote) := ⟨b1, b2, c1⟩
  rcases u1 with ⟨rfl, e, l1⟩ | ⟨q, rfl, t1⟩
  · have hq := neqT_nn
    have HQ : Hid (Pl w0 w1 pd pp (k + 1)) := (HP.out.more HW.out).up (by omega)
    clear h p1 c1 x1 x2 x3 l1 b1 b2 HB HP HW hw1
    go_enter Try.func9, Try.ntmps9
    go_wp2
    go_ret
    rw [HW1.out]
    exact ⟨rfl, HQ.out⟩
  · have hq := neqT_some ⟨q, 0, none⟩
    have AB : Hid (Calls Try.prog 12 #[.pointer (some ⟨q, 0, none⟩)] w1 fun e w2 => e = .returned (.tuple #[]) ∧ w2.cell? ⟨pp, 2, none⟩ = some (.pointer (some ⟨pr, 0, none⟩)) ∧ ∃ wrote', Hid (PlAt X w0 w2 pp pl (.pointer (some ⟨q, 0, none⟩)) pr R lb lc db dc nb nc nv ∧ TxUp X w0 w2 pd pl q 70 f com pend false (fun _ => none) wrote' (1000 + 128 * k))) := by
      cases live with
      | true =>
        refine (abort_up t1).mono ?_
        rintro e w2 ⟨rfl, t2, s2⟩
        exact ⟨rfl, (p1.sm s2).c2, _, p1.sm s2, t2⟩
      | false =>
        refine (abort_dead_up t1).mono ?_
        rintro e w2 ⟨rfl, rfl⟩
        have e := t1.ownNone
        subst e
        exact ⟨rfl, p1.c2, _, p1, t1⟩
    clear h p1 c1 x1 x2 x3 t1 b1 b2 HP HW hw1
    go_enter Try.func9, Try.ntmps9
    go_wp2_with fail
    rw [HW1.out]
    refine AB.out.mono ?_
    rintro e w2 ⟨rfl, d2, wrote', HK⟩
    rw [HW1.out] at d1
    clear AB d1
    go_wp2_with fail
    refine (rabort_any w2 HK.out.1.rf).mono ?_
    rintro e w3 ⟨rfl, hr, hc⟩
    have HQ : Hid (Pl w0 w3 pd pp (k + 1)) := by
      obtain ⟨p3, u3⟩ := pl_ref HK.out.1 (.inr ⟨q, rfl, HK.out.2⟩) hr hc (fun b e => .inl e) (fun e => by cases e)
      exact ⟨_, pl, _, pr, _, lb, lc, db, dc, nb, nc, nv, f, com, pend, false, _, wrote', p3, u3.mono (by omega), HB.out.2.2.aborted _ _, by have := HB.out.1; omega, by have := HB.out.2.1; show R.syncs ≤ k + 1; omega⟩
    clear HK HB hr hc d2
    go_wp2
    go_ret
    exact ⟨rfl, HQ.out⟩

set_option maxHeartbeats 1600000 in
set_option maxRecDepth 100000 in
theorem pstep_sync (n : Int) (bv : Value) (w : World) (h : Pl w0 w pd pp k) (hk : k < 1000) :
    Calls Try.prog 9 #[.pointer (some ⟨pp, 0, none⟩), .agg #[.int .i64 5, .int .i64 n, bv]] w fun e w' => e = .returned (.bool true) ∧ Pl w0 w' pd pp (k + 1) := by
  obtain ⟨X, pl, tv, pr, R, lb, lc, db, dc, nb, nc, nv, f, com, pend, live, own, wrote, p1, u1, c1, b1, b2, x1, x2, x3⟩ := h.enter (.cells #[.int .i64 5, .int .i64 n, bv] 41)
  obtain ⟨w1, hw1⟩ : ∃ w1, w.alloc (.cells #[.int .i64 5, .int .i64 n, bv] 41) = w1 := ⟨_, rfl⟩
  have d2 := p1.c2
  have HW1 : Hid (w.alloc (.cells #[.int .i64 5, .int .i64 n, bv] 41) = w1) := hw1
  rw [hw1] at p1 u1
  have HK : Hid (PlAt X w0 w1 pp pl tv pr R lb lc db dc nb nc nv ∧ Up X w0 w1 pd pl tv f com pend live own wrote (1000 + 128 * k) ∧ R.syncs ≤ k) := ⟨p1, u1, b2⟩
  have HB : Hid (pend ≤ k ∧ R.syncs ≤ k ∧ Cor R f com pend live own wrote) := ⟨b1, b2, c1⟩
  clear h p1 c1 x1 x2 x3 u1 b1 b2 hw1
  go_enter Try.func9, Try.ntmps9
  go_wp2_with fail
  rw [HW1.out]
  rw [HW1.out] at d2
  refine (rsync_any w1 HK.out.1.rf (by have := HK.out.2.2; omega)).mono ?_
  rintro e w2 ⟨rfl, hr, hc⟩
  obtain ⟨p2, u2⟩ := pl_ref HK.out.1 HK.out.2.1 hr hc (fun b e => by
    rcases e with e | e
    · exact .inl e
    · exact .inr (.inr (.inl e))) (fun e => e)
  obtain ⟨X2, hX2⟩ : ∃ X2, addX X w1.heap.size w2.heap.size = X2 := ⟨_, rfl⟩
  rw [hX2] at p2 u2
  have d0 := p2.c0
  have SY : Hid (Calls Try.prog 13 #[.pointer (some ⟨pl, 0, none⟩)] w2 fun e w3 => e = .returned (.int .i64 0) ∧ Hid (Pl w0 w3 pd pp (k + 1))) := by
    have hN : 1000 + 128 * k + 128 = 1000 + 128 * (k + 1) := by omega
    rcases u2 with ⟨e1, e2, l2⟩ | ⟨q, e1, t2⟩
    · refine (sync_up l2 (by omega)).mono ?_
      rintro e w3 ⟨rfl, l3, s3⟩
      rw [hN] at l3
      exact ⟨rfl, X2, pl, tv, pr, _, lb, lc, db, dc, nb, nc, nv, ovr f com, _, 0, live, own, wrote, p2.sm s3, .inl ⟨e1, e2, l3⟩, HB.out.2.2.synced, by omega, by have := HB.out.2.1; show R.syncs + 1 ≤ k + 1; omega⟩
    · refine (sync_upT t2 (by omega)).mono ?_
      rintro e w3 ⟨rfl, l3, s3⟩
      rw [hN] at l3
      exact ⟨rfl, X2, pl, tv, pr, _, lb, lc, db, dc, nb, nc, nv, ovr f com, _, 0, live, own, wrote, p2.sm s3, .inr ⟨q, e1, l3⟩, HB.out.2.2.synced, by omega, by have := HB.out.2.1; show R.syncs + 1 ≤ k + 1; omega⟩
  clear HK HB hr hc p2 u2 hX2 d2
  go_wp2_with fail
  refine SY.out.mono ?_
  rintro e w3 ⟨rfl, HQ⟩
  clear SY d0
  go_wp2
  go_ret
  exact ⟨rfl, HQ.out⟩
end
end Go.Proofs.Ytepoaiaifclgnaa

namespace Go.Proofs.Ytepoaiaifclgnaa
open Go.RowKit Go.Maps

section
variable {X : Nat → Prop} {w0 w w' : World} {pd pp pl q pr : Nat} {tv : Value} {R : Rf} {lb lc db dc nb nc : Nat} {nv : Value} {f f' : Nat → List Int} {com own com' : Nat → Option (List Int)} {pend wrote N k : Nat} {live : Bool}

theorem wstr_empty (o : Option (List Int)) (h : ∀ b, o = some b → b.length = 512) : (wstr o).toList.isEmpty = !o.isSome := by
  cases o with
  | none => show ByteArray.empty.toList.isEmpty = true; rw [ByteArray.toList_eq]; rfl
  | some b =>
    have hb := h b rfl
    show (strOf b).toList.isEmpty = false
    rw [ByteArray.toList_eq, strOf_list]
    cases b with
    | nil => simp at hb
    | cons x r => simp
theorem Cor.tgs (h : Cor R f com pend true own wrote) (ho : ∀ n b, own n = some b → n < 70 ∧ b.length = 512) {n : Nat} (hn : n < 70) : rtg R n = (mrg com own n).isSome := by
  rw [mrg_some]
  show (R.D n || !(R.W n).toList.isEmpty) = _
  rw [h.d n hn, (h.w rfl).1 n hn, wstr_empty _ (fun b e => (ho n b e).2), Bool.not_not]
theorem Cor.cnt (h : Cor R f com pend true own wrote) (ho : ∀ n b, own n = some b → n < 70 ∧ b.length = 512) : cntF 70 (rtg R) = (ks 70 (mrg com own)).length := by
  rw [ks_cnt]
  exact cntF_congr (fun n hn => h.tgs ho hn)
theorem Cor.comL (h : Cor R f com pend true own wrote) (ho : ∀ n b, own n = some b → n < 70 ∧ b.length = 512) (he : ∀ n, ovr f' com' n = ovr (ovr f com) own n) {n : Nat} (hn : n < 70) : (if (R.W n).toList.isEmpty = false then R.W n else R.L n) = strOf (ovr f' com' n) := by
  rw [(h.w rfl).1 n hn, wstr_empty _ (fun b e => (ho n b e).2), he n, h.l n hn]
  cases hc : own n with
  | none => rw [ovr_none hc]; rfl
  | some b => rw [ovr_some hc]; rfl
theorem Cor.few (h : Cor R f com pend true own wrote) (ho : ∀ n b, own n = some b → n < 70 ∧ b.length = 512) (he : ∀ n, ovr f' com' n = ovr (ovr f com) own n) (hc : com' = mrg com own) (own' : Nat → Option (List Int)) (wrote' : Nat) : Cor (rcom1 R) f' com' (pend + 1) false own' wrote' :=
  ⟨fun n hn => h.comL ho he hn, fun n hn => by rw [hc]; exact h.tgs ho hn, by show R.pend + 1 = _; rw [h.p], rfl, (fun e => by cases e)⟩
theorem Cor.many (h : Cor R f com pend true own wrote) (ho : ∀ n b, own n = some b → n < 70 ∧ b.length = 512) (he : ∀ n, ovr f' com' n = ovr (ovr f com) own n) (hc : com' = own) (own' : Nat → Option (List Int)) (wrote' : Nat) : Cor (rcom1 (rsyn R)) f' com' 1 false own' wrote' :=
  ⟨fun n hn => h.comL ho he hn, fun n hn => by
    rw [hc]
    show (false || !(R.W n).toList.isEmpty) = _
    rw [(h.w rfl).1 n hn, wstr_empty _ (fun b e => (ho n b e).2), Bool.not_not, Bool.false_or], rfl, rfl, (fun e => by cases e)⟩

/-- Commit of both. -/
theorem commit_both (w1 : World) (h : PlAt X w0 w1 pp pl (.pointer (some ⟨q, 0, none⟩)) pr R lb lc db dc nb nc nv) (ht : TxUp X w0 w1 pd pl q 70 f com pend live own wrote (1000 + 128 * k)) (hc : Cor R f com pend live own wrote) (hp : pend ≤ k) (hs : R.syncs ≤ k) (hk : k < 1000) :
    Calls Try.prog 20 #[.pointer (some ⟨q, 0, none⟩)] w1 fun e w2 => ∃ E, e = .returned (.int .i64 E) ∧ w2.cell? ⟨pp, 1, none⟩ = some (.pointer (some ⟨q, 0, none⟩)) ∧ w2.cell? ⟨pp, 2, none⟩ = some (.pointer (some ⟨pr, 0, none⟩)) ∧
      Hid (Calls Try.prog 33 #[.pointer (some ⟨pr, 0, none⟩)] w2 fun e w3 => e = .returned (.int .i64 E) ∧ w3.cell? ⟨pp, 1, none⟩ = some (.pointer (some ⟨q, 0, none⟩)) ∧ w3.cell? ⟨pp, 2, none⟩ = some (.pointer (some ⟨pr, 0, none⟩)) ∧ Hid (Pl w0 w3 pd pp (k + 1))) := by
  cases live with
  | false =>
    refine (commit_dead_up ht).mono ?_
    rintro e w2 ⟨rfl, rfl⟩
    refine ⟨15, rfl, h.c1, h.c2, ?_⟩
    refine Calls.mono (rcommit_shut w2 h.rf hc.o) ?_
    rintro e w3 ⟨rfl, rfl⟩
    exact ⟨rfl, h.c1, h.c2, Pl.up ⟨X, pl, _, pr, R, lb, lc, db, dc, nb, nc, nv, f, com, pend, false, own, wrote, h, .inr ⟨q, rfl, ht⟩, hc, hp, hs⟩ (by omega)⟩
  | true =>
    have hlt := ht.lt
    have hcnt := hc.cnt hlt
    have hN : 1000 + 128 * k + 128 = 1000 + 128 * (k + 1) := by omega
    refine (commit_up ht (by omega) (by omega)).mono ?_
    rintro e w2 ⟨rfl, f', com', pend', t2, s2, he, hcase⟩
    rw [hN] at t2
    have p2 := h.sm s2
    refine ⟨0, rfl, p2.c1, p2.c2, ?_⟩
    have fin : ∀ (w3 : World) (nv' : Value), RfAt w3 pr (rcom R) lb lc db dc nb nc nv' → Chg (fun b => b = pr ∨ b = lb ∨ b = db) w2 w3 → Cor (rcom R) f' com' pend' false (fun _ => none) wrote → pend' ≤ k + 1 → (rcom R).syncs ≤ k + 1 → (rcom R).op = false →
        w3.cell? ⟨pp, 1, none⟩ = some (.pointer (some ⟨q, 0, none⟩)) ∧ w3.cell? ⟨pp, 2, none⟩ = some (.pointer (some ⟨pr, 0, none⟩)) ∧ Hid (Pl w0 w3 pd pp (k + 1)) := by
      intro w3 nv' hr hch hcor hpe hsy hop
      obtain ⟨p3, u3⟩ := pl_ref p2 (.inr ⟨q, rfl, t2⟩) hr hch (fun b e => by
        rcases e with e | e | e
        · exact .inl e
        · exact .inr (.inl e)
        · exact .inr (.inr (.inl e))) (fun e => by rw [hop] at e; cases e)
      exact ⟨p3.c1, p3.c2, _, pl, _, pr, _, lb, lc, db, dc, nb, nc, nv', f', com', pend', false, _, wrote, p3, u3, hcor, hpe, hsy⟩
    rcases hcase with ⟨e1, e2, e3, e4⟩ | ⟨e1, e2, e3, e4⟩
    · have hR : rcom R = rcom1 R := by unfold rcom; rw [if_neg (by omega)]
      refine Calls.mono (rcommit_few w2 p2.rf hc.o (by rw [hc.p]; omega) (by omega)) ?_
      rintro e w3 ⟨rfl, nv', _, hr, hch⟩
      exact ⟨rfl, fin w3 nv' hr hch (by rw [hR, e1]; exact hc.few hlt he e3 _ _) (by omega) (by rw [hR]; show R.syncs ≤ k + 1; omega) (by rw [hR]; rfl)⟩
    · have hR : rcom R = rcom1 (rsyn R) := by unfold rcom; rw [if_pos (by omega)]
      refine Calls.mono (rcommit_many w2 p2.rf hc.o (by omega) (by omega)) ?_
      rintro e w3 ⟨rfl, nv', _, hr, hch⟩
      exact ⟨rfl, fin w3 nv' hr hch (by rw [hR, e1]; exact hc.many hlt he e3 _ _) (by omega) (by rw [hR]; show R.syncs + 1 ≤ k + 1; omega) (by rw [hR]; rfl)⟩

set_option maxHeartbeats 1600000 in
set_option maxRecDepth 100000 in
theorem pstep_commit (n : Int) (bv : Value) (w : World) (h : Pl w0 w pd pp k) (hk : k < 1000) :
    Calls Try.prog 9 #[.pointer (some ⟨pp, 0, none⟩), .agg #[.int .i64 3, .int .i64 n, bv]] w fun e w' => e = .returned (.bool true) ∧ Pl w0 w' pd pp (k + 1) := by
  have HP : Hid (Pl w0 w pd pp k) := h
  obtain ⟨X, pl, tv, pr, R, lb, lc, db, dc, nb, nc, nv, f, com, pend, live, own, wrote, p1, u1, c1, b1, b2, x1, x2, x3⟩ := h.enter (.cells #[.int .i64 3, .int .i64 n, bv] 41)
  obtain ⟨w1, hw1⟩ : ∃ w1, w.alloc (.cells #[.int .i64 3, .int .i64 n, bv] 41) = w1 := ⟨_, rfl⟩
  have HW : Hid (Chg (fun _ => False) w w1) := by rw [← hw1]; exact Chg.alloc (fun _ => False) w _
  have d1 := p1.c1
  have HW1 : Hid (w.alloc (.cells #[.int .i64 3, .int .i64 n, bv] 41) = w1) := hw1
  rw [hw1] at p1 u1
  rcases u1 with ⟨rfl, e, l1⟩ | ⟨q, rfl, t1⟩
  · have hq := eqT_nn
    have HQ : Hid (Pl w0 w1 pd pp (k + 1)) := (HP.out.more HW.out).up (by omega)
    clear h p1 c1 x1 x2 x3 l1 b1 b2 HP HW hw1
    go_enter Try.func9, Try.ntmps9
    go_wp2_with fail
    rw [HW1.out]
    rw [HW1.out] at d1
    go_region
    all_goals
      go_wp2
      go_ret
      exact ⟨rfl, HQ.out.more (Chg.drew (fun _ => False) w1)⟩
  · have hq := eqT_some ⟨q, 0, none⟩
    have d2 := p1.c2
    have kd := Chg.drew (fun _ => False) w1
    have CM := commit_both w1.drew (p1.kept kd) (t1.more kd) c1 b1 b2 hk
    have HCM : Hid _ := CM
    clear h p1 c1 x1 x2 x3 t1 b1 b2 HP HW hw1 CM kd
    go_enter Try.func9, Try.ntmps9
    go_wp2_with fail
    rw [HW1.out]
    rw [HW1.out] at d1
    go_region_held (fun w' => w'.cell? ⟨pp, 1, none⟩ = some (.pointer (some ⟨q, 0, none⟩)) ∧ w'.cell? ⟨pp, 2, none⟩ = some (.pointer (some ⟨pr, 0, none⟩)))
      (first | assumption | exact ⟨d1, d2⟩ | exact ⟨q1, q2⟩ | exact ⟨r1, r2⟩)
      (first | (go_at_call 20; refine (show Calls _ _ _ _ _ from HCM.out).mono ?_; clear HCM; rintro e w2 ⟨E, rfl, q1, q2, HRC⟩) | (go_at_call 33; refine (show Calls _ _ _ _ _ from HRC.out).mono ?_; clear HRC; rintro e w3 ⟨rfl, r1, r2, HQ⟩))
    all_goals
      go_wp2
      go_ret
      exact ⟨rfl, HQ.out⟩
end
end Go.Proofs.Ytepoaiaifclgnaa

namespace Go.Proofs.Ytepoaiaifclgnaa
open Go.RowKit Go.Maps

section
variable {X : Nat → Prop} {w0 w w' : World} {pd pp pl q pr : Nat} {tv : Value} {R : Rf} {lb lc db dc nb nc : Nat} {nv : Value} {f f' : Nat → List Int} {com own com' : Nat → Option (List Int)} {pend wrote N k : Nat} {live : Bool}

theorem readU (n : Nat) (h : Up X w0 w pd pl tv f com pend live own wrote N) (hn : n < 70) (hx : N < 1000000000) :
    Calls Try.prog 21 #[.pointer (some ⟨pl, 0, none⟩), .int .i64 (n : Int)] w fun e w' => ∃ u, e = .returned (.tuple #[u, .int .i64 0]) ∧ Fresh w w' u (ovr f com n) := by
  rcases h with ⟨_, _, h⟩ | ⟨q, _, h⟩
  · exact read_up n h hn hx
  · exact read_upT n h hn hx
theorem read_outU (n : Int) (h : Up X w0 w pd pl tv f com pend live own wrote N) (hn : ¬ (0 ≤ n ∧ n < 70)) :
    Calls Try.prog 21 #[.pointer (some ⟨pl, 0, none⟩), .int .i64 n] w fun e w' => e = .returned (.tuple #[.slice none 0 0, .int .i64 1]) ∧ w' = w := by
  rcases h with ⟨_, _, h⟩ | ⟨q, _, h⟩
  · exact read_out_up n h hn
  · exact read_outT n h hn
theorem ovr_len (h : Up X w0 w pd pl tv f com pend live own wrote N) {n : Nat} (hn : n < 70) : (ovr f com n).length = 512 := by
  have hf : (f n).length = 512 := by
    rcases h with ⟨_, _, h⟩ | ⟨q, _, F, G, S, m, V, mt, Vt, h1, h2, _⟩
    · exact h.flen n hn
    · rw [← h2.last hn]
      exact St.last_len h2.wf (by have := h2.nb; omega)
  unfold ovr
  cases hc : com n with
  | none => exact hf
  | some b => exact (h.lt n b hc).2

set_option maxHeartbeats 1600000 in
set_option maxRecDepth 100000 in
theorem pstep_read (n : Int) (bv : Value) (w : World) (h : Pl w0 w pd pp k) (hk : k < 1000) :
    Calls Try.prog 9 #[.pointer (some ⟨pp, 0, none⟩), .agg #[.int .i64 6, .int .i64 n, bv]] w fun e w' => e = .returned (.bool true) ∧ Pl w0 w' pd pp (k + 1) := by
  have HP : Hid (Pl w0 w pd pp k) := h
  obtain ⟨X, pl, tv, pr, R, lb, lc, db, dc, nb, nc, nv, f, com, pend, live, own, wrote, p1, u1, c1, b1, b2, x1, x2, x3⟩ := h.enter (.cells #[.int .i64 6, .int .i64 n, bv] 41)
  obtain ⟨w1, hw1⟩ : ∃ w1, w.alloc (.cells #[.int .i64 6, .int .i64 n, bv] 41) = w1 := ⟨_, rfl⟩
  have HW : Hid (Chg (fun _ => False) w w1) := by rw [← hw1]; exact Chg.alloc (fun _ => False) w _
  have d0 := p1.c0
  have cN : w1.cell? ⟨w.heap.size, 1, none⟩ = some (.int .i64 n) := by rw [← hw1, cell_of_row _ _ 1 _ _ _ (heap_alloc_new w _)]; rfl
  have HW1 : Hid (w.alloc (.cells #[.int .i64 6, .int .i64 n, bv] 41) = w1) := hw1
  rw [hw1] at p1 u1
  have HK : Hid (PlAt X w0 w1 pp pl tv pr R lb lc db dc nb nc nv ∧ Up X w0 w1 pd pl tv f com pend live own wrote (1000 + 128 * k) ∧ Cor R f com pend live own wrote) := ⟨p1, u1, c1⟩
  clear h p1 c1 x1 x2 x3 u1 b1 b2 hw1
  by_cases hn : 0 ≤ n ∧ n < 70
  · obtain ⟨m, rfl⟩ : ∃ m : Nat, n = (m : Int) := ⟨n.toNat, by omega⟩
    have hm : m < 70 := by omega
    have kd : decide (0 ≤ (m : Int) ∧ (m : Int) < 70) = true := by simp; omega
    clear hn
    have RD : Hid (Calls Try.prog 21 #[.pointer (some ⟨pl, 0, none⟩), .int .i64 (m : Int)] w1.drew fun e w2 => ∃ ua uc, e = .returned (.tuple #[.slice ua 512 uc, .int .i64 0]) ∧ w2.cell? ⟨pp, 0, none⟩ = some (.pointer (some ⟨pl, 0, none⟩)) ∧ w2.cell? ⟨w.heap.size, 1, none⟩ = some (.int .i64 (m : Int)) ∧ Hid (Fresh w1.drew w2 (.slice ua 512 uc) (ovr f com m))) := by
      have kd := Chg.drew (fun _ => False) w1
      refine (readU m (HK.out.2.1.more kd) hm (by omega)).mono ?_
      rintro e w2 ⟨u, rfl, fr⟩
      obtain ⟨ua, uc, rfl⟩ := fr.form512 (ovr_len HK.out.2.1 hm)
      exact ⟨ua, uc, rfl, ((HK.out.1.kept kd).kept fr.chg).c0, fr.chg.cell (kd.cell cN (fun h => h)) (fun h => h), fr⟩
    go_enter Try.func9, Try.ntmps9
    go_wp2_with fail
    rw [HW1.out]
    rw [HW1.out] at d0
    go_region_held (fun w' => w'.cell? ⟨pp, 0, none⟩ = some (.pointer (some ⟨pl, 0, none⟩)) ∧ w'.cell? ⟨w.heap.size, 1, none⟩ = some (.int .i64 (m : Int)))
      (first | assumption | exact ⟨d0, cN⟩ | exact ⟨q0, q1⟩)
      (first | (go_at_call 21; refine RD.out.mono ?_; clear RD; rintro e w2 ⟨ua, uc, rfl, q0, q1, FR⟩))
    have fr := FR.out
    have hch : Chg (fun _ => False) w1 w2 := (Chg.drew (fun _ => False) w1).trans fr.chg (fun _ _ h => h)
    have p2 := HK.out.1.kept hch
    have d2 := p2.c2
    have e0 := p2.rf.c0
    have el := p2.rf.l.cell hm
    rw [HK.out.2.2.l m hm] at el
    have hlc := p2.rf.lcc
    obtain ⟨t, ht⟩ : ∃ t, strOf (ovr f com m) = t := ⟨_, rfl⟩
    have s1 := run_str (fr.bs.kept ((Chg.drew (fun _ => False) w2).trans (Chg.drew (fun _ => False) w2.drew) (fun _ _ h => h)) (fun _ _ _ _ _ h => h))
    rw [ht] at s1 el
    have hse := str_same t
    have HQ : Hid (Pl w0 w2 pd pp (k + 1) ∧ PlAt X w0 w2 pp pl tv pr R lb lc db dc nb nc nv) := ⟨(HP.out.more (HW.out.trans hch (fun _ _ h => h))).up (by omega), p2⟩
    have IS : Hid (Calls Try.prog 36 #[.pointer (some ⟨pr, 0, none⟩), .int .i64 (m : Int)] w2.drew fun e w' => e = .returned (.bool true) ∧ w' = w2.drew) := (ris_any (m : Int) w2.drew (p2.kept (Chg.drew (fun _ => False) w2)).rf).mono (by rintro e w' ⟨rfl, rfl⟩; exact ⟨by rw [kd], rfl⟩)
    clear fr p2 HK HP HW ht d0 cN FR hch q0 kd
    go_wp2_with fail
    go_region_held (fun w' => w'.cell? ⟨pp, 2, none⟩ = some (.pointer (some ⟨pr, 0, none⟩)) ∧ w'.cell? ⟨w.heap.size, 1, none⟩ = some (.int .i64 (m : Int)))
      (first | assumption | exact ⟨d2, q1⟩)
      (first | (go_at_call 36; refine IS.out.mono ?_; clear IS; rintro e w3 ⟨rfl, rfl⟩))
    go_wp2_with fail
    go_region_held (fun w' => (convert 39 9 (.slice ua 512 uc)).run Try.prog w' = .ok (.string t) w' ∧ w'.cell? ⟨pp, 2, none⟩ = some (.pointer (some ⟨pr, 0, none⟩)) ∧ w'.cell? ⟨w.heap.size, 1, none⟩ = some (.int .i64 (m : Int)) ∧ w'.cell? ⟨pr, 0, none⟩ = some (.slice (some ⟨lb, 0, none⟩) 70 lc) ∧ w'.cell? ⟨lb, m, none⟩ = some (.string t))
      (first | assumption | exact ⟨s1, d2, q1, e0, el⟩)
      (fail)
    all_goals
      go_wp2
      go_ret
      exact ⟨rfl, HQ.out.1.more ((Chg.drew (fun _ => False) w2).trans (Chg.drew (fun _ => False) w2.drew) (fun _ _ h => h))⟩
  · have kd : decide (0 ≤ n ∧ n < 70) = false := by simpa using hn
    have RD : Hid (Calls Try.prog 21 #[.pointer (some ⟨pl, 0, none⟩), .int .i64 n] w1.drew fun e w2 => e = .returned (.tuple #[.slice none 0 0, .int .i64 1]) ∧ w2 = w1.drew) := read_outU n (HK.out.2.1.more (Chg.drew (fun _ => False) w1)) hn
    have d2 := HK.out.1.c2
    have IS : Hid (Calls Try.prog 36 #[.pointer (some ⟨pr, 0, none⟩), .int .i64 n] w1.drew.drew fun e w' => e = .returned (.bool false) ∧ w' = w1.drew.drew) := (ris_any n _ ((HK.out.1.kept (Chg.drew (fun _ => False) w1)).kept (Chg.drew (fun _ => False) w1.drew)).rf).mono (by rintro e w' ⟨rfl, rfl⟩; exact ⟨by rw [kd], rfl⟩)
    have HQ : Hid (Pl w0 w1.drew.drew pd pp (k + 1)) := (HP.out.more (HW.out.trans ((Chg.drew (fun _ => False) w1).trans (Chg.drew (fun _ => False) w1.drew) (fun _ _ h => h)) (fun _ _ h => h))).up (by omega)
    clear hn HK HP HW kd
    go_enter Try.func9, Try.ntmps9
    go_wp2_with fail
    rw [HW1.out]
    rw [HW1.out] at d0
    go_region_held (fun w' => w'.cell? ⟨pp, 0, none⟩ = some (.pointer (some ⟨pl, 0, none⟩)) ∧ w'.cell? ⟨w.heap.size, 1, none⟩ = some (.int .i64 n))
      (first | assumption | exact ⟨d0, cN⟩)
      (first | (go_at_call 21; refine RD.out.mono ?_; clear RD; rintro e w2 ⟨rfl, rfl⟩))
    go_wp2_with fail
    go_region_held (fun w' => w'.cell? ⟨pp, 2, none⟩ = some (.pointer (some ⟨pr, 0, none⟩)) ∧ w'.cell? ⟨w.heap.size, 1, none⟩ = some (.int .i64 n))
      (first | assumption | exact ⟨d2, cN⟩)
      (first | (go_at_call 36; refine IS.out.mono ?_; clear IS; rintro e w3 ⟨rfl, rfl⟩))
    go_wp2
    go_ret
    exact ⟨rfl, HQ.out⟩
end
end Go.Proofs.Ytepoaiaifclgnaa

namespace Go.Proofs.Ytepoaiaifclgnaa
open Go.RowKit Go.Maps

section
variable {X : Nat → Prop} {w0 w w' : World} {pd pp pl q pr : Nat} {tv : Value} {R : Rf} {lb lc db dc nb nc : Nat} {nv : Value} {f f' : Nat → List Int} {com own com' : Nat → Option (List Int)} {pend wrote N k : Nat} {live : Bool}

theorem Cor.readT (h : Cor R f com pend true own wrote) (ho : ∀ n b, own n = some b → n < 70 ∧ b.length = 512) {n : Nat} (hn : n < 70) : (if (R.W n).toList.isEmpty = true then R.L n else R.W n) = strOf (ovr (ovr f com) own n) := by
  rw [(h.w rfl).1 n hn, wstr_empty _ (fun b e => (ho n b e).2), h.l n hn]
  cases hc : own n with
  | none => rw [ovr_none hc]; rfl
  | some b => rw [ovr_some hc]; rfl
/-- Read of both. -/
theorem tread_both (n : Int) (w1 : World) (h : PlAt X w0 w1 pp pl (.pointer (some ⟨q, 0, none⟩)) pr R lb lc db dc nb nc nv) (ht : TxUp X w0 w1 pd pl q 70 f com pend true own wrote (1000 + 128 * k)) (hc : Cor R f com pend true own wrote) (hw : -9223372036854775808 ≤ n ∧ n ≤ 9223372036854775807) (hk : k < 1000) :
    Calls Try.prog 37 #[.pointer (some ⟨q, 0, none⟩), .int .i64 n] w1 fun e w2 => ∃ ua ul uc E t, e = .returned (.tuple #[.slice ua ul uc, .int .i64 E]) ∧ Hid (Chg (fun _ => False) w1 w2 ∧ (∀ w', Chg (fun _ => False) w2 w' → (convert 39 9 (.slice ua ul uc)).run Try.prog w' = .ok (.string t) w') ∧
      ∀ w', Chg (fun _ => False) w2 w' → Calls Try.prog 38 #[.pointer (some ⟨pr, 0, none⟩), .int .i64 n] w' fun e w3 => e = .returned (.tuple #[.string t, .int .i64 E]) ∧ w3 = w') := by
  by_cases hn : 0 ≤ n ∧ n < 70
  · obtain ⟨m, rfl⟩ : ∃ m : Nat, n = (m : Int) := ⟨n.toNat, by omega⟩
    have hm : m < 70 := by omega
    refine (tread_up m ht hm (by omega)).mono ?_
    rintro e w2 ⟨u, rfl, fr⟩
    have hlen : (ovr (ovr f com) own m).length = 512 := by
      have h0 := ovr_len (tv := .pointer (some ⟨q, 0, none⟩)) (.inr ⟨q, rfl, ht⟩) hm
      unfold ovr at h0 ⊢
      cases hc : own m with
      | none => exact h0
      | some b => exact (ht.lt m b hc).2
    obtain ⟨ua, uc, rfl⟩ := fr.form512 hlen
    refine ⟨ua, 512, uc, 0, strOf (ovr (ovr f com) own m), rfl, fr.chg, fun w' hc' => run_str (fr.bs.kept hc' (fun _ _ _ _ _ h => h)), fun w' hc' => ?_⟩
    refine (rread_any m w' ((h.kept fr.chg).kept hc').rf hm hc.o).mono ?_
    rintro e w3 ⟨rfl, rfl⟩
    rw [hc.readT ht.lt hm]
    exact ⟨rfl, rfl⟩
  · refine (tread_out_up n ht hw hn).mono ?_
    rintro e w2 ⟨rfl, rfl⟩
    refine ⟨none, 0, 0, 1, ByteArray.empty, rfl, Chg.refl _ _, fun w' _ => run_str (xs := []) (.inl ⟨rfl, rfl⟩), fun w' hc' => ?_⟩
    exact rread_out n w' (h.kept hc').rf hn

set_option maxHeartbeats 3200000 in
set_option maxRecDepth 100000 in
theorem pstep_tread (n : Int) (bv : Value) (w : World) (h : Pl w0 w pd pp k) (hk : k < 1000) (hw : -9223372036854775808 ≤ n ∧ n ≤ 9223372036854775807) :
    Calls Try.prog 9 #[.pointer (some ⟨pp, 0, none⟩), .agg #[.int .i64 7, .int .i64 n, bv]] w fun e w' => e = .returned (.bool true) ∧ Pl w0 w' pd pp (k + 1) := by
  have HP : Hid (Pl w0 w pd pp k) := h
  obtain ⟨X, pl, tv, pr, R, lb, lc, db, dc, nb, nc, nv, f, com, pend, live, own, wrote, p1, u1, c1, b1, b2, x1, x2, x3⟩ := h.enter (.cells #[.int .i64 7, .int .i64 n, bv] 41)
  obtain ⟨w1, hw1⟩ : ∃ w1, w.alloc (.cells #[.int .i64 7, .int .i64 n, bv] 41) = w1 := ⟨_, rfl⟩
  have HW : Hid (Chg (fun _ => False) w w1) := by rw [← hw1]; exact Chg.alloc (fun _ => False) w _
  have d1 := p1.c1
  have d2 := p1.c2
  have e3 := p1.rf.c3
  have HW1 : Hid (w.alloc (.cells #[.int .i64 7, .int .i64 n, bv] 41) = w1) := hw1
  have cN : w1.cell? ⟨w.heap.size, 1, none⟩ = some (.int .i64 n) := by rw [← hw1, cell_of_row _ _ 1 _ _ _ (heap_alloc_new w _)]; rfl
  rw [hw1] at p1 u1
  have HQ0 : Hid (∀ w', Chg (fun _ => False) w1 w' → Pl w0 w' pd pp (k + 1)) := fun w' hc => (HP.out.more (HW.out.trans hc (fun _ _ h => h))).up (by omega)
  clear h HP HW hw1 b1 b2 x1 x2 x3
  rcases u1 with ⟨rfl, e, l1⟩ | ⟨q, rfl, t1⟩
  · have hq := neqT_nn
    clear p1 l1 c1 cN e3 d2
    go_enter Try.func9, Try.ntmps9
    go_wp2
    go_ret
    rw [HW1.out]
    exact ⟨rfl, HQ0.out _ (Chg.refl _ _)⟩
  · have hq := neqT_some ⟨q, 0, none⟩
    cases live with
    | false =>
      rw [c1.o] at e3
      clear p1 t1 c1 cN
      go_enter Try.func9, Try.ntmps9
      go_wp2
      go_ret
      rw [HW1.out]
      exact ⟨rfl, HQ0.out _ (Chg.refl _ _)⟩
    | true =>
      rw [c1.o] at e3
      have kd := Chg.drew (fun _ => False) w1
      have TR : Hid _ := tread_both n w1.drew (p1.kept kd) (t1.more kd) c1 hw hk
      have HK : Hid (PlAt X w0 w1 pp pl (.pointer (some ⟨q, 0, none⟩)) pr R lb lc db dc nb nc nv ∧ TxUp X w0 w1 pd pl q 70 f com pend true own wrote (1000 + 128 * k) ∧ R.wrote = wrote) := ⟨p1, t1, (c1.w rfl).2⟩
      clear p1 t1 c1 kd
      go_enter Try.func9, Try.ntmps9
      go_wp2_with fail
      rw [HW1.out]
      rw [HW1.out] at d1 d2 e3
      clear e3
      go_region_held (fun w' => w'.cell? ⟨pp, 1, none⟩ = some (.pointer (some ⟨q, 0, none⟩)) ∧ w'.cell? ⟨w.heap.size, 1, none⟩ = some (.int .i64 n))
        (first | assumption | exact ⟨d1, cN⟩ | exact ⟨(HT.out.1).cell d1 (fun h => h), (HT.out.1).cell cN (fun h => h)⟩)
        (first | (go_at_call 37; refine (show Calls _ _ _ _ _ from TR.out).mono ?_; clear TR; rintro e w2 ⟨ua, ul, uc, E, t, rfl, HT⟩))
      have hch : Chg (fun _ => False) w1 w2 := (Chg.drew (fun _ => False) w1).trans HT.out.1 (fun _ _ h => h)
      have p2 := HK.out.1.kept hch
      have g1 := p2.c1
      have g2 := p2.c2
      have g5 := p2.rf.c5
      rw [HK.out.2.2] at g5
      have gN := hch.cell cN (fun h => h)
      have k1 := Chg.drew (fun _ => False) w2
      have k2 := k1.trans (Chg.drew (fun _ => False) w2.drew) (fun _ _ h => h)
      have RR : Hid _ := HT.out.2.2 w2.drew k1
      have s1 := HT.out.2.1 w2.drew.drew k2
      have WR : Hid _ := twrites_up ((HK.out.2.1.more hch).more k2)
      have HQ : Hid (Pl w0 w2.drew.drew pd pp (k + 1)) := HQ0.out _ (hch.trans k2 (fun _ _ h => h))
      have hse := str_same t
      clear HT HK p2 hch k1 k2 cN d1 d2 HQ0 HW1
      go_wp2_with fail
      go_region_held (fun w' => w'.cell? ⟨pp, 2, none⟩ = some (.pointer (some ⟨pr, 0, none⟩)) ∧ w'.cell? ⟨w.heap.size, 1, none⟩ = some (.int .i64 n))
        (first | assumption | exact ⟨g2, gN⟩)
        (first | (go_at_call 38; refine (show Calls _ _ _ _ _ from RR.out).mono ?_; clear RR; rintro e w3 ⟨rfl, rfl⟩))
      go_wp2_with fail
      go_region_held (fun w' => (convert 39 9 (.slice ua ul uc)).run Try.prog w' = .ok (.string t) w' ∧ w'.cell? ⟨pp, 1, none⟩ = some (.pointer (some ⟨q, 0, none⟩)) ∧ w'.cell? ⟨pp, 2, none⟩ = some (.pointer (some ⟨pr, 0, none⟩)) ∧ w'.cell? ⟨pr, 5, none⟩ = some (.int .i64 (wrote : Int)))
        (first | assumption | exact ⟨s1, g1, g2, g5⟩)
        (first | (go_at_call 39; refine (show Calls _ _ _ _ _ from WR.out).mono ?_; clear WR; rintro e w3 ⟨rfl, rfl⟩))
      all_goals
        go_wp2
        go_ret
        exact ⟨rfl, HQ.out⟩
end
end Go.Proofs.Ytepoaiaifclgnaa

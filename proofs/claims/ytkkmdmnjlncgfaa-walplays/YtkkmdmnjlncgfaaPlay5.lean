/-
  The acts of a play: Commit.
-/
import Derived.Test.YtkkmdmnjlncgfaaPlay4
namespace Go.Proofs.Ytkkmdmnjlncgfaa
open Go.RowKit Go.Maps

section
variable {X : Nat → Prop} {w0 w w' : World} {pd pp pl q pr : Nat} {tv : Value} {R : Rf} {lb lc db dc nb nc : Nat} {nv : Value} {f f' : Nat → List Int} {com own com' : Nat → Option (List Int)} {pend wrote N k : Nat} {live : Bool}

theorem wstr_empty (o : Option (List Int)) (h : ∀ b, o = some b → b.length = 512) : (wstr o).toList.isEmpty = !o.isSome := by
  cases o with
  | none => show ByteArray.empty.toList.isEmpty = true; rw [ByteArray.toList_eq]; rfl
  | some b =>
    have hb := h b rfl
    show (strOf b).toList.isEmpty = false
    rw [ByteArray.toList_eq, strOf_list]
    cases b with
    | nil => simp at hb
    | cons x r => simp
theorem Cor.tgs (h : Cor R f com pend true own wrote) (ho : ∀ n b, own n = some b → n < 70 ∧ b.length = 512) {n : Nat} (hn : n < 70) : rtg R n = (mrg com own n).isSome := by
  rw [mrg_some]
  show (R.D n || !(R.W n).toList.isEmpty) = _
  rw [h.d n hn, (h.w rfl).1 n hn, wstr_empty _ (fun b e => (ho n b e).2), Bool.not_not]
theorem Cor.cnt (h : Cor R f com pend true own wrote) (ho : ∀ n b, own n = some b → n < 70 ∧ b.length = 512) : cntF 70 (rtg R) = (ks 70 (mrg com own)).length := by
  rw [ks_cnt]
  exact cntF_congr (fun n hn => h.tgs ho hn)
theorem Cor.comL (h : Cor R f com pend true own wrote) (ho : ∀ n b, own n = some b → n < 70 ∧ b.length = 512) (he : ∀ n, ovr f' com' n = ovr (ovr f com) own n) {n : Nat} (hn : n < 70) : (if (R.W n).toList.isEmpty = false then R.W n else R.L n) = strOf (ovr f' com' n) := by
  rw [(h.w rfl).1 n hn, wstr_empty _ (fun b e => (ho n b e).2), he n, h.l n hn]
  cases hc : own n with
  | none => rw [ovr_none hc]; rfl
  | some b => rw [ovr_some hc]; rfl
theorem Cor.few (h : Cor R f com pend true own wrote) (ho : ∀ n b, own n = some b → n < 70 ∧ b.length = 512) (he : ∀ n, ovr f' com' n = ovr (ovr f com) own n) (hc : com' = mrg com own) (own' : Nat → Option (List Int)) (wrote' : Nat) : Cor (rcom1 R) f' com' (pend + 1) false own' wrote' :=
  ⟨fun n hn => h.comL ho he hn, fun n hn => by rw [hc]; exact h.tgs ho hn, by show R.pend + 1 = _; rw [h.p], rfl, (fun e => by cases e)⟩
theorem Cor.many (h : Cor R f com pend true own wrote) (ho : ∀ n b, own n = some b → n < 70 ∧ b.length = 512) (he : ∀ n, ovr f' com' n = ovr (ovr f com) own n) (hc : com' = own) (own' : Nat → Option (List Int)) (wrote' : Nat) : Cor (rcom1 (rsyn R)) f' com' 1 false own' wrote' :=
  ⟨fun n hn => h.comL ho he hn, fun n hn => by
    rw [hc]
    show (false || !(R.W n).toList.isEmpty) = _
    rw [(h.w rfl).1 n hn, wstr_empty _ (fun b e => (ho n b e).2), Bool.not_not, Bool.false_or], rfl, rfl, (fun e => by cases e)⟩

/-- Commit of both. -/
theorem commit_both (w1 : World) (h : PlAt X w0 w1 pp pl (.pointer (some ⟨q, 0, none⟩)) pr R lb lc db dc nb nc nv) (ht : TxUp X w0 w1 pd pl q 70 f com pend live own wrote (1000 + 128 * k)) (hc : Cor R f com pend live own wrote) (hp : pend ≤ k) (hs : R.syncs ≤ k) (hk : k < 1000) :
    Calls Try.prog 23 #[.pointer (some ⟨q, 0, none⟩)] w1 fun e w2 => ∃ E, e = .returned (.int .i64 E) ∧ w2.cell? ⟨pp, 1, none⟩ = some (.pointer (some ⟨q, 0, none⟩)) ∧ w2.cell? ⟨pp, 2, none⟩ = some (.pointer (some ⟨pr, 0, none⟩)) ∧
      Hid (Calls Try.prog 43 #[.pointer (some ⟨pr, 0, none⟩)] w2 fun e w3 => e = .returned (.int .i64 E) ∧ w3.cell? ⟨pp, 1, none⟩ = some (.pointer (some ⟨q, 0, none⟩)) ∧ w3.cell? ⟨pp, 2, none⟩ = some (.pointer (some ⟨pr, 0, none⟩)) ∧ Hid (Pl w0 w3 pd pp (k + 1))) := by
  cases live with
  | false =>
    refine (commit_dead_up ht).mono ?_
    rintro e w2 ⟨rfl, rfl⟩
    refine ⟨15, rfl, h.c1, h.c2, ?_⟩
    refine Calls.mono (rcommit_shut w2 h.rf hc.o) ?_
    rintro e w3 ⟨rfl, rfl⟩
    exact ⟨rfl, h.c1, h.c2, Pl.up ⟨X, pl, _, pr, R, lb, lc, db, dc, nb, nc, nv, f, com, pend, false, own, wrote, h, .inr ⟨q, rfl, ht⟩, hc, hp, hs⟩ (by omega)⟩
  | true =>
    have hlt := ht.lt
    have hcnt := hc.cnt hlt
    have hN : 1000 + 128 * k + 128 = 1000 + 128 * (k + 1) := by omega
    refine (commit_up ht (by omega) (by omega)).mono ?_
    rintro e w2 ⟨rfl, f', com', pend', t2, s2, he, hcase⟩
    rw [hN] at t2
    have p2 := h.sm s2
    refine ⟨0, rfl, p2.c1, p2.c2, ?_⟩
    have fin : ∀ (w3 : World) (nv' : Value), RfAt w3 pr (rcom R) lb lc db dc nb nc nv' → Chg (fun b => b = pr ∨ b = lb ∨ b = db) w2 w3 → Cor (rcom R) f' com' pend' false (fun _ => none) wrote → pend' ≤ k + 1 → (rcom R).syncs ≤ k + 1 → (rcom R).op = false →
        w3.cell? ⟨pp, 1, none⟩ = some (.pointer (some ⟨q, 0, none⟩)) ∧ w3.cell? ⟨pp, 2, none⟩ = some (.pointer (some ⟨pr, 0, none⟩)) ∧ Hid (Pl w0 w3 pd pp (k + 1)) := by
      intro w3 nv' hr hch hcor hpe hsy hop
      obtain ⟨p3, u3⟩ := pl_ref p2 (.inr ⟨q, rfl, t2⟩) hr hch (fun b e => by
        rcases e with e | e | e
        · exact .inl e
        · exact .inr (.inl e)
        · exact .inr (.inr (.inl e))) (fun e => by rw [hop] at e; cases e)
      exact ⟨p3.c1, p3.c2, _, pl, _, pr, _, lb, lc, db, dc, nb, nc, nv', f', com', pend', false, _, wrote, p3, u3, hcor, hpe, hsy⟩
    rcases hcase with ⟨e1, e2, e3, e4⟩ | ⟨e1, e2, e3, e4⟩
    · have hR : rcom R = rcom1 R := by unfold rcom; rw [if_neg (by omega)]
      refine Calls.mono (rcommit_few w2 p2.rf hc.o (by rw [hc.p]; omega) (by omega)) ?_
      rintro e w3 ⟨rfl, nv', hr, hch⟩
      exact ⟨rfl, fin w3 nv' hr hch (by rw [hR, e1]; exact hc.few hlt he e3 _ _) (by omega) (by rw [hR]; show R.syncs ≤ k + 1; omega) (by rw [hR]; rfl)⟩
    · have hR : rcom R = rcom1 (rsyn R) := by unfold rcom; rw [if_pos (by omega)]
      refine Calls.mono (rcommit_many w2 p2.rf hc.o (by omega) (by omega)) ?_
      rintro e w3 ⟨rfl, nv', hr, hch⟩
      exact ⟨rfl, fin w3 nv' hr hch (by rw [hR, e1]; exact hc.many hlt he e3 _ _) (by omega) (by rw [hR]; show R.syncs + 1 ≤ k + 1; omega) (by rw [hR]; rfl)⟩

set_option maxHeartbeats 1600000 in
set_option maxRecDepth 100000 in
theorem pstep_commit (n : Int) (bv : Value) (w : World) (h : Pl w0 w pd pp k) (hk : k < 1000) :
    Calls Try.prog 13 #[.pointer (some ⟨pp, 0, none⟩), .agg #[.int .i64 3, .int .i64 n, bv]] w fun e w' => e = .returned (.bool true) ∧ Pl w0 w' pd pp (k + 1) := by
  have HP : Hid (Pl w0 w pd pp k) := h
  obtain ⟨X, pl, tv, pr, R, lb, lc, db, dc, nb, nc, nv, f, com, pend, live, own, wrote, p1, u1, c1, b1, b2, x1, x2, x3⟩ := h.enter (.cells #[.int .i64 3, .int .i64 n, bv] 41)
  obtain ⟨w1, hw1⟩ : ∃ w1, w.alloc (.cells #[.int .i64 3, .int .i64 n, bv] 41) = w1 := ⟨_, rfl⟩
  have HW : Hid (Chg (fun _ => False) w w1) := by rw [← hw1]; exact Chg.alloc (fun _ => False) w _
  have d1 := p1.c1
  have HW1 : Hid (w.alloc (.cells #[.int .i64 3, .int .i64 n, bv] 41) = w1) := hw1
  rw [hw1] at p1 u1
  rcases u1 with ⟨rfl, e, l1⟩ | ⟨q, rfl, t1⟩
  · have hq := eqT_nn
    have HQ : Hid (Pl w0 w1 pd pp (k + 1)) := (HP.out.more HW.out).up (by omega)
    clear h p1 c1 x1 x2 x3 l1 b1 b2 HP HW hw1
    go_enter Try.func13, Try.ntmps13
    go_wp2_with fail
    rw [HW1.out]
    rw [HW1.out] at d1
    go_region
    all_goals
      go_wp2
      go_ret
      exact ⟨rfl, HQ.out.more (Chg.drew (fun _ => False) w1)⟩
  · have hq := eqT_some ⟨q, 0, none⟩
    have d2 := p1.c2
    have kd := Chg.drew (fun _ => False) w1
    have CM := commit_both w1.drew (p1.kept kd) (t1.more kd) c1 b1 b2 hk
    have HCM : Hid _ := CM
    clear h p1 c1 x1 x2 x3 t1 b1 b2 HP HW hw1 CM kd
    go_enter Try.func13, Try.ntmps13
    go_wp2_with fail
    rw [HW1.out]
    rw [HW1.out] at d1
    go_region_held (fun w' => w'.cell? ⟨pp, 1, none⟩ = some (.pointer (some ⟨q, 0, none⟩)) ∧ w'.cell? ⟨pp, 2, none⟩ = some (.pointer (some ⟨pr, 0, none⟩)))
      (first | assumption | exact ⟨d1, d2⟩ | exact ⟨q1, q2⟩ | exact ⟨r1, r2⟩)
      (first | (go_at_call 23; refine (show Calls _ _ _ _ _ from HCM.out).mono ?_; clear HCM; rintro e w2 ⟨E, rfl, q1, q2, HRC⟩) | (go_at_call 43; refine (show Calls _ _ _ _ _ from HRC.out).mono ?_; clear HRC; rintro e w3 ⟨rfl, r1, r2, HQ⟩))
    all_goals
      go_wp2
      go_ret
      exact ⟨rfl, HQ.out⟩
end
end Go.Proofs.Ytkkmdmnjlncgfaa

/-
  The acts of a play: Commit.
-/
import Derived.Test.YtmlhjcjonfalhaaGreatCPlay1
namespace Go.Proofs.YtmlhjcjonfalhaaGreat.C
open Go.RowKit Go.Maps

section
variable {T : (Nat → List Int) → (Nat → Option (List Int)) → Nat → Prop} {Y : Nat → Prop} {wY : World} {dv mv cv : Value} {X : Nat → Prop} {w0 w w' : World} {pd pp pl q pr : Nat} {tv : Value} {R : Rf} {lb lc db dc nb nc : Nat} {nv : Value} {f f' : Nat → List Int} {com own com' : Nat → Option (List Int)} {pend wrote N k : Nat} {live : Bool}
/-- Commit of both: done, or cut. -/
theorem commit_both (w1 : World) (h : PlAt Y wY dv mv cv X w0 w1 pp pl (.pointer (some ⟨q, 0, none⟩)) pr R lb lc db dc nb nc nv) (ht : TxUp X w0 w1 pd pl q 70 f com pend live own wrote (1000 + 128 * k)) (hc : Cor R f com pend live own wrote) (hp : pend ≤ k) (hs : R.syncs ≤ k) (hk : k < 1000) (hT : T f com R.syncs) :
    Calls Tryz.prog 16 #[.pointer (some ⟨q, 0, none⟩)] w1 fun e w2 => ∃ E, e = .returned (.int .i64 E) ∧ w2.cell? ⟨pp, 2, none⟩ = some (.pointer (some ⟨q, 0, none⟩)) ∧ w2.cell? ⟨pp, 3, none⟩ = some (.pointer (some ⟨pr, 0, none⟩)) ∧
      Hid (Calls Tryz.prog 71 #[.pointer (some ⟨pr, 0, none⟩)] w2 fun e w3 => ∃ E2, e = .returned (.int .i64 E2) ∧ w3.cell? ⟨pp, 2, none⟩ = some (.pointer (some ⟨q, 0, none⟩)) ∧ w3.cell? ⟨pp, 3, none⟩ = some (.pointer (some ⟨pr, 0, none⟩)) ∧ Hid ((E = E2 ∧ Pl (Tn T) Y wY dv mv cv w0 w3 pd pp (k + 1)) ∨ PlOff T Y wY dv mv cv w0 w3 pd pp (k + 1))) := by
  cases live with
  | false =>
    refine (commit_dead_up ht).mono ?_
    rintro e w2 ⟨rfl, rfl⟩
    refine ⟨15, rfl, h.c1, h.c2, ?_⟩
    refine Calls.mono (rcommit_shut w2 h.rf hc.o) ?_
    rintro e w3 ⟨rfl, rfl⟩
    exact ⟨15, rfl, h.c1, h.c2, .inl ⟨rfl, Pl.up ⟨X, pl, _, pr, R, lb, lc, db, dc, nb, nc, nv, f, com, pend, false, own, wrote, h, .inr ⟨q, rfl, ht⟩, hc, hp, hs, Tn.same hT _⟩ (by omega)⟩⟩
  | true =>
    have hlt := ht.lt
    have hcnt := hc.cnt hlt
    have hN : 1000 + 128 * k + 128 = 1000 + 128 * (k + 1) := by omega
    refine (commit_up ht (by omega) (by omega)).mono ?_
    rintro e w2 ⟨s2, ⟨rfl, f', com', pend', t2, he, hcase⟩ | ⟨rfl, hmany, o2⟩⟩
    · rw [hN] at t2
      have p2 := h.sm s2
      refine ⟨0, rfl, p2.c1, p2.c2, ?_⟩
      have fin : ∀ (w3 : World) (nv' : Value), nv' = nv → RfAt w3 pr (rcom R) lb lc db dc nb nc nv' → Chg (fun b => b = pr ∨ b = lb ∨ b = db) w2 w3 → Cor (rcom R) f' com' pend' false (fun _ => none) wrote → pend' ≤ k + 1 → (rcom R).syncs ≤ k + 1 → (rcom R).op = false → Tn T f' com' (rcom R).syncs →
          w3.cell? ⟨pp, 2, none⟩ = some (.pointer (some ⟨q, 0, none⟩)) ∧ w3.cell? ⟨pp, 3, none⟩ = some (.pointer (some ⟨pr, 0, none⟩)) ∧ Hid (((0 : Int) = 0 ∧ Pl (Tn T) Y wY dv mv cv w0 w3 pd pp (k + 1)) ∨ PlOff T Y wY dv mv cv w0 w3 pd pp (k + 1)) := by
        intro w3 nv' hnv hr hch hcor hpe hsy hop hTn
        subst hnv
        obtain ⟨p3, u3⟩ := pl_ref p2 (.inr ⟨q, rfl, t2⟩) hr hch (fun b e => by
          rcases e with e | e | e
          · exact .inl e
          · exact .inr (.inl e)
          · exact .inr (.inr (.inl e))) (fun e => by rw [hop] at e; cases e) (p2.nvk.keptE hch (fun b e => .inr e))
        exact ⟨p3.c1, p3.c2, .inl ⟨rfl, _, pl, _, pr, _, lb, lc, db, dc, nb, nc, nv', f', com', pend', false, _, wrote, p3, u3, hcor, hpe, hsy, hTn⟩⟩
      rcases hcase with ⟨e1, e2, e3, e4⟩ | ⟨e1, e2, e3, e4⟩
      · have hR : rcom R = rcom1 R := by unfold rcom; rw [if_neg (by omega)]
        refine Calls.mono (rcommit_few w2 p2.rf hc.o (by rw [hc.p]; omega) (by omega)) ?_
        rintro e w3 ⟨rfl, nv', hnv, hr, hch⟩
        exact ⟨0, rfl, fin w3 nv' hnv hr hch (by rw [hR, e1]; exact hc.few hlt he e3 _ _) (by omega) (by rw [hR]; show R.syncs ≤ k + 1; omega) (by rw [hR]; rfl) (by rw [hR, e2]; exact Tn.same hT _)⟩
      · have hR : rcom R = rcom1 (rsyn R) := by unfold rcom; rw [if_pos (by omega)]
        refine Calls.mono (rcommit_many w2 p2.rf hc.o (by omega) (by omega)) ?_
        rintro e w3 ⟨rfl, nv', hnv, hr, hch⟩
        exact ⟨0, rfl, fin w3 nv' hnv hr hch (by rw [hR, e1]; exact hc.many hlt he e3 _ _) (by omega) (by rw [hR]; show R.syncs + 1 ≤ k + 1; omega) (by rw [hR]; rfl) (by rw [hR, e2]; exact Tn.synced hT _)⟩
    · rw [hN] at o2
      have p2 := h.sm s2
      refine ⟨6, rfl, p2.c1, p2.c2, ?_⟩
      refine Calls.mono (rcommit_many w2 p2.rf hc.o (by omega) (by omega)) ?_
      rintro e w3 ⟨rfl, nv', hnv, hr, hch⟩
      have hE : ∀ b, (b = pr ∨ b = lb ∨ b = db) → RfB pr lb db nb R.op b := by
        rintro b (e | e | e)
        · exact .inl e
        · exact .inr (.inl e)
        · exact .inr (.inr (.inl e))
      have hpl : pp < w2.heap.size := (Array.getElem?_eq_some_iff.1 p2.blk).1
      have b3 := (hch.block pp hpl (fun e => p2.ne pp (hE pp e) rfl)).trans p2.blk
      have o3 := o2.refE hch (fun b _ e => p2.xr b (hE b e))
      refine ⟨0, rfl, by rw [cell_of_row w3 pp 2 _ _ _ b3]; rfl, by rw [cell_of_row w3 pp 3 _ _ _ b3]; rfl, .inr ⟨_, f, com, R.syncs, pl, _, pr, hT, o3, b3, .inl p2.xp.1, p2.xp.2, fun b hb => ⟨.inl (p2.y b hb).1, (p2.y b hb).2.1⟩, p2.sn.trans (fun b hb => hch.block b (p2.y b hb).2.2.2 (fun e => (p2.y b hb).2.2.1 (hE b e)))⟩⟩

set_option maxHeartbeats 1600000 in
set_option maxRecDepth 100000 in
theorem pstep_commit (n : Int) (bv : Value) (w : World) (h : Pl T Y wY dv mv cv w0 w pd pp k) (hk : k < 1000) :
    Calls Tryz.prog 56 #[.pointer (some ⟨pp, 1, none⟩), .agg #[.int .i64 3, .int .i64 n, bv]] w fun e w' => AcTo T Y wY dv mv cv w0 pd pp (k + 1) e w' := by
  have HP : Hid (Pl T Y wY dv mv cv w0 w pd pp k) := h
  obtain ⟨X, pl, tv, pr, R, lb, lc, db, dc, nb, nc, nv, f, com, pend, live, own, wrote, p1, u1, c1, b1, b2, bT, x1, x2, x3⟩ := h.enter (.cells #[.int .i64 3, .int .i64 n, bv] 52)
  obtain ⟨w1, hw1⟩ : ∃ w1, w.alloc (.cells #[.int .i64 3, .int .i64 n, bv] 52) = w1 := ⟨_, rfl⟩
  have HW : Hid (Chg (fun _ => False) w w1) := by rw [← hw1]; exact Chg.alloc (fun _ => False) w _
  have d1 := p1.c1
  have HW1 : Hid (w.alloc (.cells #[.int .i64 3, .int .i64 n, bv] 52) = w1) := hw1
  rw [hw1] at p1 u1
  rcases u1 with ⟨rfl, e, l1⟩ | ⟨q, rfl, t1⟩
  · have hq := eqT_nn
    have HQ : Hid (Pl (Tn T) Y wY dv mv cv w0 w1 pd pp (k + 1)) := ((HP.out.more HW.out).up (by omega)).weak (fun _ com _ h => Tn.same h com)
    clear h p1 c1 x1 x2 x3 l1 b1 b2 HP HW hw1 bT
    go_enter Tryz.func56, Tryz.ntmps56
    go_wp2_with fail
    rw [HW1.out]
    rw [HW1.out] at d1
    go_region
    all_goals
      go_wp2
      go_ret
      exact .inl ⟨rfl, HQ.out.more (Chg.drew (fun _ => False) w1)⟩
  · have hq := eqT_some ⟨q, 0, none⟩
    have d2 := p1.c2
    have kd := Chg.drew (fun _ => False) w1
    have CM := commit_both w1.drew (p1.kept kd) (t1.more kd) c1 b1 b2 hk bT
    have HCM : Hid _ := CM
    clear h p1 c1 x1 x2 x3 t1 b1 b2 HP HW hw1 CM kd bT
    go_enter Tryz.func56, Tryz.ntmps56
    go_wp2_with fail
    rw [HW1.out]
    rw [HW1.out] at d1
    go_region_held (fun w' => w'.cell? ⟨pp, 2, none⟩ = some (.pointer (some ⟨q, 0, none⟩)) ∧ w'.cell? ⟨pp, 3, none⟩ = some (.pointer (some ⟨pr, 0, none⟩)))
      (first | assumption | exact ⟨d1, d2⟩ | exact ⟨q1, q2⟩ | exact ⟨r1, r2⟩)
      (first | (go_at_call 16; refine (show Calls _ _ _ _ _ from HCM.out).mono ?_; clear HCM; rintro e w2 ⟨E, rfl, q1, q2, HRC⟩) | (go_at_call 71; refine (show Calls _ _ _ _ _ from HRC.out).mono ?_; clear HRC; rintro e w3 ⟨E2, rfl, r1, r2, HQ⟩))
    all_goals
      go_wp2
      go_ret
      rcases HQ.out with ⟨rfl, hq⟩ | hq
      · exact .inl ⟨by simp, hq⟩
      · exact .inr ⟨_, rfl, hq⟩
end
end Go.Proofs.YtmlhjcjonfalhaaGreat.C

namespace Go.Proofs.YtmlhjcjonfalhaaGreat.C
open Go.RowKit Go.Maps

section
variable {T : (Nat → List Int) → (Nat → Option (List Int)) → Nat → Prop} {Y : Nat → Prop} {wY : World} {dv mv cv : Value} {X : Nat → Prop} {w0 w w' : World} {pd pp pl q pr : Nat} {tv : Value} {R : Rf} {lb lc db dc nb nc : Nat} {nv : Value} {f f' : Nat → List Int} {com own com' : Nat → Option (List Int)} {pend wrote N k : Nat} {live : Bool}

theorem readU (n : Nat) (h : Up X w0 w pd pl tv f com pend live own wrote N) (hn : n < 70) (hx : N < 1000000000) :
    Calls Tryz.prog 18 #[.pointer (some ⟨pl, 0, none⟩), .int .i64 (n : Int)] w fun e w' => ∃ u, e = .returned (.tuple #[u, .int .i64 0]) ∧ Fresh w w' u (ovr f com n) := by
  rcases h with ⟨_, _, h⟩ | ⟨q, _, h⟩
  · exact read_up n h hn hx
  · exact read_upT n h hn hx
theorem read_outU (n : Int) (h : Up X w0 w pd pl tv f com pend live own wrote N) (hn : ¬ (0 ≤ n ∧ n < 70)) :
    Calls Tryz.prog 18 #[.pointer (some ⟨pl, 0, none⟩), .int .i64 n] w fun e w' => e = .returned (.tuple #[.slice none 0 0, .int .i64 1]) ∧ w' = w := by
  rcases h with ⟨_, _, h⟩ | ⟨q, _, h⟩
  · exact read_out_up n h hn
  · exact read_outT n h hn
theorem ovr_len (h : Up X w0 w pd pl tv f com pend live own wrote N) {n : Nat} (hn : n < 70) : (ovr f com n).length = 512 := by
  have hf : (f n).length = 512 := by
    rcases h with ⟨_, _, h⟩ | ⟨q, _, F, G, S, m, V, mt, Vt, h1, h2, _⟩
    · exact h.flen n hn
    · rw [← h2.last hn]
      exact St.last_len h2.wf (by have := h2.nb; omega)
  unfold ovr
  cases hc : com n with
  | none => exact hf
  | some b => exact (h.lt n b hc).2

set_option maxHeartbeats 1600000 in
set_option maxRecDepth 100000 in
theorem pstep_read (n : Int) (bv : Value) (w : World) (h : Pl T Y wY dv mv cv w0 w pd pp k) (hk : k < 1000) :
    Calls Tryz.prog 56 #[.pointer (some ⟨pp, 1, none⟩), .agg #[.int .i64 6, .int .i64 n, bv]] w fun e w' => e = .returned (.bool true) ∧ Pl T Y wY dv mv cv w0 w' pd pp (k + 1) := by
  have HP : Hid (Pl T Y wY dv mv cv w0 w pd pp k) := h
  obtain ⟨X, pl, tv, pr, R, lb, lc, db, dc, nb, nc, nv, f, com, pend, live, own, wrote, p1, u1, c1, b1, b2, bT, x1, x2, x3⟩ := h.enter (.cells #[.int .i64 6, .int .i64 n, bv] 52)
  obtain ⟨w1, hw1⟩ : ∃ w1, w.alloc (.cells #[.int .i64 6, .int .i64 n, bv] 52) = w1 := ⟨_, rfl⟩
  have HW : Hid (Chg (fun _ => False) w w1) := by rw [← hw1]; exact Chg.alloc (fun _ => False) w _
  have d0 := p1.c0
  have cN : w1.cell? ⟨w.heap.size, 1, none⟩ = some (.int .i64 n) := by rw [← hw1, cell_of_row _ _ 1 _ _ _ (heap_alloc_new w _)]; rfl
  have HW1 : Hid (w.alloc (.cells #[.int .i64 6, .int .i64 n, bv] 52) = w1) := hw1
  rw [hw1] at p1 u1
  have HK : Hid (PlAt Y wY dv mv cv X w0 w1 pp pl tv pr R lb lc db dc nb nc nv ∧ Up X w0 w1 pd pl tv f com pend live own wrote (1000 + 128 * k) ∧ Cor R f com pend live own wrote) := ⟨p1, u1, c1⟩
  clear h p1 c1 x1 x2 x3 u1 b1 b2 hw1 bT
  by_cases hn : 0 ≤ n ∧ n < 70
  · obtain ⟨m, rfl⟩ : ∃ m : Nat, n = (m : Int) := ⟨n.toNat, by omega⟩
    have hm : m < 70 := by omega
    have kd : decide (0 ≤ (m : Int) ∧ (m : Int) < 70) = true := by simp; omega
    clear hn
    have RD : Hid (Calls Tryz.prog 18 #[.pointer (some ⟨pl, 0, none⟩), .int .i64 (m : Int)] w1.drew fun e w2 => ∃ ua uc, e = .returned (.tuple #[.slice ua 512 uc, .int .i64 0]) ∧ w2.cell? ⟨pp, 1, none⟩ = some (.pointer (some ⟨pl, 0, none⟩)) ∧ w2.cell? ⟨w.heap.size, 1, none⟩ = some (.int .i64 (m : Int)) ∧ Hid (Fresh w1.drew w2 (.slice ua 512 uc) (ovr f com m))) := by
      have kd := Chg.drew (fun _ => False) w1
      refine (readU m (HK.out.2.1.more kd) hm (by omega)).mono ?_
      rintro e w2 ⟨u, rfl, fr⟩
      obtain ⟨ua, uc, rfl⟩ := fr.form512 (ovr_len HK.out.2.1 hm)
      exact ⟨ua, uc, rfl, ((HK.out.1.kept kd).kept fr.chg).c0, fr.chg.cell (kd.cell cN (fun h => h)) (fun h => h), fr⟩
    go_enter Tryz.func56, Tryz.ntmps56
    go_wp2_with fail
    rw [HW1.out]
    rw [HW1.out] at d0
    go_region_held (fun w' => w'.cell? ⟨pp, 1, none⟩ = some (.pointer (some ⟨pl, 0, none⟩)) ∧ w'.cell? ⟨w.heap.size, 1, none⟩ = some (.int .i64 (m : Int)))
      (first | assumption | exact ⟨d0, cN⟩ | exact ⟨q0, q1⟩)
      (first | (go_at_call 18; refine RD.out.mono ?_; clear RD; rintro e w2 ⟨ua, uc, rfl, q0, q1, FR⟩))
    have fr := FR.out
    have hch : Chg (fun _ => False) w1 w2 := (Chg.drew (fun _ => False) w1).trans fr.chg (fun _ _ h => h)
    have p2 := HK.out.1.kept hch
    have d2 := p2.c2
    have e0 := p2.rf.c0
    have el := p2.rf.l.cell hm
    rw [HK.out.2.2.l m hm] at el
    have hlc := p2.rf.lcc
    obtain ⟨t, ht⟩ : ∃ t, strOf (ovr f com m) = t := ⟨_, rfl⟩
    have s1 := run_str (fr.bs.kept ((Chg.drew (fun _ => False) w2).trans (Chg.drew (fun _ => False) w2.drew) (fun _ _ h => h)) (fun _ _ _ _ _ h => h))
    rw [ht] at s1 el
    have hse := str_same t
    have HQ : Hid (Pl T Y wY dv mv cv w0 w2 pd pp (k + 1) ∧ PlAt Y wY dv mv cv X w0 w2 pp pl tv pr R lb lc db dc nb nc nv) := ⟨(HP.out.more (HW.out.trans hch (fun _ _ h => h))).up (by omega), p2⟩
    have IS : Hid (Calls Tryz.prog 75 #[.pointer (some ⟨pr, 0, none⟩), .int .i64 (m : Int)] w2.drew fun e w' => e = .returned (.bool true) ∧ w' = w2.drew) := (ris_any (m : Int) w2.drew (p2.kept (Chg.drew (fun _ => False) w2)).rf).mono (by rintro e w' ⟨rfl, rfl⟩; exact ⟨by rw [kd], rfl⟩)
    clear fr p2 HK HP HW ht d0 cN FR hch q0 kd
    go_wp2_with fail
    go_region_held (fun w' => w'.cell? ⟨pp, 3, none⟩ = some (.pointer (some ⟨pr, 0, none⟩)) ∧ w'.cell? ⟨w.heap.size, 1, none⟩ = some (.int .i64 (m : Int)))
      (first | assumption | exact ⟨d2, q1⟩)
      (first | (go_at_call 75; refine IS.out.mono ?_; clear IS; rintro e w3 ⟨rfl, rfl⟩))
    go_wp2_with fail
    go_region_held (fun w' => (convert 50 9 (.slice ua 512 uc)).run Tryz.prog w' = .ok (.string t) w' ∧ w'.cell? ⟨pp, 3, none⟩ = some (.pointer (some ⟨pr, 0, none⟩)) ∧ w'.cell? ⟨w.heap.size, 1, none⟩ = some (.int .i64 (m : Int)) ∧ w'.cell? ⟨pr, 0, none⟩ = some (.slice (some ⟨lb, 0, none⟩) 70 lc) ∧ w'.cell? ⟨lb, m, none⟩ = some (.string t))
      (first | assumption | exact ⟨s1, d2, q1, e0, el⟩)
      (fail)
    all_goals
      go_wp2
      go_ret
      exact ⟨rfl, HQ.out.1.more ((Chg.drew (fun _ => False) w2).trans (Chg.drew (fun _ => False) w2.drew) (fun _ _ h => h))⟩
  · have kd : decide (0 ≤ n ∧ n < 70) = false := by simpa using hn
    have RD : Hid (Calls Tryz.prog 18 #[.pointer (some ⟨pl, 0, none⟩), .int .i64 n] w1.drew fun e w2 => e = .returned (.tuple #[.slice none 0 0, .int .i64 1]) ∧ w2 = w1.drew) := read_outU n (HK.out.2.1.more (Chg.drew (fun _ => False) w1)) hn
    have d2 := HK.out.1.c2
    have IS : Hid (Calls Tryz.prog 75 #[.pointer (some ⟨pr, 0, none⟩), .int .i64 n] w1.drew.drew fun e w' => e = .returned (.bool false) ∧ w' = w1.drew.drew) := (ris_any n _ ((HK.out.1.kept (Chg.drew (fun _ => False) w1)).kept (Chg.drew (fun _ => False) w1.drew)).rf).mono (by rintro e w' ⟨rfl, rfl⟩; exact ⟨by rw [kd], rfl⟩)
    have HQ : Hid (Pl T Y wY dv mv cv w0 w1.drew.drew pd pp (k + 1)) := (HP.out.more (HW.out.trans ((Chg.drew (fun _ => False) w1).trans (Chg.drew (fun _ => False) w1.drew) (fun _ _ h => h)) (fun _ _ h => h))).up (by omega)
    clear hn HK HP HW kd
    go_enter Tryz.func56, Tryz.ntmps56
    go_wp2_with fail
    rw [HW1.out]
    rw [HW1.out] at d0
    go_region_held (fun w' => w'.cell? ⟨pp, 1, none⟩ = some (.pointer (some ⟨pl, 0, none⟩)) ∧ w'.cell? ⟨w.heap.size, 1, none⟩ = some (.int .i64 n))
      (first | assumption | exact ⟨d0, cN⟩)
      (first | (go_at_call 18; refine RD.out.mono ?_; clear RD; rintro e w2 ⟨rfl, rfl⟩))
    go_wp2_with fail
    go_region_held (fun w' => w'.cell? ⟨pp, 3, none⟩ = some (.pointer (some ⟨pr, 0, none⟩)) ∧ w'.cell? ⟨w.heap.size, 1, none⟩ = some (.int .i64 n))
      (first | assumption | exact ⟨d2, cN⟩)
      (first | (go_at_call 75; refine IS.out.mono ?_; clear IS; rintro e w3 ⟨rfl, rfl⟩))
    go_wp2
    go_ret
    exact ⟨rfl, HQ.out⟩
end
end Go.Proofs.YtmlhjcjonfalhaaGreat.C

namespace Go.Proofs.YtmlhjcjonfalhaaGreat.C
open Go.RowKit Go.Maps

section
variable {T : (Nat → List Int) → (Nat → Option (List Int)) → Nat → Prop} {Y : Nat → Prop} {wY : World} {dv mv cv : Value} {X : Nat → Prop} {w0 w w' : World} {pd pp pl q pr : Nat} {tv : Value} {R : Rf} {lb lc db dc nb nc : Nat} {nv : Value} {f f' : Nat → List Int} {com own com' : Nat → Option (List Int)} {pend wrote N k : Nat} {live : Bool}
/-- Read of both. -/
theorem tread_both (n : Int) (w1 : World) (h : PlAt Y wY dv mv cv X w0 w1 pp pl (.pointer (some ⟨q, 0, none⟩)) pr R lb lc db dc nb nc nv) (ht : TxUp X w0 w1 pd pl q 70 f com pend true own wrote (1000 + 128 * k)) (hc : Cor R f com pend true own wrote) (hw : -9223372036854775808 ≤ n ∧ n ≤ 9223372036854775807) (hk : k < 1000) :
    Calls Tryz.prog 76 #[.pointer (some ⟨q, 0, none⟩), .int .i64 n] w1 fun e w2 => ∃ ua ul uc E t, e = .returned (.tuple #[.slice ua ul uc, .int .i64 E]) ∧ Hid (Chg (fun _ => False) w1 w2 ∧ (∀ w', Chg (fun _ => False) w2 w' → (convert 50 9 (.slice ua ul uc)).run Tryz.prog w' = .ok (.string t) w') ∧
      ∀ w', Chg (fun _ => False) w2 w' → Calls Tryz.prog 77 #[.pointer (some ⟨pr, 0, none⟩), .int .i64 n] w' fun e w3 => e = .returned (.tuple #[.string t, .int .i64 E]) ∧ w3 = w') := by
  by_cases hn : 0 ≤ n ∧ n < 70
  · obtain ⟨m, rfl⟩ : ∃ m : Nat, n = (m : Int) := ⟨n.toNat, by omega⟩
    have hm : m < 70 := by omega
    refine (tread_up m ht hm (by omega)).mono ?_
    rintro e w2 ⟨u, rfl, fr⟩
    have hlen : (ovr (ovr f com) own m).length = 512 := by
      have h0 := ovr_len (tv := .pointer (some ⟨q, 0, none⟩)) (.inr ⟨q, rfl, ht⟩) hm
      unfold ovr at h0 ⊢
      cases hc : own m with
      | none => exact h0
      | some b => exact (ht.lt m b hc).2
    obtain ⟨ua, uc, rfl⟩ := fr.form512 hlen
    refine ⟨ua, 512, uc, 0, strOf (ovr (ovr f com) own m), rfl, fr.chg, fun w' hc' => run_str (fr.bs.kept hc' (fun _ _ _ _ _ h => h)), fun w' hc' => ?_⟩
    refine (rread_any m w' ((h.kept fr.chg).kept hc').rf hm hc.o).mono ?_
    rintro e w3 ⟨rfl, rfl⟩
    rw [hc.readT ht.lt hm]
    exact ⟨rfl, rfl⟩
  · refine (tread_out_up n ht hw hn).mono ?_
    rintro e w2 ⟨rfl, rfl⟩
    refine ⟨none, 0, 0, 1, ByteArray.empty, rfl, Chg.refl _ _, fun w' _ => run_str (xs := []) (.inl ⟨rfl, rfl⟩), fun w' hc' => ?_⟩
    exact rread_out n w' (h.kept hc').rf hn

set_option maxHeartbeats 3200000 in
set_option maxRecDepth 100000 in
theorem pstep_tread (n : Int) (bv : Value) (w : World) (h : Pl T Y wY dv mv cv w0 w pd pp k) (hk : k < 1000) (hw : -9223372036854775808 ≤ n ∧ n ≤ 9223372036854775807) :
    Calls Tryz.prog 56 #[.pointer (some ⟨pp, 1, none⟩), .agg #[.int .i64 7, .int .i64 n, bv]] w fun e w' => e = .returned (.bool true) ∧ Pl T Y wY dv mv cv w0 w' pd pp (k + 1) := by
  have HP : Hid (Pl T Y wY dv mv cv w0 w pd pp k) := h
  obtain ⟨X, pl, tv, pr, R, lb, lc, db, dc, nb, nc, nv, f, com, pend, live, own, wrote, p1, u1, c1, b1, b2, bT, x1, x2, x3⟩ := h.enter (.cells #[.int .i64 7, .int .i64 n, bv] 52)
  obtain ⟨w1, hw1⟩ : ∃ w1, w.alloc (.cells #[.int .i64 7, .int .i64 n, bv] 52) = w1 := ⟨_, rfl⟩
  have HW : Hid (Chg (fun _ => False) w w1) := by rw [← hw1]; exact Chg.alloc (fun _ => False) w _
  have d1 := p1.c1
  have d2 := p1.c2
  have e3 := p1.rf.c3
  have HW1 : Hid (w.alloc (.cells #[.int .i64 7, .int .i64 n, bv] 52) = w1) := hw1
  have cN : w1.cell? ⟨w.heap.size, 1, none⟩ = some (.int .i64 n) := by rw [← hw1, cell_of_row _ _ 1 _ _ _ (heap_alloc_new w _)]; rfl
  rw [hw1] at p1 u1
  have HQ0 : Hid (∀ w', Chg (fun _ => False) w1 w' → Pl T Y wY dv mv cv w0 w' pd pp (k + 1)) := fun w' hc => (HP.out.more (HW.out.trans hc (fun _ _ h => h))).up (by omega)
  clear h HP HW hw1 b1 b2 x1 x2 x3 bT
  rcases u1 with ⟨rfl, e, l1⟩ | ⟨q, rfl, t1⟩
  · have hq := neqT_nn
    clear p1 l1 c1 cN e3 d2
    go_enter Tryz.func56, Tryz.ntmps56
    go_wp2
    go_ret
    rw [HW1.out]
    exact ⟨rfl, HQ0.out _ (Chg.refl _ _)⟩
  · have hq := neqT_some ⟨q, 0, none⟩
    cases live with
    | false =>
      rw [c1.o] at e3
      clear p1 t1 c1 cN
      go_enter Tryz.func56, Tryz.ntmps56
      go_wp2
      go_ret
      rw [HW1.out]
      exact ⟨rfl, HQ0.out _ (Chg.refl _ _)⟩
    | true =>
      rw [c1.o] at e3
      have kd := Chg.drew (fun _ => False) w1
      have TR : Hid _ := tread_both n w1.drew (p1.kept kd) (t1.more kd) c1 hw hk
      have HK : Hid (PlAt Y wY dv mv cv X w0 w1 pp pl (.pointer (some ⟨q, 0, none⟩)) pr R lb lc db dc nb nc nv ∧ TxUp X w0 w1 pd pl q 70 f com pend true own wrote (1000 + 128 * k) ∧ R.wrote = wrote) := ⟨p1, t1, (c1.w rfl).2⟩
      clear p1 t1 c1 kd
      go_enter Tryz.func56, Tryz.ntmps56
      go_wp2_with fail
      rw [HW1.out]
      rw [HW1.out] at d1 d2 e3
      clear e3
      go_region_held (fun w' => w'.cell? ⟨pp, 2, none⟩ = some (.pointer (some ⟨q, 0, none⟩)) ∧ w'.cell? ⟨w.heap.size, 1, none⟩ = some (.int .i64 n))
        (first | assumption | exact ⟨d1, cN⟩ | exact ⟨(HT.out.1).cell d1 (fun h => h), (HT.out.1).cell cN (fun h => h)⟩)
        (first | (go_at_call 76; refine (show Calls _ _ _ _ _ from TR.out).mono ?_; clear TR; rintro e w2 ⟨ua, ul, uc, E, t, rfl, HT⟩))
      have hch : Chg (fun _ => False) w1 w2 := (Chg.drew (fun _ => False) w1).trans HT.out.1 (fun _ _ h => h)
      have p2 := HK.out.1.kept hch
      have g1 := p2.c1
      have g2 := p2.c2
      have g5 := p2.rf.c5
      rw [HK.out.2.2] at g5
      have gN := hch.cell cN (fun h => h)
      have k1 := Chg.drew (fun _ => False) w2
      have k2 := k1.trans (Chg.drew (fun _ => False) w2.drew) (fun _ _ h => h)
      have RR : Hid _ := HT.out.2.2 w2.drew k1
      have s1 := HT.out.2.1 w2.drew.drew k2
      have WR : Hid _ := twrites_up ((HK.out.2.1.more hch).more k2)
      have HQ : Hid (Pl T Y wY dv mv cv w0 w2.drew.drew pd pp (k + 1)) := HQ0.out _ (hch.trans k2 (fun _ _ h => h))
      have hse := str_same t
      clear HT HK p2 hch k1 k2 cN d1 d2 HQ0 HW1
      go_wp2_with fail
      go_region_held (fun w' => w'.cell? ⟨pp, 3, none⟩ = some (.pointer (some ⟨pr, 0, none⟩)) ∧ w'.cell? ⟨w.heap.size, 1, none⟩ = some (.int .i64 n))
        (first | assumption | exact ⟨g2, gN⟩)
        (first | (go_at_call 77; refine (show Calls _ _ _ _ _ from RR.out).mono ?_; clear RR; rintro e w3 ⟨rfl, rfl⟩))
      go_wp2_with fail
      go_region_held (fun w' => (convert 50 9 (.slice ua ul uc)).run Tryz.prog w' = .ok (.string t) w' ∧ w'.cell? ⟨pp, 2, none⟩ = some (.pointer (some ⟨q, 0, none⟩)) ∧ w'.cell? ⟨pp, 3, none⟩ = some (.pointer (some ⟨pr, 0, none⟩)) ∧ w'.cell? ⟨pr, 5, none⟩ = some (.int .i64 (wrote : Int)))
        (first | assumption | exact ⟨s1, g1, g2, g5⟩)
        (first | (go_at_call 78; refine (show Calls _ _ _ _ _ from WR.out).mono ?_; clear WR; rintro e w3 ⟨rfl, rfl⟩))
      all_goals
        go_wp2
        go_ret
        exact ⟨rfl, HQ.out⟩
end
end Go.Proofs.YtmlhjcjonfalhaaGreat.C

namespace Go.Proofs.YtmlhjcjonfalhaaGreat.C
open Go.RowKit Go.Maps

/-- A play with a transaction, and the act at block g. -/
def PW (T : (Nat → List Int) → (Nat → Option (List Int)) → Nat → Prop) (Y : Nat → Prop) (wY : World) (dv mv cv : Value) (w0 w : World) (pd pp q k g : Nat) (o : Obj) : Prop :=
  ∃ X pl pr R lb lc db dc nb nc nv f com pend live own wrote, PlAt Y wY dv mv cv X w0 w pp pl (.pointer (some ⟨q, 0, none⟩)) pr R lb lc db dc nb nc nv ∧ TxUp X w0 w pd pl q 70 f com pend live own wrote (1000 + 128 * k) ∧ Cor R f com pend live own wrote ∧ pend ≤ k ∧ R.syncs ≤ k ∧ T f com R.syncs ∧ X g ∧ (∀ b, RfB pr lb db nb R.op b → b ≠ g) ∧ w.heap[g]? = some o
section
variable {T : (Nat → List Int) → (Nat → Option (List Int)) → Nat → Prop} {Y : Nat → Prop} {wY : World} {dv mv cv : Value} {X : Nat → Prop} {w0 w w' : World} {pd pp pl q pr g : Nat} {tv : Value} {R : Rf} {lb lc db dc nb nc : Nat} {nv : Value} {f f' : Nat → List Int} {com own com' : Nat → Option (List Int)} {pend wrote N k : Nat} {live : Bool}

theorem PW.play {o : Obj} (h : PW T Y wY dv mv cv w0 w pd pp q k g o) : Pl T Y wY dv mv cv w0 w pd pp (k + 1) := by
  obtain ⟨X, pl, pr, R, lb, lc, db, dc, nb, nc, nv, f, com, pend, live, own, wrote, h1, h2, h3, h4, h5, h6, _⟩ := h
  exact Pl.up ⟨X, pl, _, pr, R, lb, lc, db, dc, nb, nc, nv, f, com, pend, live, own, wrote, h1, 
    .inr ⟨q, rfl, h2⟩, h3, h4, h5, h6⟩ (by omega)
/-- What the walk of a round looks at. -/
def Sees (w : World) (pp q pr g : Nat) (bv : Value) : Prop := w.cell? ⟨pp, 2, none⟩ = some (.pointer (some ⟨q, 0, none⟩)) ∧ w.cell? ⟨pp, 3, none⟩ = some (.pointer (some ⟨pr, 0, none⟩)) ∧ w.cell? ⟨g, 2, none⟩ = some bv
theorem PlAt.sees {op n : Int} {bv : Value} (h : PlAt Y wY dv mv cv X w0 w pp pl (.pointer (some ⟨q, 0, none⟩)) pr R lb lc db dc nb nc nv) (hg : w.heap[g]? = some (.cells #[.int .i64 op, .int .i64 n, bv] 52 (0, 0))) : Sees w pp q pr g bv :=
  ⟨h.c1, h.c2, by rw [cell_of_row w g 2 _ _ _ hg]; rfl⟩

/-- Write of both: the four calls, one behind the other. -/
theorem write_both (op a : Int) (bv : Value) (bs : List Int) (w1 : World) (h : PlAt Y wY dv mv cv X w0 w1 pp pl (.pointer (some ⟨q, 0, none⟩)) pr R lb lc db dc nb nc nv) (ht : TxUp X w0 w1 pd pl q 70 f com pend live own wrote (1000 + 128 * k)) (hc : Cor R f com pend live own wrote) (hp : pend ≤ k) (hs : R.syncs ≤ k) (hT : T f com R.syncs) (hx : X g) (hgn : ∀ b, RfB pr lb db nb R.op b → b ≠ g)
    (hg : w1.heap[g]? = some (.cells #[.int .i64 op, .int .i64 a, bv] 52 (0, 0))) (hb : Bs w0 bv bs) (hl : bs.length ≤ 64) :
    Calls Tryz.prog 15 #[bv] w1 fun e w2 => ∃ ua uc, e = .returned (.slice ua 512 uc) ∧ Sees w2 pp q pr g bv ∧
      Hid (∀ n : Int, Calls Tryz.prog 14 #[.pointer (some ⟨q, 0, none⟩), .int .i64 n, .slice ua 512 uc] w2 fun e w3 => ∃ E, e = .returned (.int .i64 E) ∧ Sees w3 pp q pr g bv ∧
        Hid (Calls Tryz.prog 15 #[bv] w3 fun e w4 => ∃ va vc t, e = .returned (.slice va 512 vc) ∧ (convert 50 9 (.slice va 512 vc)).run Tryz.prog w4 = .ok (.string t) w4 ∧ Sees w4 pp q pr g bv ∧
          Hid (Calls Tryz.prog 70 #[.pointer (some ⟨pr, 0, none⟩), .int .i64 n, .string t] w4 fun e w5 => e = .returned (.int .i64 E) ∧ Sees w5 pp q pr g bv ∧ Hid (PW T Y wY dv mv cv w0 w5 pd pp q k g (.cells #[.int .i64 op, .int .i64 a, bv] 52 (0, 0)))))) := by
  have hb1 : Bs w1 bv bs := hb.kept ht.chg (fun _ _ _ _ _ h => h)
  refine (full_any bv bs w1 hb1 (by omega)).mono ?_
  rintro e w2 ⟨u, rfl, fr⟩
  obtain ⟨ua, uc, rfl⟩ := fr.form512 (full_len bs)
  have hlg : g < w1.heap.size := (Array.getElem?_eq_some_iff.1 hg).1
  have p2 := h.kept fr.chg
  have t2 := ht.more fr.chg
  have hg2 := (fr.chg.block g hlg (fun h => h)).trans hg
  refine ⟨ua, uc, rfl, p2.sees hg2, ?_⟩
  intro n
  have hsz : (strOf (full bs)).size = 512 := by rw [strOf_size, full_len]
  -- the second half: from a world behind the transaction's Write to the end
  have half : ∀ (w3 : World) (live' : Bool) (own' : Nat → Option (List Int)) (wrote' : Nat) (E : Int), PlAt Y wY dv mv cv X w0 w3 pp pl (.pointer (some ⟨q, 0, none⟩)) pr R lb lc db dc nb nc nv → TxUp X w0 w3 pd pl q 70 f com pend live' own' wrote' (1000 + 128 * k) → w3.heap[g]? = some (.cells #[.int .i64 op, .int .i64 a, bv] 52 (0, 0)) →
      (∀ w4, RfAt w4 pr R lb lc db dc nb nc nv → Calls Tryz.prog 70 #[.pointer (some ⟨pr, 0, none⟩), .int .i64 n, .string (strOf (full bs))] w4 fun e w5 => e = .returned (.int .i64 E) ∧ ∃ R', RfAt w5 pr R' lb lc db dc nb nc nv ∧ Chg (fun x => R.op = true ∧ (x = pr ∨ x = nb)) w4 w5 ∧ R'.op = R.op ∧ R'.syncs = R.syncs ∧ Cor R' f com pend live' own' wrote') →
      Calls Tryz.prog 15 #[bv] w3 fun e w4 => ∃ va vc t, e = .returned (.slice va 512 vc) ∧ (convert 50 9 (.slice va 512 vc)).run Tryz.prog w4 = .ok (.string t) w4 ∧ Sees w4 pp q pr g bv ∧
          Hid (Calls Tryz.prog 70 #[.pointer (some ⟨pr, 0, none⟩), .int .i64 n, .string t] w4 fun e w5 => e = .returned (.int .i64 E) ∧ Sees w5 pp q pr g bv ∧ Hid (PW T Y wY dv mv cv w0 w5 pd pp q k g (.cells #[.int .i64 op, .int .i64 a, bv] 52 (0, 0)))) := by
    intro w3 live' own' wrote' E p3 t3 hg3 hrw
    refine (full_any bv bs w3 (hb.kept t3.chg (fun _ _ _ _ _ h => h)) (by omega)).mono ?_
    rintro e w4 ⟨v, rfl, fr4⟩
    obtain ⟨va, vc, rfl⟩ := fr4.form512 (full_len bs)
    have p4 := p3.kept fr4.chg
    have t4 := t3.more fr4.chg
    have hl3 : g < w3.heap.size := (Array.getElem?_eq_some_iff.1 hg3).1
    have hg4 := (fr4.chg.block g hl3 (fun h => h)).trans hg3
    refine ⟨va, vc, strOf (full bs), rfl, run_str fr4.bs, p4.sees hg4, ?_⟩
    refine Calls.mono (hrw w4 p4.rf) ?_
    rintro e w5 ⟨rfl, R', hr, hch, ho, hsy, hcor⟩
    have hE : ∀ b, (R.op = true ∧ (b = pr ∨ b = nb)) → RfB pr lb db nb R.op b := by
      rintro b ⟨e1, e | e⟩
      · exact .inl e
      · exact .inr (.inr (.inr ⟨e1, e⟩))
    have hnv : NvOk X w0 w5 pp pr lb db nv := by
      cases ho2 : R.op with
      | true => exact NvOk.ofOpen hr (by rw [ho]; exact ho2) (p4.xr nb (.inr (.inr (.inr ⟨ho2, rfl⟩)))).1 (p4.xr nb (.inr (.inr (.inr ⟨ho2, rfl⟩)))).2 (p4.ne nb (.inr (.inr (.inr ⟨ho2, rfl⟩))))
      | false => exact p4.nvk.keptE hch (fun b e => by rw [ho2] at e; cases e.1)
    obtain ⟨p5, u5⟩ := pl_ref p4 (.inr ⟨q, rfl, t4⟩) hr hch hE (fun e => by rw [← ho]; exact e) hnv
    have t5 : TxUp (addX X w4.heap.size w5.heap.size) w0 w5 pd pl q 70 f com pend live' own' wrote' (1000 + 128 * k) := by
      rcases u5 with ⟨e, _⟩ | ⟨q', e, t⟩
      · cases e
      · cases e; exact t
    have hl4 : g < w4.heap.size := (Array.getElem?_eq_some_iff.1 hg4).1
    have hg5 := (hch.block g hl4 (fun e => hgn g (hE g e) rfl)).trans hg4
    exact ⟨rfl, p5.sees hg5, _, pl, pr, R', lb, lc, db, dc, nb, nc, nv, f, com, pend, live', own', wrote', p5, t5, hcor, hp, by rw [hsy]; exact hs, by rw [hsy]; exact hT, .inl hx, fun b hb => hgn b (by rw [← ho]; exact hb), hg5⟩
  by_cases hn : 0 ≤ n ∧ n < 70
  · obtain ⟨m, rfl⟩ : ∃ m : Nat, n = (m : Int) := ⟨n.toNat, by omega⟩
    have hm : m < 70 := by omega
    cases live with
    | false =>
      refine Calls.mono (twrite_dead_up m ua uc t2 hm) ?_
      rintro e w3 ⟨rfl, rfl⟩
      refine ⟨15, rfl, p2.sees hg2, half w3 false own wrote 15 p2 t2 hg2 (fun w4 r4 => ?_)⟩
      refine (rwrite_shut m _ w4 r4 hm hsz hc.o).mono ?_
      rintro e w5 ⟨rfl, rfl⟩
      exact ⟨rfl, R, r4, Chg.refl _ _, rfl, rfl, hc⟩
    | true =>
      have inv := ht.inv
      have hWm : (R.W m).toList.isEmpty = !(own m).isSome := by rw [(hc.w rfl).1 m hm]; exact wstr_empty _ (fun b e => (ht.lt m b e).2)
      have nB : NewB w1 w2 (.slice ua 512 uc) (full bs) := fr.newB (Chg.refl _ _)
      have up2 : ∀ (hr : own m ≠ none ∨ wrote < 63), (∀ w4, RfAt w4 pr R lb lc db dc nb nc nv → Calls Tryz.prog 70 #[.pointer (some ⟨pr, 0, none⟩), .int .i64 (m : Int), .string (strOf (full bs))] w4 fun e w5 => e = .returned (.int .i64 0) ∧ ∃ R', RfAt w5 pr R' lb lc db dc nb nc nv ∧ Chg (fun x => R.op = true ∧ (x = pr ∨ x = nb)) w4 w5 ∧ R'.op = R.op ∧ R'.syncs = R.syncs ∧ Cor R' f com pend true (upd own m (some (full bs))) (ks 70 (upd own m (some (full bs)))).length) →
          Calls Tryz.prog 14 #[.pointer (some ⟨q, 0, none⟩), .int .i64 (m : Int), .slice ua 512 uc] w2 fun e w3 => ∃ E, e = .returned (.int .i64 E) ∧ Sees w3 pp q pr g bv ∧
            Hid (Calls Tryz.prog 15 #[bv] w3 fun e w4 => ∃ va vc t, e = .returned (.slice va 512 vc) ∧ (convert 50 9 (.slice va 512 vc)).run Tryz.prog w4 = .ok (.string t) w4 ∧ Sees w4 pp q pr g bv ∧
              Hid (Calls Tryz.prog 70 #[.pointer (some ⟨pr, 0, none⟩), .int .i64 (m : Int), .string t] w4 fun e w5 => e = .returned (.int .i64 E) ∧ Sees w5 pp q pr g bv ∧ Hid (PW T Y wY dv mv cv w0 w5 pd pp q k g (.cells #[.int .i64 op, .int .i64 a, bv] 52 (0, 0))))) := by
        intro hr hrw
        refine (write_up m (full bs) ua uc ht nB (full_len bs) hm hr).mono ?_
        rintro e w3 ⟨rfl, t3, s3⟩
        have hg3 := (s3 g hx).trans hg2
        exact ⟨0, rfl, (p2.sm s3).sees hg3, half w3 true _ _ 0 (p2.sm s3) t3 hg3 hrw⟩
      cases ho : own m with
      | some b0 =>
        refine up2 (.inl (by rw [ho]; intro e; cases e)) (fun w4 r4 => ?_)
        rw [ho] at hWm
        refine (rwrite_old m _ w4 r4 hm hsz hc.o hWm).mono ?_
        rintro e w5 ⟨rfl, hr, hch⟩
        exact ⟨rfl, _, hr, hch.mono (fun _ _ e => ⟨hc.o, e⟩), rfl, rfl, hc.wrote2 inv.1 ho _⟩
      | none =>
        rw [ho] at hWm
        by_cases hlt : wrote < 63
        · refine up2 (.inr hlt) (fun w4 r4 => ?_)
          refine (rwrite_new m _ w4 r4 hm hsz hc.o hWm (by rw [(hc.w rfl).2]; exact hlt)).mono ?_
          rintro e w5 ⟨rfl, hr, hch⟩
          exact ⟨rfl, _, hr, hch.mono (fun _ _ e => ⟨hc.o, e⟩), rfl, rfl, hc.wrote1 inv.1 hm ho _⟩
        · have hw63 : wrote = 63 := by have := inv.2; omega
          refine Calls.mono (write_full_up m (full bs) ua uc ht nB hm ho hw63) ?_
          rintro e w3 ⟨rfl, t3, s3⟩
          have hg3 := (s3 g hx).trans hg2
          refine ⟨7, rfl, (p2.sm s3).sees hg3, half w3 true own wrote 7 (p2.sm s3) t3 hg3 (fun w4 r4 => ?_)⟩
          refine (rwrite_full m _ w4 r4 hm hsz hc.o hWm (by rw [(hc.w rfl).2]; exact hw63)).mono ?_
          rintro e w5 ⟨rfl, rfl⟩
          exact ⟨rfl, R, r4, Chg.refl _ _, rfl, rfl, hc⟩
  · refine Calls.mono (twrite_out_up n _ t2 hn) ?_
    rintro e w3 ⟨rfl, rfl⟩
    refine ⟨1, rfl, p2.sees hg2, half w3 live own wrote 1 p2 t2 hg2 (fun w4 r4 => ?_)⟩
    refine (rwrite_out n _ w4 r4 hn).mono ?_
    rintro e w5 ⟨rfl, rfl⟩
    exact ⟨rfl, R, r4, Chg.refl _ _, rfl, rfl, hc⟩
end
end Go.Proofs.YtmlhjcjonfalhaaGreat.C

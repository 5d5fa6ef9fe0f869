/-
  The acts of a play: Write of both.
-/
import Derived.Test.YtepoaiaifclgnaaPlay4
namespace Go.Proofs.Ytepoaiaifclgnaa
open Go.RowKit Go.Maps

/-- A play with a transaction, and the act at block g. -/
def PW (w0 w : World) (pd pp q k g : Nat) (o : Obj) : Prop :=
  ∃ X pl pr R lb lc db dc nb nc nv f com pend live own wrote, PlAt X w0 w pp pl (.pointer (some ⟨q, 0, none⟩)) pr R lb lc db dc nb nc nv ∧ TxUp X w0 w pd pl q 70 f com pend live own wrote (1000 + 128 * k) ∧ Cor R f com pend live own wrote ∧ pend ≤ k ∧ R.syncs ≤ k ∧ X g ∧ (∀ b, RfB pr lb db nb R.op b → b ≠ g) ∧ w.heap[g]? = some o
section
variable {X : Nat → Prop} {w0 w w' : World} {pd pp pl q pr g : Nat} {tv : Value} {R : Rf} {lb lc db dc nb nc : Nat} {nv : Value} {f f' : Nat → List Int} {com own com' : Nat → Option (List Int)} {pend wrote N k : Nat} {live : Bool}

theorem PW.play {o : Obj} (h : PW w0 w pd pp q k g o) : Pl w0 w pd pp (k + 1) := by
  obtain ⟨X, pl, pr, R, lb, lc, db, dc, nb, nc, nv, f, com, pend, live, own, wrote, h1, h2, h3, h4, h5, _⟩ := h
  exact Pl.up ⟨X, pl, _, pr, R, lb, lc, db, dc, nb, nc, nv, f, com, pend, live, own, wrote, h1, .inr ⟨q, rfl, h2⟩, h3, h4, h5⟩ (by omega)
theorem Cor.wrote1 (h : Cor R f com pend true own wrote) (hw : wrote = (ks 70 own).length) {m : Nat} (hm : m < 70) (hn : own m = none) (b : List Int) : Cor { R with W := upd R.W m (strOf b), wrote := R.wrote + 1 } f com pend true (upd own m (some b)) (ks 70 (upd own m (some b))).length :=
  ⟨h.l, h.d, h.p, h.o, fun _ => ⟨fun n hn' => by
    show upd R.W m (strOf b) n = _
    by_cases e : n = m
    · subst e; rw [upd_same, upd_same]; rfl
    · rw [upd_other _ _ e, upd_other _ _ e]; exact (h.w rfl).1 n hn', by
    show R.wrote + 1 = _
    rw [(h.w rfl).2, hw, ks_upd_first hm hn]⟩⟩
theorem Cor.wrote2 (h : Cor R f com pend true own wrote) (hw : wrote = (ks 70 own).length) {m : Nat} {b0 : List Int} (hn : own m = some b0) (b : List Int) : Cor { R with W := upd R.W m (strOf b) } f com pend true (upd own m (some b)) (ks 70 (upd own m (some b))).length :=
  ⟨h.l, h.d, h.p, h.o, fun _ => ⟨fun n hn' => by
    show upd R.W m (strOf b) n = _
    by_cases e : n = m
    · subst e; rw [upd_same, upd_same]; rfl
    · rw [upd_other _ _ e, upd_other _ _ e]; exact (h.w rfl).1 n hn', by
    show R.wrote = _
    rw [(h.w rfl).2, hw, ks_upd_again hn]⟩⟩
/-- What the walk of a round looks at. -/
def Sees (w : World) (pp q pr g : Nat) (bv : Value) : Prop := w.cell? ⟨pp, 1, none⟩ = some (.pointer (some ⟨q, 0, none⟩)) ∧ w.cell? ⟨pp, 2, none⟩ = some (.pointer (some ⟨pr, 0, none⟩)) ∧ w.cell? ⟨g, 2, none⟩ = some bv
theorem PlAt.sees {op n : Int} {bv : Value} (h : PlAt X w0 w pp pl (.pointer (some ⟨q, 0, none⟩)) pr R lb lc db dc nb nc nv) (hg : w.heap[g]? = some (.cells #[.int .i64 op, .int .i64 n, bv] 41 (0, 0))) : Sees w pp q pr g bv :=
  ⟨h.c1, h.c2, by rw [cell_of_row w g 2 _ _ _ hg]; rfl⟩

/-- Write of both: the four calls, one behind the other. -/
theorem write_both (op a : Int) (bv : Value) (bs : List Int) (w1 : World) (h : PlAt X w0 w1 pp pl (.pointer (some ⟨q, 0, none⟩)) pr R lb lc db dc nb nc nv) (ht : TxUp X w0 w1 pd pl q 70 f com pend live own wrote (1000 + 128 * k)) (hc : Cor R f com pend live own wrote) (hp : pend ≤ k) (hs : R.syncs ≤ k) (hx : X g) (hgn : ∀ b, RfB pr lb db nb R.op b → b ≠ g)
    (hg : w1.heap[g]? = some (.cells #[.int .i64 op, .int .i64 a, bv] 41 (0, 0))) (hb : Bs w0 bv bs) (hl : bs.length ≤ 64) :
    Calls Try.prog 19 #[bv] w1 fun e w2 => ∃ ua uc, e = .returned (.slice ua 512 uc) ∧ Sees w2 pp q pr g bv ∧
      Hid (∀ n : Int, Calls Try.prog 18 #[.pointer (some ⟨q, 0, none⟩), .int .i64 n, .slice ua 512 uc] w2 fun e w3 => ∃ E, e = .returned (.int .i64 E) ∧ Sees w3 pp q pr g bv ∧
        Hid (Calls Try.prog 19 #[bv] w3 fun e w4 => ∃ va vc t, e = .returned (.slice va 512 vc) ∧ (convert 39 9 (.slice va 512 vc)).run Try.prog w4 = .ok (.string t) w4 ∧ Sees w4 pp q pr g bv ∧
          Hid (Calls Try.prog 32 #[.pointer (some ⟨pr, 0, none⟩), .int .i64 n, .string t] w4 fun e w5 => e = .returned (.int .i64 E) ∧ Sees w5 pp q pr g bv ∧ Hid (PW w0 w5 pd pp q k g (.cells #[.int .i64 op, .int .i64 a, bv] 41 (0, 0)))))) := by
  have hb1 : Bs w1 bv bs := hb.kept ht.chg (fun _ _ _ _ _ h => h)
  refine (full_any bv bs w1 hb1 (by omega)).mono ?_
  rintro e w2 ⟨u, rfl, fr⟩
  obtain ⟨ua, uc, rfl⟩ := fr.form512 (full_len bs)
  have hlg : g < w1.heap.size := (Array.getElem?_eq_some_iff.1 hg).1
  have p2 := h.kept fr.chg
  have t2 := ht.more fr.chg
  have hg2 := (fr.chg.block g hlg (fun h => h)).trans hg
  refine ⟨ua, uc, rfl, p2.sees hg2, ?_⟩
  intro n
  have hsz : (strOf (full bs)).size = 512 := by rw [strOf_size, full_len]
  -- the second half: from a world behind the transaction's Write to the end
  have half : ∀ (w3 : World) (live' : Bool) (own' : Nat → Option (List Int)) (wrote' : Nat) (E : Int), PlAt X w0 w3 pp pl (.pointer (some ⟨q, 0, none⟩)) pr R lb lc db dc nb nc nv → TxUp X w0 w3 pd pl q 70 f com pend live' own' wrote' (1000 + 128 * k) → w3.heap[g]? = some (.cells #[.int .i64 op, .int .i64 a, bv] 41 (0, 0)) →
      (∀ w4, RfAt w4 pr R lb lc db dc nb nc nv → Calls Try.prog 32 #[.pointer (some ⟨pr, 0, none⟩), .int .i64 n, .string (strOf (full bs))] w4 fun e w5 => e = .returned (.int .i64 E) ∧ ∃ R', RfAt w5 pr R' lb lc db dc nb nc nv ∧ Chg (fun x => R.op = true ∧ (x = pr ∨ x = nb)) w4 w5 ∧ R'.op = R.op ∧ R'.syncs = R.syncs ∧ Cor R' f com pend live' own' wrote') →
      Calls Try.prog 19 #[bv] w3 fun e w4 => ∃ va vc t, e = .returned (.slice va 512 vc) ∧ (convert 39 9 (.slice va 512 vc)).run Try.prog w4 = .ok (.string t) w4 ∧ Sees w4 pp q pr g bv ∧
          Hid (Calls Try.prog 32 #[.pointer (some ⟨pr, 0, none⟩), .int .i64 n, .string t] w4 fun e w5 => e = .returned (.int .i64 E) ∧ Sees w5 pp q pr g bv ∧ Hid (PW w0 w5 pd pp q k g (.cells #[.int .i64 op, .int .i64 a, bv] 41 (0, 0)))) := by
    intro w3 live' own' wrote' E p3 t3 hg3 hrw
    refine (full_any bv bs w3 (hb.kept t3.chg (fun _ _ _ _ _ h => h)) (by omega)).mono ?_
    rintro e w4 ⟨v, rfl, fr4⟩
    obtain ⟨va, vc, rfl⟩ := fr4.form512 (full_len bs)
    have p4 := p3.kept fr4.chg
    have t4 := t3.more fr4.chg
    have hl3 : g < w3.heap.size := (Array.getElem?_eq_some_iff.1 hg3).1
    have hg4 := (fr4.chg.block g hl3 (fun h => h)).trans hg3
    refine ⟨va, vc, strOf (full bs), rfl, run_str fr4.bs, p4.sees hg4, ?_⟩
    refine Calls.mono (hrw w4 p4.rf) ?_
    rintro e w5 ⟨rfl, R', hr, hch, ho, hsy, hcor⟩
    have hE : ∀ b, (R.op = true ∧ (b = pr ∨ b = nb)) → RfB pr lb db nb R.op b := by
      rintro b ⟨e1, e | e⟩
      · exact .inl e
      · exact .inr (.inr (.inr ⟨e1, e⟩))
    obtain ⟨p5, u5⟩ := pl_ref p4 (.inr ⟨q, rfl, t4⟩) hr hch hE (fun e => by rw [← ho]; exact e)
    have t5 : TxUp (addX X w4.heap.size w5.heap.size) w0 w5 pd pl q 70 f com pend live' own' wrote' (1000 + 128 * k) := by
      rcases u5 with ⟨e, _⟩ | ⟨q', e, t⟩
      · cases e
      · cases e; exact t
    have hl4 : g < w4.heap.size := (Array.getElem?_eq_some_iff.1 hg4).1
    have hg5 := (hch.block g hl4 (fun e => hgn g (hE g e) rfl)).trans hg4
    exact ⟨rfl, p5.sees hg5, _, pl, pr, R', lb, lc, db, dc, nb, nc, nv, f, com, pend, live', own', wrote', p5, t5, hcor, hp, by rw [hsy]; exact hs, .inl hx, fun b hb => hgn b (by rw [← ho]; exact hb), hg5⟩
  by_cases hn : 0 ≤ n ∧ n < 70
  · obtain ⟨m, rfl⟩ : ∃ m : Nat, n = (m : Int) := ⟨n.toNat, by omega⟩
    have hm : m < 70 := by omega
    cases live with
    | false =>
      refine Calls.mono (twrite_dead_up m ua uc t2 hm) ?_
      rintro e w3 ⟨rfl, rfl⟩
      refine ⟨15, rfl, p2.sees hg2, half w3 false own wrote 15 p2 t2 hg2 (fun w4 r4 => ?_)⟩
      refine (rwrite_shut m _ w4 r4 hm hsz hc.o).mono ?_
      rintro e w5 ⟨rfl, rfl⟩
      exact ⟨rfl, R, r4, Chg.refl _ _, rfl, rfl, hc⟩
    | true =>
      have inv := ht.inv
      have hWm : (R.W m).toList.isEmpty = !(own m).isSome := by rw [(hc.w rfl).1 m hm]; exact wstr_empty _ (fun b e => (ht.lt m b e).2)
      have nB : NewB w1 w2 (.slice ua 512 uc) (full bs) := fr.newB (Chg.refl _ _)
      have up2 : ∀ (hr : own m ≠ none ∨ wrote < 63), (∀ w4, RfAt w4 pr R lb lc db dc nb nc nv → Calls Try.prog 32 #[.pointer (some ⟨pr, 0, none⟩), .int .i64 (m : Int), .string (strOf (full bs))] w4 fun e w5 => e = .returned (.int .i64 0) ∧ ∃ R', RfAt w5 pr R' lb lc db dc nb nc nv ∧ Chg (fun x => R.op = true ∧ (x = pr ∨ x = nb)) w4 w5 ∧ R'.op = R.op ∧ R'.syncs = R.syncs ∧ Cor R' f com pend true (upd own m (some (full bs))) (ks 70 (upd own m (some (full bs)))).length) →
          Calls Try.prog 18 #[.pointer (some ⟨q, 0, none⟩), .int .i64 (m : Int), .slice ua 512 uc] w2 fun e w3 => ∃ E, e = .returned (.int .i64 E) ∧ Sees w3 pp q pr g bv ∧
            Hid (Calls Try.prog 19 #[bv] w3 fun e w4 => ∃ va vc t, e = .returned (.slice va 512 vc) ∧ (convert 39 9 (.slice va 512 vc)).run Try.prog w4 = .ok (.string t) w4 ∧ Sees w4 pp q pr g bv ∧
              Hid (Calls Try.prog 32 #[.pointer (some ⟨pr, 0, none⟩), .int .i64 (m : Int), .string t] w4 fun e w5 => e = .returned (.int .i64 E) ∧ Sees w5 pp q pr g bv ∧ Hid (PW w0 w5 pd pp q k g (.cells #[.int .i64 op, .int .i64 a, bv] 41 (0, 0))))) := by
        intro hr hrw
        refine (write_up m (full bs) ua uc ht nB (full_len bs) hm hr).mono ?_
        rintro e w3 ⟨rfl, t3, s3⟩
        have hg3 := (s3 g hx).trans hg2
        exact ⟨0, rfl, (p2.sm s3).sees hg3, half w3 true _ _ 0 (p2.sm s3) t3 hg3 hrw⟩
      cases ho : own m with
      | some b0 =>
        refine up2 (.inl (by rw [ho]; intro e; cases e)) (fun w4 r4 => ?_)
        rw [ho] at hWm
        refine (rwrite_old m _ w4 r4 hm hsz hc.o hWm).mono ?_
        rintro e w5 ⟨rfl, hr, hch⟩
        exact ⟨rfl, _, hr, hch.mono (fun _ _ e => ⟨hc.o, e⟩), rfl, rfl, hc.wrote2 inv.1 ho _⟩
      | none =>
        rw [ho] at hWm
        by_cases hlt : wrote < 63
        · refine up2 (.inr hlt) (fun w4 r4 => ?_)
          refine (rwrite_new m _ w4 r4 hm hsz hc.o hWm (by rw [(hc.w rfl).2]; exact hlt)).mono ?_
          rintro e w5 ⟨rfl, hr, hch⟩
          exact ⟨rfl, _, hr, hch.mono (fun _ _ e => ⟨hc.o, e⟩), rfl, rfl, hc.wrote1 inv.1 hm ho _⟩
        · have hw63 : wrote = 63 := by have := inv.2; omega
          refine Calls.mono (write_full_up m (full bs) ua uc ht nB hm ho hw63) ?_
          rintro e w3 ⟨rfl, t3, s3⟩
          have hg3 := (s3 g hx).trans hg2
          refine ⟨7, rfl, (p2.sm s3).sees hg3, half w3 true own wrote 7 (p2.sm s3) t3 hg3 (fun w4 r4 => ?_)⟩
          refine (rwrite_full m _ w4 r4 hm hsz hc.o hWm (by rw [(hc.w rfl).2]; exact hw63)).mono ?_
          rintro e w5 ⟨rfl, rfl⟩
          exact ⟨rfl, R, r4, Chg.refl _ _, rfl, rfl, hc⟩
  · refine Calls.mono (twrite_out_up n _ t2 hn) ?_
    rintro e w3 ⟨rfl, rfl⟩
    refine ⟨1, rfl, p2.sees hg2, half w3 live own wrote 1 p2 t2 hg2 (fun w4 r4 => ?_)⟩
    refine (rwrite_out n _ w4 r4 hn).mono ?_
    rintro e w5 ⟨rfl, rfl⟩
    exact ⟨rfl, R, r4, Chg.refl _ _, rfl, rfl, hc⟩
end
end Go.Proofs.Ytepoaiaifclgnaa

namespace Go.Proofs.Ytepoaiaifclgnaa
open Go.RowKit Go.Maps

section
variable {X : Nat → Prop} {w0 w w' : World} {pd pp pl q pr g : Nat} {tv : Value} {R : Rf} {lb lc db dc nb nc : Nat} {nv : Value} {f f' : Nat → List Int} {com own com' : Nat → Option (List Int)} {pend wrote N k : Nat} {live : Bool}

set_option maxHeartbeats 3200000 in
set_option maxRecDepth 100000 in
theorem pstep_write2 (n : Int) (bv : Value) (bs : List Int) (w : World) (h : Pl w0 w pd pp k) (hb : Bs w0 bv bs) (hl : bs.length ≤ 64) :
    Calls Try.prog 9 #[.pointer (some ⟨pp, 0, none⟩), .agg #[.int .i64 2, .int .i64 n, bv]] w fun e w' => e = .returned (.bool true) ∧ Pl w0 w' pd pp (k + 1) := by
  have HP : Hid (Pl w0 w pd pp k) := h
  obtain ⟨ba, bc, rfl, _⟩ := hb.form
  obtain ⟨X, pl, tv, pr, R, lb, lc, db, dc, nb, nc, nv, f, com, pend, live, own, wrote, p1, u1, c1, b1, b2, x1, x2, x3⟩ := h.enter (.cells #[.int .i64 2, .int .i64 n, .slice ba bs.length bc] 41)
  obtain ⟨w1, hw1⟩ : ∃ w1, w.alloc (.cells #[.int .i64 2, .int .i64 n, .slice ba bs.length bc] 41) = w1 := ⟨_, rfl⟩
  have HW : Hid (Chg (fun _ => False) w w1) := by rw [← hw1]; exact Chg.alloc (fun _ => False) w _
  have d1 := p1.c1
  have HW1 : Hid (w.alloc (.cells #[.int .i64 2, .int .i64 n, .slice ba bs.length bc] 41) = w1) := hw1
  have hg : w1.heap[w.heap.size]? = some (.cells #[.int .i64 2, .int .i64 n, .slice ba bs.length bc] 41 (0, 0)) := by rw [← hw1]; exact heap_alloc_new w _
  rw [hw1] at p1 u1
  rcases u1 with ⟨rfl, e, l1⟩ | ⟨q, rfl, t1⟩
  · have hq := eqT_nn
    have HQ : Hid (Pl w0 w1 pd pp (k + 1)) := (HP.out.more HW.out).up (by omega)
    clear h p1 c1 x1 x2 x3 l1 b1 b2 HP HW hw1 hg
    go_enter Try.func9, Try.ntmps9
    go_wp2
    go_ret
    rw [HW1.out]
    exact ⟨rfl, HQ.out⟩
  · have hq := eqT_some ⟨q, 0, none⟩
    have HPW : Hid (PW w0 w1 pd pp q k w.heap.size (.cells #[.int .i64 2, .int .i64 n, .slice ba bs.length bc] 41 (0, 0))) := ⟨X, pl, pr, R, lb, lc, db, dc, nb, nc, nv, f, com, pend, live, own, wrote, p1, t1, c1, b1, b2, x1, x2, hg⟩
    have HBS : Hid (Bs w0 (.slice ba bs.length bc) bs) := hb
    obtain ⟨g, hgg⟩ : ∃ g, w.heap.size = g := ⟨_, rfl⟩
    have HG : Hid (w.heap.size = g) := hgg
    rw [hgg] at HPW
    clear h p1 c1 x1 x2 x3 t1 b1 b2 HP HW hw1 hg hb hgg
    go_enter Try.func9, Try.ntmps9
    go_wp2
    rw [HW1.out, HG.out]
    clear HW1 HG d1
    go_loopw [9, 10] (fun x _ wr => ∃ i, i ≤ 1 ∧ x = .int .i64 ((i : Nat) : Int) ∧ Hid (PW w0 wr pd pp q k g (.cells #[.int .i64 2, .int .i64 n, .slice ba bs.length bc] 41 (0, 0)))) (fun x _ _ => 1 - (intOf x).toNat)
    case atStart => exact ⟨0, by omega, rfl, HPW⟩
    case round =>
      obtain ⟨i, hi, rfl, HR⟩ := hrel
      clear HPW
      by_cases hlt : i < 1
      · have hki : (i : Int) < ((1 : Nat) : Int) := by omega
        obtain ⟨X, pl, pr, R, lb, lc, db, dc, nb, nc, nv, f, com, pend, live, own, wrote, p1, t1, c1, b1, b2, x1, x2, hg⟩ := HR.out
        have hn0 : wr.cell? ⟨g, 0, none⟩ = some (.int .i64 2) := by rw [cell_of_row wr g 0 _ _ _ hg]; rfl
        have hn1 : wr.cell? ⟨g, 1, none⟩ = some (.int .i64 n) := by rw [cell_of_row wr g 1 _ _ _ hg]; rfl
        have s0 : Sees wr.drew pp q pr g (.slice ba bs.length bc) := p1.sees hg
        have kd := Chg.drew (fun _ => False) wr
        have WB : Hid _ := write_both 2 n (.slice ba bs.length bc) bs wr.drew (p1.kept kd) (t1.more kd) c1 b1 b2 x1 x2 hg HBS.out hl
        clear p1 t1 c1 b1 b2 x1 x2 hg kd HR
        go_wp2_with fail
        go_region_held (fun w' => w'.cell? ⟨pp, 1, none⟩ = some (.pointer (some ⟨q, 0, none⟩)) ∧ w'.cell? ⟨pp, 2, none⟩ = some (.pointer (some ⟨pr, 0, none⟩)) ∧ w'.cell? ⟨g, 2, none⟩ = some (.slice ba bs.length bc))
          (first | assumption | exact s0 | exact s2 | exact s3 | exact s4 | exact s5)
          (first
            | (go_at_call 19; refine (show Calls _ _ _ _ _ from WB.out).mono ?_; clear WB; rintro e w2 ⟨ua, uc, rfl, s2, WT⟩)
            | (go_at_call 18; refine (show Calls _ _ _ _ _ from WT.out _).mono ?_; clear WT; rintro e w3 ⟨E, rfl, s3, WF⟩)
            | (go_at_call 19; refine (show Calls _ _ _ _ _ from WF.out).mono ?_; clear WF; rintro e w4 ⟨va, vc, t, rfl, hcv, s4, WR⟩)
            | (go_at_call 32; refine (show Calls _ _ _ _ _ from WR.out).mono ?_; clear WR; rintro e w5 ⟨rfl, s5, HQ⟩))
        all_goals
          clear s0 s2 s3 s4 s5 hcv hn0 hn1
          go_wp2
          go_roundw
          case rel => exact ⟨i + 1, by omega, by go_num, HQ⟩
          case measure => simp [intOf]; omega
      · have hie : i = 1 := by omega
        subst hie
        have HQ : Hid (Pl w0 wr pd pp (k + 1)) := HR.out.play
        clear HR
        go_wp2
        go_ret
        exact ⟨rfl, HQ.out⟩

end
end Go.Proofs.Ytepoaiaifclgnaa

namespace Go.Proofs.Ytepoaiaifclgnaa
open Go.RowKit Go.Maps

section
variable {X : Nat → Prop} {w0 w w' : World} {pd pp pl q pr g : Nat} {tv : Value} {R : Rf} {lb lc db dc nb nc : Nat} {nv : Value} {f f' : Nat → List Int} {com own com' : Nat → Option (List Int)} {pend wrote N k : Nat} {live : Bool}

set_option maxHeartbeats 3200000 in
set_option maxRecDepth 100000 in
theorem pstep_write8 (n : Int) (bv : Value) (bs : List Int) (w : World) (h : Pl w0 w pd pp k) (hb : Bs w0 bv bs) (hl : bs.length ≤ 64) :
    Calls Try.prog 9 #[.pointer (some ⟨pp, 0, none⟩), .agg #[.int .i64 8, .int .i64 n, bv]] w fun e w' => e = .returned (.bool true) ∧ Pl w0 w' pd pp (k + 1) := by
  have HP : Hid (Pl w0 w pd pp k) := h
  obtain ⟨ba, bc, rfl, _⟩ := hb.form
  obtain ⟨X, pl, tv, pr, R, lb, lc, db, dc, nb, nc, nv, f, com, pend, live, own, wrote, p1, u1, c1, b1, b2, x1, x2, x3⟩ := h.enter (.cells #[.int .i64 8, .int .i64 n, .slice ba bs.length bc] 41)
  obtain ⟨w1, hw1⟩ : ∃ w1, w.alloc (.cells #[.int .i64 8, .int .i64 n, .slice ba bs.length bc] 41) = w1 := ⟨_, rfl⟩
  have HW : Hid (Chg (fun _ => False) w w1) := by rw [← hw1]; exact Chg.alloc (fun _ => False) w _
  have d1 := p1.c1
  have HW1 : Hid (w.alloc (.cells #[.int .i64 8, .int .i64 n, .slice ba bs.length bc] 41) = w1) := hw1
  have hg : w1.heap[w.heap.size]? = some (.cells #[.int .i64 8, .int .i64 n, .slice ba bs.length bc] 41 (0, 0)) := by rw [← hw1]; exact heap_alloc_new w _
  rw [hw1] at p1 u1
  rcases u1 with ⟨rfl, e, l1⟩ | ⟨q, rfl, t1⟩
  · have hq := eqT_nn
    have HQ : Hid (Pl w0 w1 pd pp (k + 1)) := (HP.out.more HW.out).up (by omega)
    clear h p1 c1 x1 x2 x3 l1 b1 b2 HP HW hw1 hg
    go_enter Try.func9, Try.ntmps9
    go_wp2
    go_ret
    rw [HW1.out]
    exact ⟨rfl, HQ.out⟩
  · have hq := eqT_some ⟨q, 0, none⟩
    have HPW : Hid (PW w0 w1 pd pp q k w.heap.size (.cells #[.int .i64 8, .int .i64 n, .slice ba bs.length bc] 41 (0, 0))) := ⟨X, pl, pr, R, lb, lc, db, dc, nb, nc, nv, f, com, pend, live, own, wrote, p1, t1, c1, b1, b2, x1, x2, hg⟩
    have HBS : Hid (Bs w0 (.slice ba bs.length bc) bs) := hb
    obtain ⟨g, hgg⟩ : ∃ g, w.heap.size = g := ⟨_, rfl⟩
    have HG : Hid (w.heap.size = g) := hgg
    rw [hgg] at HPW
    clear h p1 c1 x1 x2 x3 t1 b1 b2 HP HW hw1 hg hb hgg
    obtain ⟨y, hy⟩ : ∃ y : Nat, n % 64 = (y : Int) := ⟨(n % 64).toNat, by omega⟩
    obtain ⟨z, hz⟩ : ∃ z : Nat, n % 32 = (z : Int) := ⟨(n % 32).toNat, by omega⟩
    have hy64 : y < 64 := by omega
    have hz32 : z < 32 := by omega
    have ha := and63 n
    have ha2 := and31 n
    rw [hy] at ha
    rw [hz] at ha2
    clear hy hz
    go_enter Try.func9, Try.ntmps9
    go_wp2
    rw [HW1.out, HG.out]
    clear HW1 HG d1
    go_loopw [9, 10] (fun x _ wr => ∃ i, i ≤ (z + 1) ∧ x = .int .i64 ((i : Nat) : Int) ∧ Hid (PW w0 wr pd pp q k g (.cells #[.int .i64 8, .int .i64 n, .slice ba bs.length bc] 41 (0, 0)))) (fun x _ _ => (z + 1) - (intOf x).toNat)
    case atStart => exact ⟨0, by omega, rfl, HPW⟩
    case round =>
      obtain ⟨i, hi, rfl, HR⟩ := hrel
      clear HPW
      by_cases hlt : i < (z + 1)
      · have hki : (i : Int) < (((z + 1) : Nat) : Int) := by omega
        obtain ⟨X, pl, pr, R, lb, lc, db, dc, nb, nc, nv, f, com, pend, live, own, wrote, p1, t1, c1, b1, b2, x1, x2, hg⟩ := HR.out
        have hn0 : wr.cell? ⟨g, 0, none⟩ = some (.int .i64 8) := by rw [cell_of_row wr g 0 _ _ _ hg]; rfl
        have hn1 : wr.cell? ⟨g, 1, none⟩ = some (.int .i64 n) := by rw [cell_of_row wr g 1 _ _ _ hg]; rfl
        have s0 : Sees wr.drew pp q pr g (.slice ba bs.length bc) := p1.sees hg
        have kd := Chg.drew (fun _ => False) wr
        have WB : Hid _ := write_both 8 n (.slice ba bs.length bc) bs wr.drew (p1.kept kd) (t1.more kd) c1 b1 b2 x1 x2 hg HBS.out hl
        clear p1 t1 c1 b1 b2 x1 x2 hg kd HR
        go_wp2_with fail
        go_region_held (fun w' => w'.cell? ⟨pp, 1, none⟩ = some (.pointer (some ⟨q, 0, none⟩)) ∧ w'.cell? ⟨pp, 2, none⟩ = some (.pointer (some ⟨pr, 0, none⟩)) ∧ w'.cell? ⟨g, 2, none⟩ = some (.slice ba bs.length bc))
          (first | assumption | exact s0 | exact s2 | exact s3 | exact s4 | exact s5)
          (first
            | (go_at_call 19; refine (show Calls _ _ _ _ _ from WB.out).mono ?_; clear WB; rintro e w2 ⟨ua, uc, rfl, s2, WT⟩)
            | (go_at_call 18; refine (show Calls _ _ _ _ _ from WT.out _).mono ?_; clear WT; rintro e w3 ⟨E, rfl, s3, WF⟩)
            | (go_at_call 19; refine (show Calls _ _ _ _ _ from WF.out).mono ?_; clear WF; rintro e w4 ⟨va, vc, t, rfl, hcv, s4, WR⟩)
            | (go_at_call 32; refine (show Calls _ _ _ _ _ from WR.out).mono ?_; clear WR; rintro e w5 ⟨rfl, s5, HQ⟩))
        all_goals
          clear s0 s2 s3 s4 s5 hcv hn0 hn1
          go_wp2
          go_roundw
          case rel => exact ⟨i + 1, by omega, by go_num, HQ⟩
          case measure => simp [intOf]; omega
      · have hie : i = (z + 1) := by omega
        subst hie
        have HQ : Hid (Pl w0 wr pd pp (k + 1)) := HR.out.play
        clear HR
        go_wp2
        go_ret
        exact ⟨rfl, HQ.out⟩

end
end Go.Proofs.Ytepoaiaifclgnaa

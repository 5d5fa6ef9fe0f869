/-
  The world of WalCrashes, as it begins.
-/
import Derived.Test.YtmlhjcjonfalhaaGreatCAct
import Derived.Test.YtmlhjcjonfalhaaGreatRef5
namespace Go.Proofs.YtmlhjcjonfalhaaGreat.C
open Go.RowKit Go.Maps

section
variable {X : Nat → Prop} {w0 w w' : World} {pd pp pl pr lb lc db dc mb sb sd k : Nat} {cv : Value} {cs : List CutD}
/-- The world of WalCrashes, as it begins. -/
structure Bg (X : Nat → Prop) (w0 w : World) (pd pp pl pr lb lc db dc mb sb sd : Nat) (cv : Value) : Prop where
  lg : LogUp X w0 w pd pl 70 (fun _ => zeros 512) (fun _ => none) 0 1000
  bl : WBlk w pp pd (.pointer (some ⟨pl, 0, none⟩)) (.pointer none) (.pointer (some ⟨pr, 0, none⟩)) (.slice (some ⟨mb, 0, none⟩) 1 1) cv
  rf : RfAt w pr rnew lb lc db dc 0 0 (.slice none 0 0)
  m : M1 w0 w mb sb sd (fun _ => zeros 512)
  xp : X pp ∧ w0.heap.size ≤ pp
  xr : ∀ b, (b = pr ∨ b = lb ∨ b = db) → X b ∧ w0.heap.size ≤ b ∧ b ≠ pp
  xm : ∀ b, (b = mb ∨ b = sb) → X b ∧ b ≠ pp ∧ b ≠ pr ∧ b ≠ lb ∧ b ≠ db
theorem rnew_cor : Cor rnew (fun _ => zeros 512) (fun _ => none) 0 false (fun _ => none) 0 :=
  ⟨fun n _ => by simp only [rnew]; rfl, fun n _ => by simp only [rnew]; rfl, by simp only [rnew], by simp only [rnew], (fun e => by cases e)⟩
theorem rfB_new {b : Nat} (h : RfB pr lb db 0 rnew.op b) : b = pr ∨ b = lb ∨ b = db := by
  have hop : rnew.op = false := by simp only [rnew]
  rcases h with e | e | e | ⟨e, _⟩
  · exact .inl e
  · exact .inr (.inl e)
  · exact .inr (.inr e)
  · rw [hop] at e; cases e
theorem Bg.wd (h : Bg X w0 w pd pp pl pr lb lc db dc mb sb sd cv) (hcu : CutsAt w0 cv cs) (hfw : Few cs) : Wd w0 w pd pp 0 cs := by
  have hx := h.lg.xlt
  refine ⟨_, mb, sb, sd, cv, ⟨X, pl, .pointer none, pr, rnew, lb, lc, db, dc, 0, 0, .slice none 0 0, _, (fun _ => none), 0, false, (fun _ => none), 0, ⟨h.bl, h.rf, h.xp, fun b hb => ?_, fun b hb => ?_, fun b hb => ?_, fun _ _ => rfl, .inl rfl⟩, .inl ⟨rfl, rfl, h.lg⟩, rnew_cor, Nat.le_refl _, by simp only [rnew]; omega, rfl⟩, h.m, hcu, hfw⟩
  · exact ⟨(h.xr b (rfB_new hb)).1, (h.xr b (rfB_new hb)).2.1⟩
  · exact (h.xr b (rfB_new hb)).2.2
  · obtain ⟨a1, a2, a3, a4, a5⟩ := h.xm b hb
    refine ⟨a1, a2, fun e => ?_, hx b a1⟩
    rcases rfB_new e with e | e | e
    · exact a3 e
    · exact a4 e
    · exact a5 e
theorem Bg.armed {cv' : Value} (h : Bg X w0 w pd pp pl pr lb lc db dc mb sb sd cv) (hl : LogUp X w0 w' pd pl 70 (fun _ => zeros 512) (fun _ => none) 0 1000) (hs : SmB X pp w w') (hb : WBlk w' pp pd (.pointer (some ⟨pl, 0, none⟩)) (.pointer none) (.pointer (some ⟨pr, 0, none⟩)) (.slice (some ⟨mb, 0, none⟩) 1 1) cv') : Bg X w0 w' pd pp pl pr lb lc db dc mb sb sd cv' := by
  have r := fun b hb => hs b (h.xr b hb).1 (h.xr b hb).2.2
  have q := fun b hb => hs b (h.xm b hb).1 (h.xm b hb).2.1
  refine ⟨hl, hb, ⟨(r pr (.inl rfl)).trans h.rf.blk, rowEq h.rf.l (r lb (.inr (.inl rfl))), rowEq h.rf.d (r db (.inr (.inr rfl))), fun ho => ?_, h.rf.nvf, h.rf.pl, h.rf.pd, h.rf.pn, h.rf.ld, h.rf.nl, h.rf.lcc, h.rf.dcc⟩, ⟨(q mb (.inl rfl)).trans h.m.m, rowEq h.m.r (q sb (.inr rfl)), h.m.c, h.m.lo⟩, h.xp, h.xr, h.xm⟩
  have hop : rnew.op = false := by simp only [rnew]
  rw [hop] at ho; cases ho
/-- The beginning: what the document's log has is copied, and may be. -/
theorem begin_chain {w4 w5 : World} (h : LogUp X w0 w4 pd pl 70 (fun _ => zeros 512) (fun _ => none) 0 1000) (hr : RfAt w5 pr rnew lb lc db dc 0 0 (.slice none 0 0)) (hc : Chg (fun _ => False) w4 w5) (g1 : w4.heap.size ≤ pr) (g2 : w4.heap.size ≤ lb) (g3 : w4.heap.size ≤ db) :
    ∃ sb sd w7, (Builtin.append_ #[45, 45] 45 #[.slice (some ⟨w5.heap.size + 1, 0, none⟩) 0 0, .slice (some ⟨lb, 0, none⟩) 70 lc]).run Tryz.prog ((w5.alloc (.cells #[.pointer (some ⟨pd, 0, none⟩), .pointer (some ⟨pl, 0, none⟩), .pointer none, .pointer (some ⟨pr, 0, none⟩), .slice none 0 0, cv] 44)).alloc (.cells #[] 9)) = .ok (.slice (some ⟨sb, 0, none⟩) 70 sd) w7 ∧
      w7.cell? ⟨w5.heap.size, 4, none⟩ = some (.slice none 0 0) ∧ w7.frozen? ⟨w5.heap.size, 4, none⟩ = false ∧ w5.heap.size < w7.heap.size ∧
      ∃ X', Hid (Bg X' w0 ((w7.setCell ⟨w5.heap.size, 4, none⟩ (.slice (some ⟨w7.heap.size, 0, none⟩) 1 1)).alloc (.cells #[.slice (some ⟨sb, 0, none⟩) 70 sd] 45)) pd w5.heap.size pl pr lb lc db dc w7.heap.size sb sd cv) := by
  have k6 := Chg.alloc (fun _ => False) w5 (.cells #[.pointer (some ⟨pd, 0, none⟩), .pointer (some ⟨pl, 0, none⟩), .pointer none, .pointer (some ⟨pr, 0, none⟩), .slice none 0 0, cv] 44)
  have b6 := heap_alloc_new w5 (.cells #[.pointer (some ⟨pd, 0, none⟩), .pointer (some ⟨pl, 0, none⟩), .pointer none, .pointer (some ⟨pr, 0, none⟩), .slice none 0 0, cv] 44)
  have z6 := World.size_alloc w5 (.cells #[.pointer (some ⟨pd, 0, none⟩), .pointer (some ⟨pl, 0, none⟩), .pointer none, .pointer (some ⟨pr, 0, none⟩), .slice none 0 0, cv] 44)
  obtain ⟨w6, hw6⟩ : ∃ w6, w5.alloc (.cells #[.pointer (some ⟨pd, 0, none⟩), .pointer (some ⟨pl, 0, none⟩), .pointer none, .pointer (some ⟨pr, 0, none⟩), .slice none 0 0, cv] 44) = w6 := ⟨_, rfl⟩
  rw [hw6] at k6 b6 z6 ⊢
  have r6 := hr.kept k6 (fun h => h) (fun h => h) (fun h => h) (fun _ h => h)
  obtain ⟨sb, sd, w7, hrun, hsd, hro7, hc7, h71, h72⟩ := copy_strs (c := lc) r6.l
  rw [z6] at hrun
  have zc := hc.size
  have z7 := hc7.size
  have b7 := (hc7.block w5.heap.size (by omega) (fun h => h)).trans b6
  refine ⟨sb, sd, w7, hrun, by rw [cell_of_row _ _ _ _ _ _ b7]; rfl, frozen_of_row w7 _ _ _ _ b7, by omega, ?_⟩
  have r7 := r6.kept hc7 (fun h => h) (fun h => h) (fun h => h) (fun _ h => h)
  have lr := hr.lt
  have ll := hr.l.lt
  have ld := hr.d.lt
  have k8 : Chg (fun b => b = w5.heap.size) w7 (w7.setCell ⟨w5.heap.size, 4, none⟩ (.slice (some ⟨w7.heap.size, 0, none⟩) 1 1)) := Chg.setCell _ _ _ rfl
  have b8 := heap_setCell_same w7 w5.heap.size 4 _ 44 (.slice (some ⟨w7.heap.size, 0, none⟩) 1 1) b7
  have z8 : (w7.setCell ⟨w5.heap.size, 4, none⟩ (.slice (some ⟨w7.heap.size, 0, none⟩) 1 1)).heap.size = w7.heap.size := by simp
  obtain ⟨w8, hw8⟩ : ∃ w8, w7.setCell ⟨w5.heap.size, 4, none⟩ (.slice (some ⟨w7.heap.size, 0, none⟩) 1 1) = w8 := ⟨_, rfl⟩
  rw [hw8] at k8 b8 z8 ⊢
  have k9 := Chg.alloc (fun _ => False) w8 (.cells #[.slice (some ⟨sb, 0, none⟩) 70 sd] 45)
  have m9 := heap_alloc_new w8 (.cells #[.slice (some ⟨sb, 0, none⟩) 70 sd] 45)
  have z9 := World.size_alloc w8 (.cells #[.slice (some ⟨sb, 0, none⟩) 70 sd] 45)
  obtain ⟨w9, hw9⟩ : ∃ w9, w8.alloc (.cells #[.slice (some ⟨sb, 0, none⟩) 70 sd] 45) = w9 := ⟨_, rfl⟩
  rw [hw9] at k9 m9 z9 ⊢
  rw [z8] at m9
  have k89 : Chg (fun b => b = w5.heap.size) w7 w9 := k8.trans k9 (fun _ _ h => h.elim)
  have b9 := (k9.block w5.heap.size (by omega) (fun h => h)).trans b8
  have kall : Chg (fun _ => False) w4 w9 := ((hc.trans k6 (fun _ _ h => h)).trans hc7 (fun _ _ h => h)).trans (k89.mono (S' := fun b => b = w5.heap.size) (fun _ _ h => h)) (fun i hi e => by omega)
  have h0 := h.chg.size
  refine ⟨_, h.add kall, by unfold WBlk; simpa using b9, r7.kept k89 (fun e => by omega) (fun e => by omega) (fun e => by omega) (fun ho => ?_), ⟨m9, (hro7.kept k89 (fun e => by omega)).congr (fun n _ => by simp only [rnew]), hsd, by omega⟩, ⟨.inr ⟨by omega, by omega⟩, by omega⟩, ?_, ?_⟩
  · have hop : rnew.op = false := by simp only [rnew]
    rw [hop] at ho; cases ho
  · rintro b (e | e | e)
    · exact ⟨.inr ⟨by omega, by omega⟩, by omega, by omega⟩
    · exact ⟨.inr ⟨by omega, by omega⟩, by omega, by omega⟩
    · exact ⟨.inr ⟨by omega, by omega⟩, by omega, by omega⟩
  · rintro b (e | e)
    · exact ⟨.inr ⟨by omega, by omega⟩, by omega, by omega, by omega, by omega⟩
    · exact ⟨.inr ⟨by omega, by omega⟩, by omega, by omega, by omega, by omega⟩
end
end Go.Proofs.YtmlhjcjonfalhaaGreat.C

namespace Go.Proofs.YtmlhjcjonfalhaaGreat.C
open Go.RowKit Go.Maps

theorem CutsAt.at {w : World} {a : Option Addr} {n c i : Nat} {l : List CutD} (h : CutsAt w (.slice a n c) l) (hi : i < l.length) : ∃ b off, a = some ⟨b, off, none⟩ ∧ CutAt w b (off + i * 2) l[i] := by
  rcases h with ⟨_, rfl⟩ | ⟨b, off, c', e, hl, hd⟩
  · simp at hi
  · cases e
    exact ⟨b, off, rfl, hd i l[i] (by simp [hi])⟩

set_option maxHeartbeats 6400000 in
set_option maxRecDepth 100000 in
theorem law_crashes_in (v vc : Value) (l : List ActD) (cs : List CutD) (w : World) (h : Acts w v l) (hf : fewA l = true) (hc : CutsAt w vc cs) (h20 : cs.length ≤ 20) :
    Calls Tryz.prog 3 #[v, vc] w fun e w' => e = .returned (.bool true) ∧ Chg (fun _ => False) w w' := by
  obtain ⟨la, lc, rfl⟩ := h.form
  obtain ⟨ca, cc, rfl⟩ := hc.form
  have HI : Hid (Acts w (.slice la l.length lc) l ∧ CutsAt w (.slice ca cs.length cc) cs) := ⟨h, hc⟩
  have hlen : l.length ≤ 150 := by simp [fewA] at hf; omega
  have HF : Hid (fewA l = true ∧ ∀ d ∈ l, d.bs.length ≤ 64) := ⟨hf, fun d hd => by simp [fewA] at hf; have := hf.2 d hd; simpa [ActD.few] using this⟩
  have k20 : decide ((20 : Int) < (cs.length : Int)) = false := by simp; omega
  clear h hf hc
  go_enter Tryz.func3, Tryz.ntmps3
  go_wp2_with fail
  refine (known_any w).mono ?_
  rintro e w1 ⟨rfl, hc⟩
  have HC : Hid (Chg (fun _ => False) w w1 ∧ Acts w1 (.slice la l.length lc) l ∧ CutsAt w1 (.slice ca cs.length cc) cs) := ⟨hc, HI.out.1.kept hc, HI.out.2.kept hc⟩
  clear hc HI
  go_wp2_with fail
  refine (few_any _ l w1 HC.out.2.1).mono ?_
  rintro e w2 ⟨rfl, rfl⟩
  rw [HF.out.1]
  go_wp2_with fail
  go_loopw [5] (fun x wr => ∃ i, i ≤ cs.length ∧ x = .int .i64 ((i : Nat) : Int) ∧ w2 = wr ∧ Hid (∀ j (hj : j < cs.length), j < i → cs[j].ps.length ≤ 100)) (fun x _ => cs.length - (intOf x).toNat)
  case atStart => exact ⟨0, by omega, rfl, rfl, fun j _ hj => by omega⟩
  case round =>
    obtain ⟨i, hi, rfl, rfl, HJ⟩ := hrel
    by_cases hlt : i < cs.length
    · obtain ⟨b, off, rfl, hat⟩ := HC.out.2.2.at hlt
      have hki : (i : Int) < (cs.length : Int) := by omega
      obtain ⟨pa, pc, hpv, _⟩ := hat.is.form
      have e1 := hat.c1
      rw [hpv] at e1
      obtain ⟨pn, hpn⟩ : ∃ n, cs[i].ps.length = n := ⟨_, rfl⟩
      rw [hpn] at e1
      by_cases hp : 100 < pn
      · have kp : decide ((100 : Int) < (pn : Int)) = true := by simp; omega
        clear hat hpv hpn
        go_wp2
        go_ret
        exact ⟨rfl, HC.out.1⟩
      · have kp : decide ((100 : Int) < (pn : Int)) = false := by simp; omega
        have HJ2 : Hid (∀ j (hj : j < cs.length), j < i + 1 → cs[j].ps.length ≤ 100) := fun j hj hji => by
          by_cases e : j = i
          · subst e; omega
          · exact HJ.out j hj (by omega)
        clear hat hpv hpn HJ
        go_wp2
        go_roundw
        case rel => exact ⟨i + 1, by omega, by go_num, by trivial, HJ2⟩
        case measure => simp [intOf]; omega
    · have HW : Hid (Few cs) := fun d hd => by
        obtain ⟨j, hj, rfl⟩ := List.getElem_of_mem hd
        exact HJ.out j hj (by omega)
      clear HJ
      go_wp2_with fail
      refine (new_ok 135 w2 (by decide) (by decide)).mono ?_
      rintro e w3 ⟨F, p, rfl, hd2, hc2, hF⟩
      have H2 : Hid (Dk w3 F p (St.new 135) ∧ Nw (fun b => b < w2.heap.size) w2 w3 F (fun _ => False)) := ⟨hd2, Nw.ofNew hc2 hF⟩
      clear hd2 hc2 hF
      go_wp2_with fail
      refine (format_up (N := 72) (K := 70) F (St.new 135) H2.out.1 H2.out.2 (fun _ => rfl) rfl (by decide) rfl (by decide) (by decide) (by decide)).mono ?_
      rintro e w4 ⟨pl, rfl, hg3, _⟩
      obtain ⟨X, hX⟩ : ∃ X, (fun b => b < w2.heap.size) = X := ⟨_, rfl⟩
      rw [hX] at hg3
      have H3 : Hid (LogUp X w2 w4 p pl 70 (fun _ => zeros 512) (fun _ => none) 0 1000) := (ofUp hg3).mono (by omega)
      clear hg3 H2 hX
      have hq := eqL_some ⟨pl, 0, none⟩
      go_wp2_with fail
      refine (rmake_any w4).mono ?_
      rintro e w5 ⟨pr, rfl, lb, lc0, db, dc, hr, hc, g1, g2, g3⟩
      obtain ⟨sb, sd, w7, hrun, q4, qf, ql, X', HB⟩ := begin_chain (cv := .slice ca cs.length cc) H3.out hr hc g1 g2 g3
      have r0 : (w5.alloc (.cells #[.pointer (some ⟨p, 0, none⟩), .pointer (some ⟨pl, 0, none⟩), .pointer none, .pointer (some ⟨pr, 0, none⟩), .slice none 0 0, .slice ca cs.length cc] 44)).cell? ⟨pr, 0, none⟩ = some (.slice (some ⟨lb, 0, none⟩) 70 lc0) := (Chg.alloc (fun _ => False) w5 _).cell hr.c0 (fun h => h)
      have r1 := (Chg.alloc (fun _ => False) (w5.alloc (.cells #[.pointer (some ⟨p, 0, none⟩), .pointer (some ⟨pl, 0, none⟩), .pointer none, .pointer (some ⟨pr, 0, none⟩), .slice none 0 0, .slice ca cs.length cc] 44)) (.cells #[] 9)).cell r0 (fun h => h)
      clear hr hc g1 g2 g3 H3
      go_wp2_with (at_builtin; go_must (refine Lib.wpList_append_run _ rfl _ _ _ _ rfl _ _ rfl rfl _ _ hrun ?_; clear hrun))
      refine (warm_log HB.out.lg HB.out.xp.1 HB.out.xp.2 HB.out.bl HC.out.2.2 HW.out).mono ?_
      rintro e w9 ⟨rfl, cv', cs', l9, s9, b9, c9, f9, n9⟩
      have HQ : Hid (Wd w2 w9 p w5.heap.size 0 cs') := (HB.out.armed l9 s9 b9).wd c9 f9
      clear l9 s9 b9 c9 f9 HB r0 r1 q4 qf
      obtain ⟨pp, hpp⟩ : ∃ pp, w5.heap.size = pp := ⟨_, rfl⟩
      rw [hpp] at HQ ⊢
      clear hpp ql
      go_wp2_with fail
      go_loopw [11] (fun x wr => ∃ i2 cs2 k2, i2 ≤ l.length ∧ x = .int .i64 ((i2 : Nat) : Int) ∧ cs2.length ≤ 20 ∧ k2 + cs2.length ≤ 2 * i2 + 20 ∧ Hid (Wd w2 wr p pp k2 cs2)) (fun x _ => l.length - (intOf x).toNat)
      case atStart => exact ⟨0, cs', 0, by omega, rfl, by omega, by omega, HQ⟩
      case round =>
        obtain ⟨i2, cs2, k2, hi2, rfl, hc20, hk2, HR⟩ := hrel
        clear HQ
        by_cases hlt2 : i2 < l.length
        · have hki : (i2 : Int) < (l.length : Int) := by omega
          obtain ⟨b, off, rfl, hat⟩ := HC.out.2.1.at hlt2
          have hl64 := HF.out.2 l[i2] (List.getElem_mem hlt2)
          have hch : Chg (fun _ => False) w2 wr := by
            obtain ⟨f, mb, sb, sd, cv, hPl, _⟩ := HR.out
            exact hPl.chg
          have a0 := hch.cell hat.op (fun h => h)
          have a1 := hch.cell hat.n (fun h => h)
          have a2 := hch.cell hat.bc (fun h => h)
          have ST : Hid _ := wstep_any l[i2] wr HR.out (by omega) hc20 hat.bs hl64 hat.n0
          obtain ⟨ba, bc, hbv, _⟩ := hat.bs.form
          rw [hbv] at a2 ST
          obtain ⟨L1, hL1⟩ : ∃ L, l[i2].bs.length = L := ⟨_, rfl⟩
          rw [hL1] at a2 ST
          obtain ⟨op, hop⟩ : ∃ x, l[i2].op = x := ⟨_, rfl⟩
          obtain ⟨n, hn⟩ : ∃ x, l[i2].n = x := ⟨_, rfl⟩
          rw [hop] at a0 ST
          rw [hn] at a1 ST
          clear hat hl64 hch hbv hL1 hop hn HR
          go_wp2_with fail
          refine (show Calls _ _ _ _ _ from ST.out).mono ?_
          rintro e w10 ⟨rfl, cs3, k3, h1, h2, h3⟩
          have HQ : Hid (Wd w2 w10 p pp k3 cs3) := h1
          clear ST h1 a0 a1 a2
          go_wp2
          go_roundw
          case rel => exact ⟨i2 + 1, cs3, k3, by omega, by go_num, by omega, by omega, HQ⟩
          case measure => simp [intOf]; omega
        · have HE : Hid (Chg (fun _ => False) w2 wr) := by
            obtain ⟨f, mb, sb, sd, cv, hPl, _⟩ := HR.out
            exact hPl.chg
          clear HR
          go_wp2
          go_ret
          exact ⟨rfl, HC.out.1.trans HE.out (fun _ _ h => h)⟩
set_option maxHeartbeats 1600000 in
theorem law_crashes (v vc : Value) (l : List ActD) (cs : List CutD) (w : World) (h : Acts w v l) (hc : CutsAt w vc cs) :
    Calls Tryz.prog 3 #[v, vc] w fun e w' => e = .returned (.bool true) ∧ Chg (fun _ => False) w w' := by
  cases hf : fewA l with
  | false =>
    have HI : Hid (Acts w v l) := h
    clear h
    go_enter Tryz.func3, Tryz.ntmps3
    go_wp2_with fail
    refine (known_any w).mono ?_
    rintro e w1 ⟨rfl, hc1⟩
    have HC : Hid (Chg (fun _ => False) w w1) := hc1
    clear hc1 hc
    go_wp2_with fail
    refine (few_any v l w1 (HI.out.kept HC.out)).mono ?_
    rintro e w2 ⟨rfl, rfl⟩
    rw [hf]
    go_wp2
    go_ret
    exact ⟨rfl, HC.out⟩
  | true =>
    by_cases h20 : cs.length ≤ 20
    · exact law_crashes_in v vc l cs w h hf hc h20
    · obtain ⟨ca, cc, rfl⟩ := hc.form
      have k20 : decide ((20 : Int) < (cs.length : Int)) = true := by simp; omega
      have HI : Hid (Acts w v l) := h
      clear h hc h20
      go_enter Tryz.func3, Tryz.ntmps3
      go_wp2_with fail
      refine (known_any w).mono ?_
      rintro e w1 ⟨rfl, hc1⟩
      have HC : Hid (Chg (fun _ => False) w w1) := hc1
      clear hc1
      go_wp2_with fail
      refine (few_any v l w1 (HI.out.kept HC.out)).mono ?_
      rintro e w2 ⟨rfl, rfl⟩
      rw [hf]
      go_wp2
      go_ret
      exact ⟨rfl, HC.out⟩
end Go.Proofs.YtmlhjcjonfalhaaGreat.C

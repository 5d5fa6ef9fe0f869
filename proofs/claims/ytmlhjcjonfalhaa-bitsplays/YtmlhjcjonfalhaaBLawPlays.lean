/-
  BitsPlays answers true for every slice of bytes and every slice of acts.
-/
import Derived.Test.YtmlhjcjonfalhaaBTail
import Derived.Deep.DeepCutAuto
namespace Go.Proofs.Ytmlhjcjonfalhaa
open Go.RowKit

theorem act_cells (w : World) (o y a b n : Int) (T : TypeId) : (w.alloc (.cells #[.int .i64 o, .int .i64 y, .int .i64 a, .int .i64 b, .int .i64 n] T)).cell? ⟨w.heap.size, 1, none⟩ = some (.int .i64 y) ∧ (w.alloc (.cells #[.int .i64 o, .int .i64 y, .int .i64 a, .int .i64 b, .int .i64 n] T)).cell? ⟨w.heap.size, 2, none⟩ = some (.int .i64 a) ∧ (w.alloc (.cells #[.int .i64 o, .int .i64 y, .int .i64 a, .int .i64 b, .int .i64 n] T)).cell? ⟨w.heap.size, 3, none⟩ = some (.int .i64 b) ∧ (w.alloc (.cells #[.int .i64 o, .int .i64 y, .int .i64 a, .int .i64 b, .int .i64 n] T)).cell? ⟨w.heap.size, 4, none⟩ = some (.int .i64 n) := by
  have h := heap_alloc_new w (.cells #[.int .i64 o, .int .i64 y, .int .i64 a, .int .i64 b, .int .i64 n] T)
  refine ⟨?_, ?_, ?_, ?_⟩ <;> (rw [cell_of_row _ _ _ _ _ _ h]; rfl)
set_option maxHeartbeats 16000000 in
set_option maxRecDepth 100000 in
theorem law_bplays_in (v vl : Value) (bs : List Int) (l : List BAct) (w : World) (hv : Bs w v bs) (hb : IsBy bs) (hi : BActs w vl l) (hl : bs.length ≤ 200) (hl2 : l.length ≤ 400) : Calls Try.prog 3 #[v, vl] w fun e w' => e = .returned (.bool true) ∧ Chg (fun _ => False) w w' := by
  have H : Hid (Bs w v bs ∧ BActs w vl l ∧ IsBy bs) := ⟨hv, hi, hb⟩
  obtain ⟨va, vc, rfl, hvc⟩ := hv.formB
  obtain ⟨la, lc, rfl⟩ := hi.form
  clear hv hvc hi hb
  have k1 : decide (200 < (bs.length : Int)) = false := by simp; omega
  have k2 : decide (400 < (l.length : Int)) = false := by simp; omega
  go_enter Try.func3, Try.ntmps3
  go_wp2_with fail
  refine (knownB w).mono ?_
  rintro e w1 ⟨rfl, hc⟩
  obtain ⟨g1, m1a, m1c, w2, hr, hm, hc2, hg, hgl⟩ := copied (H.out.1.kept hc (fun _ _ _ _ _ h => h)) (by omega)
  have hcc := hc.trans hc2 (fun _ _ h => h)
  obtain ⟨g2, m2a, m2c, w3, hr3, hm3, hc3, hg3, hgl3⟩ := copied (H.out.1.kept hcc (fun _ _ _ _ _ h => h)) (by omega)
  have HC : Hid (B2 w w3 g1 g2 (.slice m1a bs.length m1c) (.slice m2a bs.length m2c) bs bs) :=
    ⟨hm.kept hc3 (fun h => h), hm3, hcc.trans hc3 (fun _ _ h => h), by have := hc.size; omega, by omega, hgl3⟩
  clear hc hm hc2 hg hgl hcc hm3 hc3 hg3 hgl3
  go_wp2_with (at_builtin; go_must (first | (refine Lib.wpList_append_run _ rfl _ _ _ _ rfl _ _ rfl rfl _ _ hr ?_; clear hr) | refine Lib.wpList_append_run _ rfl _ _ _ _ rfl _ _ rfl rfl _ _ hr3 ?_))
  clear hr3
  go_wp2_with fail
  go_loopw [7, 8, 9, 10, 11, 12, 13, 14, 15, 16] (fun x _ _ _ _ _ _ _ _ _ wr => ∃ (j : Nat) (xs : List Int), j ≤ l.length ∧ x = .int .i64 (j : Int) ∧ xs.length = bs.length ∧ IsBy xs ∧ Hid (B2 w wr g1 g2 (.slice m1a bs.length m1c) (.slice m2a bs.length m2c) xs xs)) (fun x _ _ _ _ _ _ _ _ _ _ => l.length - (intOf x).toNat)
  case atStart => exact ⟨0, bs, by omega, rfl, rfl, H.out.2.2, HC⟩
  case round =>
    obtain ⟨j, xs, hj, rfl, hxl0, hxb, HR⟩ := hrel
    have HX : Hid (xs.length = bs.length) := hxl0
    clear HC hxl0
    by_cases hlt : j < l.length
    · obtain ⟨ab, off, rfl, hat⟩ := H.out.2.1.at hlt
      have hat2 := hat.kept HR.out.chg
      obtain ⟨a0, a1, a2, a3, a4, ha, hn⟩ := hat2
      have hki : (j : Int) < (l.length : Int) := by omega
      generalize l[j] = d at *
      obtain ⟨op, y, a, b, n⟩ := d
      dsimp only at a0 a1 a2 a3 a4 ha hn
      clear hat
      have hxl : xs.length ≤ 200 := by have := HX.out; omega
      by_cases h1 : op = 1
      · subst h1
        go_wp2_with fail
        have HA : Hid (B2 w (wr.alloc (.cells #[.int .i64 1, .int .i64 y, .int .i64 a, .int .i64 b, .int .i64 n] 27)) g1 g2 (.slice m1a bs.length m1c) (.slice m2a bs.length m2c) xs xs) := HR.out.keep (Chg.alloc _ _ _)
        have hab : g2 < wr.heap.size := HR.out.lt
        have hal : wr.heap.size < (wr.alloc (.cells #[.int .i64 1, .int .i64 y, .int .i64 a, .int .i64 b, .int .i64 n] 27)).heap.size := by simp
        obtain ⟨e1, e2, e3, e4⟩ := act_cells wr 1 y a b n 27
        generalize wr.alloc (.cells #[.int .i64 1, .int .i64 y, .int .i64 a, .int .i64 b, .int .i64 n] 27) = wa at *
        generalize wr.heap.size = p at *
        have hxl9 : xs.length ≤ 1099511627776 := by omega
        clear a0 a1 a2 a3 a4 HR
        go_cut [55] (fun s wc => s = .bool false ∧ Hid (B2 w wc g1 g2 (.slice m1a bs.length m1c) (.slice m2a bs.length m2c) (chX xs y true) (chX xs y true)) ∧ Same p wa wc)
        case first =>
          go_region_with (first | (go_at_call 9; refine (set_b2 (wr := wa.drew) y (HA.out.keep (Chg.drew _ wa)) hxb hxl9 hab hal).mono ?_; rintro e wb ⟨rfl, hB, hs1, hlb⟩; have HB : Hid (B2 w wb g1 g2 (.slice m1a bs.length m1c) (.slice m2a bs.length m2c) (chX xs y true) xs) := hB; have e1b := (hs1 1).trans e1; have HS1 : Hid (Same p wa wb) := hs1; clear hB hs1 HA) | (go_at_call 10; refine (put_b2 y true HB.out hxb hxl9 hab hlb).mono ?_; rintro e wc ⟨rfl, hC, hs2, hlc⟩; have HC2 : Hid (B2 w wc g1 g2 (.slice m1a bs.length m1c) (.slice m2a bs.length m2c) (chX xs y true) (chX xs y true) ∧ Same p wa wc) := ⟨hC, fun k => (hs2 k).trans (HS1.out k)⟩; clear hC hs2 HB HS1))
          all_goals (go_wp2_with fail; go_meet; exact ⟨by simp, HC2.out.1, HC2.out.2⟩)
        case rest =>
          obtain ⟨rfl, HZ, hs⟩ := hcut
          have hzb : IsBy (chX xs y true) := chX_by hxb y true
          have hzl : (chX xs y true).length = bs.length := by rw [chX_len, HX.out]
          have HX2 : Hid ((chX xs y true).length = bs.length) := hzl
          have hzl9 : (chX xs y true).length ≤ 1099511627776 := by rw [hzl]; omega
          generalize chX xs y true = zs at *
          have c1 := (hs 1).trans e1
          have c2 := (hs 2).trans e2
          have c3 := (hs 3).trans e3
          have c4 := (hs 4).trans e4
          obtain ⟨x1, x2, o1, o2, hh, cc, tt, hT⟩ := Tl.of y a b n HZ.out.m1.bs HZ.out.m2.bs hzb hzl9 ha hn
          have HT : Hid (Tl wc (.slice m1a bs.length m1c) (.slice m2a bs.length m2c) y a b n x1 x2 o1 o2 hh cc tt) := hT
          have w0 : wc.drewN 0 = wc := rfl
          have F1 := HT.out.f1 0
          rw [w0] at F1
          clear hT hs e1 e2 e3 e4 HA hal hzl w0 HX
          go_wp2_with fail
          refine F1.mono ?_
          rintro e wd ⟨rfl, d1, rfl⟩
          clear F1
          go_wp2_with fail
          refine (HT.out.g1 _).mono ?_
          rintro e wd ⟨rfl, rfl⟩
          go_wp2_with fail
          refine (HT.out.f2 _).mono ?_
          rintro e wd ⟨rfl, d2, rfl⟩
          go_wp2_with fail
          refine (HT.out.g2 _).mono ?_
          rintro e wd ⟨rfl, rfl⟩
          go_wp2_with fail
          have c1 := (show (wc.drewN (d1 + d2)).cell? ⟨p, 1, none⟩ = _ from c1)
          have c2 := (show (wc.drewN (d1 + d2)).cell? ⟨p, 2, none⟩ = _ from c2)
          have c3 := (show (wc.drewN (d1 + d2)).cell? ⟨p, 3, none⟩ = _ from c3)
          have HT2 : Hid (Tl (wc.drewN (d1 + d2)) (.slice m1a bs.length m1c) (.slice m2a bs.length m2c) y a b n x1 x2 o1 o2 hh cc tt) := HT.out.more _
          have HZ2 : Hid (B2 w (wc.drewN (d1 + d2)) g1 g2 (.slice m1a bs.length m1c) (.slice m2a bs.length m2c) zs zs) := HZ.out.keep (Chg.drewN _ _ _)
          clear HT HZ
          generalize wc.drewN (d1 + d2) = wd at *
          have s1 := HT2.out.s1
          have s2 := HT2.out.s2
          go_quiet (first | (go_at_call 16; exact Calls.quiet_of (HT2.out.f3 _)) | (go_at_call 17; exact Calls.quiet_of_same (HT2.out.g3 _)) | (go_at_call 18; exact Calls.quiet_of (HT2.out.f4 _)) | (go_at_call 19; exact Calls.quiet_of_same (HT2.out.g4 _)))
          go_wp2
          go_roundw
          case rel => exact ⟨j + 1, zs, by omega, by go_num, HX2.out, hzb, HZ2.out.keep (Chg.drewN _ _ _)⟩
          case measure => simp [intOf]; omega
      by_cases h2 : op = 2
      · subst h2
        clear h1
        go_wp2_with fail
        have HA : Hid (B2 w (wr.alloc (.cells #[.int .i64 2, .int .i64 y, .int .i64 a, .int .i64 b, .int .i64 n] 27)) g1 g2 (.slice m1a bs.length m1c) (.slice m2a bs.length m2c) xs xs) := HR.out.keep (Chg.alloc _ _ _)
        have hab : g2 < wr.heap.size := HR.out.lt
        have hal : wr.heap.size < (wr.alloc (.cells #[.int .i64 2, .int .i64 y, .int .i64 a, .int .i64 b, .int .i64 n] 27)).heap.size := by simp
        obtain ⟨e1, e2, e3, e4⟩ := act_cells wr 2 y a b n 27
        generalize wr.alloc (.cells #[.int .i64 2, .int .i64 y, .int .i64 a, .int .i64 b, .int .i64 n] 27) = wa at *
        generalize wr.heap.size = p at *
        have hxl9 : xs.length ≤ 1099511627776 := by omega
        clear a0 a1 a2 a3 a4 HR
        go_cut [66] (fun s wc => s = .bool false ∧ Hid (B2 w wc g1 g2 (.slice m1a bs.length m1c) (.slice m2a bs.length m2c) (chX xs y false) (chX xs y false)) ∧ Same p wa wc)
        case first =>
          go_region_with (first | (go_at_call 11; refine (clear_b2 (wr := wa.drew) y (HA.out.keep (Chg.drew _ wa)) hxb hxl9 hab hal).mono ?_; rintro e wb ⟨rfl, hB, hs1, hlb⟩; have HB : Hid (B2 w wb g1 g2 (.slice m1a bs.length m1c) (.slice m2a bs.length m2c) (chX xs y false) xs) := hB; have e1b := (hs1 1).trans e1; have HS1 : Hid (Same p wa wb) := hs1; clear hB hs1 HA) | (go_at_call 10; refine (put_b2 y false HB.out hxb hxl9 hab hlb).mono ?_; rintro e wc ⟨rfl, hC, hs2, hlc⟩; have HC2 : Hid (B2 w wc g1 g2 (.slice m1a bs.length m1c) (.slice m2a bs.length m2c) (chX xs y false) (chX xs y false) ∧ Same p wa wc) := ⟨hC, fun k => (hs2 k).trans (HS1.out k)⟩; clear hC hs2 HB HS1))
          all_goals (go_wp2_with fail; go_meet; exact ⟨by simp, HC2.out.1, HC2.out.2⟩)
        case rest =>
          obtain ⟨rfl, HZ, hs⟩ := hcut
          have hzb : IsBy (chX xs y false) := chX_by hxb y false
          have hzl : (chX xs y false).length = bs.length := by rw [chX_len, HX.out]
          have HX2 : Hid ((chX xs y false).length = bs.length) := hzl
          have hzl9 : (chX xs y false).length ≤ 1099511627776 := by rw [hzl]; omega
          generalize chX xs y false = zs at *
          have c1 := (hs 1).trans e1
          have c2 := (hs 2).trans e2
          have c3 := (hs 3).trans e3
          have c4 := (hs 4).trans e4
          obtain ⟨x1, x2, o1, o2, hh, cc, tt, hT⟩ := Tl.of y a b n HZ.out.m1.bs HZ.out.m2.bs hzb hzl9 ha hn
          have HT : Hid (Tl wc (.slice m1a bs.length m1c) (.slice m2a bs.length m2c) y a b n x1 x2 o1 o2 hh cc tt) := hT
          have w0 : wc.drewN 0 = wc := rfl
          have F1 := HT.out.f1 0
          rw [w0] at F1
          clear hT hs e1 e2 e3 e4 HA hal hzl w0 HX
          go_wp2_with fail
          refine F1.mono ?_
          rintro e wd ⟨rfl, d1, rfl⟩
          clear F1
          go_wp2_with fail
          refine (HT.out.g1 _).mono ?_
          rintro e wd ⟨rfl, rfl⟩
          go_wp2_with fail
          refine (HT.out.f2 _).mono ?_
          rintro e wd ⟨rfl, d2, rfl⟩
          go_wp2_with fail
          refine (HT.out.g2 _).mono ?_
          rintro e wd ⟨rfl, rfl⟩
          go_wp2_with fail
          have c1 := (show (wc.drewN (d1 + d2)).cell? ⟨p, 1, none⟩ = _ from c1)
          have c2 := (show (wc.drewN (d1 + d2)).cell? ⟨p, 2, none⟩ = _ from c2)
          have c3 := (show (wc.drewN (d1 + d2)).cell? ⟨p, 3, none⟩ = _ from c3)
          have HT2 : Hid (Tl (wc.drewN (d1 + d2)) (.slice m1a bs.length m1c) (.slice m2a bs.length m2c) y a b n x1 x2 o1 o2 hh cc tt) := HT.out.more _
          have HZ2 : Hid (B2 w (wc.drewN (d1 + d2)) g1 g2 (.slice m1a bs.length m1c) (.slice m2a bs.length m2c) zs zs) := HZ.out.keep (Chg.drewN _ _ _)
          clear HT HZ
          generalize wc.drewN (d1 + d2) = wd at *
          have s1 := HT2.out.s1
          have s2 := HT2.out.s2
          go_quiet (first | (go_at_call 16; exact Calls.quiet_of (HT2.out.f3 _)) | (go_at_call 17; exact Calls.quiet_of_same (HT2.out.g3 _)) | (go_at_call 18; exact Calls.quiet_of (HT2.out.f4 _)) | (go_at_call 19; exact Calls.quiet_of_same (HT2.out.g4 _)))
          go_wp2
          go_roundw
          case rel => exact ⟨j + 1, zs, by omega, by go_num, HX2.out, hzb, HZ2.out.keep (Chg.drewN _ _ _)⟩
          case measure => simp [intOf]; omega
      · have h1' : (op == 1) = false := by simpa using h1
        have h2' : (op == 2) = false := by simpa using h2
        clear h1 h2
        go_wp2_with fail
        have HA : Hid (B2 w (wr.alloc (.cells #[.int .i64 op, .int .i64 y, .int .i64 a, .int .i64 b, .int .i64 n] 27)) g1 g2 (.slice m1a bs.length m1c) (.slice m2a bs.length m2c) xs xs) := HR.out.keep (Chg.alloc _ _ _)
        have hab : g2 < wr.heap.size := HR.out.lt
        have hal : wr.heap.size < (wr.alloc (.cells #[.int .i64 op, .int .i64 y, .int .i64 a, .int .i64 b, .int .i64 n] 27)).heap.size := by simp
        obtain ⟨e1, e2, e3, e4⟩ := act_cells wr op y a b n 27
        generalize wr.alloc (.cells #[.int .i64 op, .int .i64 y, .int .i64 a, .int .i64 b, .int .i64 n] 27) = wa at *
        generalize wr.heap.size = p at *
        have hxl9 : xs.length ≤ 1099511627776 := by omega
        clear a0 a1 a2 a3 a4 HR
        have hs : Same p wa wa := fun _ => rfl
        have hzb : IsBy xs := hxb
        have hzl9 := hxl9
        have hzl : True := trivial
        have HX2 := HX
        have c1 := (hs 1).trans e1
        have c2 := (hs 2).trans e2
        have c3 := (hs 3).trans e3
        have c4 := (hs 4).trans e4
        obtain ⟨x1, x2, o1, o2, hh, cc, tt, hT⟩ := Tl.of y a b n HA.out.m1.bs HA.out.m2.bs hzb hzl9 ha hn
        have HT : Hid (Tl wa (.slice m1a bs.length m1c) (.slice m2a bs.length m2c) y a b n x1 x2 o1 o2 hh cc tt) := hT
        have w0 : wa.drewN 0 = wa := rfl
        have F1 := HT.out.f1 0
        rw [w0] at F1
        clear hT hs e1 e2 e3 e4 hal hzl w0 HX
        go_wp2_with fail
        refine F1.mono ?_
        rintro e wd ⟨rfl, d1, rfl⟩
        clear F1
        go_wp2_with fail
        refine (HT.out.g1 _).mono ?_
        rintro e wd ⟨rfl, rfl⟩
        go_wp2_with fail
        refine (HT.out.f2 _).mono ?_
        rintro e wd ⟨rfl, d2, rfl⟩
        go_wp2_with fail
        refine (HT.out.g2 _).mono ?_
        rintro e wd ⟨rfl, rfl⟩
        go_wp2_with fail
        have c1 := (show (wa.drewN (d1 + d2)).cell? ⟨p, 1, none⟩ = _ from c1)
        have c2 := (show (wa.drewN (d1 + d2)).cell? ⟨p, 2, none⟩ = _ from c2)
        have c3 := (show (wa.drewN (d1 + d2)).cell? ⟨p, 3, none⟩ = _ from c3)
        have HT2 : Hid (Tl (wa.drewN (d1 + d2)) (.slice m1a bs.length m1c) (.slice m2a bs.length m2c) y a b n x1 x2 o1 o2 hh cc tt) := HT.out.more _
        have HZ2 : Hid (B2 w (wa.drewN (d1 + d2)) g1 g2 (.slice m1a bs.length m1c) (.slice m2a bs.length m2c) xs xs) := HA.out.keep (Chg.drewN _ _ _)
        clear HT HA
        generalize wa.drewN (d1 + d2) = wd at *
        have s1 := HT2.out.s1
        have s2 := HT2.out.s2
        go_quiet (first | (go_at_call 16; exact Calls.quiet_of (HT2.out.f3 _)) | (go_at_call 17; exact Calls.quiet_of_same (HT2.out.g3 _)) | (go_at_call 18; exact Calls.quiet_of (HT2.out.f4 _)) | (go_at_call 19; exact Calls.quiet_of_same (HT2.out.g4 _)))
        go_wp2
        go_roundw
        case rel => exact ⟨j + 1, xs, by omega, by go_num, HX2.out, hzb, HZ2.out.keep (Chg.drewN _ _ _)⟩
        case measure => simp [intOf]; omega
    · go_wp2
      go_ret
      exact ⟨rfl, HR.out.chg⟩
set_option maxHeartbeats 8000000 in
theorem law_bplays (v vl : Value) (bs : List Int) (l : List BAct) (w : World) (hv : Bs w v bs) (hb : IsBy bs) (hi : BActs w vl l) : Calls Try.prog 3 #[v, vl] w fun e w' => e = .returned (.bool true) ∧ Chg (fun _ => False) w w' := by
  have H : Hid (Bs w v bs ∧ BActs w vl l ∧ IsBy bs) := ⟨hv, hi, hb⟩
  obtain ⟨va, vc, rfl, hvc⟩ := hv.formB
  obtain ⟨la, lc, rfl⟩ := hi.form
  clear hv hvc hi hb
  by_cases g1 : 200 < bs.length
  · have k1 : decide (200 < (bs.length : Int)) = true := by simp; omega
    clear g1
    go_enter Try.func3, Try.ntmps3
    go_wp2_with fail
    refine (knownB w).mono ?_
    rintro e w1 ⟨rfl, hc⟩
    have HC : Hid (Chg (fun _ => False) w w1) := hc
    clear hc
    go_wp2
    go_ret
    exact ⟨rfl, HC.out⟩
  by_cases g2 : 400 < l.length
  · have k1 : decide (200 < (bs.length : Int)) = false := by simp; omega
    have k2 : decide (400 < (l.length : Int)) = true := by simp; omega
    clear g1 g2
    go_enter Try.func3, Try.ntmps3
    go_wp2_with fail
    refine (knownB w).mono ?_
    rintro e w1 ⟨rfl, hc⟩
    have HC : Hid (Chg (fun _ => False) w w1) := hc
    clear hc
    go_wp2
    go_ret
    exact ⟨rfl, HC.out⟩
  exact law_bplays_in _ _ bs l w H.out.1 H.out.2.2 H.out.2.1 (by omega) (by omega)
end Go.Proofs.Ytmlhjcjonfalhaa

/-
  FileLarge answers true for every two numbers.
-/
import Derived.Test.YtncaopdiplfjeaaGreatFLrg
import Derived.Test.YtncaopdiplfjeaaGreatFAll
namespace Go.Proofs.YtncaopdiplfjeaaGreat
open Go.RowKit Go.Maps

set_option maxRecDepth 100000 in
set_option maxHeartbeats 12800000 in
theorem law_large (more size : Int) (w : World) (hsz : size ≤ 9223372036854775807) :
    Calls Tryz.prog 7 #[.int .i64 more, .int .i64 size] w fun e w' => e = .returned (.bool true) ∧ Chg (fun _ => False) w w' := by
  have KN : Hid (Calls Tryz.prog 8 #[] w fun e w' => e = .returned (.bool true) ∧ Hid (Chg (fun _ => False) w w')) := (known_any w).mono (by rintro e w' ⟨rfl, h⟩; exact ⟨rfl, h⟩)
  by_cases g1 : more < 0
  · have k1 : decide (more < 0) = true := by simpa using g1
    go_enter Tryz.func7, Tryz.ntmps7
    go_wp2_with fail
    refine KN.out.mono ?_
    rintro e w1 ⟨rfl, HC⟩
    go_wp2
    go_ret
    exact ⟨rfl, HC.out⟩
  have k1 : decide (more < 0) = false := by simpa using g1
  by_cases g2 : 16 < more
  · have k2 : decide (16 < more) = true := by simpa using g2
    go_enter Tryz.func7, Tryz.ntmps7
    go_wp2_with fail
    refine KN.out.mono ?_
    rintro e w1 ⟨rfl, HC⟩
    go_wp2
    go_ret
    exact ⟨rfl, HC.out⟩
  have k2 : decide (16 < more) = false := by simpa using g2
  by_cases g3 : size < 0
  · have k3 : decide (size < 0) = true := by simpa using g3
    go_enter Tryz.func7, Tryz.ntmps7
    go_wp2_with fail
    refine KN.out.mono ?_
    rintro e w1 ⟨rfl, HC⟩
    go_wp2
    go_ret
    exact ⟨rfl, HC.out⟩
  have k3 : decide (size < 0) = false := by simpa using g3
  obtain ⟨M, rfl⟩ : ∃ M : Nat, more = (M : Int) := ⟨more.toNat, by omega⟩
  obtain ⟨Z, rfl⟩ : ∃ Z : Nat, size = (Z : Int) := ⟨size.toNat, by omega⟩
  have K1 : ¬ (16 < M) := by omega
  have D2 : decide (16 < M) = false := by simp; omega
  obtain ⟨n, hn⟩ : ∃ n, 136 + M = n := ⟨_, rfl⟩
  have hw1 : IntKind.i64.wrap (136 + (M : Int)) = (n : Int) := by rw [IntKind.wrap_i64]; omega
  have hw2 : 136 + (M : Int) = (n : Int) := by omega
  have HN : Hid (136 ≤ n) := (show 136 ≤ n by omega)
  have n2 : n ≤ 152 := by omega
  have hw3 : wrap64 (n : Int) = (n : Int) := by unfold wrap64; omega
  have MD : Hid (∀ w1, Calls Tryz.prog 10 #[.int .i64 200] w1 fun e w' => ∃ (p : Pm) (X : Nat → Prop), e = .returned (.pointer (some ⟨p.bb, 0, none⟩)) ∧ Hid (p.w0 = w1 ∧ LgZ p (addX X w'.heap.size (w'.alloc (ndK.o 29)).heap.size) (fun _ => false) w'.heap.size 0 1 ndK (w'.alloc (ndK.o 29)))) := fun w1 => by
    refine (made_any 200 w1 (by decide) (by decide)).mono ?_
    rintro e w' ⟨X, bb, pd, pl, pr, g, V, rfl, hmd, _⟩
    have hb := btw_made hmd (Nd.free_kind 1) (Nd.free_kind 0) (by decide) (by decide)
    have lt := hb.xlt
    have bz := hb.bz
    have hc := Chg.alloc (fun _ => False) w' (ndK.o 29)
    refine ⟨_, X, rfl, rfl, ⟨_, hb.add hc, rfl, rfl, rfl⟩, heap_alloc_new _ _, ⟨.inr ⟨Nat.le_refl _, by simp⟩, hb.chg.size, ?_, ?_, ?_⟩, rfl⟩
    · have := lt _ bz.x.1; exact Nat.ne_of_gt this
    · have := lt _ bz.x.2.1; exact Nat.ne_of_gt this
    · have := lt _ bz.x.2.2.1; exact Nat.ne_of_gt this
  clear g1 g2 g3 hn
  go_enter Tryz.func7, Tryz.ntmps7
  go_wp2_with fail
  refine KN.out.mono ?_
  clear KN
  rintro e w1 ⟨rfl, HC⟩
  go_wp2_with fail
  refine (show Calls _ _ _ _ _ from MD.out w1).mono ?_
  clear MD k1 k2 k3 K1 D2
  rintro e w2 ⟨p, X, rfl, H0⟩
  have hq1 := eqB_some ⟨p.bb, 0, none⟩
  obtain ⟨rx, HRX⟩ : ∃ rx, Hid (w2.heap.size = rx) := ⟨_, rfl⟩
  obtain ⟨Y, HY⟩ : ∃ Y, Hid (addX X w2.heap.size (w2.alloc (ndK.o 29)).heap.size = Y) := ⟨_, rfl⟩
  have HP : Hid (p.w0 = w1) := H0.out.1
  have HZ0 : Hid (LgZ p Y (fun _ => false) rx 0 1 ndK (w2.alloc (ndK.o 29))) := by
    have := H0.out.2
    rw [HY.out, HRX.out] at this
    exact this
  clear H0 HY
  go_wp2
  rw [HRX.out]
  clear HRX
  go_loopw [8] (fun x wr => ∃ t i nd, x = .int .i64 ((i : Nat) : Int) ∧ Hid (i = 8 * t ∧ t ≤ 19) ∧ Hid (LgZ p Y (fun _ => false) rx (min i n) (t + 1) nd wr)) (fun x _ => n - (intOf x).toNat)
  case atStart => exact ⟨0, 0, ndK, rfl, ⟨rfl, by omega⟩, by rw [Nat.zero_min]; exact HZ0.out⟩
  case round =>
    obtain ⟨t, i, ⟨kd, lk, zz, e0, e1, e2, e3, e4, e5, e6, e7, on, tw⟩, rfl, HT, HZ⟩ := hrel
    clear HZ0
    by_cases hin : i < n
    · have kin : (i : Int) < (n : Int) := by omega
      have hbz := bb_cells HZ.out.bz
      obtain ⟨c0, -⟩ := hbz
      have BG : Hid (Calls Tryz.prog 11 #[.pointer (some ⟨p.pl, 0, none⟩)] wr fun e w' => ∃ q, e = .returned (.tuple #[.pointer (some ⟨q, 0, none⟩), .int .i64 0]) ∧ Hid (LgT p Y (fun _ => false) rx i (t + 1) q ⟨kd, lk, zz, e0, e1, e2, e3, e4, e5, e6, e7, on, tw⟩ w')) := by
        have := HZ.out
        rw [Nat.min_eq_left (Nat.le_of_lt hin)] at this
        exact this.begin (by have := HT.out; omega)
      by_cases h8 : n - i < 8
      · have d8 : decide ((n : Int) - (i : Int) < 8) = true := by simp; omega
        have e8 : (n : Int) - (i : Int) < 8 := by omega
        obtain ⟨z, hz⟩ : ∃ z, 512 * (n - i) = z := ⟨_, rfl⟩
        have hz1 : 512 * ((n : Int) - (i : Int)) = (z : Int) := by omega
        obtain ⟨oz, hmk, hmp⟩ := makeNd z (by omega)
        have HMP : Hid _ := hmp
        have hzb : z ≤ 4096 := by omega
        have HZK : Hid (z = 512 * (n - i) ∧ n - i ≤ 8 ∧ i + (n - i) ≤ 152 ∧ min (i + 8) n = i + (n - i)) := ⟨by omega, by omega, by omega, by omega⟩
        clear hmp hz
        go_wp2_with fail
        refine (show Calls _ _ _ _ _ from BG.out).mono ?_
        clear BG
        rintro e w3 ⟨q, rfl, HT3⟩
        have hq2 := eqT_some ⟨q, 0, none⟩
        go_wp2
        obtain ⟨g, HG⟩ : ∃ g, Hid (w3.heap.size = g) := ⟨_, rfl⟩
        rw [HG.out]
        go_loopw [13] (fun x w4 => ∃ j, x = .int .i64 ((j : Nat) : Int) ∧ j ≤ z ∧ Hid (Mp w4 g (.slice (some ⟨g, 0, none⟩) z z) (fil i z j) ∧ Chg (fun _ => False) w3 w4)) (fun x _ => z - (intOf x).toNat)
        case atStart => exact ⟨0, rfl, Nat.zero_le _, by rw [fil_zero]; exact HMP.out _ _ (heap_new' HG.out.symm), Chg.alloc _ _ _⟩
        case round =>
          obtain ⟨j, rfl, hj, HJ⟩ := hrel
          by_cases hjz : j < z
          · have kj : (j : Int) < (z : Int) := by omega
            obtain ⟨cj1, cj2⟩ := HJ.out.1.cells (j := j) (by rw [fil_len hj]; exact hjz)
            go_wp2
            go_roundw
            case rel =>
              refine ⟨j + 1, by go_num, by omega, ?_, ?_⟩
              · have h := HJ.out.1.set (j := j) (by rw [fil_len hj]; exact hjz) ((i + j / 512 + 1 : Nat) : Int)
                rw [fil_set hjz] at h
                exact h
              · exact HJ.out.2.trans (Chg.setCell (S := fun b => b = g) _ _ _ rfl) (fun i hi e => by have := HG.out; omega)
            case measure => simp [intOf]; omega
          · have kj : ¬ ((j : Int) < (z : Int)) := by omega
            obtain rfl : z = j := by omega
            have AP : Hid (∀ wb, Chg (fun _ => False) wr wb → Calls Tryz.prog 17 #[.pointer (some ⟨q, 0, none⟩), PV 0 1 (200 : Nat), Nd.v ⟨kd, lk, zz, e0, e1, e2, e3, e4, e5, e6, e7, on, tw⟩, .slice (some ⟨g, 0, none⟩) z z] wb fun e w5 => ∃ nd', e = .returned (.tuple #[nd'.v, .int .i64 0]) ∧ Bz Y p.w0 p.bb p.pl p.pr p.g p.n (fun _ => false) w5 ∧ NdB 29 w5 rx ⟨kd, lk, zz, e0, e1, e2, e3, e4, e5, e6, e7, on, tw⟩ ∧ Hid (Ret wr wb w5 (fun r w6 => LgC p Y (fun _ => false) rx (t + 1) q (lrg (i + (n - i))) ⟨kd, lk, zz, e0, e1, e2, e3, e4, e5, e6, e7, on, tw⟩ nd' r w6))) := fun wb hc => by
              have hb := HJ.out.1.bs.kept hc (fun _ _ _ _ _ h => h)
              rw [fil_all] at hb
              have hc3 := HJ.out.2.trans hc (fun _ _ h => h)
              have hlt : g < wr.heap.size := by
                rcases HJ.out.1 with ⟨e, _⟩ | ⟨c', cur, ty, e, hbk, _⟩
                · cases e
                · exact lt_of_block hbk
              have hzk := HZK.out
              have HA := HT3.out.append (n - i) (.slice (some ⟨g, 0, none⟩) z z) hzk.2.1 hzk.2.2.1 hc3 (by rw [← hzk.1]; exact hb) (fun g' hg => by
                simp [Value.ownBlock] at hg
                subst hg
                exact ⟨by have := HG.out; omega, by have := hc.size; omega⟩)
              refine HA.mono ?_
              rintro e w5 ⟨nd', rfl, hs5, hr⟩
              exact ⟨nd', rfl, HT3.out.bz.sm hs5, (hs5 _ HT3.out.rx.1).trans HT3.out.nd, hr.from HJ.out.2.size⟩
            have hT4 := HT3.out.more HJ.out.2
            obtain ⟨-, d1, d2, d3, -, hbb⟩ := bb_cells hT4.bz
            obtain ⟨f0, f1, f2, f3, f4, f5, f6, f7, f8, f9, f10, f11, f12⟩ := hT4.nd.at
            simp only at f0 f1 f2 f3 f4 f5 f6 f7 f8 f9 f10 f11 f12
            have hrx := hT4.nd.lt
            have HPN : Hid (p.n = 200) := hT4.n
            rw [HPN.out] at d3
            have hne1 : ¬ wr.heap.size = p.bb := by omega
            have hne2 : ¬ wr.heap.size = rx := by omega
            have HC1 : Hid (t + 1 ≤ 1000) := (show t + 1 ≤ 1000 by have := HT.out; omega)
            obtain ⟨ob, hob⟩ : ∃ ob : Obj, (Obj.cells #[.pointer (some ⟨p.pl, 0, none⟩), .int .i64 0, .int .i64 1, .int .i64 (p.n : Int), .pointer (some ⟨p.pr, 0, none⟩)] 45 (0, 0)) = ob := ⟨_, rfl⟩
            obtain ⟨orx, horx⟩ : ∃ orx : Obj, (Obj.cells #[.int .i64 kd, .int .i64 lk, .int .i64 zz, .int .i64 e0, .int .i64 e1, .int .i64 e2, .int .i64 e3, .int .i64 e4, .int .i64 e5, .int .i64 e6, .int .i64 e7, .int .i64 on, .int .i64 tw] 29 (0, 0)) = orx := ⟨_, rfl⟩
            have HOB : Hid (∀ wx, Bz Y p.w0 p.bb p.pl p.pr p.g p.n (fun _ => false) wx → wx.heap[p.bb]? = some ob) := fun wx h => h.bx.trans (by rw [hob])
            have HOR : Hid (∀ wx, NdB 29 wx rx ⟨kd, lk, zz, e0, e1, e2, e3, e4, e5, e6, e7, on, tw⟩ → wx.heap[rx]? = some orx) := fun wx h => h.trans (by rw [horx])
            have kb4 := HOB.out _ hT4.bz
            have kr4 := HOR.out _ hT4.nd
            have HS : ∀ w' : World, w'.heap[p.bb]? = some ob → w'.heap[rx]? = some orx → w'.cell? ⟨p.bb, 1, none⟩ = some (.int .i64 0) ∧ w'.cell? ⟨p.bb, 2, none⟩ = some (.int .i64 1) ∧ w'.cell? ⟨p.bb, 3, none⟩ = some (.int .i64 200) ∧ w'.cell? ⟨rx, 0, none⟩ = some (.int .i64 kd) ∧ w'.cell? ⟨rx, 1, none⟩ = some (.int .i64 lk) ∧ w'.cell? ⟨rx, 2, none⟩ = some (.int .i64 zz) ∧ w'.cell? ⟨rx, 3, none⟩ = some (.int .i64 e0) ∧ w'.cell? ⟨rx, 4, none⟩ = some (.int .i64 e1) ∧ w'.cell? ⟨rx, 5, none⟩ = some (.int .i64 e2) ∧ w'.cell? ⟨rx, 6, none⟩ = some (.int .i64 e3) ∧ w'.cell? ⟨rx, 7, none⟩ = some (.int .i64 e4) ∧ w'.cell? ⟨rx, 8, none⟩ = some (.int .i64 e5) ∧ w'.cell? ⟨rx, 9, none⟩ = some (.int .i64 e6) ∧ w'.cell? ⟨rx, 10, none⟩ = some (.int .i64 e7) ∧ w'.cell? ⟨rx, 11, none⟩ = some (.int .i64 on) ∧ w'.cell? ⟨rx, 12, none⟩ = some (.int .i64 tw) := fun w' h1 h2 => by
              subst hob horx
              rw [HPN.out] at h1
              have hn : NdAt w' rx ⟨kd, lk, zz, e0, e1, e2, e3, e4, e5, e6, e7, on, tw⟩ := NdAt.ofBlk h2
              exact ⟨by rw [cell_of_row _ _ _ _ _ _ h1]; rfl, by rw [cell_of_row _ _ _ _ _ _ h1]; rfl, by rw [cell_of_row _ _ _ _ _ _ h1]; rfl, hn.c0, hn.c1, hn.c2, hn.c3, hn.c4, hn.c5, hn.c6, hn.c7, hn.c8, hn.c9, hn.c10, hn.c11, hn.c12⟩
            unfold PV at AP
            simp only [Nd.v] at AP
            clear d1 d2 d3 f0 f1 f2 f3 f4 f5 f6 f7 f8 f9 f10 f11 f12 hob horx
            clear hT4 hbb hrx HT3 HJ hmk HMP
            go_wp2_with fail
            go_cut [14, 15] from 48 to 107 (fun x14 x15 wc => ∃ r nd', x14 = .pointer (some ⟨r, 0, none⟩) ∧ x15 = .int .i64 0 ∧ NdB 29 wc r nd' ∧ Hid (LgC p Y (fun _ => false) rx (t + 1) q (lrg (i + (n - i))) ⟨kd, lk, zz, e0, e1, e2, e3, e4, e5, e6, e7, on, tw⟩ nd' r wc))
            case first =>
              go_region_held (fun w' => w'.cell? ⟨p.bb, 1, none⟩ = some (.int .i64 0) ∧ w'.cell? ⟨p.bb, 2, none⟩ = some (.int .i64 1) ∧ w'.cell? ⟨p.bb, 3, none⟩ = some (.int .i64 200) ∧ w'.cell? ⟨rx, 0, none⟩ = some (.int .i64 kd) ∧ w'.cell? ⟨rx, 1, none⟩ = some (.int .i64 lk) ∧ w'.cell? ⟨rx, 2, none⟩ = some (.int .i64 zz) ∧ w'.cell? ⟨rx, 3, none⟩ = some (.int .i64 e0) ∧ w'.cell? ⟨rx, 4, none⟩ = some (.int .i64 e1) ∧ w'.cell? ⟨rx, 5, none⟩ = some (.int .i64 e2) ∧ w'.cell? ⟨rx, 6, none⟩ = some (.int .i64 e3) ∧ w'.cell? ⟨rx, 7, none⟩ = some (.int .i64 e4) ∧ w'.cell? ⟨rx, 8, none⟩ = some (.int .i64 e5) ∧ w'.cell? ⟨rx, 9, none⟩ = some (.int .i64 e6) ∧ w'.cell? ⟨rx, 10, none⟩ = some (.int .i64 e7) ∧ w'.cell? ⟨rx, 11, none⟩ = some (.int .i64 on) ∧ w'.cell? ⟨rx, 12, none⟩ = some (.int .i64 tw)) (exact HS _ (by (repeat' first | with_reducible assumption | with_reducible apply hn_dr | with_reducible apply hn_al | with_reducible apply hn_set)) (by (repeat' first | with_reducible assumption | with_reducible apply hn_dr | with_reducible apply hn_al | with_reducible apply hn_set))) ((go_at_call 17; refine (AP.out _ (by (repeat first | exact Chg.refl _ _ | with_reducible apply Chg.dr | with_reducible apply Chg.al))).mono ?_; rintro e w5 ⟨⟨kd', lk', zz', e0', e1', e2', e3', e4', e5', e6', e7', on', tw'⟩, rfl, bz5, hn5, HR⟩; have kb5 := HOB.out _ bz5; have kr5 := HOR.out _ hn5; have hb5 := lt_of_block bz5.bx; have hr5 := hn5.lt; have hne5 : ¬ w5.heap.size = p.bb := (by omega); have hne6 : ¬ w5.heap.size = rx := (by omega); clear hb5 hr5 bz5 hn5; first | ((with_reducible have hnc := Ret.shC HR.out); obtain ⟨r0, r1, r2, r3, r4, r5, r6, r7, r8, r9, r10, r11, r12⟩ := hnc.at; have fr5 := hnc.fr; simp only [Nd.no] at r0 r1 r2 r3 r4 r5 r6 r7 r8 r9 r10 r11 r12; have hpt := Ret.put HR.out hnc (by omega) (by first | (simp; done) | (simp; omega)) ⟨kd', lk', zz', e0', e1', e2', e3', e4', e5', e6', e7', on', tw'⟩; have HPT : Hid _ := hpt; clear hpt hnc) | skip))
              · go_wp2_with fail
                obtain ⟨P1, P2⟩ := Ret.box1 (m := ⟨kd', lk', zz', e0', e1', e2', e3', e4', e5', e6', e7', on', tw'⟩) HR.out
                go_meet
                exact ⟨_, _, rfl, rfl, P1, P2⟩
              · go_wp2_with fail
                obtain ⟨P1, P2⟩ := HPT.out
                unfold putNd at P1 P2
                simp only at P1 P2
                go_meet
                exact ⟨_, _, rfl, rfl, P1, P2⟩
            case rest =>
              obtain ⟨r, ⟨kd', lk', zz', e0', e1', e2', e3', e4', e5', e6', e7', on', tw'⟩, rfl, rfl, hn5, HL⟩ := hcut
              have CM : Hid _ := HL.out.commit hn5 HC1.out
              clear AP HS HOB HOR kb4 kr4 hne1 hne2 hn5 HL
              go_wp2_with fail
              refine (show Calls _ _ _ _ _ from CM.out).mono ?_
              clear CM
              rintro e w7 ⟨rfl, hn7, hx7, HF⟩
              obtain ⟨f0, f1, f2, f3, f4, f5, f6, f7, f8, f9, f10, f11, f12⟩ := hn7.at
              simp only at f0 f1 f2 f3 f4 f5 f6 f7 f8 f9 f10 f11 f12
              obtain ⟨r0, r1, r2, r3, r4, r5, r6, r7, r8, r9, r10, r11, r12⟩ := hx7.at
              simp only at r0 r1 r2 r3 r4 r5 r6 r7 r8 r9 r10 r11 r12
              have fr7 := hx7.fr
              obtain ⟨P1, P2⟩ := hx7.put ⟨kd', lk', zz', e0', e1', e2', e3', e4', e5', e6', e7', on', tw'⟩
              have HP7 : Hid (LgZ p Y (fun _ => false) rx (i + (n - i)) (t + 1 + 1) ⟨kd', lk', zz', e0', e1', e2', e3', e4', e5', e6', e7', on', tw'⟩ (putNd w7 rx ⟨kd', lk', zz', e0', e1', e2', e3', e4', e5', e6', e7', on', tw'⟩)) := HF.out _ P2 P1
              clear hn7 hx7 HF P1 P2
              go_wp2
              go_roundw
              case rel => exact ⟨t + 1, i + 8, _, by go_num, ⟨by have := HT.out; omega, by have := HT.out; omega⟩, by rw [HZK.out.2.2.2]; exact HP7.out⟩
              case measure => simp [intOf]; omega
      · have d8 : decide ((n : Int) - (i : Int) < 8) = false := by simp; omega
        have e8 : ¬ ((n : Int) - (i : Int) < 8) := by omega
        obtain ⟨oz, hmk0, hmp⟩ := makeNd 4096 (by omega)
        have hmk : ∀ w : World, (Instr.makeSlice 33 (.int .i64 4096) (.int .i64 4096)).run Tryz.prog w = .ok (.slice (some ⟨w.heap.size, 0, none⟩) 4096 4096) (w.alloc oz) := hmk0
        have HMP : Hid _ := hmp
        have HZK : Hid (i + 8 ≤ 152 ∧ min (i + 8) n = i + 8) := ⟨by omega, by omega⟩
        clear hmp hmk0
        go_wp2_with fail
        refine (show Calls _ _ _ _ _ from BG.out).mono ?_
        clear BG
        rintro e w3 ⟨q, rfl, HT3⟩
        have hq2 := eqT_some ⟨q, 0, none⟩
        go_wp2
        obtain ⟨g, HG⟩ : ∃ g, Hid (w3.heap.size = g) := ⟨_, rfl⟩
        rw [HG.out]
        go_loopw [13] (fun x w4 => ∃ j, x = .int .i64 ((j : Nat) : Int) ∧ j ≤ 4096 ∧ Hid (Mp w4 g (.slice (some ⟨g, 0, none⟩) 4096 4096) (fil i 4096 j) ∧ Chg (fun _ => False) w3 w4)) (fun x _ => 4096 - (intOf x).toNat)
        case atStart => exact ⟨0, rfl, Nat.zero_le _, by rw [fil_zero]; exact HMP.out _ _ (heap_new' HG.out.symm), Chg.alloc _ _ _⟩
        case round =>
          obtain ⟨j, rfl, hj, HJ⟩ := hrel
          by_cases hjz : j < 4096
          · have kj : (j : Int) < (4096 : Int) := by omega
            obtain ⟨cj1, cj2⟩ := HJ.out.1.cells (j := j) (by rw [fil_len hj]; exact hjz)
            go_wp2
            go_roundw
            case rel =>
              refine ⟨j + 1, by go_num, by omega, ?_, ?_⟩
              · have h := HJ.out.1.set (j := j) (by rw [fil_len hj]; exact hjz) ((i + j / 512 + 1 : Nat) : Int)
                rw [fil_set hjz] at h
                exact h
              · exact HJ.out.2.trans (Chg.setCell (S := fun b => b = g) _ _ _ rfl) (fun i hi e => by have := HG.out; omega)
            case measure => simp [intOf]; omega
          · have kj : ¬ ((j : Int) < (4096 : Int)) := by omega
            obtain rfl : 4096 = j := by omega
            have AP : Hid (∀ wb, Chg (fun _ => False) wr wb → Calls Tryz.prog 17 #[.pointer (some ⟨q, 0, none⟩), PV 0 1 (200 : Nat), Nd.v ⟨kd, lk, zz, e0, e1, e2, e3, e4, e5, e6, e7, on, tw⟩, .slice (some ⟨g, 0, none⟩) 4096 4096] wb fun e w5 => ∃ nd', e = .returned (.tuple #[nd'.v, .int .i64 0]) ∧ Bz Y p.w0 p.bb p.pl p.pr p.g p.n (fun _ => false) w5 ∧ NdB 29 w5 rx ⟨kd, lk, zz, e0, e1, e2, e3, e4, e5, e6, e7, on, tw⟩ ∧ Hid (Ret wr wb w5 (fun r w6 => LgC p Y (fun _ => false) rx (t + 1) q (lrg (i + 8)) ⟨kd, lk, zz, e0, e1, e2, e3, e4, e5, e6, e7, on, tw⟩ nd' r w6))) := fun wb hc => by
              have hb := HJ.out.1.bs.kept hc (fun _ _ _ _ _ h => h)
              rw [fil_all] at hb
              have hc3 := HJ.out.2.trans hc (fun _ _ h => h)
              have hlt : g < wr.heap.size := by
                rcases HJ.out.1 with ⟨e, _⟩ | ⟨c', cur, ty, e, hbk, _⟩
                · cases e
                · exact lt_of_block hbk
              have hzk := HZK.out
              have HA := HT3.out.append 8 (.slice (some ⟨g, 0, none⟩) 4096 4096) (by omega) hzk.1 hc3 hb (fun g' hg => by
                simp [Value.ownBlock] at hg
                subst hg
                exact ⟨by have := HG.out; omega, by have := hc.size; omega⟩)
              refine HA.mono ?_
              rintro e w5 ⟨nd', rfl, hs5, hr⟩
              exact ⟨nd', rfl, HT3.out.bz.sm hs5, (hs5 _ HT3.out.rx.1).trans HT3.out.nd, hr.from HJ.out.2.size⟩
            have hT4 := HT3.out.more HJ.out.2
            obtain ⟨-, d1, d2, d3, -, hbb⟩ := bb_cells hT4.bz
            obtain ⟨f0, f1, f2, f3, f4, f5, f6, f7, f8, f9, f10, f11, f12⟩ := hT4.nd.at
            simp only at f0 f1 f2 f3 f4 f5 f6 f7 f8 f9 f10 f11 f12
            have hrx := hT4.nd.lt
            have HPN : Hid (p.n = 200) := hT4.n
            rw [HPN.out] at d3
            have hne1 : ¬ wr.heap.size = p.bb := by omega
            have hne2 : ¬ wr.heap.size = rx := by omega
            have HC1 : Hid (t + 1 ≤ 1000) := (show t + 1 ≤ 1000 by have := HT.out; omega)
            obtain ⟨ob, hob⟩ : ∃ ob : Obj, (Obj.cells #[.pointer (some ⟨p.pl, 0, none⟩), .int .i64 0, .int .i64 1, .int .i64 (p.n : Int), .pointer (some ⟨p.pr, 0, none⟩)] 45 (0, 0)) = ob := ⟨_, rfl⟩
            obtain ⟨orx, horx⟩ : ∃ orx : Obj, (Obj.cells #[.int .i64 kd, .int .i64 lk, .int .i64 zz, .int .i64 e0, .int .i64 e1, .int .i64 e2, .int .i64 e3, .int .i64 e4, .int .i64 e5, .int .i64 e6, .int .i64 e7, .int .i64 on, .int .i64 tw] 29 (0, 0)) = orx := ⟨_, rfl⟩
            have HOB : Hid (∀ wx, Bz Y p.w0 p.bb p.pl p.pr p.g p.n (fun _ => false) wx → wx.heap[p.bb]? = some ob) := fun wx h => h.bx.trans (by rw [hob])
            have HOR : Hid (∀ wx, NdB 29 wx rx ⟨kd, lk, zz, e0, e1, e2, e3, e4, e5, e6, e7, on, tw⟩ → wx.heap[rx]? = some orx) := fun wx h => h.trans (by rw [horx])
            have kb4 := HOB.out _ hT4.bz
            have kr4 := HOR.out _ hT4.nd
            have HS : ∀ w' : World, w'.heap[p.bb]? = some ob → w'.heap[rx]? = some orx → w'.cell? ⟨p.bb, 1, none⟩ = some (.int .i64 0) ∧ w'.cell? ⟨p.bb, 2, none⟩ = some (.int .i64 1) ∧ w'.cell? ⟨p.bb, 3, none⟩ = some (.int .i64 200) ∧ w'.cell? ⟨rx, 0, none⟩ = some (.int .i64 kd) ∧ w'.cell? ⟨rx, 1, none⟩ = some (.int .i64 lk) ∧ w'.cell? ⟨rx, 2, none⟩ = some (.int .i64 zz) ∧ w'.cell? ⟨rx, 3, none⟩ = some (.int .i64 e0) ∧ w'.cell? ⟨rx, 4, none⟩ = some (.int .i64 e1) ∧ w'.cell? ⟨rx, 5, none⟩ = some (.int .i64 e2) ∧ w'.cell? ⟨rx, 6, none⟩ = some (.int .i64 e3) ∧ w'.cell? ⟨rx, 7, none⟩ = some (.int .i64 e4) ∧ w'.cell? ⟨rx, 8, none⟩ = some (.int .i64 e5) ∧ w'.cell? ⟨rx, 9, none⟩ = some (.int .i64 e6) ∧ w'.cell? ⟨rx, 10, none⟩ = some (.int .i64 e7) ∧ w'.cell? ⟨rx, 11, none⟩ = some (.int .i64 on) ∧ w'.cell? ⟨rx, 12, none⟩ = some (.int .i64 tw) := fun w' h1 h2 => by
              subst hob horx
              rw [HPN.out] at h1
              have hn : NdAt w' rx ⟨kd, lk, zz, e0, e1, e2, e3, e4, e5, e6, e7, on, tw⟩ := NdAt.ofBlk h2
              exact ⟨by rw [cell_of_row _ _ _ _ _ _ h1]; rfl, by rw [cell_of_row _ _ _ _ _ _ h1]; rfl, by rw [cell_of_row _ _ _ _ _ _ h1]; rfl, hn.c0, hn.c1, hn.c2, hn.c3, hn.c4, hn.c5, hn.c6, hn.c7, hn.c8, hn.c9, hn.c10, hn.c11, hn.c12⟩
            unfold PV at AP
            simp only [Nd.v] at AP
            clear d1 d2 d3 f0 f1 f2 f3 f4 f5 f6 f7 f8 f9 f10 f11 f12 hob horx
            clear hT4 hbb hrx HT3 HJ hmk HMP
            go_wp2_with fail
            go_cut [14, 15] from 48 to 107 (fun x14 x15 wc => ∃ r nd', x14 = .pointer (some ⟨r, 0, none⟩) ∧ x15 = .int .i64 0 ∧ NdB 29 wc r nd' ∧ Hid (LgC p Y (fun _ => false) rx (t + 1) q (lrg (i + 8)) ⟨kd, lk, zz, e0, e1, e2, e3, e4, e5, e6, e7, on, tw⟩ nd' r wc))
            case first =>
              go_region_held (fun w' => w'.cell? ⟨p.bb, 1, none⟩ = some (.int .i64 0) ∧ w'.cell? ⟨p.bb, 2, none⟩ = some (.int .i64 1) ∧ w'.cell? ⟨p.bb, 3, none⟩ = some (.int .i64 200) ∧ w'.cell? ⟨rx, 0, none⟩ = some (.int .i64 kd) ∧ w'.cell? ⟨rx, 1, none⟩ = some (.int .i64 lk) ∧ w'.cell? ⟨rx, 2, none⟩ = some (.int .i64 zz) ∧ w'.cell? ⟨rx, 3, none⟩ = some (.int .i64 e0) ∧ w'.cell? ⟨rx, 4, none⟩ = some (.int .i64 e1) ∧ w'.cell? ⟨rx, 5, none⟩ = some (.int .i64 e2) ∧ w'.cell? ⟨rx, 6, none⟩ = some (.int .i64 e3) ∧ w'.cell? ⟨rx, 7, none⟩ = some (.int .i64 e4) ∧ w'.cell? ⟨rx, 8, none⟩ = some (.int .i64 e5) ∧ w'.cell? ⟨rx, 9, none⟩ = some (.int .i64 e6) ∧ w'.cell? ⟨rx, 10, none⟩ = some (.int .i64 e7) ∧ w'.cell? ⟨rx, 11, none⟩ = some (.int .i64 on) ∧ w'.cell? ⟨rx, 12, none⟩ = some (.int .i64 tw)) (exact HS _ (by (repeat' first | with_reducible assumption | with_reducible apply hn_dr | with_reducible apply hn_al | with_reducible apply hn_set)) (by (repeat' first | with_reducible assumption | with_reducible apply hn_dr | with_reducible apply hn_al | with_reducible apply hn_set))) ((go_at_call 17; refine (AP.out _ (by (repeat first | exact Chg.refl _ _ | with_reducible apply Chg.dr | with_reducible apply Chg.al))).mono ?_; rintro e w5 ⟨⟨kd', lk', zz', e0', e1', e2', e3', e4', e5', e6', e7', on', tw'⟩, rfl, bz5, hn5, HR⟩; have kb5 := HOB.out _ bz5; have kr5 := HOR.out _ hn5; have hb5 := lt_of_block bz5.bx; have hr5 := hn5.lt; have hne5 : ¬ w5.heap.size = p.bb := (by omega); have hne6 : ¬ w5.heap.size = rx := (by omega); clear hb5 hr5 bz5 hn5; first | ((with_reducible have hnc := Ret.shC HR.out); obtain ⟨r0, r1, r2, r3, r4, r5, r6, r7, r8, r9, r10, r11, r12⟩ := hnc.at; have fr5 := hnc.fr; simp only [Nd.no] at r0 r1 r2 r3 r4 r5 r6 r7 r8 r9 r10 r11 r12; have hpt := Ret.put HR.out hnc (by omega) (by first | (simp; done) | (simp; omega)) ⟨kd', lk', zz', e0', e1', e2', e3', e4', e5', e6', e7', on', tw'⟩; have HPT : Hid _ := hpt; clear hpt hnc) | skip))
              · go_wp2_with fail
                obtain ⟨P1, P2⟩ := Ret.box1 (m := ⟨kd', lk', zz', e0', e1', e2', e3', e4', e5', e6', e7', on', tw'⟩) HR.out
                go_meet
                exact ⟨_, _, rfl, rfl, P1, P2⟩
              · go_wp2_with fail
                obtain ⟨P1, P2⟩ := HPT.out
                unfold putNd at P1 P2
                simp only at P1 P2
                go_meet
                exact ⟨_, _, rfl, rfl, P1, P2⟩
            case rest =>
              obtain ⟨r, ⟨kd', lk', zz', e0', e1', e2', e3', e4', e5', e6', e7', on', tw'⟩, rfl, rfl, hn5, HL⟩ := hcut
              have CM : Hid _ := HL.out.commit hn5 HC1.out
              clear AP HS HOB HOR kb4 kr4 hne1 hne2 hn5 HL
              go_wp2_with fail
              refine (show Calls _ _ _ _ _ from CM.out).mono ?_
              clear CM
              rintro e w7 ⟨rfl, hn7, hx7, HF⟩
              obtain ⟨f0, f1, f2, f3, f4, f5, f6, f7, f8, f9, f10, f11, f12⟩ := hn7.at
              simp only at f0 f1 f2 f3 f4 f5 f6 f7 f8 f9 f10 f11 f12
              obtain ⟨r0, r1, r2, r3, r4, r5, r6, r7, r8, r9, r10, r11, r12⟩ := hx7.at
              simp only at r0 r1 r2 r3 r4 r5 r6 r7 r8 r9 r10 r11 r12
              have fr7 := hx7.fr
              obtain ⟨P1, P2⟩ := hx7.put ⟨kd', lk', zz', e0', e1', e2', e3', e4', e5', e6', e7', on', tw'⟩
              have HP7 : Hid (LgZ p Y (fun _ => false) rx (i + 8) (t + 1 + 1) ⟨kd', lk', zz', e0', e1', e2', e3', e4', e5', e6', e7', on', tw'⟩ (putNd w7 rx ⟨kd', lk', zz', e0', e1', e2', e3', e4', e5', e6', e7', on', tw'⟩)) := HF.out _ P2 P1
              clear hn7 hx7 HF P1 P2
              go_wp2
              go_roundw
              case rel => exact ⟨t + 1, i + 8, _, by go_num, ⟨by have := HT.out; omega, by have := HT.out; omega⟩, by rw [HZK.out.2]; exact HP7.out⟩
              case measure => simp [intOf]; omega
    · have kin : ¬ ((i : Int) < (n : Int)) := by omega
      have HZ' : Hid (LgZ p Y (fun _ => false) rx n (t + 1) ⟨kd, lk, zz, e0, e1, e2, e3, e4, e5, e6, e7, on, tw⟩ wr) := by
        have := HZ.out
        rw [Nat.min_eq_right (by omega)] at this
        exact this
      obtain ⟨c0, -⟩ := bb_cells HZ'.out.bz
      have BG : Hid (Calls Tryz.prog 11 #[.pointer (some ⟨p.pl, 0, none⟩)] wr fun e w' => ∃ q, e = .returned (.tuple #[.pointer (some ⟨q, 0, none⟩), .int .i64 0]) ∧ Hid (LgT p Y (fun _ => false) rx n (t + 1) q ⟨kd, lk, zz, e0, e1, e2, e3, e4, e5, e6, e7, on, tw⟩ w')) := HZ'.out.begin (by have := HT.out; omega)
      clear HZ HZ' HT
      go_wp2_with fail
      refine (show Calls _ _ _ _ _ from BG.out).mono ?_
      clear BG c0 kin hin
      rintro e w3 ⟨q, rfl, HT3⟩
      have hq2 := eqT_some ⟨q, 0, none⟩
      obtain rfl : zz = 512 * (n : Int) := HT3.out.sz
      go_wp2
      go_loopw [18] (fun x wr => ∃ j, x = .int .i64 ((j : Nat) : Int) ∧ j ≤ n ∧ Hid (LgT p Y (fun _ => false) rx n (t + 1) q ⟨kd, lk, 512 * (n : Int), e0, e1, e2, e3, e4, e5, e6, e7, on, tw⟩ wr)) (fun x _ => n - (intOf x).toNat)
      case atStart => exact ⟨0, rfl, Nat.zero_le _, HT3⟩
      case round =>
        obtain ⟨j, rfl, hj, HL⟩ := hrel
        clear HT3
        by_cases hjn : j < n
        · have kj : (j : Int) < (n : Int) := by omega
          have RD : Hid _ := HL.out.read j hjn n2
          obtain ⟨f0, f1, f2, f3, f4, f5, f6, f7, f8, f9, f10, f11, f12⟩ := HL.out.nd.at
          simp only at f0 f1 f2 f3 f4 f5 f6 f7 f8 f9 f10 f11 f12
          clear HL
          by_cases hj1 : j + 1 < n
          · simp only [if_pos hj1] at RD
            have kj1 : (j : Int) + 1 < (n : Int) := by omega
            have dj1 : decide ((j : Int) + 1 < (n : Int)) = true := by simp; omega
            have kj2 : j + 1 < n := hj1
            have dj2 : decide (j + 1 < n) = true := by simpa using hj1
            go_wp2_with fail
            refine (show Calls _ _ _ _ _ from RD.out).mono ?_
            clear RD f0 f1 f2 f3 f4 f5 f6 f7 f8 f9 f10 f11 f12
            rintro e w4 ⟨g, cu, rfl, c0, c1, HL4⟩
            have c1' := c1 hj1
            clear c1
            go_wp2
            go_roundw
            case rel => exact ⟨j + 1, by go_num, by omega, HL4⟩
            case measure => simp [intOf]; omega
          · simp only [if_neg hj1] at RD
            have kj1 : ¬ ((j : Int) + 1 < (n : Int)) := by omega
            have dj1 : decide ((j : Int) + 1 < (n : Int)) = false := by simp; omega
            have dj2 : decide (j + 1 < n) = false := by simpa using hj1
            go_wp2_with fail
            refine (show Calls _ _ _ _ _ from RD.out).mono ?_
            clear RD f0 f1 f2 f3 f4 f5 f6 f7 f8 f9 f10 f11 f12
            rintro e w4 ⟨g, cu, rfl, c0, c1, HL4⟩
            clear c1
            go_wp2
            go_roundw
            case rel => exact ⟨j + 1, by go_num, by omega, HL4⟩
            case measure => simp [intOf]; omega
        · have kj : ¬ ((j : Int) < (n : Int)) := by omega
          obtain ⟨A, hA⟩ : ∃ A, allM n = A := ⟨_, rfl⟩
          have hA2 : A ≤ 200 := by
            rw [← hA]
            unfold allM innM
            repeat' split
            all_goals omega
          obtain ⟨F, hF⟩ : ∃ F, 200 - A = F := ⟨_, rfl⟩
          have hF1 : 200 - (A : Int) = (F : Int) := by omega
          obtain ⟨z, hz⟩ : ∃ z, Z % (512 * n + 1) = z := ⟨_, rfl⟩
          have hm1 : (Z : Int).tmod (512 * (n : Int) + 1) = (z : Int) := by
            rw [← hz, show (512 * (n : Int) + 1) = ((512 * n + 1 : Nat) : Int) by omega]
            exact Int.ofNat_tmod Z (512 * n + 1)
          have hm2 : (Z : Int) % (512 * (n : Int) + 1) = (z : Int) := by
            rw [← hz, show (512 * (n : Int) + 1) = ((512 * n + 1 : Nat) : Int) by omega]
            rfl
          have hzn : z ≤ 512 * n := by
            have := Nat.mod_lt Z (show 512 * n + 1 > 0 by omega)
            omega
          have AL : Hid (∀ (m : Nat) (y : Int) (wx : World), y = (m : Int) → m ≤ 100000 → Calls Tryz.prog 18 #[.int .i64 y] wx fun e w' => e = .returned (.int .i64 ((allM (blkC m) : Nat) : Int)) ∧ Hid (Chg (fun _ => False) wx w')) := fun m y wx hy hm => by
            subst hy
            refine (all_any (m : Int) wx).mono ?_
            rintro e w' ⟨rfl, hc⟩
            exact ⟨by rw [(allN_blk (s := m) (by omega)).1], hc⟩
          have AL1 : Hid (∀ wx, Calls Tryz.prog 18 #[.int .i64 (512 * (n : Int))] wx fun e w' => e = .returned (.int .i64 (A : Int)) ∧ Hid (Chg (fun _ => False) wx w')) := fun wx => by
            have := AL.out (512 * n) (512 * (n : Int)) wx (by omega) (by omega)
            rw [lrgM, hA] at this
            exact this
          obtain ⟨-, d1, d2, d3, -, -⟩ := bb_cells HL.out.bz
          rw [HL.out.n] at d3
          have FR : Hid _ := HL.out.free
          rw [hA, hF] at FR
          unfold PV at FR
          clear hF hz HL
          go_wp2_with fail
          refine (show Calls _ _ _ _ _ from FR.out).mono ?_
          clear FR d1 d2 d3 kj
          rintro e w4 ⟨rfl, HL4'⟩
          have HL4 : Hid _ := HL4'
          clear HL4'
          obtain ⟨f0, f1, f2, f3, f4, f5, f6, f7, f8, f9, f10, f11, f12⟩ := HL4.out.nd.at
          simp only at f0 f1 f2 f3 f4 f5 f6 f7 f8 f9 f10 f11 f12
          have US : Hid _ := HL4.out.used
          rw [hA] at US
          go_wp2_with fail
          refine (show Calls _ _ _ _ _ from US.out).mono ?_
          clear US HL4 f0 f1 f2 f3 f4 f5 f6 f7 f8 f9 f10 f11 f12
          rintro e w5 ⟨a, cu, rfl, HL5'⟩
          have HL5 : Hid _ := HL5'
          clear HL5'
          go_wp2_with fail
          refine (show Calls _ _ _ _ _ from AL1.out _).mono ?_
          rintro e w6 ⟨rfl, HC6⟩
          go_wp2_with fail
          refine (show Calls _ _ _ _ _ from AL1.out _).mono ?_
          rintro e w7 ⟨rfl, HC7⟩
          have HL7 : Hid _ := (HL5.out.more HC6.out).more HC7.out
          have c2 := HL7.out.nd.at.c2
          simp only at c2
          clear HL5 HC6 HC7 AL1
          have HPN : Hid (p.n = 200) := HL7.out.n
          have hl7 := HL7.out
          obtain ⟨ob, hob⟩ : ∃ ob : Obj, (Obj.cells #[.pointer (some ⟨p.pl, 0, none⟩), .int .i64 0, .int .i64 1, .int .i64 (p.n : Int), .pointer (some ⟨p.pr, 0, none⟩)] 45 (0, 0)) = ob := ⟨_, rfl⟩
          obtain ⟨orx, horx⟩ : ∃ orx : Obj, (Obj.cells #[.int .i64 kd, .int .i64 lk, .int .i64 (512 * (n : Int)), .int .i64 e0, .int .i64 e1, .int .i64 e2, .int .i64 e3, .int .i64 e4, .int .i64 e5, .int .i64 e6, .int .i64 e7, .int .i64 on, .int .i64 tw] 29 (0, 0)) = orx := ⟨_, rfl⟩
          have HOB : Hid (∀ wx, Bz Y p.w0 p.bb p.pl p.pr p.g p.n (fun _ => false) wx → wx.heap[p.bb]? = some ob) := fun wx h => h.bx.trans (by rw [hob])
          have HOR : Hid (∀ wx, NdB 29 wx rx ⟨kd, lk, 512 * (n : Int), e0, e1, e2, e3, e4, e5, e6, e7, on, tw⟩ → wx.heap[rx]? = some orx) := fun wx h => h.trans (by rw [horx])
          have kb4 := HOB.out _ hl7.bz
          have kr4 := HOR.out _ hl7.nd
          have HS : ∀ w' : World, w'.heap[p.bb]? = some ob → w'.heap[rx]? = some orx → w'.cell? ⟨p.bb, 1, none⟩ = some (.int .i64 0) ∧ w'.cell? ⟨p.bb, 2, none⟩ = some (.int .i64 1) ∧ w'.cell? ⟨p.bb, 3, none⟩ = some (.int .i64 200) ∧ w'.cell? ⟨rx, 0, none⟩ = some (.int .i64 kd) ∧ w'.cell? ⟨rx, 1, none⟩ = some (.int .i64 lk) ∧ w'.cell? ⟨rx, 2, none⟩ = some (.int .i64 (512 * (n : Int))) ∧ w'.cell? ⟨rx, 3, none⟩ = some (.int .i64 e0) ∧ w'.cell? ⟨rx, 4, none⟩ = some (.int .i64 e1) ∧ w'.cell? ⟨rx, 5, none⟩ = some (.int .i64 e2) ∧ w'.cell? ⟨rx, 6, none⟩ = some (.int .i64 e3) ∧ w'.cell? ⟨rx, 7, none⟩ = some (.int .i64 e4) ∧ w'.cell? ⟨rx, 8, none⟩ = some (.int .i64 e5) ∧ w'.cell? ⟨rx, 9, none⟩ = some (.int .i64 e6) ∧ w'.cell? ⟨rx, 10, none⟩ = some (.int .i64 e7) ∧ w'.cell? ⟨rx, 11, none⟩ = some (.int .i64 on) ∧ w'.cell? ⟨rx, 12, none⟩ = some (.int .i64 tw) := fun w' h1 h2 => by
            subst hob horx
            rw [HPN.out] at h1
            have hn : NdAt w' rx ⟨kd, lk, 512 * (n : Int), e0, e1, e2, e3, e4, e5, e6, e7, on, tw⟩ := NdAt.ofBlk h2
            exact ⟨by rw [cell_of_row _ _ _ _ _ _ h1]; rfl, by rw [cell_of_row _ _ _ _ _ _ h1]; rfl, by rw [cell_of_row _ _ _ _ _ _ h1]; rfl, hn.c0, hn.c1, hn.c2, hn.c3, hn.c4, hn.c5, hn.c6, hn.c7, hn.c8, hn.c9, hn.c10, hn.c11, hn.c12⟩
          have AP : Hid (∀ wb, Chg (fun _ => False) w7 wb → Calls Tryz.prog 21 #[.pointer (some ⟨q, 0, none⟩), PV 0 1 (200 : Nat), Nd.v ⟨kd, lk, 512 * (n : Int), e0, e1, e2, e3, e4, e5, e6, e7, on, tw⟩, .int .i64 (z : Int)] wb fun e w9 => ∃ nd', e = .returned (.tuple #[nd'.v, .int .i64 0]) ∧ Hid (nd'.sz = (z : Int)) ∧ Bz Y p.w0 p.bb p.pl p.pr p.g p.n (fun _ => false) w9 ∧ NdB 29 w9 rx ⟨kd, lk, 512 * (n : Int), e0, e1, e2, e3, e4, e5, e6, e7, on, tw⟩ ∧ Hid (Ret w7 wb w9 (fun r w6 => LgC p Y (fun _ => false) rx (t + 1) q ((lrg n).take z) ⟨kd, lk, 512 * (n : Int), e0, e1, e2, e3, e4, e5, e6, e7, on, tw⟩ nd' r w6))) := fun wb hc => by
            have HA := hl7.cut z hzn n2 hc
            refine HA.mono ?_
            rintro e w9 ⟨nd', rfl, hsz, hs5, hr⟩
            exact ⟨nd', rfl, hsz, hl7.bz.sm hs5, (hs5 _ hl7.rx.1).trans hl7.nd, hr⟩
          have hb7 := lt_of_block kb4
          have hr7 := lt_of_block kr4
          have hne1 : ¬ w7.heap.size = p.bb := by omega
          have hne2 : ¬ w7.heap.size = rx := by omega
          unfold PV at AP
          simp only [Nd.v] at AP
          clear hl7 HL7 hob horx hb7 hr7
          go_wp2_with fail
          go_cut [26, 27] (fun x26 x27 wc => ∃ r nd', x26 = .pointer (some ⟨r, 0, none⟩) ∧ x27 = .int .i64 0 ∧ NdB 29 wc r nd' ∧ Hid (nd'.sz = (z : Int) ∧ LgC p Y (fun _ => false) rx (t + 1) q ((lrg n).take z) ⟨kd, lk, 512 * (n : Int), e0, e1, e2, e3, e4, e5, e6, e7, on, tw⟩ nd' r wc))
          case first =>
            go_region_held (fun w' => w'.cell? ⟨p.bb, 1, none⟩ = some (.int .i64 0) ∧ w'.cell? ⟨p.bb, 2, none⟩ = some (.int .i64 1) ∧ w'.cell? ⟨p.bb, 3, none⟩ = some (.int .i64 200) ∧ w'.cell? ⟨rx, 0, none⟩ = some (.int .i64 kd) ∧ w'.cell? ⟨rx, 1, none⟩ = some (.int .i64 lk) ∧ w'.cell? ⟨rx, 2, none⟩ = some (.int .i64 (512 * (n : Int))) ∧ w'.cell? ⟨rx, 3, none⟩ = some (.int .i64 e0) ∧ w'.cell? ⟨rx, 4, none⟩ = some (.int .i64 e1) ∧ w'.cell? ⟨rx, 5, none⟩ = some (.int .i64 e2) ∧ w'.cell? ⟨rx, 6, none⟩ = some (.int .i64 e3) ∧ w'.cell? ⟨rx, 7, none⟩ = some (.int .i64 e4) ∧ w'.cell? ⟨rx, 8, none⟩ = some (.int .i64 e5) ∧ w'.cell? ⟨rx, 9, none⟩ = some (.int .i64 e6) ∧ w'.cell? ⟨rx, 10, none⟩ = some (.int .i64 e7) ∧ w'.cell? ⟨rx, 11, none⟩ = some (.int .i64 on) ∧ w'.cell? ⟨rx, 12, none⟩ = some (.int .i64 tw)) (exact HS _ (by (repeat' first | with_reducible assumption | with_reducible apply hn_dr | with_reducible apply hn_al | with_reducible apply hn_set)) (by (repeat' first | with_reducible assumption | with_reducible apply hn_dr | with_reducible apply hn_al | with_reducible apply hn_set))) ((go_at_call 21; refine (AP.out _ (by (repeat first | exact Chg.refl _ _ | with_reducible apply Chg.dr | with_reducible apply Chg.al))).mono ?_; rintro e w9 ⟨⟨kd', lk', zz', e0', e1', e2', e3', e4', e5', e6', e7', on', tw'⟩, rfl, HSZ, bz5, hn5, HR⟩; have kb5 := HOB.out _ bz5; have kr5 := HOR.out _ hn5; have hb5 := lt_of_block bz5.bx; have hr5 := hn5.lt; have hne5 : ¬ w9.heap.size = p.bb := (by omega); have hne6 : ¬ w9.heap.size = rx := (by omega); clear hb5 hr5 bz5 hn5; first | ((with_reducible have hnc := Ret.shC HR.out); obtain ⟨r0, r1, r2, r3, r4, r5, r6, r7, r8, r9, r10, r11, r12⟩ := hnc.at; have fr5 := hnc.fr; simp only [Nd.no] at r0 r1 r2 r3 r4 r5 r6 r7 r8 r9 r10 r11 r12; have hpt := Ret.put HR.out hnc (by omega) (by first | (simp; done) | (simp; omega)) ⟨kd', lk', zz', e0', e1', e2', e3', e4', e5', e6', e7', on', tw'⟩; have HPT : Hid _ := hpt; clear hpt hnc) | skip))
            · go_wp2_with fail
              obtain ⟨P1, P2⟩ := Ret.box1 (m := ⟨kd', lk', zz', e0', e1', e2', e3', e4', e5', e6', e7', on', tw'⟩) HR.out
              go_meet
              exact ⟨_, _, rfl, rfl, P1, HSZ.out, P2⟩
            · go_wp2_with fail
              obtain ⟨P1, P2⟩ := HPT.out
              unfold putNd at P1 P2
              simp only at P1 P2
              go_meet
              exact ⟨_, _, rfl, rfl, P1, HSZ.out, P2⟩
          case rest =>
            obtain ⟨r, ⟨kd', lk', zz', e0', e1', e2', e3', e4', e5', e6', e7', on', tw'⟩, rfl, rfl, hn5, HQ⟩ := hcut
            obtain rfl : zz' = (z : Int) := HQ.out.1
            have bzc := HQ.out.2.st
            obtain ⟨s', L', hin', -⟩ := bzc
            obtain ⟨-, d1, d2, d3, -, -⟩ := bb_cells hin'.bz
            rw [HPN.out] at d3
            have FR : Hid _ := HQ.out.2.free hzn hn5 HP.out
            obtain ⟨A3, hA3⟩ : ∃ A3, allM (blkC z) = A3 := ⟨_, rfl⟩
            have hA4 : A3 ≤ 200 := by
              have : A3 ≤ allM n := by rw [← hA3]; exact allM_mono (by unfold blkC; omega)
              omega
            obtain ⟨F3, hF3⟩ : ∃ F3, 200 - A3 = F3 := ⟨_, rfl⟩
            have hF4 : 200 - (A3 : Int) = (F3 : Int) := by omega
            rw [hA3, hF3] at FR
            unfold PV at FR
            simp only at FR
            have AL3 : Hid _ := AL.out z (z : Int)
            rw [hA3] at AL3
            clear AP HS HOB HOR kb4 kr4 hne1 hne2 hin' AL hn5 HQ hA3 hF3 hA hm1 hm2
            go_wp2_with fail
            refine (show Calls _ _ _ _ _ from FR.out).mono ?_
            clear FR d1 d2 d3
            rintro e w10 ⟨rfl, c10, HCW⟩
            go_wp2_with fail
            refine (show Calls _ _ _ _ _ from AL3.out w10 (by trivial) (by omega)).mono ?_
            rintro e w11 ⟨rfl, HC11⟩
            go_wp2
            go_ret
            exact ⟨rfl, HC.out.trans (HCW.out.trans HC11.out (fun _ _ h => h)) (fun _ _ h => h)⟩
end Go.Proofs.YtncaopdiplfjeaaGreat

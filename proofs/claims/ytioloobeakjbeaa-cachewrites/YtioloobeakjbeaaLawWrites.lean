/-
  CacheWrites answers true.
-/
import Derived.Test.YtioloobeakjbeaaNums
namespace Go.Proofs.Ytioloobeakjbeaa
open Go.RowKit Go.Maps

open Writes

set_option maxHeartbeats 6400000 in
set_option maxRecDepth 100000 in
theorem law_writes (sz : Int) (v1 v2 : Value) (l1 l2 : List Int) (w : World) (hv1 : Is w v1 l1) (hv2 : Is w v2 l2) : Calls Try.prog 8 #[.int .i64 sz, v1, v2] w fun e w' => e = .returned (.bool true) ∧ Chg (fun _ => False) w w' := by
  obtain ⟨va1, vc1, hvf1, _⟩ := hv1.form
  obtain ⟨va2, vc2, hvf2, _⟩ := hv2.form
  subst hvf1 hvf2
  have HV : Hid (Is w (.slice va1 l1.length vc1) l1 ∧ Is w (.slice va2 l2.length vc2) l2) := ⟨hv1, hv2⟩
  clear hv1 hv2
  go_enter Try.func8, Try.ntmps8
  go_wp2_with fail
  refine (known_any w).mono ?_
  rintro e w0 ⟨rfl, hc0⟩
  have HC0 : Hid (Chg (fun _ => False) w w0) := hc0
  clear hc0
  by_cases hbad : sz < 1 ∨ 10 < sz ∨ 60 < l1.length ∨ 60 < l2.length
  · by_cases b1 : sz < 1
    · have k1 : decide (sz < 1) = true := by simpa using b1
      clear hbad b1
      go_wp2
      go_ret
      exact ⟨rfl, HC0.out⟩
    have k1 : decide (sz < 1) = false := by simpa using b1
    by_cases b2 : 10 < sz
    · have k2 : decide (10 < sz) = true := by simpa using b2
      clear hbad b1 b2
      go_wp2
      go_ret
      exact ⟨rfl, HC0.out⟩
    have k2 : decide (10 < sz) = false := by simpa using b2
    by_cases b3 : 60 < l1.length
    · have k3 : decide ((60 : Int) < (l1.length : Int)) = true := by simp; omega
      clear hbad b1 b2 b3
      go_wp2
      go_ret
      exact ⟨rfl, HC0.out⟩
    have k3 : decide ((60 : Int) < (l1.length : Int)) = false := by simp; omega
    have k4 : decide ((60 : Int) < (l2.length : Int)) = true := by simp; omega
    clear hbad b1 b2 b3
    go_wp2
    go_ret
    exact ⟨rfl, HC0.out⟩
  obtain ⟨size, rfl⟩ := Int.eq_ofNat_of_zero_le (show 0 ≤ sz by omega)
  have k1 : decide ((size : Int) < 1) = false := by simp; omega
  have k2 : decide (10 < (size : Int)) = false := by simp; omega
  have k3 : decide ((60 : Int) < (l1.length : Int)) = false := by simp; omega
  have k4 : decide ((60 : Int) < (l2.length : Int)) = false := by simp; omega
  have hs1 : 0 < size := by omega
  have hs2 : size ≤ 10 := by omega
  have hl1 : l1.length ≤ 60 := by omega
  have hl2 : l2.length ≤ 60 := by omega
  clear hbad
  go_wp2_with fail
  refine (new_ok 16 w0 (by decide) (by decide)).mono ?_
  rintro e w1 ⟨F, p, rfl, h1, hc1, hF⟩
  have H1 : Hid (Dk w1 F p (St.new 16) ∧ Chg (fun _ => False) w0 w1 ∧ ∀ b, F b → w0.heap.size ≤ b) := ⟨h1, hc1, hF⟩
  clear h1 hc1 hF k1 k2 k3 k4
  go_wp2_with fail
  refine (cnew_ok p size 16 w1 hs1 (by omega) (by decide)).mono ?_
  rintro e w2 ⟨c, G, m, r, nd, rfl, h2, hc2, hG⟩
  have h20 := Cc.start H1.out.1 H1.out.2.1 H1.out.2.2 h2 hc2 hG
  have hs0 := HC0.out.size
  have H2 : Hid (Cc w2 F G c p (St.new 16) (Ca.new size) ∧ Nw F G w w2) := ⟨h20.1, HC0.out.trans h20.2.chg (fun _ _ h => h), fun b hb => by have := h20.2.f b hb; omega⟩
  have hq := eq32_some' ⟨c, 0, none⟩
  clear h2 hc2 hG H1 h20 hs0
  go_wp2_with fail
  go_loopg [11] (l2.length) (fun gg x wr => ∃ (j : Nat) (F G : Nat → Prop) (C : Ca), j ≤ l2.length ∧ x = .int .i64 (j : Int) ∧ l2.length - j ≤ gg ∧ Hid (Cc wr F G c p (St.new 16) C ∧ Nw F G w wr ∧ Inv size (St.new 16) C ∧ (∀ i ∈ C.L, i.dirty = false) ∧ C.hits + C.misses ≤ j ∧ C.evicted ≤ j))
  case atStart => exact ⟨0, F, G, _, Nat.zero_le _, rfl, by omega, H2.out.1, H2.out.2, Inv.new, fun i hi => (List.not_mem_nil hi).elim, Nat.le_refl _, Nat.le_refl _⟩
  case round =>
    clear H2
    obtain ⟨j, F, G, C, hj, rfl, hgg, HX⟩ := hrel
    by_cases hlt : j < l2.length
    · have k1 : decide ((j : Int) < (l2.length : Int)) = true := by simp; omega
      have k1' : (j : Int) < (l2.length : Int) := by omega
      obtain ⟨vb, vo, hva, hcs⟩ := (HV.out.2.kept HX.out.2.1.chg (fun _ _ h => h)).nth hlt
      have hcell := hcs j hlt
      subst hva
      generalize l2.getD j 0 = x at *
      obtain ⟨n, hn⟩ : ∃ n : Nat, x % 16 = (n : Int) := ⟨(x % 16).toNat, by omega⟩
      have hn16 : n < 16 := by omega
      have hand : bits .and .i64 x 15 = (n : Int) := by rw [and15, hn]
      obtain ⟨C', hget, hinv, hcl, hcnt, hev⟩ := HX.out.2.2.1.get HX.out.1.wf.2 HX.out.2.2.2.1 hn16
      have HG : Hid (_root_.Go.Proofs.Ytioloobeakjbeaa.get (St.new 16) C n = ⟨0, St.new 16, C'⟩ ∧ Inv size (St.new 16) C' ∧ (∀ i ∈ C'.L, i.dirty = false) ∧ C'.hits + C'.misses ≤ j + 1 ∧ C'.evicted ≤ j + 1) := ⟨hget, hinv, hcl, by have := HX.out.2.2.2.2; omega, by have := HX.out.2.2.2.2; omega⟩
      have hb := HX.out.2.2.2.2
      clear hcs hget hinv hcl hcnt hev hn
      go_wp2_with fail
      refine (get_any F G c p (St.new 16) C n wr HX.out.1 (by decide) (by omega) (by omega)).mono ?_
      rintro e w3 ⟨u3, F3, G3, rfl, h3, g3, _, _⟩
      rw [HG.out.1] at h3 ⊢
      have H3 : Hid (Cc w3 F3 G3 c p (St.new 16) C' ∧ Nw F3 G3 w w3) := ⟨h3, HX.out.2.1.to g3⟩
      clear h3 g3 hcell hand
      go_wp2
      go_roundg (l2.length - (j + 1))
      case measure => omega
      case rel => exact ⟨j + 1, F3, G3, C', by omega, by go_num, Nat.le_refl _, H3.out.1, H3.out.2, HG.out.2⟩
    · have hje : j = l2.length := by omega
      subst hje
      have k1 : decide ((l2.length : Int) < (l2.length : Int)) = false := by simp
      obtain ⟨S1, hfe, hp1, hw1, hnb1, hwr1, _, _⟩ := flush_ok (Pw.new 16) HX.out.1.wf.1 HX.out.1.wf.2
      have hd0 : C.dirties 16 = [] := by
        unfold Ca.dirties
        rw [List.filter_eq_nil_iff]
        intro n _ hd
        obtain ⟨i, hi, _, e⟩ := mem_isDirty.1 hd
        rw [HX.out.2.2.2.1 i hi] at e; cases e
      have hwr0 : S1.writes = 0 := by rw [hwr1]; show 0 + (C.dirties 16).length = 0; rw [hd0]; rfl
      have HI : Hid (flush (St.new 16) C = ⟨0, S1, C.clean⟩ ∧ Inv size S1 C.clean ∧ S1.writes = 0 ∧ C.clean.hits + C.clean.misses ≤ 60 ∧ C.clean.evicted ≤ 60) := by
        refine ⟨hfe, ⟨hp1, hnb1, HX.out.2.2.1.size, fun i hi => ?_⟩, hwr0, by have := HX.out.2.2.2.2; show C.hits + C.misses ≤ 60; omega, by have := HX.out.2.2.2.2; show C.evicted ≤ 60; omega⟩
        obtain ⟨k, hk, rfl⟩ := List.mem_map.1 hi
        exact HX.out.2.2.1.pins k hk
      clear hfe hp1 hw1 hnb1 hwr1 hd0 hwr0
      go_wp2_with fail
      refine (writes_any F p (St.new 16) wr HX.out.1.dk).mono ?_
      rintro e w3 ⟨rfl, rfl⟩
      rw [show (((St.new 16).writes : Nat) : Int) = 0 from rfl]
      go_wp2_with fail
      refine (flush_any F G c p (St.new 16) C w3 HX.out.1 (by decide)).mono ?_
      rintro e w4 ⟨rfl, F4, G4, h4, g4⟩
      rw [HI.out.1] at h4 ⊢
      have H4 : Hid (Cc w4 F4 G4 c p S1 C.clean ∧ Nw F4 G4 w w4) := ⟨h4, HX.out.2.1.to g4⟩
      clear h4 g4 HX
      go_wp2_with fail
      refine (writes_any F4 p S1 w4 H4.out.1.dk).mono ?_
      rintro e w5 ⟨rfl, rfl⟩
      rw [HI.out.2.2.1]
      go_wp2_with fail
      go_loopg [12, 13, 14, 15, 16, 17, 18, 19, 20, 21, 22] (l1.length) (fun gg x _ _ _ _ _ _ _ _ _ _ wr => ∃ (j : Nat) (F G : Nat → Prop) (S : St) (C : Ca), j ≤ l1.length ∧ x = .int .i64 (j : Int) ∧ l1.length - j ≤ gg ∧ Hid (Cc wr F G c p S C ∧ Nw F G w wr ∧ Inv size S C ∧ C.hits + C.misses ≤ 60 + j ∧ C.evicted ≤ 60 + j ∧ S.writes ≤ j))
      case atStart => exact ⟨0, F4, G4, S1, C.clean, Nat.zero_le _, rfl, by omega, H4.out.1, H4.out.2, HI.out.2.1, HI.out.2.2.2.1, HI.out.2.2.2.2, by rw [HI.out.2.2.1]; exact Nat.le_refl _⟩
      case round =>
        clear H4 HI
        obtain ⟨j, F, G, S, C, hj, rfl, hgg, HX⟩ := hrel
        by_cases hlt : j < l1.length
        · have k1 : decide ((j : Int) < (l1.length : Int)) = true := by simp; omega
          have k1' : (j : Int) < (l1.length : Int) := by omega
          obtain ⟨vb, vo, hva, hcs⟩ := (HV.out.1.kept HX.out.2.1.chg (fun _ _ h => h)).nth hlt
          have hcell := hcs j hlt
          subst hva
          generalize l1.getD j 0 = x at *
          obtain ⟨n, hn⟩ : ∃ n : Nat, x % 16 = (n : Int) := ⟨(x % 16).toNat, by omega⟩
          have hn16 : n < 16 := by omega
          have hand : bits .and .i64 x 15 = (n : Int) := by rw [and15, hn]
          have hb := HX.out.2.2.2
          obtain ⟨m, r, ls, nd, hck⟩ := HX.out.1
          have HK : Hid (Ck wr F G c p S C m r ls nd ∧ S.nb = 16) := ⟨hck, HX.out.2.2.1.nb⟩
          clear hcs hn hck
          go_wp2_with fail
          refine (writes_any F p S wr HK.out.1.dk).mono ?_
          rintro e w3 ⟨rfl, rfl⟩
          clear hcell hand
          go_wp2_with fail
          refine (dirty_any G c p S.nb C m r ls nd w3 HK.out.1.ca).mono ?_
          rintro e w4 ⟨v4, rfl, ho4, hc4⟩
          rw [HK.out.2] at ho4
          obtain ⟨a4, cp4, hv4⟩ := own_slice ho4
          have K4 : Hid (Ck w4 F G c p S C m r ls nd ∧ Nw F G w w4) := ⟨⟨HK.out.1.dk.kept hc4 (fun _ _ h => h), HK.out.1.ca.kept hc4 (fun _ _ h => h), HK.out.1.no⟩, HX.out.2.1.more hc4⟩
          subst hv4
          clear ho4 hc4
          go_wp2_with fail
          refine (stats_any G c p S.nb C m r ls nd w4 K4.out.1.ca).mono ?_
          rintro e w5 ⟨rfl, q5, hw5⟩
          have c5 : Chg (fun _ => False) w4 w5 := by rw [hw5]; exact Chg.drewN _ _ _
          have K5 : Hid (Cc w5 F G c p S C ∧ Nw F G w w5) := ⟨⟨m, r, ls, nd, K4.out.1.dk.kept c5 (fun _ _ h => h), K4.out.1.ca.kept c5 (fun _ _ h => h), K4.out.1.no⟩, K4.out.2.more c5⟩
          clear hw5 c5 K4 HK
          go_wp2_with fail
          refine (full_any _ [_] _ (Bs.one w5 _) (by show 1 ≤ _; decide)).mono ?_
          rintro e w6 ⟨u, rfl, fr⟩
          obtain ⟨ua, uc, rfl, hu⟩ := fr.form
          obtain ⟨B, hBl, fr⟩ : ∃ B : List Int, B.length = 512 ∧ Fresh _ w6 (.slice ua 512 uc) B := ⟨_, full_len _, fr⟩
          have N6 := K5.out.1.full (Chg.alloc (fun _ => False) w5 _) fr
          have H6 : Hid (Cc w6 F G c p S C ∧ Bs w6 (.slice ua 512 uc) B ∧ (∀ g, (Value.slice ua 512 uc).ownBlock = some g → ¬ F g ∧ ¬ G g) ∧ Nw F G w w6) := ⟨N6.1, N6.2.1, N6.2.2.1, K5.out.2.more N6.2.2.2⟩
          obtain ⟨S', C', hput, hinv, hdir, hcnt, dd, ee, hwr, hevv, hde, he1⟩ := HX.out.2.2.1.put HX.out.1.wf.2 hn16 hBl
          have HP : Hid (_root_.Go.Proofs.Ytioloobeakjbeaa.put S C n B = ⟨0, S', C'⟩ ∧ Inv size S' C' ∧ (C'.dirties 16).length ≤ (C.dirties 16).length + 1 ∧ C'.hits + C'.misses = C.hits + C.misses + 1 ∧ S'.writes = S.writes + dd ∧ C'.evicted = C.evicted + ee ∧ dd ≤ ee ∧ ee ≤ 1) := ⟨hput, hinv, hdir, hcnt, hwr, hevv, hde, he1⟩
          clear fr N6 K5 hput hinv hdir hcnt hwr hevv hde he1
          go_wp2_with fail
          refine (put_any F G c p S C n _ B w6 H6.out.1 H6.out.2.1 H6.out.2.2.1 (by omega) (by omega) (by omega)).mono ?_
          rintro e w7 ⟨rfl, F7, G7, h7, g7⟩
          rw [HP.out.1] at h7 ⊢
          obtain ⟨m7, r7, ls7, nd7, h7⟩ := h7
          have H7 : Hid (Ck w7 F7 G7 c p S' C' m7 r7 ls7 nd7 ∧ Nw F7 G7 w w7 ∧ S'.nb = 16) := ⟨h7, H6.out.2.2.2.to g7, HP.out.2.1.nb⟩
          clear h7 g7 H6 hu
          go_wp2_with fail
          refine (stats_any G7 c p S'.nb C' m7 r7 ls7 nd7 w7 H7.out.1.ca).mono ?_
          rintro e w8 ⟨rfl, q8, hw8⟩
          have c8 : Chg (fun _ => False) w7 w8 := by rw [hw8]; exact Chg.drewN _ _ _
          have H8 : Hid (Ck w8 F7 G7 c p S' C' m7 r7 ls7 nd7 ∧ Nw F7 G7 w w8) := ⟨⟨H7.out.1.dk.kept c8 (fun _ _ h => h), H7.out.1.ca.kept c8 (fun _ _ h => h), H7.out.1.no⟩, H7.out.2.1.more c8⟩
          clear hw8 c8
          go_wp2_with fail
          refine (writes_any F7 p S' w8 H8.out.1.dk).mono ?_
          rintro e w9 ⟨rfl, rfl⟩
          obtain ⟨p1, p2, p3, p4, p5, p6, p7, p8⟩ := HP.out
          have q1 : decide ((S'.writes : Int) - (S.writes : Int) < 0) = false := by simp; omega
          have q2 : decide ((C'.evicted : Int) - (C.evicted : Int) < (S'.writes : Int) - (S.writes : Int)) = false := by simp; omega
          have q3 : decide (1 < (C'.evicted : Int) - (C.evicted : Int)) = false := by simp; omega
          have q4 : decide (((C.dirties 16).length : Int) + 1 < ((C'.dirties 16).length : Int)) = false := by simp; omega
          have r1 : S'.writes < 1000 := by omega
          have r2 : S.writes < 1000 := by omega
          have r3 : C'.evicted < 1000 := by omega
          have r4 : C.evicted < 1000 := by omega
          have r5 : (C.dirties 16).length ≤ 16 := dirties_le C 16
          have r6 : (C'.dirties 16).length ≤ 16 := dirties_le C' 16
          have HR : Hid (C'.hits + C'.misses ≤ 60 + (j + 1) ∧ C'.evicted ≤ 60 + (j + 1) ∧ S'.writes ≤ j + 1) := ⟨by omega, by omega, by omega⟩
          clear p1 p2 p3 p4 p5 p6 p7 p8
          have HD := dirty_any G7 c p S'.nb C' m7 r7 ls7 nd7 w9 H8.out.1.ca
          rw [H7.out.2.2] at HD
          have HDD : Hid _ := HD
          clear HD
          generalize (C'.dirties 16) = D2 at *
          generalize (C.dirties 16).length = d1 at *
          generalize hsw : S'.writes = sw' at *
          generalize hew : C'.evicted = ew' at *
          generalize S.writes = sw at *
          generalize C.evicted = ew at *
          go_wp2_with fail
          refine (show Calls _ _ _ _ _ from HDD.out).mono ?_
          rintro e w10 ⟨v10, rfl, ho10, hc10⟩
          obtain ⟨a10, cp10, hv10⟩ := own_slice ho10
          subst hv10
          have H10 : Hid (Cc w10 F7 G7 c p S' C' ∧ Nw F7 G7 w w10) := ⟨⟨m7, r7, ls7, nd7, H8.out.1.dk.kept hc10 (fun _ _ h => h), H8.out.1.ca.kept hc10 (fun _ _ h => h), H8.out.1.no⟩, H8.out.2.more hc10⟩
          clear ho10 hc10 HDD
          go_wp2
          go_roundg (l1.length - (j + 1))
          case measure => omega
          case rel => exact ⟨j + 1, F7, G7, S', C', by omega, by go_num, Nat.le_refl _, H10.out.1, H10.out.2, HP.out.2.1, HR.out.1, by rw [hew]; exact HR.out.2.1, by rw [hsw]; exact HR.out.2.2⟩
        · have hje : j = l1.length := by omega
          subst hje
          have k1 : decide ((l1.length : Int) < (l1.length : Int)) = false := by simp
          obtain ⟨S1, hfe, hp1, hw1, hnb1, hwr1, _, _⟩ := flush_ok HX.out.2.2.1.pw HX.out.1.wf.1 HX.out.1.wf.2
          rw [HX.out.2.2.1.nb] at hwr1 hnb1
          have hwC1 : C.clean.Wf 16 := by
            have := flush_full HX.out.1.wf.1 HX.out.1.wf.2
            rw [hfe] at this
            have h2 := this.cwf
            rw [HX.out.2.2.1.nb] at h2
            exact h2
          obtain ⟨S2, hfe2, hp2, hw2, hnb2, hwr2, _, _⟩ := flush_ok hp1 hw1 (by rw [hnb1]; exact hwC1)
          rw [hnb1, clean_dirties] at hwr2
          have HI : Hid (flush S C = ⟨0, S1, C.clean⟩ ∧ flush S1 C.clean = ⟨0, S2, C.clean.clean⟩ ∧ S1.writes = S.writes + (C.dirties 16).length ∧ S2.writes = S1.writes ∧ S1.nb = 16 ∧ S2.nb = 16 ∧ S.nb = 16) := ⟨hfe, hfe2, hwr1, hwr2, hnb1, hnb2.trans hnb1, HX.out.2.2.1.nb⟩
          have hb := HX.out.2.2.2
          have hdle := dirties_le C 16
          obtain ⟨m, r, ls, nd, hck⟩ := HX.out.1
          have HK : Hid (Ck wr F G c p S C m r ls nd) := hck
          clear hfe hfe2 hwr1 hwr2 hnb1 hnb2 hp1 hp2 hw1 hw2 hwC1 hck
          go_wp2_with fail
          refine (writes_any F p S wr HK.out.dk).mono ?_
          rintro e w3 ⟨rfl, rfl⟩
          go_wp2_with fail
          refine (dirty_any G c p S.nb C m r ls nd w3 HK.out.ca).mono ?_
          rintro e w4 ⟨v4, rfl, ho4, hc4⟩
          rw [HI.out.2.2.2.2.2.2] at ho4
          obtain ⟨a4, cp4, hv4⟩ := own_slice ho4
          subst hv4
          have H4 : Hid (Cc w4 F G c p S C ∧ Nw F G w w4) := ⟨⟨m, r, ls, nd, HK.out.dk.kept hc4 (fun _ _ h => h), HK.out.ca.kept hc4 (fun _ _ h => h), HK.out.no⟩, HX.out.2.1.more hc4⟩
          clear ho4 hc4 HK
          go_wp2_with fail
          refine (flush_any F G c p S C w4 H4.out.1 (by omega)).mono ?_
          rintro e w5 ⟨rfl, F5, G5, h5, g5⟩
          rw [HI.out.1] at h5 ⊢
          have H5 : Hid (Cc w5 F5 G5 c p S1 C.clean ∧ Nw F5 G5 w w5) := ⟨h5, H4.out.2.to g5⟩
          have hw1 : S1.writes = S.writes + (C.dirties 16).length := HI.out.2.2.1
          have hsz : C.clean.size = size := HX.out.2.2.1.size
          clear h5 g5 H4
          generalize (C.dirties 16).length = d1 at *
          go_wp2_with fail
          refine (writes_any F5 p S1 w5 H5.out.1.dk).mono ?_
          rintro e w6 ⟨rfl, rfl⟩
          rw [hw1]
          go_wp2_with fail
          refine (flush_any F5 G5 c p S1 C.clean w6 H5.out.1 (by rw [hw1]; omega)).mono ?_
          rintro e w7 ⟨rfl, F7, G7, h7, g7⟩
          rw [HI.out.2.1] at h7 ⊢
          have H7 : Hid (Cc w7 F7 G7 c p S2 C.clean.clean ∧ Nw F7 G7 w w7) := ⟨h7, H5.out.2.to g7⟩
          clear h7 g7 H5
          go_wp2_with fail
          refine (writes_any F7 p S2 w7 H7.out.1.dk).mono ?_
          rintro e w8 ⟨rfl, rfl⟩
          rw [HI.out.2.2.2.1, hw1]
          go_wp2_with fail
          obtain ⟨m8, r8, ls8, nd8, h8⟩ := H7.out.1
          refine (held_any G7 c p S2.nb C.clean.clean m8 r8 ls8 nd8 w8 h8.ca).mono ?_
          rintro e w9 ⟨v9, rfl, ho9, hc9⟩
          obtain ⟨a9, cp9, hv9⟩ := own_slice ho9
          subst hv9
          have hle9 : (C.clean.clean.held S2.nb).length ≤ size := by
            have := held_le h8.ca.wf
            have e2 : C.clean.clean.size = size := hsz
            rw [e2] at this
            exact this
          have HE : Hid (Chg (fun _ => False) w w9) := (H7.out.2.more hc9).chg
          clear h8 ho9 hc9 H7 HX HI
          generalize (C.clean.clean.held S2.nb).length = hl9 at *
          have q9 : decide ((hl9 : Int) ≤ (size : Int)) = true := by simp; omega
          go_wp2
          go_ret
          exact ⟨by simp, HE.out⟩
end Go.Proofs.Ytioloobeakjbeaa

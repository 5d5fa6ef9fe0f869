/-
  The document's tree: Rename into another directory, done.
-/
import Derived.Test.YtlnjnimenihhnaaGreatDoorVRen5
import Derived.Test.YtlnjnimenihhnaaGreatDoorVMake2
namespace Go.Proofs.YtlnjnimenihhnaaGreatDoor
open Go.RowKit Go.Maps

set_option maxHeartbeats 6400000 in
set_option maxRecDepth 100000 in
theorem rren_move {r q : Nat} {G : Nat → Prop} {R : Rs} (n1 n2 N1 N2 c1 c2 b1 b2 o1 o2 : Nat) (hN1 : N1 = n1 + 1) (hN2 : N2 = n2 + 1) (hc1 : n1 < c1) (hc2 : n2 < c2) (hn1 : n1 ≤ 1000) (hn2 : n2 ≤ 1000) (w : World) {esT : List En} {k tt ff : Nat} (h : Rt w r q G R) (hto : R.at tt = .dir esT) (l m : Pth) (hl : l.length = N1) (hm : m.length = N2) (hv1 : Tx w (.slice (some ⟨b1, o1, none⟩) N1 c1) l) (hv2 : Tx w (.slice (some ⟨b2, o2, none⟩) N2 c2) m) {esF : List En} {s : Nat} {kn : List ByteArray} {f : ByteArray → Nat} {x y : ByteArray} {kp : Nat} (hff : R.at ff = .dir esF) (cx : w.cell? ⟨b1, o1 + n1, none⟩ = some (.string x)) (cy : w.cell? ⟨b2, o2 + n2, none⟩ = some (.string y)) (hb1r : ¬ b1 = r) (hb1q : ¬ b1 = q) (hb2r : ¬ b2 = r) (hb2q : ¬ b2 = q) (hlT : esT.length ≤ 60000) (hlF : esF.length ≤ 60000) (hlR : R.L.length ≤ 60001) (hbl : 0 ≤ R.bl ∧ R.bl ≤ 10000000000) (hP : pfB l m = false) (hS : smB l m = false) (hkg : ¬ R.at k = .gone) (hne : ¬ ff = tt) (hSl : Sl esT s kn f) (hy : nameB y = true) (hyn : ¬ y ∈ kn) (hPo : Spo esT s kn f y kp) (hf : ¬ R.bl < furB s kn.length) {jx : Nat} (hij : IdxN esF x (jx : Int)) 
    (HL : ∀ w', Below w.heap.size w w' → Calls Tryz.prog 59 #[ptr r, .slice (some ⟨b1, o1, none⟩) N1 c1] w' fun e w'' => e = .returned (.tuple #[.int .i64 (k : Nat), .int .i64 0]) ∧ Below w'.heap.size w' w'')
    (HM : ∀ w', Below w.heap.size w w' → Calls Tryz.prog 59 #[ptr r, .slice (some ⟨b2, o2, none⟩) n2 c2] w' fun e w'' => e = .returned (.tuple #[.int .i64 (tt : Nat), .int .i64 0]) ∧ Below w'.heap.size w' w'')
    (HFm : ∀ w', Below w.heap.size w w' → Calls Tryz.prog 59 #[ptr r, .slice (some ⟨b1, o1, none⟩) n1 c1] w' fun e w'' => e = .returned (.tuple #[.int .i64 (ff : Nat), .int .i64 0]) ∧ Below w'.heap.size w' w'') :
    Calls Tryz.prog 34 #[ptr r, .slice (some ⟨b1, o1, none⟩) N1 c1, .slice (some ⟨b2, o2, none⟩) N2 c2] w fun e w' => e = .returned (.int .i64 0) ∧ Hid (Rto w w' r q G ⟨(R.L.set tt (.dir (puE kp esT y ((k : Int) + 1)))).set ff (.dir (esF.set jx En.fr)), R.bl - furB s kn.length, R.ino⟩) := by
  have HWL : Hid (∀ w', Below w.heap.size w w' → Calls Tryz.prog 59 #[ptr r, .slice (some ⟨b1, o1, none⟩) N1 c1] w' fun e w'' => e = .returned (.tuple #[.int .i64 (k : Nat), .int .i64 0]) ∧ Below w'.heap.size w' w'') := HL
  have HWM : Hid (∀ w', Below w.heap.size w w' → Calls Tryz.prog 59 #[ptr r, .slice (some ⟨b2, o2, none⟩) n2 c2] w' fun e w'' => e = .returned (.tuple #[.int .i64 (tt : Nat), .int .i64 0]) ∧ Below w'.heap.size w' w'') := HM
  have HWF : Hid (∀ w', Below w.heap.size w w' → Calls Tryz.prog 59 #[ptr r, .slice (some ⟨b1, o1, none⟩) n1 c1] w' fun e w'' => e = .returned (.tuple #[.int .i64 (ff : Nat), .int .i64 0]) ∧ Below w'.heap.size w' w'') := HFm
  have i1 : (n1 : Int) < (N1 : Int) := by omega
  have i2 : n1 ≤ N1 := by omega
  have i3 : N1 ≤ c1 := by omega
  have i4 : (n2 : Int) < (N2 : Int) := by omega
  have i5 : n2 ≤ N2 := by omega
  have i6 : N2 ≤ c2 := by omega
  have w7 : (N1 : Int) - 1 = n1 := by omega
  have w8 : ¬ (N1 : Int) = 0 := by omega
  have w9 : ((N1 : Int) == 0) = false := by simp; omega
  have w10 : (N2 : Int) - 1 = n2 := by omega
  have w11 : ¬ (N2 : Int) = 0 := by omega
  have w12 : ((N2 : Int) == 0) = false := by simp; omega
  have w13 : decide ((N1 : Int) = 0) = false := by simp; omega
  have w14 : decide ((N2 : Int) = 0) = false := by simp; omega
  have hNb : N1 ≤ 1001 := by omega
  have hNc : N2 ≤ 1001 := by omega
  have HR : Hid (Rt w r q G R ∧ Tx w (.slice (some ⟨b1, o1, none⟩) N1 c1) l ∧ Tx w (.slice (some ⟨b2, o2, none⟩) N2 c2) m) := ⟨h, hv1, hv2⟩
  have HPS : Hid (pfB l m = false ∧ smB l m = false) := ⟨hP, hS⟩
  have HIX : Hid (IdxN esT y (-1)) := hSl.idxNo (nameB_parts hy).1 hyn
  have hlen := hPo.len 1
  obtain ⟨L, hL⟩ : ∃ L, Hid (max s (kn.length + 1) = L) := ⟨_, rfl⟩
  have hfur := hPo.fur
  have hll := hSl.len
  rw [hL.out] at hlen hfur
  have hL1 : 1 ≤ L ∧ L ≤ 60001 := by
    have := hL.out
    have h2 := (puE_at hPo.le y 1).1
    have h3 : (puE kp esT y 1).length ≤ esT.length + 1 := by unfold puE; split <;> simp
    omega
  have hkR : k ≤ 60000 := by
    have := at_lt (R := R) (k := k) hkg
    omega
  have HPu : Hid (∀ w' v, Es w' v esT → Calls Tryz.prog 61 #[v, .string y, .int .i64 ((k : Int) + 1)] w' fun e w'' => ∃ g uc z, e = .returned (.tuple #[.slice (some ⟨g, 0, none⟩) L uc, .int .i64 z, .int .i64 0]) ∧ Hid (Below w'.heap.size w' w'') ∧ Hid (w''.ownsRow w'.heap.size 116 2 (.slice (some ⟨g, 0, none⟩) L uc) L (ecells (puE kp esT y ((k : Int) + 1))))) := fun w' v hv =>
    (hPo.put v w' ((k : Int) + 1) hv (by omega) (by show decide _ = true; simp; omega)).mono (by
      rintro e w'' ⟨u, z, rfl, hF⟩
      have ho := hF.out.1
      rw [hPo.len, hL.out] at ho
      rcases ho.2 with ⟨_, h0⟩ | ⟨g, cap, cur, rfl, _⟩
      · omega
      · exact ⟨g, cap, z, rfl, hF.out.2, ho⟩)
  have HPL : Hid ((puE kp esT y ((k : Int) + 1)).length = L ∧ kp < (puE kp esT y ((k : Int) + 1)).length) := ⟨(hPo.len _).trans hL.out, (puE_at hPo.le y _).1⟩
  obtain ⟨X1, hX1⟩ : ∃ X, Hid (slB L = X) := ⟨_, rfl⟩
  obtain ⟨X2, hX2⟩ : ∃ X, Hid (slB esT.length = X) := ⟨_, rfl⟩
  have b1' := slB_bd L
  have b2' := slB_bd esT.length
  rw [hX1.out] at b1'
  rw [hX2.out] at b2'
  obtain ⟨v1, v2⟩ := b1'
  obtain ⟨v3, v4⟩ := b2'
  have hfx : Hid (furB s kn.length = X1 - X2) := by
    show _ = _
    rw [← hfur, ← hX1.out, ← hX2.out, hll]
  have hfx' := hfx.out
  obtain ⟨u1, u2⟩ := hbl
  have n9 : ¬ (ff : Int) = tt := by omega
  have n10 : ((ff : Int) == tt) = false := by simp; omega
  have n11 : decide ((ff : Int) = tt) = false := by simp; omega
  have n12 : ¬ R.bl < X1 - X2 := by omega
  have n13 : decide (R.bl < X1 - X2) = false := by simp; omega
  have HNE : Hid (¬ ff = tt) := hne
  have HIJ : Hid (IdxN esF x (jx : Int)) := hij
  have HXX : Hid (w.cell? ⟨b1, o1 + n1, none⟩ = some (.string x)) := cx
  obtain ⟨hml, cc, aT, dT, cL, _, _, _, c3T, hET, _, _⟩ := h.dirAt hto
  obtain ⟨hmf, cc', aF, dF, cL', _, _, _, c3F, hEF, _, _⟩ := h.dirAt hff
  have qT : (tt : Int) < R.L.length := by omega
  have qF : (ff : Int) < R.L.length := by omega
  have HS : Hid (∀ w', Hid (Below w.heap.size w w') → (fun w' => (Hid (Below w.heap.size w w') ∧ w'.cell? ⟨r, 0, none⟩ = some (.slice (some ⟨q, 0, none⟩) R.L.length cc) ∧ w'.cell? ⟨q, tt * 4 + 3, none⟩ = some (.slice aT esT.length dT) ∧ w'.cell? ⟨q, ff * 4 + 3, none⟩ = some (.slice aF esF.length dF) ∧ w'.cell? ⟨b1, o1 + n1, none⟩ = some (.string x) ∧ w'.cell? ⟨b2, o2 + n2, none⟩ = some (.string y) ∧ w'.cell? ⟨r, 1, none⟩ = some (.int .i64 R.bl))) w') := fun w' hb => by
    have hc := Chg.ofBelowC hb.out
    exact ⟨hb, hc.cell cL (fun h => h), hc.cell c3T (fun h => h), hc.cell c3F (fun h => h), hc.cell cx (fun h => h), hc.cell cy (fun h => h), hc.cell h.cB (fun h => h)⟩
  have HE : Hid (Es w (.slice aT esT.length dT) esT ∧ Es w (.slice aF esF.length dF) esF) := ⟨hET, hEF⟩
  have HQ : Hid (¬ b1 = r ∧ ¬ b1 = q ∧ ¬ b2 = r ∧ ¬ b2 = q ∧ R.at ff = .dir esF ∧ R.at tt = .dir esT) := ⟨hb1r, hb1q, hb2r, hb2q, hff, hto⟩
  clear cL cL' c3T c3F hET hEF hff hb1r hb1q hb2r hb2q
  clear HL HM HFm hN1 hN2 h hv1 hv2 hP hS cx cy hkg hne hSl hy hyn hPo hlen hfur hll hfx' hf hij
  go_enter Tryz.func34, Tryz.ntmps34
  go_wp2_with fail
  refine (HWL.out w (Below.refl _ _)).mono ?_
  clear HWL
  rintro e w1 ⟨rfl, B1⟩
  have HB1 : Hid (Below w.heap.size w w1) := B1
  clear B1
  go_wp2_with fail
  refine (HWM.out w1 HB1.out).mono ?_
  clear HWM
  rintro e w2 ⟨rfl, B2⟩
  have HB2 : Hid (Below w.heap.size w w2) := HB1.out.trans (B2.mono HB1.out.size)
  clear B2
  obtain ⟨tl, tc, ta, td, tL, t0, t1, t2, t3, tE, _, _⟩ := (HR.out.1.below HB2.out).dirAt HQ.out.2.2.2.2.2
  have qt : (tt : Int) < R.L.length := by omega
  clear w8 w9 w11 w12 w13 w14
  go_wp2_with fail
  refine (HWF.out w2 HB2.out).mono ?_
  clear HWF tL t0 t1 t2 t3 tE w7 w10
  rintro e w3 ⟨rfl, B3⟩
  have HB3 : Hid (Below w.heap.size w w3) := HB2.out.trans (B3.mono HB2.out.size)
  clear B3
  go_wp2_with fail
  go_loopw [14, 15, 16] (fun u v i wr => ∃ (j : Nat) (p s : Bool), j ≤ N1 ∧ j ≤ N2 ∧ u = .bool p ∧ v = .bool s ∧ i = .int .i64 j ∧ Hid (p = (decide (N1 < N2) && eqk l m j) ∧ s = (decide (N2 = N1) && eqk l m j) ∧ Below w.heap.size w wr)) (fun _ _ i _ => N1 - (intOf i).toNat)
  case atStart => exact ⟨0, _, _, by omega, by omega, rfl, rfl, rfl, by simp [eqk], by rw [eqII]; simp [eqk], HB3.out⟩
  case round =>
    obtain ⟨j, p, s, hj1, hj2, rfl, rfl, rfl, HJ⟩ := hrel
    by_cases hh : j < N1 ∧ j < N2
    · obtain ⟨h1, h2⟩ := hh
      · have q1 : (j : Int) < N1 := by omega
        have q2 : (j : Int) < N2 := by omega
        have g1 := (HR.out.2.1.below HJ.out.2.2).nthV (k := j) (by omega)
        have g2 := (HR.out.2.2.below HJ.out.2.2).nthV (k := j) (by omega)
        obtain ⟨x1, hx1⟩ : ∃ x, Hid (l.getD j ByteArray.empty = x) := ⟨_, rfl⟩
        obtain ⟨x2, hx2⟩ : ∃ x, Hid (m.getD j ByteArray.empty = x) := ⟨_, rfl⟩
        rw [hx1.out] at g1
        rw [hx2.out] at g2
        have hBn : Hid (∀ n, Below w.heap.size w (wr.drewN n)) := fun n => (bN (w1 := wr) (h := (show Hid _ from HJ.out.2.2)) n).out
        have hst := eqk_step l m j (by omega) (by omega)
        rw [hx1.out, hx2.out] at hst
        cases hc : (x1.toList == x2.toList) with
        | true =>
          have HJ2 : Hid (p = (decide (N1 < N2) && eqk l m (j + 1)) ∧ s = (decide (N2 = N1) && eqk l m (j + 1))) := by
            rw [hst, nmEq.1 hc]
            simpa using ⟨HJ.out.1, HJ.out.2.1⟩
          clear hst
          go_wp2_with fail
          go_quiet (fail)
          go_wp2_with fail
          go_roundw
          case rel => exact ⟨j + 1, _, _, by omega, by omega, rfl, rfl, by go_num, HJ2.out.1, HJ2.out.2, hBn.out _⟩
          case measure => simp [intOf]; omega
        | false =>
          have HJ2 : Hid (false = (decide (N1 < N2) && eqk l m (j + 1)) ∧ false = (decide (N2 = N1) && eqk l m (j + 1))) := by
            have : decide (x1 = x2) = false := by simpa using nmNe.1 hc
            rw [hst, this]
            exact ⟨by simp, by simp⟩
          clear hst
          go_wp2_with fail
          go_quiet (fail)
          go_wp2_with fail
          go_roundw
          case rel => exact ⟨j + 1, _, _, by omega, by omega, rfl, rfl, by go_num, HJ2.out.1, HJ2.out.2, hBn.out _⟩
          case measure => simp [intOf]; omega
    · have HF := eqk_fin l m j hl hm hj1 hj2 hh
      have HE : Hid (p = false ∧ s = false ∧ Below w.heap.size w wr) := ⟨HJ.out.1.trans (HF.1.trans HPS.out.1), HJ.out.2.1.trans (HF.2.trans HPS.out.2), HJ.out.2.2⟩
      obtain ⟨rfl, rfl, HB4'⟩ := HE.out
      have HB4 : Hid (Below w.heap.size w wr) := HB4'
      clear HF HE HJ HB4' HB1 HB2 HB3
      go_upto_region 17 with fail
      go_cut [97] (fun u wc => u = .bool false ∧ wc = wr)
      case first =>
        by_cases h1 : j < N1
        · have q1 : (j : Int) < N1 := by omega
          have q2 : ¬ (j : Int) < N2 := by omega
          go_wp2_with fail
          go_meet
          exact ⟨rfl, rfl⟩
        · have q1 : ¬ (j : Int) < N1 := by omega
          go_wp2_with fail
          go_meet
          exact ⟨rfl, rfl⟩
      case rest =>
        obtain ⟨rfl, rfl⟩ := hcut
        have HA : Hid (∀ j, Calls Tryz.prog 60 #[.slice aT esT.length dT, .string y] (wc.drewN j) fun e w'' => e = .returned (.int .i64 (-1)) ∧ w'' = wc.drewN j) := fun j =>
          (rat_any (.slice aT esT.length dT) esT y (wc.drewN j) (HE.out.1.below (bN HB4 j).out) (by omega)).mono (by
            rintro e w' ⟨r', rfl, hr', rfl⟩
            exact ⟨by rw [hr'.out.unique HIX.out], rfl⟩)
        obtain ⟨_, z0, z1, z2, z3, z4, z5⟩ := HS.out wc HB4
        go_wp2_with fail
        go_quiet ((go_at_call 60; exact Calls.quiet_of_same (HA.out _)))
        have HB5 := bN HB4 nq
        generalize wc.drewN nq = w5 at *
        clear HA z0 z1 z2 z3 z4 z5 HB4
        obtain ⟨_, z0, z1, z2, z3, z4, z5⟩ := HS.out w5 HB5
        go_upto_region 43 with fail
        have HPw : Hid (∀ w', Hid (Below w.heap.size w w') → Calls Tryz.prog 61 #[.slice aT esT.length dT, .string y, .int .i64 (IntKind.i64.wrap ((k : Int) + 1))] w' fun e w'' => ∃ g uc z, e = .returned (.tuple #[.slice (some ⟨g, 0, none⟩) L uc, .int .i64 z, .int .i64 0]) ∧ Hid (Below w.heap.size w w'') ∧ Hid (w''.ownsRow w.heap.size 116 2 (.slice (some ⟨g, 0, none⟩) L uc) L (ecells (puE kp esT y ((k : Int) + 1))))) := fun w' hb =>
          by
            have ek : IntKind.i64.wrap ((k : Int) + 1) = (k : Int) + 1 := by rw [IntKind.wrap_i64]; omega
            rw [ek]
            exact (HPu.out w' _ (HE.out.1.below hb.out)).mono (by
              rintro e w'' ⟨g, uc, z, rfl, hB, ho⟩
              exact ⟨g, uc, z, rfl, hb.out.trans (hB.out.mono hb.out.size), own_down ho.out hb.out.size⟩)
        clear HPu z0 z1 z2 z3 z4 z5
        go_region_held (fun w' => (Hid (Below w.heap.size w w') ∧ w'.cell? ⟨r, 0, none⟩ = some (.slice (some ⟨q, 0, none⟩) R.L.length cc) ∧ w'.cell? ⟨q, tt * 4 + 3, none⟩ = some (.slice aT esT.length dT) ∧ w'.cell? ⟨q, ff * 4 + 3, none⟩ = some (.slice aF esF.length dF) ∧ w'.cell? ⟨b1, o1 + n1, none⟩ = some (.string x) ∧ w'.cell? ⟨b2, o2 + n2, none⟩ = some (.string y) ∧ w'.cell? ⟨r, 1, none⟩ = some (.int .i64 R.bl))) (exact HS.out _ (by first | with_reducible assumption | exact bD HB5 | exact bN HB5 _ | exact bD (bN HB5 _)))
          (first | (go_at_call 61; refine (HPw.out _ (by first | with_reducible assumption | exact bD HB5 | exact bN HB5 _ | exact bD (bN HB5 _))).mono ?_; rintro e w6 ⟨g, uc, z, rfl, HB6, HO6⟩))
        go_wp2_with fail
        obtain ⟨_, z0, z1, z2, z3, z4, z5⟩ := HS.out w6 HB6
        have HN1 : Hid (∀ j, Calls Tryz.prog 62 #[.slice (some ⟨g, 0, none⟩) L uc] (w6.drewN j) fun e w'' => e = .returned (.int .i64 X1) ∧ w'' = w6.drewN j) := fun j => by
          have := rneed_any (.slice (some ⟨g, 0, none⟩) L uc) (puE kp esT y ((k : Int) + 1)) (w6.drewN j) ((Es.ofOwns HO6.out).more (Chg.drewN _ _ _)) (by rw [HPL.out.1]; omega)
          rw [HPL.out.1, hX1.out] at this
          exact this
        have HN2 : Hid (∀ j, Calls Tryz.prog 62 #[.slice aT esT.length dT] (w6.drewN j) fun e w'' => e = .returned (.int .i64 X2) ∧ w'' = w6.drewN j) := fun j => by
          have := rneed_any (.slice aT esT.length dT) esT (w6.drewN j) (HE.out.1.below (bN HB6 j).out) (by omega)
          rw [hX2.out] at this
          exact this
        go_quiet (first | (go_at_call 62; exact Calls.quiet_of_same (HN1.out _)) | (go_at_call 62; exact Calls.quiet_of_same (HN2.out _)))
        have HB7 := bN HB6 nq
        have HO7 : Hid ((w6.drewN nq).ownsRow w.heap.size 116 2 (.slice (some ⟨g, 0, none⟩) L uc) L (ecells (puE kp esT y ((k : Int) + 1)))) := HO6.out
        generalize w6.drewN nq = w7 at *
        clear HN1 HN2 z0 z1 z2 z3 z4 z5 HB6 HO6 HPw HB5
        obtain ⟨_, z0, z1, z2, z3, z4, z5⟩ := HS.out w7 HB7
        have R7 : Hid (Rt w7 r q G R) := HR.out.1.below HB7.out
        have hglt : w.heap.size ≤ g ∧ g < w7.heap.size := by
          obtain ⟨g', cap, e, hg, hg2, _⟩ := own_place HO7.out HPL.out.2
          injection e with e1 e2 e3
          injection e1 with e1
          injection e1 with e1
          subst e1
          exact ⟨hg, hg2⟩
        have hlt := HR.out.1.lt
        have hgr : ¬ g = r := by omega
        have hgq : ¬ g = q := by omega
        have fB7 := R7.out.fr 1
        go_upto_region 48 with fail
        obtain ⟨w8, hw8⟩ : ∃ w8, w7.setCell ⟨r, 1, none⟩ (.int .i64 (R.bl - (X1 - X2))) = w8 := ⟨_, rfl⟩
        rw [hw8]
        obtain ⟨_, _, HR8, HC8⟩ := fin_B R7.out (R.bl - (X1 - X2)) w8 hw8
        clear hw8 z0 z1 z2 z3 z4 z5 fB7
        have ho8 := own_farC HO7.out HC8.out hgr
        obtain ⟨c8, a8, d8, s0, s3, sf, sl, HS8⟩ := fin_S HR8.out HQ.out.2.2.2.2.2 ho8 hgr hgq
        have s0' : w8.cell? ⟨r, 0, none⟩ = some (.slice (some ⟨q, 0, none⟩) R.L.length c8) := s0
        clear s0 ho8
        go_upto_region 49 with fail
        obtain ⟨wA, hwA⟩ : ∃ wA, w8.setCell ⟨q, tt * 4 + 3, none⟩ (.slice (some ⟨g, 0, none⟩) L uc) = wA := ⟨_, rfl⟩
        rw [hwA]
        obtain ⟨_, _, _, HR9, HC9⟩ := HS8.out wA hwA
        clear HS8 hwA s0' s3 sf
        obtain ⟨RA, hRA⟩ : ∃ RA, Hid ((⟨R.L.set tt (.dir (puE kp esT y ((k : Int) + 1))), R.bl - (X1 - X2), R.ino⟩ : Rs) = RA) := ⟨_, rfl⟩
        obtain ⟨GA, hGA⟩ : ∃ GA, Hid ((fun b => G b ∨ b = g) = GA) := ⟨_, rfl⟩
        have HRA : Hid (Rt wA r q GA RA) := by rw [← hRA.out, ← hGA.out]; exact HR9.out
        have HAF : Hid (RA.at ff = .dir esF) := by
          show _ = _
          rw [← hRA.out]
          exact (at_other R.L _ HNE.out).trans HQ.out.2.2.2.2.1
        obtain ⟨esA, hesA⟩ : ∃ esA, Hid (esF = esA) := ⟨_, rfl⟩
        rw [hesA.out] at HAF
        have HIA : Hid (IdxN esA x (jx : Int)) := by rw [← hesA.out]; exact HIJ.out
        have HLA : Hid (esA.length ≤ 60000) := by rw [← hesA.out]; exact hlF
        have hc9 : Chg (fun b => b = r ∨ b = q) w wA := (((Chg.ofBelowC HB7.out).mono (fun _ _ h => h.elim)).trans HC8.out (fun _ _ h => .inl h)).trans HC9.out (fun _ _ h => .inr h)
        have HXA : Hid (wA.cell? ⟨b1, o1 + n1, none⟩ = some (.string x)) := hc9.cell HXX.out (fun e => e.elim HQ.out.1 HQ.out.2.1)
        have HGA9 : Hid (Chg (fun b => b = r ∨ b = q) w wA ∧ w.heap.size ≤ g) := ⟨hc9, hglt.1⟩
        clear hc9 HC9 HR9 HC8 HR8 R7 HB7 HO7 hglt
        obtain ⟨fl, fc, fa, fd, fL, _, _, _, f3, fE, _, _⟩ := HRA.out.dirAt HAF.out
        have qA : (ff : Int) < RA.L.length := by omega
        have HSA : Hid (∀ w', Hid (Below wA.heap.size wA w') → (fun w' => (Hid (Below wA.heap.size wA w') ∧ w'.cell? ⟨r, 0, none⟩ = some (.slice (some ⟨q, 0, none⟩) RA.L.length fc) ∧ w'.cell? ⟨q, ff * 4 + 3, none⟩ = some (.slice fa esA.length fd) ∧ w'.cell? ⟨b1, o1 + n1, none⟩ = some (.string x))) w') := fun w' hb => by
          have hc := Chg.ofBelowC hb.out
          exact ⟨hb, hc.cell fL (fun h => h), hc.cell f3 (fun h => h), hc.cell HXA.out (fun h => h)⟩
        have HTA : Hid (∀ w', Hid (Below wA.heap.size wA w') → Calls Tryz.prog 68 #[.slice fa esA.length fd, .string x] w' fun e w'' => ∃ g uc z, e = .returned (.tuple #[.slice (some ⟨g, 0, none⟩) esA.length uc, .int .i64 z, .int .i64 0]) ∧ Hid (Below wA.heap.size wA w'') ∧ Hid (w''.ownsRow wA.heap.size 116 2 (.slice (some ⟨g, 0, none⟩) esA.length uc) esA.length (ecells (esA.set jx En.fr)))) := fun w' hb =>
          (vtake_ok (.slice fa esA.length fd) esA x jx w' (fE.below hb.out) (by have := HLA.out; omega) HIA.out).mono (by
            rintro e w'' ⟨u, rfl, hF⟩
            have ho := own_down hF.out.1 hb.out.size
            rw [List.length_set] at ho
            have hB : Below wA.heap.size wA w'' := hb.out.trans (hF.out.2.mono hb.out.size)
            rcases ho.2 with ⟨_, h0⟩ | ⟨g, cap, cur, rfl, _⟩
            · have := HIA.out.lt
              omega
            · exact ⟨g, cap, _, rfl, hB, ho⟩)
        have HBA : Hid (Below wA.heap.size wA wA) := Below.refl _ _
        clear fL f3 fE fl
        go_upto_region 49 with fail
        go_region_held (fun w' => (Hid (Below wA.heap.size wA w') ∧ w'.cell? ⟨r, 0, none⟩ = some (.slice (some ⟨q, 0, none⟩) RA.L.length fc) ∧ w'.cell? ⟨q, ff * 4 + 3, none⟩ = some (.slice fa esA.length fd) ∧ w'.cell? ⟨b1, o1 + n1, none⟩ = some (.string x))) (exact HSA.out _ (by first | with_reducible assumption | exact bD HBA | exact bN HBA _ | exact bD (bN HBA _)))
          (first | (go_at_call 68; refine (HTA.out _ (by first | with_reducible assumption | exact bD HBA | exact bN HBA _ | exact bD (bN HBA _))).mono ?_; rintro e wB ⟨gB, ucB, zB, rfl, HBB, HOB⟩))
        have hgB : wA.heap.size ≤ gB := by
          obtain ⟨g', cap, e, hg, _⟩ := own_place HOB.out (show jx < (esA.set jx En.fr).length by rw [List.length_set]; exact HIA.out.lt)
          injection e with e1 e2 e3
          injection e1 with e1
          injection e1 with e1
          subst e1
          exact hg
        have hltA := HRA.out.lt
        have hgrB : ¬ gB = r := by omega
        have hgqB : ¬ gB = q := by omega
        obtain ⟨cB, aB, dB, s0, s3, sf, sl, HSB⟩ := fin_S (HRA.out.below HBB.out) HAF.out HOB.out hgrB hgqB
        clear HSA HTA
        go_upto_region 51 with fail
        obtain ⟨wC, hwC⟩ : ∃ wC, wB.setCell ⟨q, ff * 4 + 3, none⟩ (.slice (some ⟨gB, 0, none⟩) esA.length ucB) = wC := ⟨_, rfl⟩
        rw [hwC]
        obtain ⟨t1, tf, _, HRC, HCC⟩ := HSB.out wC hwC
        clear HSB hwC s0 s3 sf t1 tf
        have HZ : Hid (∃ G', Rt wC r q G' ⟨RA.L.set ff (.dir (esA.set jx En.fr)), RA.bl, RA.ino⟩ ∧ (∀ b, G' b → GA b ∨ wA.heap.size ≤ b) ∧ Chg (fun b => b = r ∨ b = q) wA wC) := by
          refine ⟨_, HRC.out, ?_, ?_⟩
          · rintro b (h | rfl)
            · exact .inl h
            · exact .inr hgB
          · exact ((Chg.ofBelowC HBB.out).mono (fun _ _ h => h.elim)).trans HCC.out (fun _ _ h => .inr h)
        clear HRC HCC HBB HOB
        go_wp2_with fail
        go_ret
        obtain ⟨G', j1, j2, j3⟩ := HZ.out
        refine ⟨rfl, ⟨q, G', ?_, .inl rfl, fun b hb => ?_⟩, HGA9.out.1.trans j3 (fun _ _ h => h)⟩
        · rw [← hRA.out, ← hesA.out, ← hfx.out] at j1
          exact j1
        · rcases j2 b hb with h | h
          · rw [← hGA.out] at h
            rcases h with h | rfl
            · exact .inl h
            · exact .inr HGA9.out.2
          · exact .inr (Nat.le_trans HGA9.out.1.size h)
end Go.Proofs.YtlnjnimenihhnaaGreatDoor

namespace Go.Proofs.YtlnjnimenihhnaaGreatDoor
open Go.RowKit Go.Maps

set_option maxHeartbeats 6400000 in
set_option maxRecDepth 100000 in
theorem rren_replace {r q : Nat} {G : Nat → Prop} {R : Rs} (n1 n2 N1 N2 c1 c2 b1 b2 o1 o2 : Nat) (hN1 : N1 = n1 + 1) (hN2 : N2 = n2 + 1) (hc1 : n1 < c1) (hc2 : n2 < c2) (hn1 : n1 ≤ 1000) (hn2 : n2 ≤ 1000) (w : World) {esT : List En} {k tt ff : Nat} (h : Rt w r q G R) (hto : R.at tt = .dir esT) (l m : Pth) (hl : l.length = N1) (hm : m.length = N2) (hv1 : Tx w (.slice (some ⟨b1, o1, none⟩) N1 c1) l) (hv2 : Tx w (.slice (some ⟨b2, o2, none⟩) N2 c2) m) {esF : List En} {_s : Nat} {_kn : List ByteArray} {_f : ByteArray → Nat} {x y : ByteArray} {_kp : Nat} (hff : R.at ff = .dir esF) (cx : w.cell? ⟨b1, o1 + n1, none⟩ = some (.string x)) (cy : w.cell? ⟨b2, o2 + n2, none⟩ = some (.string y)) (hb1r : ¬ b1 = r) (hb1q : ¬ b1 = q) (hb2r : ¬ b2 = r) (hb2q : ¬ b2 = q) (hlT : esT.length ≤ 60000) (_hlF : esF.length ≤ 60000) (_hlR : R.L.length ≤ 60001) (_hbl : 0 ≤ R.bl ∧ R.bl ≤ 10000000000) (hP : pfB l m = false) (hS : smB l m = false) {ix bb : Nat} (hix : IdxN esT y (ix : Int)) (hib : (En.at esT ix).ino = (bb : Int) + 1) (hbb : bb ≤ 60000) (hov : ∀ w', Below w.heap.size w w' → Calls Tryz.prog 69 #[ptr r, .int .i64 (k : Nat), .int .i64 (bb : Nat)] w' fun e w'' => e = .returned (.int .i64 0) ∧ Below w'.heap.size w' w'') {R1 : Rs} {esA : List En} {jx : Nat} (hkR : k ≤ 60000) (hyn : (En.at esT ix).nm = y) (h1t : R1.at tt = .dir esT) (hAA : (⟨R1.L.set tt (.dir (esT.set ix ⟨y, (k : Int) + 1⟩)), R1.bl, R1.ino⟩ : Rs).at ff = .dir esA) (hIA : IdxN esA x (jx : Int)) (hLA : esA.length ≤ 60000)
    (hFR : ∀ w', Below w.heap.size w w' → Calls Tryz.prog 67 #[ptr r, .int .i64 (bb : Nat)] w' fun e w'' => e = .returned (.tuple #[]) ∧ Hid (Rt w'' r q G R1 ∧ Chg (fun b => b = r ∨ b = q) w' w'')) 
    (HL : ∀ w', Below w.heap.size w w' → Calls Tryz.prog 59 #[ptr r, .slice (some ⟨b1, o1, none⟩) N1 c1] w' fun e w'' => e = .returned (.tuple #[.int .i64 (k : Nat), .int .i64 0]) ∧ Below w'.heap.size w' w'')
    (HM : ∀ w', Below w.heap.size w w' → Calls Tryz.prog 59 #[ptr r, .slice (some ⟨b2, o2, none⟩) n2 c2] w' fun e w'' => e = .returned (.tuple #[.int .i64 (tt : Nat), .int .i64 0]) ∧ Below w'.heap.size w' w'')
    (HFm : ∀ w', Below w.heap.size w w' → Calls Tryz.prog 59 #[ptr r, .slice (some ⟨b1, o1, none⟩) n1 c1] w' fun e w'' => e = .returned (.tuple #[.int .i64 (ff : Nat), .int .i64 0]) ∧ Below w'.heap.size w' w'') :
    Calls Tryz.prog 34 #[ptr r, .slice (some ⟨b1, o1, none⟩) N1 c1, .slice (some ⟨b2, o2, none⟩) N2 c2] w fun e w' => e = .returned (.int .i64 0) ∧ Hid (Rto w w' r q G ⟨(R1.L.set tt (.dir (esT.set ix ⟨y, (k : Int) + 1⟩))).set ff (.dir (esA.set jx En.fr)), R1.bl, R1.ino⟩) := by
  have HWL : Hid (∀ w', Below w.heap.size w w' → Calls Tryz.prog 59 #[ptr r, .slice (some ⟨b1, o1, none⟩) N1 c1] w' fun e w'' => e = .returned (.tuple #[.int .i64 (k : Nat), .int .i64 0]) ∧ Below w'.heap.size w' w'') := HL
  have HWM : Hid (∀ w', Below w.heap.size w w' → Calls Tryz.prog 59 #[ptr r, .slice (some ⟨b2, o2, none⟩) n2 c2] w' fun e w'' => e = .returned (.tuple #[.int .i64 (tt : Nat), .int .i64 0]) ∧ Below w'.heap.size w' w'') := HM
  have HWF : Hid (∀ w', Below w.heap.size w w' → Calls Tryz.prog 59 #[ptr r, .slice (some ⟨b1, o1, none⟩) n1 c1] w' fun e w'' => e = .returned (.tuple #[.int .i64 (ff : Nat), .int .i64 0]) ∧ Below w'.heap.size w' w'') := HFm
  have i1 : (n1 : Int) < (N1 : Int) := by omega
  have i2 : n1 ≤ N1 := by omega
  have i3 : N1 ≤ c1 := by omega
  have i4 : (n2 : Int) < (N2 : Int) := by omega
  have i5 : n2 ≤ N2 := by omega
  have i6 : N2 ≤ c2 := by omega
  have w7 : (N1 : Int) - 1 = n1 := by omega
  have w8 : ¬ (N1 : Int) = 0 := by omega
  have w9 : ((N1 : Int) == 0) = false := by simp; omega
  have w10 : (N2 : Int) - 1 = n2 := by omega
  have w11 : ¬ (N2 : Int) = 0 := by omega
  have w12 : ((N2 : Int) == 0) = false := by simp; omega
  have w13 : decide ((N1 : Int) = 0) = false := by simp; omega
  have w14 : decide ((N2 : Int) = 0) = false := by simp; omega
  have hNb : N1 ≤ 1001 := by omega
  have hNc : N2 ≤ 1001 := by omega
  have HR : Hid (Rt w r q G R ∧ Tx w (.slice (some ⟨b1, o1, none⟩) N1 c1) l ∧ Tx w (.slice (some ⟨b2, o2, none⟩) N2 c2) m) := ⟨h, hv1, hv2⟩
  have HPS : Hid (pfB l m = false ∧ smB l m = false) := ⟨hP, hS⟩
  have HIX : Hid (IdxN esT y (ix : Int)) := hix
  have HIB : Hid ((En.at esT ix).ino = (bb : Int) + 1) := hib
  have HOV : Hid (∀ w', Below w.heap.size w w' → Calls Tryz.prog 69 #[ptr r, .int .i64 (k : Nat), .int .i64 (bb : Nat)] w' fun e w'' => e = .returned (.int .i64 0) ∧ Below w'.heap.size w' w'') := hov
  have hbb' : bb ≤ 60000 := hbb
  have HFR : Hid (∀ w', Below w.heap.size w w' → Calls Tryz.prog 67 #[ptr r, .int .i64 (bb : Nat)] w' fun e w'' => e = .returned (.tuple #[]) ∧ Hid (Rt w'' r q G R1 ∧ Chg (fun b => b = r ∨ b = q) w' w'')) := hFR
  have HYN : Hid ((En.at esT ix).nm = y) := hyn
  have H1T : Hid (R1.at tt = .dir esT) := h1t
  have HAA : Hid ((⟨R1.L.set tt (.dir (esT.set ix ⟨y, (k : Int) + 1⟩)), R1.bl, R1.ino⟩ : Rs).at ff = .dir esA) := hAA
  have HIA : Hid (IdxN esA x (jx : Int)) := hIA
  have HLA : Hid (esA.length ≤ 60000) := hLA
  have HXX : Hid (w.cell? ⟨b1, o1 + n1, none⟩ = some (.string x)) := cx
  obtain ⟨hml, cc, aT, dT, cL, _, _, _, c3T, hET, _, _⟩ := h.dirAt hto
  obtain ⟨hmf, cc', aF, dF, cL', _, _, _, c3F, hEF, _, _⟩ := h.dirAt hff
  have qT : (tt : Int) < R.L.length := by omega
  have qF : (ff : Int) < R.L.length := by omega
  have HS : Hid (∀ w', Hid (Below w.heap.size w w') → (fun w' => (Hid (Below w.heap.size w w') ∧ w'.cell? ⟨r, 0, none⟩ = some (.slice (some ⟨q, 0, none⟩) R.L.length cc) ∧ w'.cell? ⟨q, tt * 4 + 3, none⟩ = some (.slice aT esT.length dT) ∧ w'.cell? ⟨q, ff * 4 + 3, none⟩ = some (.slice aF esF.length dF) ∧ w'.cell? ⟨b1, o1 + n1, none⟩ = some (.string x) ∧ w'.cell? ⟨b2, o2 + n2, none⟩ = some (.string y) ∧ w'.cell? ⟨r, 1, none⟩ = some (.int .i64 R.bl))) w') := fun w' hb => by
    have hc := Chg.ofBelowC hb.out
    exact ⟨hb, hc.cell cL (fun h => h), hc.cell c3T (fun h => h), hc.cell c3F (fun h => h), hc.cell cx (fun h => h), hc.cell cy (fun h => h), hc.cell h.cB (fun h => h)⟩
  have HE : Hid (Es w (.slice aT esT.length dT) esT ∧ Es w (.slice aF esF.length dF) esF) := ⟨hET, hEF⟩
  have HQ : Hid (¬ b1 = r ∧ ¬ b1 = q ∧ ¬ b2 = r ∧ ¬ b2 = q ∧ R.at ff = .dir esF ∧ R.at tt = .dir esT) := ⟨hb1r, hb1q, hb2r, hb2q, hff, hto⟩
  clear cL cL' c3T c3F hET hEF hff hb1r hb1q hb2r hb2q
  clear HL HM HFm hN1 hN2 h hv1 hv2 hP hS cx cy hix hib hov hFR hyn h1t hAA hIA hLA
  go_enter Tryz.func34, Tryz.ntmps34
  go_wp2_with fail
  refine (HWL.out w (Below.refl _ _)).mono ?_
  clear HWL
  rintro e w1 ⟨rfl, B1⟩
  have HB1 : Hid (Below w.heap.size w w1) := B1
  clear B1
  go_wp2_with fail
  refine (HWM.out w1 HB1.out).mono ?_
  clear HWM
  rintro e w2 ⟨rfl, B2⟩
  have HB2 : Hid (Below w.heap.size w w2) := HB1.out.trans (B2.mono HB1.out.size)
  clear B2
  obtain ⟨tl, tc, ta, td, tL, t0, t1, t2, t3, tE, _, _⟩ := (HR.out.1.below HB2.out).dirAt HQ.out.2.2.2.2.2
  have qt : (tt : Int) < R.L.length := by omega
  clear w8 w9 w11 w12 w13 w14
  go_wp2_with fail
  refine (HWF.out w2 HB2.out).mono ?_
  clear HWF tL t0 t1 t2 t3 tE w7 w10
  rintro e w3 ⟨rfl, B3⟩
  have HB3 : Hid (Below w.heap.size w w3) := HB2.out.trans (B3.mono HB2.out.size)
  clear B3
  go_wp2_with fail
  go_loopw [14, 15, 16] (fun u v i wr => ∃ (j : Nat) (p s : Bool), j ≤ N1 ∧ j ≤ N2 ∧ u = .bool p ∧ v = .bool s ∧ i = .int .i64 j ∧ Hid (p = (decide (N1 < N2) && eqk l m j) ∧ s = (decide (N2 = N1) && eqk l m j) ∧ Below w.heap.size w wr)) (fun _ _ i _ => N1 - (intOf i).toNat)
  case atStart => exact ⟨0, _, _, by omega, by omega, rfl, rfl, rfl, by simp [eqk], by rw [eqII]; simp [eqk], HB3.out⟩
  case round =>
    obtain ⟨j, p, s, hj1, hj2, rfl, rfl, rfl, HJ⟩ := hrel
    by_cases hh : j < N1 ∧ j < N2
    · obtain ⟨h1, h2⟩ := hh
      · have q1 : (j : Int) < N1 := by omega
        have q2 : (j : Int) < N2 := by omega
        have g1 := (HR.out.2.1.below HJ.out.2.2).nthV (k := j) (by omega)
        have g2 := (HR.out.2.2.below HJ.out.2.2).nthV (k := j) (by omega)
        obtain ⟨x1, hx1⟩ : ∃ x, Hid (l.getD j ByteArray.empty = x) := ⟨_, rfl⟩
        obtain ⟨x2, hx2⟩ : ∃ x, Hid (m.getD j ByteArray.empty = x) := ⟨_, rfl⟩
        rw [hx1.out] at g1
        rw [hx2.out] at g2
        have hBn : Hid (∀ n, Below w.heap.size w (wr.drewN n)) := fun n => (bN (w1 := wr) (h := (show Hid _ from HJ.out.2.2)) n).out
        have hst := eqk_step l m j (by omega) (by omega)
        rw [hx1.out, hx2.out] at hst
        cases hc : (x1.toList == x2.toList) with
        | true =>
          have HJ2 : Hid (p = (decide (N1 < N2) && eqk l m (j + 1)) ∧ s = (decide (N2 = N1) && eqk l m (j + 1))) := by
            rw [hst, nmEq.1 hc]
            simpa using ⟨HJ.out.1, HJ.out.2.1⟩
          clear hst
          go_wp2_with fail
          go_quiet (fail)
          go_wp2_with fail
          go_roundw
          case rel => exact ⟨j + 1, _, _, by omega, by omega, rfl, rfl, by go_num, HJ2.out.1, HJ2.out.2, hBn.out _⟩
          case measure => simp [intOf]; omega
        | false =>
          have HJ2 : Hid (false = (decide (N1 < N2) && eqk l m (j + 1)) ∧ false = (decide (N2 = N1) && eqk l m (j + 1))) := by
            have : decide (x1 = x2) = false := by simpa using nmNe.1 hc
            rw [hst, this]
            exact ⟨by simp, by simp⟩
          clear hst
          go_wp2_with fail
          go_quiet (fail)
          go_wp2_with fail
          go_roundw
          case rel => exact ⟨j + 1, _, _, by omega, by omega, rfl, rfl, by go_num, HJ2.out.1, HJ2.out.2, hBn.out _⟩
          case measure => simp [intOf]; omega
    · have HF := eqk_fin l m j hl hm hj1 hj2 hh
      have HE : Hid (p = false ∧ s = false ∧ Below w.heap.size w wr) := ⟨HJ.out.1.trans (HF.1.trans HPS.out.1), HJ.out.2.1.trans (HF.2.trans HPS.out.2), HJ.out.2.2⟩
      obtain ⟨rfl, rfl, HB4'⟩ := HE.out
      have HB4 : Hid (Below w.heap.size w wr) := HB4'
      clear HF HE HJ HB4' HB1 HB2 HB3
      go_upto_region 17 with fail
      go_cut [97] (fun u wc => u = .bool false ∧ wc = wr)
      case first =>
        by_cases h1 : j < N1
        · have q1 : (j : Int) < N1 := by omega
          have q2 : ¬ (j : Int) < N2 := by omega
          go_wp2_with fail
          go_meet
          exact ⟨rfl, rfl⟩
        · have q1 : ¬ (j : Int) < N1 := by omega
          go_wp2_with fail
          go_meet
          exact ⟨rfl, rfl⟩
      case rest =>
        obtain ⟨rfl, rfl⟩ := hcut
        have HA : Hid (∀ j, Calls Tryz.prog 60 #[.slice aT esT.length dT, .string y] (wc.drewN j) fun e w'' => e = .returned (.int .i64 (ix : Int)) ∧ w'' = wc.drewN j) := fun j =>
          (rat_any (.slice aT esT.length dT) esT y (wc.drewN j) (HE.out.1.below (bN HB4 j).out) (by omega)).mono (by
            rintro e w' ⟨r', rfl, hr', rfl⟩
            exact ⟨by rw [hr'.out.unique HIX.out], rfl⟩)
        obtain ⟨_, z0, z1, z2, z3, z4, z5⟩ := HS.out wc HB4
        go_wp2_with fail
        go_quiet ((go_at_call 60; exact Calls.quiet_of_same (HA.out _)))
        have HB5 := bN HB4 nq
        generalize wc.drewN nq = w5 at *
        clear HA z0 z1 z2 z3 z4 z5 HB4
        obtain ⟨_, z0, z1, z2, z3, z4, z5⟩ := HS.out w5 HB5
        obtain ⟨bT, oT, raT, hcell⟩ := HE.out.1.nth HIX.out.lt
        subst raT
        have cI := (Chg.ofBelowC HB5.out).cell (hcell ix HIX.out.lt).2 (fun h => h)
        rw [show (esT.getD ix En.fr).ino = (bb : Int) + 1 from HIB.out] at cI
        have qi : (ix : Int) < esT.length := by have := HIX.out.lt; omega
        clear hcell
        go_wp2_with fail
        refine (HOV.out w5 HB5.out).mono ?_
        clear HOV z0 z1 z2 z3 z4 z5 cI
        rintro e w6 ⟨rfl, B6⟩
        have HB6 : Hid (Below w.heap.size w w6) := HB5.out.trans (B6.mono HB5.out.size)
        clear B6
        go_wp2_with fail
        refine (HFR.out w6 HB6.out).mono ?_
        clear HFR
        rintro e w7 ⟨rfl, HX⟩
        obtain ⟨hR7, hc7⟩ := HX.out
        obtain ⟨_, c7, a7, d7, L7, _, _, _, S7, E7, _, _⟩ := hR7.dirAt H1T.out
        have q7 : (tt : Int) < R1.L.length := by omega
        have hcW : Chg (fun b => b = r ∨ b = q) w w7 := ((Chg.ofBelowC HB6.out).mono (fun _ _ h => h.elim)).trans hc7 (fun _ _ h => h)
        have hsW : w.heap.size ≤ w7.heap.size := hcW.size
        have B0 : Below w7.heap.size w7 (w7.alloc (.cells #[] 116)) := below_alloc w7 _
        have L7' := (Chg.ofBelowC B0).cell L7 (fun h => h)
        have S7' := (Chg.ofBelowC B0).cell S7 (fun h => h)
        have hv0 := E7.below B0
        have ho := lit_own2 w7 w7.heap.size 116 (Nat.le_refl _)
        have hN0 := B0.size
        have H7 : Hid (Rt w7 r q G R1 ∧ Chg (fun b => b = r ∨ b = q) w w7 ∧ w.heap.size ≤ w7.heap.size) := ⟨hR7, hcW, hsW⟩
        clear HX hR7 hc7 hcW hsW E7
        obtain ⟨i0, hi0, hz0, hz1, hz2⟩ := info_parts infoR2
        go_wp2_with (at_builtin; go_must (refine wpList_app2 rfl _ (.tmp 157) 61 rfl w7.heap.size 116 i0 Tryz.underlying61 hi0 hz0 hz1 hz2 _ _ 0 [] _ rfl ho rfl hv0 ?c1 ?c2 ?next))
        case c1 => simp; omega
        case c2 => exact hN0
        case next =>
          intro u8 w8 hown hB
          have M : w8.ownsRow w7.heap.size 116 2 u8 esT.length (ecells esT) := by simpa using hown
          have B8 := B0.trans hB
          clear hown hB B0 hv0 ho hN0 L7 S7 L7' S7'
          obtain ⟨g, uc, rfl, hg, hg2, _, _, _, _⟩ := own_place M HIX.out.lt
          have hlt := H7.out.1.lt
          have hgr : ¬ g = r := by omega
          have hgq : ¬ g = q := by omega
          have hgG : ¬ G g := fun h => by have := H7.out.1.gl g h; omega
          obtain ⟨iI, y0, y1, HI⟩ := fin_I (H7.out.1.below B8) M HIX.out.lt y HYN.out ((k : Int) + 1) hgr hgq hgG
          have kL : (ix : Int) < esT.length := by have := HIX.out.lt; omega
          have HB8 : Hid (Below w7.heap.size w7 w8) := B8
          clear M B8
          go_upto_region 35 with fail
          obtain ⟨w9, hw9⟩ : ∃ w9, w8.setCell ⟨g, ix * 2 + 1, none⟩ (.int .i64 ((k : Int) + 1)) = w9 := ⟨_, rfl⟩
          rw [hw9]
          obtain ⟨hR9, ho9, hc9⟩ := HI.out w9 hw9
          clear HI y0 y1 hw9
          obtain ⟨c9, a9, d9, s0, s3, sf, sl, HS9⟩ := fin_S hR9 H1T.out ho9 hgr hgq
          have H9 : Hid (Chg (fun b => b = g) w8 w9) := hc9
          clear hR9 ho9 hc9
          go_upto_region 36 with fail
          obtain ⟨wA, hwA⟩ : ∃ wA, w9.setCell ⟨q, tt * 4 + 3, none⟩ (.slice (some ⟨g, 0, none⟩) esT.length uc) = wA := ⟨_, rfl⟩
          rw [hwA]
          obtain ⟨_, _, _, HR9, HC9⟩ := HS9.out wA hwA
          clear HS9 hwA s0 s3 sf
          obtain ⟨RA, hRA⟩ : ∃ RA, Hid ((⟨R1.L.set tt (.dir (esT.set ix ⟨y, (k : Int) + 1⟩)), R1.bl, R1.ino⟩ : Rs) = RA) := ⟨_, rfl⟩
          obtain ⟨GA, hGA⟩ : ∃ GA, Hid ((fun b => G b ∨ b = g) = GA) := ⟨_, rfl⟩
          have HRA : Hid (Rt wA r q GA RA) := by rw [← hRA.out, ← hGA.out]; exact HR9.out
          have HAF : Hid (RA.at ff = .dir esA) := by
            show _ = _
            rw [← hRA.out]
            exact HAA.out
          have hc9 : Chg (fun b => b = r ∨ b = q) w wA := ((H7.out.2.1.trans ((Chg.ofBelowC HB8.out).mono (fun _ _ h => h.elim)) (S' := fun _ => False) (fun _ _ h => h.elim)).trans H9.out (fun i hi e => by have := H7.out.2.2; omega)).trans HC9.out (fun _ _ h => .inr h)
          have HXA : Hid (wA.cell? ⟨b1, o1 + n1, none⟩ = some (.string x)) := hc9.cell HXX.out (fun e => e.elim HQ.out.1 HQ.out.2.1)
          have HGA9 : Hid (Chg (fun b => b = r ∨ b = q) w wA ∧ w.heap.size ≤ g) := ⟨hc9, Nat.le_trans H7.out.2.2 hg⟩
          clear hc9 HC9 HR9 H9 HB8 H7 hg hg2
          obtain ⟨fl, fc, fa, fd, fL, _, _, _, f3, fE, _, _⟩ := HRA.out.dirAt HAF.out
          have qA : (ff : Int) < RA.L.length := by omega
          have HSA : Hid (∀ w', Hid (Below wA.heap.size wA w') → (fun w' => (Hid (Below wA.heap.size wA w') ∧ w'.cell? ⟨r, 0, none⟩ = some (.slice (some ⟨q, 0, none⟩) RA.L.length fc) ∧ w'.cell? ⟨q, ff * 4 + 3, none⟩ = some (.slice fa esA.length fd) ∧ w'.cell? ⟨b1, o1 + n1, none⟩ = some (.string x))) w') := fun w' hb => by
            have hc := Chg.ofBelowC hb.out
            exact ⟨hb, hc.cell fL (fun h => h), hc.cell f3 (fun h => h), hc.cell HXA.out (fun h => h)⟩
          have HTA : Hid (∀ w', Hid (Below wA.heap.size wA w') → Calls Tryz.prog 68 #[.slice fa esA.length fd, .string x] w' fun e w'' => ∃ g uc z, e = .returned (.tuple #[.slice (some ⟨g, 0, none⟩) esA.length uc, .int .i64 z, .int .i64 0]) ∧ Hid (Below wA.heap.size wA w'') ∧ Hid (w''.ownsRow wA.heap.size 116 2 (.slice (some ⟨g, 0, none⟩) esA.length uc) esA.length (ecells (esA.set jx En.fr)))) := fun w' hb =>
            (vtake_ok (.slice fa esA.length fd) esA x jx w' (fE.below hb.out) (by have := HLA.out; omega) HIA.out).mono (by
              rintro e w'' ⟨u, rfl, hF⟩
              have ho := own_down hF.out.1 hb.out.size
              rw [List.length_set] at ho
              have hB : Below wA.heap.size wA w'' := hb.out.trans (hF.out.2.mono hb.out.size)
              rcases ho.2 with ⟨_, h0⟩ | ⟨g, cap, cur, rfl, _⟩
              · have := HIA.out.lt
                omega
              · exact ⟨g, cap, _, rfl, hB, ho⟩)
          have HBA : Hid (Below wA.heap.size wA wA) := Below.refl _ _
          clear fL f3 fE fl
          go_upto_region 36 with fail
          go_region_held (fun w' => (Hid (Below wA.heap.size wA w') ∧ w'.cell? ⟨r, 0, none⟩ = some (.slice (some ⟨q, 0, none⟩) RA.L.length fc) ∧ w'.cell? ⟨q, ff * 4 + 3, none⟩ = some (.slice fa esA.length fd) ∧ w'.cell? ⟨b1, o1 + n1, none⟩ = some (.string x))) (exact HSA.out _ (by first | with_reducible assumption | exact bD HBA | exact bN HBA _ | exact bD (bN HBA _)))
            (first | (go_at_call 68; refine (HTA.out _ (by first | with_reducible assumption | exact bD HBA | exact bN HBA _ | exact bD (bN HBA _))).mono ?_; rintro e wB ⟨gB, ucB, zB, rfl, HBB, HOB⟩))
          have hgB : wA.heap.size ≤ gB := by
            obtain ⟨g', cap, e, hg, _⟩ := own_place HOB.out (show jx < (esA.set jx En.fr).length by rw [List.length_set]; exact HIA.out.lt)
            injection e with e1 e2 e3
            injection e1 with e1
            injection e1 with e1
            subst e1
            exact hg
          have hltA := HRA.out.lt
          have hgrB : ¬ gB = r := by omega
          have hgqB : ¬ gB = q := by omega
          obtain ⟨cB, aB, dB, s0, s3, sf, sl, HSB⟩ := fin_S (HRA.out.below HBB.out) HAF.out HOB.out hgrB hgqB
          clear HSA HTA
          go_upto_region 38 with fail
          obtain ⟨wC, hwC⟩ : ∃ wC, wB.setCell ⟨q, ff * 4 + 3, none⟩ (.slice (some ⟨gB, 0, none⟩) esA.length ucB) = wC := ⟨_, rfl⟩
          rw [hwC]
          obtain ⟨t1, tf, _, HRC, HCC⟩ := HSB.out wC hwC
          clear HSB hwC s0 s3 sf t1 tf
          have HZ : Hid (∃ G', Rt wC r q G' ⟨RA.L.set ff (.dir (esA.set jx En.fr)), RA.bl, RA.ino⟩ ∧ (∀ b, G' b → GA b ∨ wA.heap.size ≤ b) ∧ Chg (fun b => b = r ∨ b = q) wA wC) := by
            refine ⟨_, HRC.out, ?_, ?_⟩
            · rintro b (h | rfl)
              · exact .inl h
              · exact .inr hgB
            · exact ((Chg.ofBelowC HBB.out).mono (fun _ _ h => h.elim)).trans HCC.out (fun _ _ h => .inr h)
          clear HRC HCC HBB HOB
          go_wp2_with fail
          go_ret
          obtain ⟨G', j1, j2, j3⟩ := HZ.out
          refine ⟨rfl, ⟨q, G', ?_, .inl rfl, fun b hb => ?_⟩, HGA9.out.1.trans j3 (fun _ _ h => h)⟩
          · rw [← hRA.out] at j1
            exact j1
          · rcases j2 b hb with h | h
            · rw [← hGA.out] at h
              rcases h with h | rfl
              · exact .inl h
              · exact .inr HGA9.out.2
            · exact .inr (Nat.le_trans HGA9.out.1.size h)
end Go.Proofs.YtlnjnimenihhnaaGreatDoor

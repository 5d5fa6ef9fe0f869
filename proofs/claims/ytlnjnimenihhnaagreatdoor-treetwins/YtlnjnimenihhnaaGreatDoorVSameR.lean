/-
  The document's Same: the rows, one by one.
-/
import Derived.Test.YtlnjnimenihhnaaGreatDoorVSame
import Derived.Test.YtlnjnimenihhnaaGreatDoorVBo
namespace Go.Proofs.YtlnjnimenihhnaaGreatDoor
open Go.RowKit Go.Maps Go.Sort

theorem toHid9 {p : Prop} (h : p) : Hid p := h
theorem rwK_cells (F G : Pth → Option Nd) (y z : ByteArray × Pth) : rwK F y = rwK G z ↔ (y.1 = z.1 ∧ (infD (F y.2)).1 = (infD (G z.2)).1 ∧ (infD (F y.2)).2.1 = (infD (G z.2)).2.1 ∧ (infD (F y.2)).2.2 = (infD (G z.2)).2.2 ∧ bytB (F y.2) = bytB (G z.2)) := by
  unfold rwK
  generalize infD (F y.2) = a
  generalize infD (G z.2) = b
  obtain ⟨a1, a2, a3⟩ := a
  obtain ⟨b1, b2, b3⟩ := b
  simp [and_assoc]
set_option maxHeartbeats 6400000 in
set_option maxRecDepth 100000 in
theorem rSame_any {r s q q' : Nat} {G G' : Nat → Prop} {T U : Ts} {R S : Rs} {num num' : Pth → Nat} {K K' : Nat} (w : World) (h : Rt w r q G R) (hD : Dt T R num K) (hK : K ≤ 60000) (h' : Rt w s q' G' S) (hD' : Dt U S num' K') (hK' : K' ≤ 60000) (dd : Nat) (hd : ∀ z : Pth, dd < z.length → T.F z = none) (hd' : ∀ z : Pth, dd < z.length → U.F z = none) (hdd : dd ≤ 100000) (hn : (rowsP T.F (dd + 1) [] ⟨#[]⟩).length ≤ 100000) (hm : (rowsP U.F (dd + 1) [] ⟨#[]⟩).length ≤ 100000) :
    Calls Tryz.prog 17 #[ptr r, ptr s] w fun e w' => e = .returned (.bool (decide ((rowsP T.F (dd + 1) [] ⟨#[]⟩).map (rwK T.F) = (rowsP U.F (dd + 1) [] ⟨#[]⟩).map (rwK U.F)))) ∧ Below w.heap.size w w' := by
  have C1 := hidOf (rWalk_any w h hD hK dd hd hdd (by omega))
  have HQ : Hid (Rt w s q' G' S ∧ Dt U S num' K' ∧ ∀ z : Pth, dd < z.length → U.F z = none) := ⟨h', hD', hd'⟩
  clear h hD hd h' hD' hd'
  obtain ⟨RL, hRL⟩ : ∃ RL, rowsP T.F (dd + 1) [] ⟨#[]⟩ = RL := ⟨_, rfl⟩
  obtain ⟨RM, hRM⟩ : ∃ RM, rowsP U.F (dd + 1) [] ⟨#[]⟩ = RM := ⟨_, rfl⟩
  rw [hRL] at C1 hn ⊢
  rw [hRM] at hm ⊢
  have HM := hidOf hRM
  obtain ⟨n, hn'⟩ : ∃ n, RL.length = n := ⟨_, rfl⟩
  obtain ⟨m, hm'⟩ : ∃ m, RM.length = m := ⟨_, rfl⟩
  rw [hn'] at C1 hn
  rw [hm'] at hm
  clear hRL hRM
  go_enter Tryz.func17, Tryz.ntmps17
  go_wp2_with fail
  refine C1.out.mono ?_
  clear C1
  rintro e w1 ⟨xa, xc, rfl, HX⟩
  have C2 := hidOf (rWalk_any w1 (HQ.out.1.below HX.out.2) HQ.out.2.1 hK' dd HQ.out.2.2 hdd (by rw [HM.out, hm']; omega))
  rw [HM.out, hm'] at C2
  go_wp2_with fail
  refine C2.out.mono ?_
  clear C2
  rintro e w2 ⟨ya, yc, rfl, HY⟩
  have HB : Hid (Below w.heap.size w w2) := HX.out.2.trans (HY.out.2.mono HX.out.2.size)
  have HX2 : Hid (Below w1.heap.size w1 w2) := HY.out.2
  by_cases hnm : n = m
  · subst hnm
    go_wp2_with fail
    go_loopw [7] (fun i wr => ∃ k : Nat, k ≤ n ∧ i = .int .i64 k ∧ Hid (Below w2.heap.size w2 wr ∧ ∀ j, j < k → (RL.map (rwK T.F))[j]? = (RM.map (rwK U.F))[j]?)) (fun i _ => n - (intOf i).toNat)
    case atStart => exact ⟨0, Nat.zero_le _, rfl, Below.refl _ _, fun j h => by omega⟩
    case round =>
      obtain ⟨k, hk, rfl, H⟩ := hrel
      by_cases hlt : k < n
      · have q1 : (k : Int) < n := by omega
        obtain ⟨y, hy⟩ : ∃ y, RL[k]? = some y := ⟨_, List.getElem?_eq_getElem (by omega)⟩
        obtain ⟨z, hz⟩ : ∃ z, RM[k]? = some z := ⟨_, List.getElem?_eq_getElem (by omega)⟩
        obtain ⟨g, rfl, a0, a1, a2, a3, a4⟩ := own_row5 HX.out.1 hy
        obtain ⟨g', rfl, b0, b1, b2, b3, b4⟩ := own_row5 HY.out.1 hz
        have cA := Chg.ofBelowC (HX2.out.trans (H.out.1.mono HX2.out.size))
        have cB := Chg.ofBelowC H.out.1
        have d0 := cA.cell a0 (fun h => h)
        have d1 := cA.cell a1 (fun h => h)
        have d2 := cA.cell a2 (fun h => h)
        have d3 := cA.cell a3 (fun h => h)
        have d4 := cA.cell a4 (fun h => h)
        have e0 := cB.cell b0 (fun h => h)
        have e1 := cB.cell b1 (fun h => h)
        have e2 := cB.cell b2 (fun h => h)
        have e3 := cB.cell b3 (fun h => h)
        have e4 := cB.cell b4 (fun h => h)
        clear cA cB a0 a1 a2 a3 a4 b0 b1 b2 b3 b4
        have HK2 := hidOf (rwK_cells T.F U.F y z)
        have HYZ : Hid ((RL.map (rwK T.F))[k]? = some (rwK T.F y) ∧ (RM.map (rwK U.F))[k]? = some (rwK U.F z)) := ⟨by rw [List.getElem?_map, hy]; rfl, by rw [List.getElem?_map, hz]; rfl⟩
        clear hy hz
        generalize (infD (T.F y.2)).1 = x1 at *
        generalize (infD (T.F y.2)).2.1 = x2 at *
        generalize (infD (T.F y.2)).2.2 = x3 at *
        generalize (infD (U.F z.2)).1 = y1 at *
        generalize (infD (U.F z.2)).2.1 = y2 at *
        generalize (infD (U.F z.2)).2.2 = y3 at *
        generalize bytB (T.F y.2) = x4 at *
        generalize bytB (U.F z.2) = y4 at *
        have HB2 : Hid (Below w.heap.size w wr) := HB.out.trans (H.out.1.mono HB.out.size)
        have HW : Hid (Below w2.heap.size w2 wr) := H.out.1
        have HJ : Hid (∀ j, j < k → (RL.map (rwK T.F))[j]? = (RM.map (rwK U.F))[j]?) := H.out.2
        have HNE : Hid ((rwK T.F y ≠ rwK U.F z) → ¬ RL.map (rwK T.F) = RM.map (rwK U.F)) := fun hne e => by
          have := congrArg (fun l => l[k]?) e
          simp only [HYZ.out.1, HYZ.out.2] at this
          injection this with this
          exact hne this
        have HEQ : Hid ((rwK T.F y = rwK U.F z) → ∀ j, j < k + 1 → (RL.map (rwK T.F))[j]? = (RM.map (rwK U.F))[j]?) := fun he j hj => by
          rcases (by omega : j < k ∨ j = k) with h | rfl
          · exact HJ.out j h
          · rw [HYZ.out.1, HYZ.out.2, he]
        by_cases h0 : y.1 = z.1
        · have t0 : (y.1.toList == z.1.toList) = true := by rw [ByteArray.toList_eq, ByteArray.toList_eq]; exact beq_iff_eq.2 (congrArg (fun s => s.data.toList) h0)
          by_cases h1 : x1 = y1
          · have t1 : (x1 == y1) = true := beq_iff_eq.2 h1
            by_cases h2 : x2 = y2
            · have t2 : (x2 == y2) = true := beq_iff_eq.2 h2
              by_cases h3 : x3 = y3
              · have t3 : (x3 == y3) = true := beq_iff_eq.2 h3
                by_cases h4 : x4 = y4
                · have t4 : (x4.toList == y4.toList) = true := by rw [ByteArray.toList_eq, ByteArray.toList_eq]; exact beq_iff_eq.2 (congrArg (fun s => s.data.toList) h4)
                  have HE := toHid9 (HEQ.out (HK2.out.2 ⟨h0, h1, h2, h3, h4⟩))
                  clear h0 h1 h2 h3 h4 HK2 HNE HEQ HYZ H HJ
                  go_wp2_with fail
                  go_quiet (fail)
                  have HWq : Hid (Below w2.heap.size w2 (wr.drewN nq)) := ⟨HW.out.os, HW.out.tape, HW.out.output, HW.out.size, HW.out.block⟩
                  go_wp2_with fail
                  go_roundw
                  case rel => exact ⟨k + 1, by omega, by go_num, HWq.out, HE.out⟩
                  case measure => simp [intOf]; omega
                · have t4 : (x4.toList == y4.toList) = false := by rw [ByteArray.toList_eq, ByteArray.toList_eq]; exact beq_eq_false_iff_ne.2 (fun e => h4 (by apply ByteArray.ext; exact Array.toList_inj.1 e))
                  have HE := toHid9 (HNE.out (fun e => h4 (HK2.out.1 e).2.2.2.2))
                  clear h0 h1 h2 h3 h4 HK2 HNE HEQ HYZ H HW HJ
                  go_wp2_with fail
                  go_quiet (fail)
                  have HBq : Hid (Below w.heap.size w (wr.drewN nq)) := ⟨HB2.out.os, HB2.out.tape, HB2.out.output, HB2.out.size, HB2.out.block⟩
                  go_wp2_with fail
                  go_ret
                  exact ⟨by simp [HE.out], HBq.out⟩
              · have t3 : (x3 == y3) = false := beq_eq_false_iff_ne.2 h3
                have HE := toHid9 (HNE.out (fun e => h3 (HK2.out.1 e).2.2.2.1))
                clear h0 h1 h2 h3 HK2 HNE HEQ HYZ H HW HJ
                go_wp2_with fail
                go_quiet (fail)
                have HBq : Hid (Below w.heap.size w (wr.drewN nq)) := ⟨HB2.out.os, HB2.out.tape, HB2.out.output, HB2.out.size, HB2.out.block⟩
                go_wp2_with fail
                go_ret
                exact ⟨by simp [HE.out], HBq.out⟩
            · have t2 : (x2 == y2) = false := beq_eq_false_iff_ne.2 h2
              have HE := toHid9 (HNE.out (fun e => h2 (HK2.out.1 e).2.2.1))
              clear h0 h1 h2 HK2 HNE HEQ HYZ H HW HJ
              go_wp2_with fail
              go_quiet (fail)
              have HBq : Hid (Below w.heap.size w (wr.drewN nq)) := ⟨HB2.out.os, HB2.out.tape, HB2.out.output, HB2.out.size, HB2.out.block⟩
              go_wp2_with fail
              go_ret
              exact ⟨by simp [HE.out], HBq.out⟩
          · have t1 : (x1 == y1) = false := beq_eq_false_iff_ne.2 h1
            have HE := toHid9 (HNE.out (fun e => h1 (HK2.out.1 e).2.1))
            clear h0 h1 HK2 HNE HEQ HYZ H HW HJ
            go_wp2_with fail
            go_quiet (fail)
            have HBq : Hid (Below w.heap.size w (wr.drewN nq)) := ⟨HB2.out.os, HB2.out.tape, HB2.out.output, HB2.out.size, HB2.out.block⟩
            go_wp2_with fail
            go_ret
            exact ⟨by simp [HE.out], HBq.out⟩
        · have t0 : (y.1.toList == z.1.toList) = false := by rw [ByteArray.toList_eq, ByteArray.toList_eq]; exact beq_eq_false_iff_ne.2 (fun e => h0 (by apply ByteArray.ext; exact Array.toList_inj.1 e))
          have HE := toHid9 (HNE.out (fun e => h0 (HK2.out.1 e).1))
          clear h0 HK2 HNE HEQ HYZ H HW HJ
          go_wp2_with fail
          go_quiet (fail)
          have HBq : Hid (Below w.heap.size w (wr.drewN nq)) := ⟨HB2.out.os, HB2.out.tape, HB2.out.output, HB2.out.size, HB2.out.block⟩
          go_wp2_with fail
          go_ret
          exact ⟨by simp [HE.out], HBq.out⟩
      · have q1 : ¬ (k : Int) < n := by omega
        obtain rfl : k = n := by omega
        have hE : RL.map (rwK T.F) = RM.map (rwK U.F) := List.ext_getElem? fun j => by
          by_cases hj : j < k
          · exact H.out.2 j hj
          · rw [List.getElem?_eq_none (by simp; omega), List.getElem?_eq_none (by simp; omega)]
        have HZ : Hid (Below w.heap.size w wr) := HB.out.trans (H.out.1.mono HB.out.size)
        go_wp2_with fail
        go_ret
        exact ⟨by simp, HZ.out⟩
  · have q1 : ¬ (n : Int) = m := by omega
    have hE : ¬ RL.map (rwK T.F) = RM.map (rwK U.F) := fun e => by
      have := congrArg List.length e
      simp at this
      omega
    go_wp2_with fail
    go_ret
    exact ⟨by simp [hE], HB.out⟩
end Go.Proofs.YtlnjnimenihhnaaGreatDoor

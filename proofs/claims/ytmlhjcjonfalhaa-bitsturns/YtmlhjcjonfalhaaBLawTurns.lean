/-
  BitsTurns answers true for every slice of bytes and every slice of numbers.
-/
import Derived.Test.YtmlhjcjonfalhaaBIs
namespace Go.Proofs.Ytmlhjcjonfalhaa
open Go.RowKit

/-- What a round has. -/
structure Tn (w wr : World) (g : Nat) (v vb vl : Value) (bs l : List Int) : Prop where
  mp : Mp wr g v bs
  chg : Chg (fun _ => False) w wr
  bs : Bs wr vb bs
  is : Is wr vl l
  new : w.heap.size ≤ g
theorem Tn.next {w wr w2 : World} {g : Nat} {v vb vl : Value} {bs l : List Int} (h : Tn w wr g v vb vl bs l) (hb : Bs w vb bs) (hi : Is w vl l) (hm : Mp w2 g v bs) (hc : Chg (fun b => b = g) wr w2) : Tn w w2 g v vb vl bs l := by
  have c : Chg (fun _ => False) w w2 := h.chg.trans hc (fun i hi e => by have := h.new; omega)
  exact ⟨hm, c, hb.kept c (fun _ _ _ _ _ h => h), hi.keptN c, h.new⟩
theorem Tn.quiet {w wr : World} {g : Nat} {v vb vl : Value} {bs l : List Int} (h : Tn w wr g v vb vl bs l) (n : Nat) : Tn w (wr.drewN n) g v vb vl bs l :=
  ⟨h.mp.kept (Chg.drewN (fun _ => False) wr n) (fun h => h), h.chg.trans (Chg.drewN _ wr n) (fun _ _ h => h), h.bs.drewN n, h.is.keptN (Chg.drewN _ wr n), h.new⟩

set_option maxHeartbeats 8000000 in
theorem law_bturns_in (v vl : Value) (bs l : List Int) (w : World) (hv : Bs w v bs) (hb : IsBy bs) (hi : Is w vl l) (hl : bs.length ≤ 100) (hl2 : l.length ≤ 200) : Calls Try.prog 7 #[v, vl] w fun e w' => e = .returned (.bool true) ∧ Chg (fun _ => False) w w' := by
  have H : Hid (Bs w v bs ∧ Is w vl l) := ⟨hv, hi⟩
  obtain ⟨va, vc, rfl, hvc⟩ := hv.formB
  obtain ⟨la, lc, rfl, hlc⟩ := hi.formB
  clear hv hvc hi hlc
  have k1 : decide (100 < (bs.length : Int)) = false := by simp; omega
  have k2 : decide (200 < (l.length : Int)) = false := by simp; omega
  go_enter Try.func7, Try.ntmps7
  go_wp2_with fail
  refine (knownB w).mono ?_
  rintro e w1 ⟨rfl, hc⟩
  obtain ⟨g, ma, mc, w2, hr, hm, hc2, hg, _⟩ := copied (H.out.1.kept hc (fun _ _ _ _ _ h => h)) (by omega)
  have HC : Hid (Tn w w2 g (.slice ma bs.length mc) (.slice va bs.length vc) (.slice la l.length lc) bs l) := by
    have c := hc.trans hc2 (fun _ _ h => h)
    exact ⟨hm, c, H.out.1.kept c (fun _ _ _ _ _ h => h), H.out.2.keptN c, by have := hc.size; omega⟩
  clear hc hm hc2 hg
  go_wp2_with (at_builtin; go_must (refine Lib.wpList_append_run _ rfl _ _ _ _ rfl _ _ rfl rfl _ _ hr ?_))
  clear hr
  go_wp2_with fail
  go_loopw [6, 7, 8, 9, 10, 11] (fun x _ _ _ _ _ wr => ∃ j : Nat, j ≤ l.length ∧ x = .int .i64 (j : Int) ∧ Hid (Tn w wr g (.slice ma bs.length mc) (.slice va bs.length vc) (.slice la l.length lc) bs l)) (fun x _ _ _ _ _ _ => l.length - (intOf x).toNat)
  case atStart => exact ⟨0, by omega, rfl, HC⟩
  case round =>
    obtain ⟨j, hj, rfl, HR⟩ := hrel
    clear HC
    by_cases hlt : j < l.length
    · obtain ⟨lb, lo, lc2, hlv, hcell⟩ := HR.out.is.atB hlt
      obtain ⟨rfl, rfl⟩ : la = some ⟨lb, lo, none⟩ ∧ lc = lc2 := by simpa using hlv
      have hki : (j : Int) < (l.length : Int) := by omega
      generalize l.getD j 0 = y at *
      clear hlv
      by_cases hin : y < 0 ∨ 8 * (bs.length : Int) ≤ y
      · have HI : Hid (y < 0 ∨ 8 * (bs.length : Int) ≤ y) := hin
        have HB : Hid (bitI bs y = false) := bitI_out hin
        by_cases h0 : y < 0
        · have k3 : decide (0 ≤ y) = false := by simp; omega
          clear hin
          go_wp2_with fail
          refine (has_any _ bs y _ HR.out.mp.bs hb (by omega)).mono ?_
          rw [HB.out]
          rintro e w3 ⟨rfl, n3, rfl⟩
          go_wp2_with fail
          refine (set_not _ bs y _ (HR.out.mp.bs.drewN _) hb (by omega) (.inl HI.out)).mono ?_
          rintro e w4 ⟨rfl, n4, rfl⟩
          go_wp2_with fail
          refine (clear_not _ bs y _ (HR.out.mp.bs.drewN _) hb (by omega) HB.out).mono ?_
          rintro e w5 ⟨rfl, n5, rfl⟩
          go_wp2
          go_roundw
          case rel => exact ⟨j + 1, by omega, by go_num, HR.out.quiet _⟩
          case measure => simp [intOf]; omega
        · have k3 : decide (0 ≤ y) = true := by simp; omega
          have k4 : decide (y < 8 * (bs.length : Int)) = false := by simp; omega
          clear hin
          go_wp2_with fail
          refine (has_any _ bs y _ HR.out.mp.bs hb (by omega)).mono ?_
          rw [HB.out]
          rintro e w3 ⟨rfl, n3, rfl⟩
          go_wp2_with fail
          refine (set_not _ bs y _ (HR.out.mp.bs.drewN _) hb (by omega) (.inl HI.out)).mono ?_
          rintro e w4 ⟨rfl, n4, rfl⟩
          go_wp2_with fail
          refine (clear_not _ bs y _ (HR.out.mp.bs.drewN _) hb (by omega) HB.out).mono ?_
          rintro e w5 ⟨rfl, n5, rfl⟩
          go_wp2
          go_roundw
          case rel => exact ⟨j + 1, by omega, by go_num, HR.out.quiet _⟩
          case measure => simp [intOf]; omega
      · obtain ⟨k, rfl⟩ := Int.eq_ofNat_of_zero_le (show 0 ≤ y by omega)
        have hk : k < 8 * bs.length := by omega
        have k3 : decide ((0 : Int) ≤ (k : Int)) = true := by simp
        have k4 : decide ((k : Int) < 8 * (bs.length : Int)) = true := by simp; omega
        have hk2 : k < 8 * (flipN bs k).length := by rw [flipN_len]; exact hk
        have hl3 : (flipN bs k).length ≤ 1099511627776 := by rw [flipN_len]; omega
        have hff := flip_flip hb hk
        have hbf := hb.flip k
        have hbit := bitN_flip hk k
        rw [if_pos rfl] at hbit
        have HF : Hid (k < 8 * (flipN bs k).length ∧ (flipN bs k).length ≤ 1099511627776 ∧ flipN (flipN bs k) k = bs ∧ IsBy (flipN bs k) ∧ bitN (flipN bs k) k = !bitN bs k) := ⟨hk2, hl3, hff, hbf, hbit⟩
        clear hin hk2 hl3 hff hbf hbit
        cases hwas : bitN bs k with
        | true =>
          have HB : Hid (bitI bs (k : Int) = true ∧ bitN bs k = true) := ⟨by rw [bitI_nat]; exact hwas, hwas⟩
          clear hwas
          go_wp2_with fail
          refine (has_any _ bs _ _ HR.out.mp.bs hb (by omega)).mono ?_
          rw [HB.out.1]
          rintro e w3 ⟨rfl, n3, rfl⟩
          go_wp2_with fail
          refine (set_not _ bs _ _ (HR.out.mp.bs.drewN _) hb (by omega) (.inr HB.out.1)).mono ?_
          rintro e w4 ⟨rfl, n4, rfl⟩
          have HR4 := HR.out.quiet (n3 + n4)
          have HS : Hid (Tn w (wr.drewN (n3 + n4)) g (.slice ma bs.length mc) (.slice va bs.length vc) (.slice (some ⟨lb, lo, none⟩) l.length lc) bs l) := HR4
          clear HR4 HR
          go_wp2_with fail
          refine (clear_old g _ bs k _ HS.out.mp hb (by omega) hk HB.out.2).mono ?_
          rintro e w5 ⟨rfl, h5, c5⟩
          have H5 : Hid (Mp w5 g (.slice ma bs.length mc) (flipN bs k) ∧ Chg (fun b => b = g) (wr.drewN (n3 + n4)) w5) := ⟨h5, c5⟩
          clear h5 c5
          go_wp2_with fail
          refine (set_new g _ (flipN bs k) k _ H5.out.1 HF.out.2.2.2.1 HF.out.2.1 HF.out.1 (by rw [HF.out.2.2.2.2, HB.out.2]; rfl)).mono ?_
          rw [HF.out.2.2.1]
          rintro e w6 ⟨rfl, h6, c6⟩
          have H6 : Hid (Tn w w6 g (.slice ma bs.length mc) (.slice va bs.length vc) (.slice (some ⟨lb, lo, none⟩) l.length lc) bs l) := HS.out.next H.out.1 H.out.2 h6 (H5.out.2.trans c6 (fun _ _ h => h))
          clear h6 c6 H5 HS
          go_wp2
          go_roundw
          case rel => exact ⟨j + 1, by omega, by go_num, H6⟩
          case measure => simp [intOf]; omega
        | false =>
          have HB : Hid (bitI bs (k : Int) = false ∧ bitN bs k = false) := ⟨by rw [bitI_nat]; exact hwas, hwas⟩
          clear hwas
          go_wp2_with fail
          refine (has_any _ bs _ _ HR.out.mp.bs hb (by omega)).mono ?_
          rw [HB.out.1]
          rintro e w3 ⟨rfl, n3, rfl⟩
          have HS : Hid (Tn w (wr.drewN n3) g (.slice ma bs.length mc) (.slice va bs.length vc) (.slice (some ⟨lb, lo, none⟩) l.length lc) bs l) := HR.out.quiet n3
          clear HR
          go_wp2_with fail
          refine (set_new g _ bs k _ HS.out.mp hb (by omega) hk HB.out.2).mono ?_
          rintro e w5 ⟨rfl, h5, c5⟩
          have H5 : Hid (Mp w5 g (.slice ma bs.length mc) (flipN bs k) ∧ Chg (fun b => b = g) (wr.drewN n3) w5) := ⟨h5, c5⟩
          clear h5 c5
          go_wp2_with fail
          refine (clear_old g _ (flipN bs k) k _ H5.out.1 HF.out.2.2.2.1 HF.out.2.1 HF.out.1 (by rw [HF.out.2.2.2.2, HB.out.2]; rfl)).mono ?_
          rw [HF.out.2.2.1]
          rintro e w6 ⟨rfl, h6, c6⟩
          have H6 : Hid (Tn w w6 g (.slice ma bs.length mc) (.slice va bs.length vc) (.slice (some ⟨lb, lo, none⟩) l.length lc) bs l) := HS.out.next H.out.1 H.out.2 h6 (H5.out.2.trans c6 (fun _ _ h => h))
          clear h6 c6 H5 HS
          go_wp2
          go_roundw
          case rel => exact ⟨j + 1, by omega, by go_num, H6⟩
          case measure => simp [intOf]; omega
    · have s1 := run_strM HR.out.mp.bs
      have s2 := run_strB HR.out.bs
      have HX : Hid (Chg (fun _ => False) w wr) := HR.out.chg
      generalize strB bs = t at *
      clear HR H
      go_wp2
      go_ret
      exact ⟨by simp, HX.out⟩
set_option maxHeartbeats 8000000 in
theorem law_bturns (v vl : Value) (bs l : List Int) (w : World) (hv : Bs w v bs) (hb : IsBy bs) (hi : Is w vl l) : Calls Try.prog 7 #[v, vl] w fun e w' => e = .returned (.bool true) ∧ Chg (fun _ => False) w w' := by
  have H : Hid (Bs w v bs ∧ Is w vl l ∧ IsBy bs) := ⟨hv, hi, hb⟩
  obtain ⟨va, vc, rfl, hvc⟩ := hv.formB
  obtain ⟨la, lc, rfl, hlc⟩ := hi.formB
  clear hv hvc hi hlc hb
  by_cases g1 : 100 < bs.length
  · have k1 : decide (100 < (bs.length : Int)) = true := by simp; omega
    clear g1
    go_enter Try.func7, Try.ntmps7
    go_wp2_with fail
    refine (knownB w).mono ?_
    rintro e w1 ⟨rfl, hc⟩
    have HC : Hid (Chg (fun _ => False) w w1) := hc
    clear hc
    go_wp2
    go_ret
    exact ⟨rfl, HC.out⟩
  by_cases g2 : 200 < l.length
  · have k1 : decide (100 < (bs.length : Int)) = false := by simp; omega
    have k2 : decide (200 < (l.length : Int)) = true := by simp; omega
    clear g1 g2
    go_enter Try.func7, Try.ntmps7
    go_wp2_with fail
    refine (knownB w).mono ?_
    rintro e w1 ⟨rfl, hc⟩
    have HC : Hid (Chg (fun _ => False) w w1) := hc
    clear hc
    go_wp2
    go_ret
    exact ⟨rfl, HC.out⟩
  exact law_bturns_in _ _ bs l w H.out.1 H.out.2.2 H.out.2.1 (by omega) (by omega)
end Go.Proofs.Ytmlhjcjonfalhaa

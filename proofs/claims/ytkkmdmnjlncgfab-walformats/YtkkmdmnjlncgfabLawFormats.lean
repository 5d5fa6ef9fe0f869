/-
  WalFormats answers true for every slice of bytes, every number and every slice of numbers.
-/
import Derived.Test.YtkkmdmnjlncgfabWFm
namespace Go.Proofs.Ytkkmdmnjlncgfab
open Go.RowKit Go.Maps

theorem str_ne' {a b : ByteArray} (h : a ≠ b) : (a.toList == b.toList) = false := by
  rw [beq_eq_false_iff_ne, ByteArray.toList_eq, ByteArray.toList_eq]
  exact fun e => h (ByteArray.ext (Array.ext' e))

set_option maxHeartbeats 12800000 in
set_option maxRecDepth 100000 in
theorem law_formats_in (v0 v1 : Value) (bs ps : List Int) (c : Int) (w : World) (hv : Bs w v0 bs) (hp : Is w v1 ps) (h1 : 1 ≤ bs.length) (h2 : bs.length ≤ 60) (h3 : 0 ≤ c) (h4 : c ≤ 500) (h5 : ps.length ≤ 100) :
    Calls Try.prog 5 #[v0, .int .i64 c, v1] w fun e w' => e = .returned (.bool true) ∧ Chg (fun _ => False) w w' := by
  have hvm : ∃ a c, v0 = .slice (some a) bs.length c ∧ bs.length ≤ c ∧ c ≤ maxLen := by
    rcases hv with ⟨_, e⟩ | ⟨a, c, e, h1, h2, _⟩
    · rw [e] at h1; simp at h1
    · exact ⟨a, c, e, h1, h2⟩
  obtain ⟨va0, vc, rfl, hvc, hvm⟩ := hvm
  obtain ⟨pa, pc, rfl, hpc⟩ := hp.form
  obtain ⟨bb, off, hva, hcs⟩ := hv.at (k := 0) (by omega)
  injection hva with hva
  subst hva
  have HI : Hid ((∀ j, j < bs.length → w.cell? ⟨bb, off + j, none⟩ = some (.int .u8 (bs.getD j 0))) ∧ Is w (.slice pa ps.length pc) ps) := ⟨hcs, hp⟩
  have HPA : Hid (ps ≠ [] → ∀ g, (Value.slice pa ps.length pc).ownBlock = some g → g < w.heap.size) := fun hne g hg => by
    rcases hp with ⟨_, e⟩ | ⟨a, c, e, _, _, hcell⟩
    · exact absurd e hne
    · rw [e] at hg
      have : g = a.block := by cases hg; rfl
      rw [this]
      have h0 : 0 < ps.length := List.length_pos_iff.2 hne
      exact World.block_lt_of_cell? w _ (hcell 0 h0)
  clear hv hp hpc hcs
  have k1 : ((bs.length : Int) == 0) = false := by rw [beq_eq_false_iff_ne]; omega
  have k2 : decide ((60 : Int) < (bs.length : Int)) = false := by simp; omega
  have k3 : decide (c < 0) = false := by simp; omega
  have k4 : decide ((500 : Int) < c) = false := by simp; omega
  have k5 : decide ((100 : Int) < (ps.length : Int)) = false := by simp; omega
  go_enter Try.func5, Try.ntmps5
  go_wp2_with fail
  refine (known_any w).mono ?_
  rintro e w1 ⟨rfl, hc⟩
  have HC : Hid (Chg (fun _ => False) w w1) := hc
  clear hc
  go_wp2_with fail
  refine (begun_any w1).mono ?_
  rintro e w2 ⟨p, pl, rfl, hg2⟩
  obtain ⟨X, hX⟩ : ∃ X, (fun b => b < w1.heap.size) = X := ⟨_, rfl⟩
  rw [hX] at hg2
  have H2 : Hid (LogUp X w1 w2 p pl 70 (fun _ => zeros 512) (fun _ => none) 0 72) := hg2
  clear hg2 hX
  have hq := eqL_some ⟨pl, 0, none⟩
  go_wp2_with fail
  refine (begin_up H2.out).mono ?_
  rintro e w3 ⟨q, rfl, hg3, _⟩
  have H3 : Hid (TxUp X w1 w3 p pl q 70 (fun _ => zeros 512) (fun _ => none) 0 true (eown bs 0) 0 72) := by rw [eown_zero]; exact hg3
  clear hg3 H2
  have hq2 := eqT_some ⟨q, 0, none⟩
  go_wp2
  go_loopw [11] (fun x wr => ∃ i wrote, i ≤ bs.length ∧ x = .int .i64 ((i : Nat) : Int) ∧ Hid (TxUp X w1 wr p pl q 70 (fun _ => zeros 512) (fun _ => none) 0 true (eown bs i) wrote 72)) (fun x _ => bs.length - (intOf x).toNat)
  case atStart => exact ⟨0, 0, by omega, rfl, H3⟩
  case round =>
    obtain ⟨i, wrote, hi, rfl, HR⟩ := hrel
    clear H3
    by_cases hlt : i < bs.length
    · have hki : (i : Int) < (bs.length : Int) := by omega
      have hkc : (i : Int) + 1 ≤ (vc : Int) := by omega
      have hkc2 : ¬ (vc : Int) = (i : Int) := by omega
      have hkc3 : ¬ vc = i := by omega
      have hbs : Bs wr (.slice (some ⟨bb, off + i, none⟩) 1 (vc - i)) [bs.getD i 0] := Bs.sub (fun j hj => (HC.out.trans HR.out.chg (fun _ _ h => h)).cell (HI.out.1 j hj) (fun h => h)) hlt (by omega) (by omega)
      have FL : Hid (Calls Try.prog 10 #[.slice (some ⟨bb, off + i, none⟩) 1 (vc - i)] wr fun e w' => ∃ u, e = .returned u ∧ Fresh wr w' u (full [bs.getD i 0])) := full_any _ [bs.getD i 0] wr hbs (by simp)
      have hw63 : wrote < 63 := by
        have h9 := HR.out.inv.1
        rw [eown_ks bs i (by omega)] at h9
        omega
      clear hbs
      go_wp2_with fail
      refine FL.out.mono ?_
      rintro e w4 ⟨u, rfl, fr⟩
      clear FL
      obtain ⟨ua, uc, rfl⟩ := fr.form512 (full_len _)
      have N5 : Hid (NewB wr w4 (.slice ua 512 uc) (full [bs.getD i 0])) := fr.newB (Chg.refl (fun _ => False) wr)
      clear fr
      go_wp2_with fail
      refine (write_up i (full [bs.getD i 0]) ua uc HR.out N5.out (full_len _) (by omega) (.inr hw63)).mono ?_
      rintro e w5 ⟨rfl, hg5, _⟩
      have H5 : Hid (TxUp X w1 w5 p pl q 70 (fun _ => zeros 512) (fun _ => none) 0 true (eown bs (i + 1)) (ks 70 (upd (eown bs i) i (some (full [bs.getD i 0])))).length 72) := by
        rw [eown_succ] at hg5 ⊢
        exact hg5
      clear hg5 N5 HR
      go_wp2
      go_roundw
      case rel => exact ⟨i + 1, _, by omega, by go_num, H5⟩
      case measure => simp [intOf]; omega
    · have hie : i = bs.length := by omega
      subst hie
      have hki : ¬ ((bs.length : Int) < (bs.length : Int)) := by omega
      go_wp2_with fail
      refine (commit_up HR.out (by omega) (by omega)).mono ?_
      rintro e w4 ⟨rfl, f4, com4, pend4, hg4, _, hv4, _⟩
      have H4 : Hid (LogUp X w1 w4 p pl 70 f4 com4 pend4 200 ∧ ovr f4 com4 = eld bs) := ⟨hg4.log, funext fun n => by rw [hv4, eown_eld]⟩
      clear hg4 hv4 HR
      go_wp2_with fail
      refine (sync_up H4.out.1 (by omega)).mono ?_
      rintro e w5 ⟨rfl, hg5, _⟩
      rw [H4.out.2] at hg5
      have H5 : Hid (LogUp X w1 w5 p pl 70 (eld bs) (fun _ => none) 0 328) := hg5
      clear hg5 H4
      go_wp2_with fail
      refine (arm_up c (.slice pa ps.length pc) ps H5.out (HI.out.2.kept (HC.out.trans H5.out.chg (fun _ _ h => h)) (fun _ _ h => h)) (by omega) (by omega) (by omega)).mono ?_
      rintro e w6 ⟨rfl, hg6, _⟩
      have H6 : Hid (LogArm X w1 w6 p pl 70 (eld bs) (fun _ => none) 328) := hg6
      clear hg6 H5
      go_wp2_with fail
      refine (format_arm H6.out (by omega) (by omega)).mono ?_
      rintro e w7 ⟨_, hf7⟩
      clear H6
      rcases hf7 with ⟨pm0, rfl, hg7⟩ | ⟨rfl, hg7⟩
      · have H7 : Hid (LogArm X w1 w7 p pm0 70 (fun _ => zeros 512) (fun _ => none) 400) := hg7
        clear hg7
        go_wp2_with fail
        refine (off_arm H7.out).mono ?_
        rintro e w8 ⟨rfl, rfl⟩
        have hch8 : Chg (fun _ => False) w w8 := by
          obtain ⟨F, G, S, pend, m, V, a1, a2, a3, a5, a6, a7⟩ := H7.out
          exact HC.out.trans a7.chg (fun _ _ h => h)
        have HCU : Hid (Calls Try.prog 15 #[.pointer (some ⟨p, 0, none⟩), .slice pa ps.length pc] w8 fun e w' => e = .returned (.tuple #[]) ∧ DkUp X w1 w' p 70 (fun _ => zeros 512) true 400 ∧ Sm X w8 w') :=
          cut_arm (.slice pa ps.length pc) ps H7.out (HI.out.2.kept hch8 (fun _ _ h => h)) (fun hne g hg => Nat.lt_of_lt_of_le (HPA.out hne g hg) HC.out.size) (by omega)
        clear hch8 H7
        go_wp2_with fail
        refine HCU.out.mono ?_
        rintro e w9 ⟨rfl, hg9, _⟩
        have H9 : Hid (DkUp X w1 w9 p 70 (fun _ => zeros 512) true 400) := hg9
        clear hg9 HCU
        go_wp2_with fail
        refine (on_up H9.out).mono ?_
        rintro e w10 ⟨rfl, hg10, _⟩
        have H10 : Hid (DkUp X w1 w10 p 70 (fun _ => zeros 512) false 400) := hg10
        clear hg10 H9
        go_wp2_with fail
        refine (open_up (by omega) H10.out (by omega)).mono ?_
        rintro e w11 ⟨pm, rfl, hg11, _⟩
        have H11 : Hid (LogUp X w1 w11 p pm 70 (fun _ => zeros 512) (fun _ => none) 0 464) := hg11
        clear hg11 H10
        go_wp2
        go_loopw [17, 18, 19, 20, 21, 22] (fun y17 y18 x _ _ _ wq => ∃ j, j ≤ 70 ∧ x = .int .i64 ((j : Nat) : Int) ∧ (∃ b, y17 = .bool b ∧ y18 = .bool true) ∧ Hid (LogUp X w1 wq p pm 70 (fun _ => zeros 512) (fun _ => none) 0 464)) (fun _ _ x _ _ _ _ => 70 - (intOf x).toNat)
        case atStart => exact ⟨0, by omega, rfl, ⟨true, rfl, rfl⟩, H11⟩
        case round =>
          obtain ⟨j, hj, rfl, ⟨bq, rfl, rfl⟩, HS⟩ := hrel
          clear H11
          by_cases hjl : j < 70
          · have hkj : (j : Int) < 70 := by omega
            go_wp2_with fail
            refine (read_up j HS.out (by omega) (by omega)).mono ?_
            rintro e w20 ⟨ux, rfl, fr⟩
            rw [show ovr (fun _ => zeros 512) (fun _ => none) j = zeros 512 from rfl] at fr
            obtain ⟨tx, htx⟩ : ∃ t, strOf (zeros 512) = t := ⟨_, rfl⟩
            obtain ⟨tn, htn⟩ : ∃ t, strOf (zeros 512) = t := ⟨_, rfl⟩
            obtain ⟨te, hte⟩ : ∃ t, strOf (eld bs j) = t := ⟨_, rfl⟩
            have H20 : Hid (LogUp X w1 w20 p pm 70 (fun _ => zeros 512) (fun _ => none) 0 464 ∧ Bs w20 ux (zeros 512)) := ⟨HS.out.more fr.chg, fr.bs⟩
            have HTX : Hid (strOf (zeros 512) = tx ∧ strOf (zeros 512) = tn ∧ strOf (eld bs j) = te) := ⟨htx, htn, hte⟩
            have HEQ : Hid (tx = tn) := by rw [← htx, ← htn]; rfl
            clear fr HS htx htn hte
            have hee := HEQ.out
            subst hee
            have hse := str_same tx
            have FN : Hid (Calls Try.prog 10 #[.slice none 0 0] w20.drew fun e w21 => ∃ u, e = .returned u ∧ (convert 23 9 u).run Try.prog w21 = .ok (.string tx) w21 ∧ (convert 23 9 ux).run Try.prog w21 = .ok (.string tx) w21 ∧ Hid (LogUp X w1 w21 p pm 70 (fun _ => zeros 512) (fun _ => none) 0 464 ∧ Bs w21 ux (zeros 512))) := by
              refine (full_any (.slice none 0 0) [] w20.drew (.inl ⟨rfl, rfl⟩) (by simp)).mono ?_
              rintro e w21 ⟨u2, rfl, fr2⟩
              have hcc : Chg (fun _ => False) w20 w21 := (Chg.drew (fun _ => False) w20).trans fr2.chg (fun _ _ h => h)
              have hbu := fr2.bs
              rw [full_nil] at hbu
              have hbx := H20.out.2.kept hcc (fun _ _ _ _ _ h => h)
              refine ⟨u2, rfl, ?_, ?_, H20.out.1.more hcc, hbx⟩
              · rw [← HTX.out.2.1]; exact run_str hbu
              · rw [← HTX.out.1]; exact run_str hbx
            have s20 : (convert 23 9 ux).run Try.prog w20.drew = .ok (.string tx) w20.drew := by
              rw [← HTX.out.1]; exact run_str (H20.out.2.kept (Chg.drew (fun _ => False) w20) (fun _ _ _ _ _ h => h))
            have s20' : (convert 23 9 ux).run Try.prog w20 = .ok (.string tx) w20 := by
              rw [← HTX.out.1]; exact run_str H20.out.2
            go_wp2_with fail
            go_region_held (fun w' => (convert 23 9 ux).run Try.prog w' = .ok (.string tx) w')
              (first | assumption | exact s20 | exact s20' | exact y2)
              (first | (go_at_call 10; refine FN.out.mono ?_; clear FN; rintro e w21 ⟨u2, rfl, y1, y2, H21⟩))
            all_goals
              clear s20 s20' y1 y2
              go_wp2_with fail
              refine (full_any (.slice none 0 0) [] w21 (.inl ⟨rfl, rfl⟩) (by simp)).mono ?_
              rintro e w22 ⟨u3, rfl, fr3⟩
              have hcc3 := fr3.chg
              have H22 : Hid (LogUp X w1 w22 p pm 70 (fun _ => zeros 512) (fun _ => none) 0 464 ∧ Bs w22 ux (zeros 512) ∧ Bs w22 u3 (zeros 512)) := ⟨H21.out.1.more hcc3, H21.out.2.kept hcc3 (fun _ _ _ _ _ h => h), by have := fr3.bs; rw [full_nil] at this; exact this⟩
              obtain ⟨u3a, u3c, rfl⟩ := fr3.form512 (full_len _)
              clear fr3 hcc3
              by_cases hjb : j < bs.length
              · have hkb : (j : Int) < (bs.length : Int) := by omega
                have hkc : (j : Int) + 1 ≤ (vc : Int) := by omega
                have hkc3 : ¬ vc = j := by omega
                have hbs : Bs w22 (.slice (some ⟨bb, off + j, none⟩) 1 (vc - j)) [bs.getD j 0] := Bs.sub (fun i hi => (HC.out.trans H22.out.1.chg (fun _ _ h => h)).cell (HI.out.1 i hi) (fun h => h)) hjb (by omega) (by omega)
                have FL : Hid (Calls Try.prog 10 #[.slice (some ⟨bb, off + j, none⟩) 1 (vc - j)] w22 fun e w' => ∃ u, e = .returned u ∧ Fresh w22 w' u (full [bs.getD j 0])) := full_any _ [bs.getD j 0] w22 hbs (by simp)
                clear hbs
                go_wp2_with fail
                refine FL.out.mono ?_
                rintro e w23 ⟨u4, rfl, fr4⟩
                clear FL
                have se : (convert 23 9 u4).run Try.prog w23 = .ok (.string te) w23 := by
                  rw [← HTX.out.2.2]
                  have : full [bs.getD j 0] = eld bs j := by unfold eld; rw [if_pos hjb]
                  rw [← this]; exact run_str fr4.bs
                have sx : (convert 23 9 ux).run Try.prog w23 = .ok (.string tx) w23 := by
                  rw [← HTX.out.1]; exact run_str (H22.out.2.1.kept fr4.chg (fun _ _ _ _ _ h => h))
                have H23 : Hid (LogUp X w1 w23 p pm 70 (fun _ => zeros 512) (fun _ => none) 0 464) := H22.out.1.more fr4.chg
                clear fr4 H22 H21
                by_cases hxe : tx = te
                · have HXE : Hid (tx = te) := hxe
                  subst hxe
                  go_wp2
                  go_roundw
                  case rel => exact ⟨j + 1, by omega, by go_num, ⟨_, rfl, rfl⟩, H23⟩
                  case measure => simp [intOf]; omega
                · have hne := str_ne' hxe
                  clear hxe
                  go_wp2
                  go_roundw
                  case rel => exact ⟨j + 1, by omega, by go_num, ⟨_, rfl, rfl⟩, H23⟩
                  case measure => simp [intOf]; omega
              · have hkb : ¬ ((j : Int) < (bs.length : Int)) := by omega
                have se : (convert 23 9 (.slice u3a 512 u3c)).run Try.prog w22 = .ok (.string te) w22 := by
                  rw [← HTX.out.2.2]
                  have : zeros 512 = eld bs j := by unfold eld; rw [if_neg hjb]
                  rw [← this]; exact run_str H22.out.2.2
                have sx : (convert 23 9 ux).run Try.prog w22 = .ok (.string tx) w22 := by
                  rw [← HTX.out.1]; exact run_str H22.out.2.1
                have H23 : Hid (LogUp X w1 w22 p pm 70 (fun _ => zeros 512) (fun _ => none) 0 464) := H22.out.1
                clear H22 H21
                by_cases hxe : tx = te
                · have HXE : Hid (tx = te) := hxe
                  subst hxe
                  go_wp2
                  go_roundw
                  case rel => exact ⟨j + 1, by omega, by go_num, ⟨_, rfl, rfl⟩, H23⟩
                  case measure => simp [intOf]; omega
                · have hne := str_ne' hxe
                  clear hxe
                  go_wp2
                  go_roundw
                  case rel => exact ⟨j + 1, by omega, by go_num, ⟨_, rfl, rfl⟩, H23⟩
                  case measure => simp [intOf]; omega
          · have hje : j = 70 := by omega
            subst hje
            have HE : Hid (Chg (fun _ => False) w wr) := HC.out.trans HS.out.chg (fun _ _ h => h)
            clear HS
            cases bq
            all_goals
              go_wp2
              go_ret
              exact ⟨rfl, HE.out⟩
      · rcases hg7 with hg7 | hg7
        · have H9 : Hid (DkUp X w1 w7 p 70 (eld bs) true 400) := hg7
          clear hg7
          go_wp2_with fail
          refine (off_up H9.out).mono ?_
          rintro e w9 ⟨rfl, rfl⟩
          go_wp2_with fail
          refine (on_up H9.out).mono ?_
          rintro e w10 ⟨rfl, hg10, _⟩
          have H10 : Hid (DkUp X w1 w10 p 70 (eld bs) false 400) := hg10
          clear hg10 H9
          go_wp2_with fail
          refine (open_up (by omega) H10.out (by omega)).mono ?_
          rintro e w11 ⟨pm, rfl, hg11, _⟩
          have H11 : Hid (LogUp X w1 w11 p pm 70 (eld bs) (fun _ => none) 0 464) := hg11
          clear hg11 H10
          go_wp2
          go_loopw [17, 18, 19, 20, 21, 22] (fun y17 y18 x _ _ _ wq => ∃ j, j ≤ 70 ∧ x = .int .i64 ((j : Nat) : Int) ∧ (∃ b, y17 = .bool true ∧ y18 = .bool b) ∧ Hid (LogUp X w1 wq p pm 70 (eld bs) (fun _ => none) 0 464)) (fun _ _ x _ _ _ _ => 70 - (intOf x).toNat)
          case atStart => exact ⟨0, by omega, rfl, ⟨true, rfl, rfl⟩, H11⟩
          case round =>
            obtain ⟨j, hj, rfl, ⟨bq, rfl, rfl⟩, HS⟩ := hrel
            clear H11
            by_cases hjl : j < 70
            · have hkj : (j : Int) < 70 := by omega
              go_wp2_with fail
              refine (read_up j HS.out (by omega) (by omega)).mono ?_
              rintro e w20 ⟨ux, rfl, fr⟩
              rw [show ovr (eld bs) (fun _ => none) j = eld bs j from rfl] at fr
              obtain ⟨tx, htx⟩ : ∃ t, strOf (eld bs j) = t := ⟨_, rfl⟩
              obtain ⟨tn, htn⟩ : ∃ t, strOf (zeros 512) = t := ⟨_, rfl⟩
              obtain ⟨te, hte⟩ : ∃ t, strOf (eld bs j) = t := ⟨_, rfl⟩
              have H20 : Hid (LogUp X w1 w20 p pm 70 (eld bs) (fun _ => none) 0 464 ∧ Bs w20 ux (eld bs j)) := ⟨HS.out.more fr.chg, fr.bs⟩
              have HTX : Hid (strOf (eld bs j) = tx ∧ strOf (zeros 512) = tn ∧ strOf (eld bs j) = te) := ⟨htx, htn, hte⟩
              have HEQ : Hid (tx = te) := by rw [← htx, ← hte]; rfl
              clear fr HS htx htn hte
              have hee := HEQ.out
              subst hee
              have hse := str_same tx
              by_cases hxn : tx = tn
              · have HXN : Hid (tx = tn) := hxn
                subst hxn
                have FN : Hid (Calls Try.prog 10 #[.slice none 0 0] w20.drew fun e w21 => ∃ u, e = .returned u ∧ (convert 23 9 u).run Try.prog w21 = .ok (.string tx) w21 ∧ (convert 23 9 ux).run Try.prog w21 = .ok (.string tx) w21 ∧ Hid (LogUp X w1 w21 p pm 70 (eld bs) (fun _ => none) 0 464 ∧ Bs w21 ux (eld bs j))) := by
                  refine (full_any (.slice none 0 0) [] w20.drew (.inl ⟨rfl, rfl⟩) (by simp)).mono ?_
                  rintro e w21 ⟨u2, rfl, fr2⟩
                  have hcc : Chg (fun _ => False) w20 w21 := (Chg.drew (fun _ => False) w20).trans fr2.chg (fun _ _ h => h)
                  have hbu := fr2.bs
                  rw [full_nil] at hbu
                  have hbx := H20.out.2.kept hcc (fun _ _ _ _ _ h => h)
                  refine ⟨u2, rfl, ?_, ?_, H20.out.1.more hcc, hbx⟩
                  · rw [← HTX.out.2.1]; exact run_str hbu
                  · rw [← HTX.out.1]; exact run_str hbx
                have s20 : (convert 23 9 ux).run Try.prog w20.drew = .ok (.string tx) w20.drew := by
                  rw [← HTX.out.1]; exact run_str (H20.out.2.kept (Chg.drew (fun _ => False) w20) (fun _ _ _ _ _ h => h))
                have s20' : (convert 23 9 ux).run Try.prog w20 = .ok (.string tx) w20 := by
                  rw [← HTX.out.1]; exact run_str H20.out.2
                go_wp2_with fail
                go_region_held (fun w' => (convert 23 9 ux).run Try.prog w' = .ok (.string tx) w')
                  (first | assumption | exact s20 | exact s20' | exact y2)
                  (first | (go_at_call 10; refine FN.out.mono ?_; clear FN; rintro e w21 ⟨u2, rfl, y1, y2, H21⟩))
                all_goals
                  clear s20 s20' y1 y2
                  go_wp2_with fail
                  refine (full_any (.slice none 0 0) [] w21 (.inl ⟨rfl, rfl⟩) (by simp)).mono ?_
                  rintro e w22 ⟨u3, rfl, fr3⟩
                  have hcc3 := fr3.chg
                  have H22 : Hid (LogUp X w1 w22 p pm 70 (eld bs) (fun _ => none) 0 464 ∧ Bs w22 ux (eld bs j) ∧ Bs w22 u3 (zeros 512)) := ⟨H21.out.1.more hcc3, H21.out.2.kept hcc3 (fun _ _ _ _ _ h => h), by have := fr3.bs; rw [full_nil] at this; exact this⟩
                  obtain ⟨u3a, u3c, rfl⟩ := fr3.form512 (full_len _)
                  clear fr3 hcc3
                  by_cases hjb : j < bs.length
                  · have hkb : (j : Int) < (bs.length : Int) := by omega
                    have hkc : (j : Int) + 1 ≤ (vc : Int) := by omega
                    have hkc3 : ¬ vc = j := by omega
                    have hbs : Bs w22 (.slice (some ⟨bb, off + j, none⟩) 1 (vc - j)) [bs.getD j 0] := Bs.sub (fun i hi => (HC.out.trans H22.out.1.chg (fun _ _ h => h)).cell (HI.out.1 i hi) (fun h => h)) hjb (by omega) (by omega)
                    have FL : Hid (Calls Try.prog 10 #[.slice (some ⟨bb, off + j, none⟩) 1 (vc - j)] w22 fun e w' => ∃ u, e = .returned u ∧ Fresh w22 w' u (full [bs.getD j 0])) := full_any _ [bs.getD j 0] w22 hbs (by simp)
                    clear hbs
                    go_wp2_with fail
                    refine FL.out.mono ?_
                    rintro e w23 ⟨u4, rfl, fr4⟩
                    clear FL
                    have se : (convert 23 9 u4).run Try.prog w23 = .ok (.string tx) w23 := by
                      rw [← HTX.out.2.2]
                      have : full [bs.getD j 0] = eld bs j := by unfold eld; rw [if_pos hjb]
                      rw [← this]; exact run_str fr4.bs
                    have sx : (convert 23 9 ux).run Try.prog w23 = .ok (.string tx) w23 := by
                      rw [← HTX.out.1]; exact run_str (H22.out.2.1.kept fr4.chg (fun _ _ _ _ _ h => h))
                    have H23 : Hid (LogUp X w1 w23 p pm 70 (eld bs) (fun _ => none) 0 464) := H22.out.1.more fr4.chg
                    clear fr4 H22 H21
                    go_wp2
                    go_roundw
                    case rel => exact ⟨j + 1, by omega, by go_num, ⟨_, rfl, rfl⟩, H23⟩
                    case measure => simp [intOf]; omega
                  · have hkb : ¬ ((j : Int) < (bs.length : Int)) := by omega
                    have se : (convert 23 9 (.slice u3a 512 u3c)).run Try.prog w22 = .ok (.string tx) w22 := by
                      rw [← HTX.out.2.2]
                      have : zeros 512 = eld bs j := by unfold eld; rw [if_neg hjb]
                      rw [← this]; exact run_str H22.out.2.2
                    have sx : (convert 23 9 ux).run Try.prog w22 = .ok (.string tx) w22 := by
                      rw [← HTX.out.1]; exact run_str H22.out.2.1
                    have H23 : Hid (LogUp X w1 w22 p pm 70 (eld bs) (fun _ => none) 0 464) := H22.out.1
                    clear H22 H21
                    go_wp2
                    go_roundw
                    case rel => exact ⟨j + 1, by omega, by go_num, ⟨_, rfl, rfl⟩, H23⟩
                    case measure => simp [intOf]; omega
              · have hne := str_ne' hxn
                clear hxn
                have FN : Hid (Calls Try.prog 10 #[.slice none 0 0] w20.drew fun e w21 => ∃ u, e = .returned u ∧ (convert 23 9 u).run Try.prog w21 = .ok (.string tn) w21 ∧ (convert 23 9 ux).run Try.prog w21 = .ok (.string tx) w21 ∧ Hid (LogUp X w1 w21 p pm 70 (eld bs) (fun _ => none) 0 464 ∧ Bs w21 ux (eld bs j))) := by
                  refine (full_any (.slice none 0 0) [] w20.drew (.inl ⟨rfl, rfl⟩) (by simp)).mono ?_
                  rintro e w21 ⟨u2, rfl, fr2⟩
                  have hcc : Chg (fun _ => False) w20 w21 := (Chg.drew (fun _ => False) w20).trans fr2.chg (fun _ _ h => h)
                  have hbu := fr2.bs
                  rw [full_nil] at hbu
                  have hbx := H20.out.2.kept hcc (fun _ _ _ _ _ h => h)
                  refine ⟨u2, rfl, ?_, ?_, H20.out.1.more hcc, hbx⟩
                  · rw [← HTX.out.2.1]; exact run_str hbu
                  · rw [← HTX.out.1]; exact run_str hbx
                have s20 : (convert 23 9 ux).run Try.prog w20.drew = .ok (.string tx) w20.drew := by
                  rw [← HTX.out.1]; exact run_str (H20.out.2.kept (Chg.drew (fun _ => False) w20) (fun _ _ _ _ _ h => h))
                have s20' : (convert 23 9 ux).run Try.prog w20 = .ok (.string tx) w20 := by
                  rw [← HTX.out.1]; exact run_str H20.out.2
                go_wp2_with fail
                go_region_held (fun w' => (convert 23 9 ux).run Try.prog w' = .ok (.string tx) w')
                  (first | assumption | exact s20 | exact s20' | exact y2)
                  (first | (go_at_call 10; refine FN.out.mono ?_; clear FN; rintro e w21 ⟨u2, rfl, y1, y2, H21⟩))
                all_goals
                  clear s20 s20' y1 y2
                  go_wp2_with fail
                  refine (full_any (.slice none 0 0) [] w21 (.inl ⟨rfl, rfl⟩) (by simp)).mono ?_
                  rintro e w22 ⟨u3, rfl, fr3⟩
                  have hcc3 := fr3.chg
                  have H22 : Hid (LogUp X w1 w22 p pm 70 (eld bs) (fun _ => none) 0 464 ∧ Bs w22 ux (eld bs j) ∧ Bs w22 u3 (zeros 512)) := ⟨H21.out.1.more hcc3, H21.out.2.kept hcc3 (fun _ _ _ _ _ h => h), by have := fr3.bs; rw [full_nil] at this; exact this⟩
                  obtain ⟨u3a, u3c, rfl⟩ := fr3.form512 (full_len _)
                  clear fr3 hcc3
                  by_cases hjb : j < bs.length
                  · have hkb : (j : Int) < (bs.length : Int) := by omega
                    have hkc : (j : Int) + 1 ≤ (vc : Int) := by omega
                    have hkc3 : ¬ vc = j := by omega
                    have hbs : Bs w22 (.slice (some ⟨bb, off + j, none⟩) 1 (vc - j)) [bs.getD j 0] := Bs.sub (fun i hi => (HC.out.trans H22.out.1.chg (fun _ _ h => h)).cell (HI.out.1 i hi) (fun h => h)) hjb (by omega) (by omega)
                    have FL : Hid (Calls Try.prog 10 #[.slice (some ⟨bb, off + j, none⟩) 1 (vc - j)] w22 fun e w' => ∃ u, e = .returned u ∧ Fresh w22 w' u (full [bs.getD j 0])) := full_any _ [bs.getD j 0] w22 hbs (by simp)
                    clear hbs
                    go_wp2_with fail
                    refine FL.out.mono ?_
                    rintro e w23 ⟨u4, rfl, fr4⟩
                    clear FL
                    have se : (convert 23 9 u4).run Try.prog w23 = .ok (.string tx) w23 := by
                      rw [← HTX.out.2.2]
                      have : full [bs.getD j 0] = eld bs j := by unfold eld; rw [if_pos hjb]
                      rw [← this]; exact run_str fr4.bs
                    have sx : (convert 23 9 ux).run Try.prog w23 = .ok (.string tx) w23 := by
                      rw [← HTX.out.1]; exact run_str (H22.out.2.1.kept fr4.chg (fun _ _ _ _ _ h => h))
                    have H23 : Hid (LogUp X w1 w23 p pm 70 (eld bs) (fun _ => none) 0 464) := H22.out.1.more fr4.chg
                    clear fr4 H22 H21
                    go_wp2
                    go_roundw
                    case rel => exact ⟨j + 1, by omega, by go_num, ⟨_, rfl, rfl⟩, H23⟩
                    case measure => simp [intOf]; omega
                  · have hkb : ¬ ((j : Int) < (bs.length : Int)) := by omega
                    have se : (convert 23 9 (.slice u3a 512 u3c)).run Try.prog w22 = .ok (.string tx) w22 := by
                      rw [← HTX.out.2.2]
                      have : zeros 512 = eld bs j := by unfold eld; rw [if_neg hjb]
                      rw [← this]; exact run_str H22.out.2.2
                    have sx : (convert 23 9 ux).run Try.prog w22 = .ok (.string tx) w22 := by
                      rw [← HTX.out.1]; exact run_str H22.out.2.1
                    have H23 : Hid (LogUp X w1 w22 p pm 70 (eld bs) (fun _ => none) 0 464) := H22.out.1
                    clear H22 H21
                    go_wp2
                    go_roundw
                    case rel => exact ⟨j + 1, by omega, by go_num, ⟨_, rfl, rfl⟩, H23⟩
                    case measure => simp [intOf]; omega
            · have hje : j = 70 := by omega
              subst hje
              have HE : Hid (Chg (fun _ => False) w wr) := HC.out.trans HS.out.chg (fun _ _ h => h)
              clear HS
              cases bq
              all_goals
                go_wp2
                go_ret
                exact ⟨rfl, HE.out⟩
        · have H9 : Hid (DkNone X w1 w7 p 70 true 400) := hg7
          clear hg7
          go_wp2_with fail
          refine (off_none H9.out).mono ?_
          rintro e w9 ⟨rfl, rfl⟩
          go_wp2_with fail
          refine (on_none H9.out).mono ?_
          rintro e w10 ⟨rfl, hg10, _⟩
          have H10 : Hid (DkNone X w1 w10 p 70 false 400) := hg10
          clear hg10 H9
          have hq3 := eqL_none
          go_wp2_with fail
          refine (open_none_up (by omega) H10.out (by omega)).mono ?_
          rintro e w11 ⟨rfl, hg11⟩
          have H11 : Hid (Chg (fun _ => False) w w11) := HC.out.trans hg11 (fun _ _ h => h)
          clear hg11 H10
          go_wp2
          go_ret
          exact ⟨rfl, H11.out⟩
end Go.Proofs.Ytkkmdmnjlncgfab

/-
  WalGroups answers true for every three numbers and every slice of numbers.
-/
import Derived.Test.YtkkmdmnjlncgfaaWArm
namespace Go.Proofs.Ytkkmdmnjlncgfaa
open Go.RowKit Go.Maps

set_option maxHeartbeats 12800000 in
set_option maxRecDepth 100000 in
theorem law_groups_in (N W : Nat) (c : Int) (v : Value) (ps : List Int) (w : World) (hv : Is w v ps) (h1 : 1 ≤ N) (h2 : N ≤ 20) (h3 : 1 ≤ W) (h4 : W ≤ 60) (h5 : N * W ≤ 60) (h6 : ps.length ≤ 100) (h7 : 0 ≤ c) (h8 : c ≤ 500) :
    Calls Try.prog 5 #[.int .i64 (N : Int), .int .i64 (W : Int), .int .i64 c, v] w fun e w' => e = .returned (.bool true) ∧ Chg (fun _ => False) w w' := by
  obtain ⟨va, vc, rfl, hvc⟩ := hv.form
  have HI : Hid (Is w (.slice va ps.length vc) ps) := hv
  clear hv hvc
  obtain ⟨P, hP⟩ : ∃ P, N * W = P := ⟨_, rfl⟩
  rw [hP] at h5
  have hP1 : 1 ≤ P := by rw [← hP]; exact Nat.mul_pos h1 h3
  have hPi : (N : Int) * (W : Int) = (P : Int) := by rw [← hP]; simp
  have HP : Hid (N * W = P) := hP
  clear hP
  have k1 : decide ((N : Int) < 1) = false := by simp; omega
  have k2 : decide ((20 : Int) < (N : Int)) = false := by simp; omega
  have k3 : decide ((W : Int) < 1) = false := by simp; omega
  have k4 : decide ((60 : Int) < (W : Int)) = false := by simp; omega
  have k5 : decide ((60 : Int) < (P : Int)) = false := by simp; omega
  have k6 : decide ((100 : Int) < (ps.length : Int)) = false := by simp; omega
  have k7 : decide (c < 0) = false := by simp; omega
  have k8 : decide ((500 : Int) < c) = false := by simp; omega
  go_enter Try.func5, Try.ntmps5
  go_wp2_with fail
  refine (known_any w).mono ?_
  rintro e w1 ⟨rfl, hc⟩
  have HC : Hid (Chg (fun _ => False) w w1) := hc
  clear hc
  go_wp2_with fail
  refine (new_ok 135 w1 (by decide) (by decide)).mono ?_
  rintro e w2 ⟨F, p, rfl, hd2, hc2, hF⟩
  have H2 : Hid (Dk w2 F p (St.new 135) ∧ Nw (fun b => b < w1.heap.size) w1 w2 F (fun _ => False)) := ⟨hd2, Nw.ofNew hc2 hF⟩
  clear hd2 hc2 hF
  go_wp2_with fail
  refine (format_up (N := 72) (K := 70) F (St.new 135) H2.out.1 H2.out.2 (fun _ => rfl) rfl (by decide) rfl (by decide) (by decide) (by decide)).mono ?_
  rintro e w3 ⟨pl, rfl, hg3, _⟩
  obtain ⟨X, hX⟩ : ∃ X, (fun b => b < w1.heap.size) = X := ⟨_, rfl⟩
  have HXX : Hid (∀ b, b < w1.heap.size → X b) := fun b hb => by rw [← hX]; exact hb
  rw [hX] at hg3
  have H3 : Hid (LogUp X w1 w3 p pl 70 (fun _ => zeros 512) (gcom W (0 * W)) 0 (72 + 128 * 0)) := by rw [Nat.zero_mul, gcom_zero]; exact hg3
  clear hg3 H2 hX
  have hq := eqL_some ⟨pl, 0, none⟩
  go_wp2
  go_loopw [13, 14, 15, 16] (fun x _ _ _ wr => ∃ i, i ≤ N ∧ x = .int .i64 ((i : Nat) : Int) ∧ Hid (LogUp X w1 wr p pl 70 (fun _ => zeros 512) (gcom W (i * W)) i (72 + 128 * i))) (fun x _ _ _ _ => N - (intOf x).toNat)
  case atStart => exact ⟨0, by omega, rfl, H3⟩
  case round =>
    obtain ⟨i, hi, rfl, HR⟩ := hrel
    clear H3
    by_cases hlt : i < N
    · have hki : (i : Int) < (N : Int) := by omega
      obtain ⟨a, ha⟩ : ∃ a, i * W = a := ⟨_, rfl⟩
      have haI : (i : Int) * (W : Int) = (a : Int) := by rw [← ha]; simp
      have hab : a + W ≤ P := by rw [← ha, ← HP.out, ← Nat.succ_mul]; exact Nat.mul_le_mul_right W hlt
      have HAW : Hid ((i + 1) * W = a + W ∧ i * W = a) := ⟨by rw [← ha, Nat.succ_mul], ha⟩
      rw [ha] at HR
      clear ha
      go_wp2_with fail
      refine (begin_up HR.out).mono ?_
      rintro e w4 ⟨q, rfl, hg4, _⟩
      have H4 : Hid (TxUp X w1 w4 p pl q 70 (fun _ => zeros 512) (gcom W a) i true (gown W a (a + 0)) 0 (72 + 128 * i)) := by rw [Nat.add_zero, gown_none]; exact hg4
      clear hg4 HR
      have hq2 := eqT_some ⟨q, 0, none⟩
      go_wp2
      go_loopw [16] (fun x wr => ∃ k wrote, k ≤ W ∧ x = .int .i64 ((k : Nat) : Int) ∧ Hid (TxUp X w1 wr p pl q 70 (fun _ => zeros 512) (gcom W a) i true (gown W a (a + k)) wrote (72 + 128 * i))) (fun x _ => W - (intOf x).toNat)
      case atStart => exact ⟨0, 0, by omega, rfl, H4⟩
      case round =>
        obtain ⟨k, wrote, hk, rfl, HS⟩ := hrel
        clear H4
        by_cases hkl : k < W
        · have hkk : (k : Int) < (W : Int) := by omega
          have HPT : Hid (full [(i : Int) + 1, (k : Int)] = pat W (a + k)) := by rw [← HAW.out.2, pat_at hkl]; rfl
          have hm1 : ((i : Int) + 1) % 256 = (i : Int) + 1 := by omega
          have hm2 : (k : Int) % 256 = (k : Int) := by omega
          go_wp2_with fail
          refine (full_any _ _ _ (Bs.two wr _ _) (by simp)).mono ?_
          rintro e w5 ⟨u, rfl, fr⟩
          rw [HPT.out] at fr
          obtain ⟨ua, uc, rfl⟩ := fr.form512 (pat_len _ _)
          have N5 : Hid (NewB wr w5 (.slice ua 512 uc) (pat W (a + k))) := fr.newB (Chg.alloc (fun _ => False) wr _)
          have hw63 : wrote < 63 := by
            have h9 := HS.out.inv.1
            have h10 := ks_gown W a (a + k) 70
            omega
          have ek : Hid ((a : Int) + (k : Int) = ((a + k : Nat) : Int)) := by show (a : Int) + (k : Int) = ((a + k : Nat) : Int); omega
          clear fr
          go_wp2_with fail
          rw [ek.out]
          refine (write_up (a + k) (pat W (a + k)) ua uc HS.out N5.out (pat_len _ _) (by omega) (.inr hw63)).mono ?_
          rintro e w6 ⟨rfl, hg6, _⟩
          have H6 : Hid (TxUp X w1 w6 p pl q 70 (fun _ => zeros 512) (gcom W a) i true (gown W a (a + (k + 1))) (ks 70 (upd (gown W a (a + k)) (a + k) (some (pat W (a + k))))).length (72 + 128 * i)) := by
            rw [gown_succ (by omega)] at hg6 ⊢
            exact hg6
          clear hg6 N5 HS ek hm1 hm2
          go_wp2
          go_roundw
          case rel => exact ⟨k + 1, _, by omega, by go_num, H6⟩
          case measure => simp [intOf]; omega
        · have hke : k = W := by omega
          subst hke
          have hkk : ¬ ((k : Int) < (k : Int)) := by omega
          go_wp2_with fail
          refine (commit_up HS.out (by omega) (by omega)).mono ?_
          rintro e w5 ⟨rfl, f5, com5, pend5, hg5, _, _, hr5⟩
          have H5 : Hid (LogUp X w1 w5 p pl 70 (fun _ => zeros 512) (gcom k ((i + 1) * k)) (i + 1) (72 + 128 * (i + 1))) := by
            rw [gcom_mrg (by omega), ks_gcom] at hr5
            rcases hr5 with ⟨e1, e2, e3, _⟩ | ⟨_, _, _, e4⟩
            · subst e1 e2 e3
              rw [HAW.out.1]
              exact hg5.log.mono (by omega)
            · omega
          clear hg5 hr5 HS
          go_wp2
          go_roundw
          case rel => exact ⟨i + 1, by omega, by go_num, H5⟩
          case measure => simp [intOf]; omega
    · have hie : i = N := by omega
      subst hie
      have hki : ¬ ((i : Int) < (i : Int)) := by omega
      rw [HP.out] at HR
      have hib : 72 + 128 * i ≤ 3000 := by omega
      have HR2 : Hid (LogUp X w1 wr p pl 70 (fun _ => zeros 512) (gcom W P) i 3000) := HR.out.mono hib
      clear HR
      go_wp2_with fail
      refine (pending_up HR2.out).mono ?_
      rintro e w4 ⟨rfl, rfl⟩
      go_wp2_with fail
      refine (arm_up c (.slice va ps.length vc) ps HR2.out (HI.out.kept (HC.out.trans HR2.out.chg (fun _ _ h => h)) (fun _ _ h => h)) (by omega) (by omega) (by omega)).mono ?_
      rintro e w5 ⟨rfl, hg5, _⟩
      have H5 : Hid (LogArm X w1 w5 p pl 70 (fun _ => zeros 512) (gcom W P) 3000) := hg5
      clear hg5 HR2
      go_wp2_with fail
      refine (sync_arm H5.out (by omega)).mono ?_
      rintro e w6 ⟨_, hsy⟩
      clear H5
      rcases hsy with ⟨rfl, hg6⟩ | ⟨rfl, hg6⟩
      · have H6 : Hid (LogArm X w1 w6 p pl 70 (ovr (fun _ => zeros 512) (gcom W P)) (fun _ => none) 3128) := hg6
        clear hg6
        go_wp2_with fail
        refine (off_arm H6.out).mono ?_
        rintro e w7 ⟨rfl, rfl⟩
        go_wp2_with fail
        refine (cut_arm (.slice none 0 0) [] H6.out (.inl ⟨rfl, rfl⟩) (fun h => absurd rfl h) (by omega)).mono ?_
        rintro e w8 ⟨rfl, hg8, _⟩
        obtain ⟨fz, hfz⟩ : ∃ fz, ovr (fun _ => zeros 512) (gcom W P) = fz := ⟨_, rfl⟩
        have HFZ : Hid (∀ n, n < P → fz n = pat W n) := fun n hn => by rw [← hfz]; exact ovr_gcom hn _
        rw [hfz] at hg8
        have H8 : Hid (DkUp X w1 w8 p 70 fz true 3128) := hg8
        clear hg8 H6 hfz
        go_wp2_with fail
        refine (on_up H8.out).mono ?_
        rintro e w9 ⟨rfl, hg9, _⟩
        have H9 : Hid (DkUp X w1 w9 p 70 fz false 3128) := hg9
        clear hg9 H8
        go_wp2_with fail
        refine (open_up (by decide) H9.out (by omega)).mono ?_
        rintro e w10 ⟨pm, rfl, hg10, _⟩
        obtain ⟨NZ, hNZ⟩ : ∃ NZ, 3128 + 64 = NZ := ⟨_, rfl⟩
        rw [hNZ] at hg10
        have hNZ' : NZ < 1000000000 := by omega
        have HZ : Hid (LogUp X w1 w10 p pm 70 fz (fun _ => none) 0 NZ) := hg10
        clear hg10 H9 hq hNZ
        have hq := eqL_some ⟨pm, 0, none⟩
        go_wp2
        go_loopw [21, 22, 23, 24, 25] (fun y x _ _ _ wq => ∃ j, j ≤ P ∧ x = .int .i64 ((j : Nat) : Int) ∧ y = .int .i64 ((j : Nat) : Int) ∧ Hid (LogUp X w1 wq p pm 70 fz (fun _ => none) 0 NZ)) (fun _ x _ _ _ _ => P - (intOf x).toNat)
        case atStart => exact ⟨0, by omega, rfl, rfl, HZ⟩
        case round =>
          obtain ⟨j, hj, rfl, rfl, HS⟩ := hrel
          clear HZ
          by_cases hjl : j < P
          · have hki : (j : Int) < (P : Int) := by omega
            have hd1 : Int.tdiv (j : Int) (W : Int) = ((j / W : Nat) : Int) := by rw [Int.tdiv_eq_ediv_of_nonneg (by omega)]; omega
            have hd2 : Int.tmod (j : Int) (W : Int) = ((j % W : Nat) : Int) := by rw [Int.tmod_eq_emod_of_nonneg (by omega)]; omega
            have hd3 : (j : Int) / (W : Int) = ((j / W : Nat) : Int) := by omega
            have hd4 : (j : Int) % (W : Int) = ((j % W : Nat) : Int) := by omega
            have hdl : j / W ≤ j := Nat.div_le_self j W
            have hml : j % W < W := Nat.mod_lt j (by omega)
            have HPT : Hid (pat W j = full [((j / W : Nat) : Int) + 1, ((j % W : Nat) : Int)]) := by unfold pat; congr 2
            have HPN : Hid (pat W j ≠ zeros 512 ∧ IsB (pat W j)) := ⟨pat_ne W j, pat_isB (by omega) (by omega) (by omega)⟩
            obtain ⟨d, hdd⟩ : ∃ d, j / W = d := ⟨_, rfl⟩
            obtain ⟨r, hrr⟩ : ∃ r, j % W = r := ⟨_, rfl⟩
            rw [hdd] at hd1 hd3 hdl HPT
            rw [hrr] at hd2 hd4 hml HPT
            clear hdd hrr
            go_wp2_with fail
            refine (read_up j HS.out (by omega) (by omega)).mono ?_
            rintro e w20 ⟨ux, rfl, fr⟩
            rw [show ovr fz (fun _ => none) j = pat W j from HFZ.out j hjl] at fr
            obtain ⟨tx, htx⟩ : ∃ t, strOf (pat W j) = t := ⟨_, rfl⟩
            have hse := str_same tx
            have H20 : Hid (LogUp X w1 w20 p pm 70 fz (fun _ => none) 0 NZ ∧ Bs w20 ux (pat W j)) := ⟨HS.out.more fr.chg, fr.bs⟩
            have FL : Hid (Calls Try.prog 22 #[.slice (some ⟨w20.heap.size, 0, none⟩) 2 2] (w20.drew.alloc (.cells #[.int .u8 ((d : Int) + 1), .int .u8 (r : Int)] 5)) fun e w21 => ∃ u, e = .returned u ∧ (convert 39 9 u).run Try.prog w21 = .ok (.string tx) w21 ∧ (convert 39 9 ux).run Try.prog w21 = .ok (.string tx) w21 ∧ Hid (LogUp X w1 w21 p pm 70 fz (fun _ => none) 0 NZ ∧ Bs w21 ux (pat W j))) := by
              refine (full_any _ _ _ (Bs.two w20.drew _ _) (by simp)).mono ?_
              rintro e w21 ⟨u, rfl, fr2⟩
              have hcc : Chg (fun _ => False) w20 w21 := ((Chg.drew (fun _ => False) w20).trans (Chg.alloc (fun _ => False) w20.drew _) (fun _ _ h => h)).trans fr2.chg (fun _ _ h => h)
              have hbu := fr2.bs
              rw [← HPT.out] at hbu
              have hbx := H20.out.2.kept hcc (fun _ _ _ _ _ h => h)
              refine ⟨u, rfl, ?_, ?_, H20.out.1.more hcc, hbx⟩
              · rw [← htx]; exact run_str hbu
              · rw [← htx]; exact run_str hbx
            have HTX : Hid (strOf (pat W j) = tx) := htx
            clear fr HS htx
            have wq1 : IntKind.i64.wrap ((d : Int) + 1) = (d : Int) + 1 := by rw [IntKind.wrap_i64]; omega
            have wq2 : IntKind.u8.wrap ((d : Int) + 1) = (d : Int) + 1 := by rw [IntKind.wrap_u8]; omega
            have wq3 : IntKind.u8.wrap (r : Int) = (r : Int) := by rw [IntKind.wrap_u8]; omega
            have wq4 : IntKind.i64.wrap (r : Int) = (r : Int) := by rw [IntKind.wrap_i64]; omega
            have wq5 : IntKind.i64.wrap (d : Int) = (d : Int) := by rw [IntKind.wrap_i64]; omega
            have hW0 : ¬ (W : Int) = 0 := by omega
            go_wp2_with fail
            go_region_held (fun _ => True)
              (first | trivial)
              (first | (go_at_call 22; refine FL.out.mono ?_; clear FL; rintro e w21 ⟨u, rfl, x1, x2, H21⟩))
            all_goals
              clear wq1 wq2 wq3 wq4 wq5 hd1 hd2 hd3 hd4
              go_wp2
              go_roundw
              case rel => exact ⟨j + 1, by omega, by go_num, by go_num, H21.out.1⟩
              case measure => simp [intOf]; omega
          · have hje : j = P := by omega
            subst hje
            have hki : ¬ ((j : Int) < (j : Int)) := by omega
            have HE : Hid (Chg (fun _ => False) w wr) := HC.out.trans HS.out.chg (fun _ _ h => h)
            have hj0 : ((0 : Int) == (j : Int)) = false := by rw [beq_eq_false_iff_ne]; omega
            clear HS
            go_wp2
            go_ret
            refine ⟨?_, HE.out⟩
            simp

      · rcases hg6 with hg6 | hg6
        · obtain ⟨fz, hfz⟩ : ∃ fz : Nat → List Int, (fun _ => zeros 512) = fz := ⟨_, rfl⟩
          have HFZ : Hid (∀ n, n < P → fz n = zeros 512) := fun n hn => by rw [← hfz]
          rw [hfz] at hg6
          have H6 : Hid (DkUp X w1 w6 p 70 fz true 3128) := hg6
          clear hg6 hfz
          go_wp2_with fail
          refine (off_up H6.out).mono ?_
          rintro e w7 ⟨rfl, rfl⟩
          go_wp2_with fail
          refine (on_up H6.out).mono ?_
          rintro e w9 ⟨rfl, hg9, _⟩
          have H9 : Hid (DkUp X w1 w9 p 70 fz false 3128) := hg9
          clear hg9 H6
          go_wp2_with fail
          refine (open_up (by decide) H9.out (by omega)).mono ?_
          rintro e w10 ⟨pm, rfl, hg10, _⟩
          obtain ⟨NZ, hNZ⟩ : ∃ NZ, 3128 + 64 = NZ := ⟨_, rfl⟩
          rw [hNZ] at hg10
          have hNZ' : NZ < 1000000000 := by omega
          have HZ : Hid (LogUp X w1 w10 p pm 70 fz (fun _ => none) 0 NZ) := hg10
          clear hg10 H9 hq hNZ
          have hq := eqL_some ⟨pm, 0, none⟩
          go_wp2
          go_loopw [21, 22, 23, 24, 25] (fun y x _ _ _ wq => ∃ j, j ≤ P ∧ x = .int .i64 ((j : Nat) : Int) ∧ y = .int .i64 0 ∧ Hid (LogUp X w1 wq p pm 70 fz (fun _ => none) 0 NZ)) (fun _ x _ _ _ _ => P - (intOf x).toNat)
          case atStart => exact ⟨0, by omega, rfl, rfl, HZ⟩
          case round =>
            obtain ⟨j, hj, rfl, rfl, HS⟩ := hrel
            clear HZ
            by_cases hjl : j < P
            · have hki : (j : Int) < (P : Int) := by omega
              have hd1 : Int.tdiv (j : Int) (W : Int) = ((j / W : Nat) : Int) := by rw [Int.tdiv_eq_ediv_of_nonneg (by omega)]; omega
              have hd2 : Int.tmod (j : Int) (W : Int) = ((j % W : Nat) : Int) := by rw [Int.tmod_eq_emod_of_nonneg (by omega)]; omega
              have hd3 : (j : Int) / (W : Int) = ((j / W : Nat) : Int) := by omega
              have hd4 : (j : Int) % (W : Int) = ((j % W : Nat) : Int) := by omega
              have hdl : j / W ≤ j := Nat.div_le_self j W
              have hml : j % W < W := Nat.mod_lt j (by omega)
              have HPT : Hid (pat W j = full [((j / W : Nat) : Int) + 1, ((j % W : Nat) : Int)]) := by unfold pat; congr 2
              have HPN : Hid (pat W j ≠ zeros 512 ∧ IsB (pat W j)) := ⟨pat_ne W j, pat_isB (by omega) (by omega) (by omega)⟩
              obtain ⟨d, hdd⟩ : ∃ d, j / W = d := ⟨_, rfl⟩
              obtain ⟨r, hrr⟩ : ∃ r, j % W = r := ⟨_, rfl⟩
              rw [hdd] at hd1 hd3 hdl HPT
              rw [hrr] at hd2 hd4 hml HPT
              clear hdd hrr
              go_wp2_with fail
              refine (read_up j HS.out (by omega) (by omega)).mono ?_
              rintro e w20 ⟨ux, rfl, fr⟩
              rw [show ovr fz (fun _ => none) j = zeros 512 from HFZ.out j hjl] at fr
              obtain ⟨tx, htx⟩ : ∃ t, strOf (zeros 512) = t := ⟨_, rfl⟩
              obtain ⟨tp, htp⟩ : ∃ t, strOf (pat W j) = t := ⟨_, rfl⟩
              have hne : (tx.toList == tp.toList) = false := by rw [← htx, ← htp]; exact str_ne _ _ (zeros_isB 512) HPN.out.2 (fun e => HPN.out.1 e.symm)
              have hse := str_same tx
              have H20 : Hid (LogUp X w1 w20 p pm 70 fz (fun _ => none) 0 NZ ∧ Bs w20 ux (zeros 512)) := ⟨HS.out.more fr.chg, fr.bs⟩
              have FL : Hid (Calls Try.prog 22 #[.slice (some ⟨w20.heap.size, 0, none⟩) 2 2] (w20.drew.alloc (.cells #[.int .u8 ((d : Int) + 1), .int .u8 (r : Int)] 5)) fun e w21 => ∃ u, e = .returned u ∧ (convert 39 9 u).run Try.prog w21 = .ok (.string tp) w21 ∧ (convert 39 9 ux).run Try.prog w21 = .ok (.string tx) w21 ∧ Hid (LogUp X w1 w21 p pm 70 fz (fun _ => none) 0 NZ ∧ Bs w21 ux (zeros 512))) := by
                refine (full_any _ _ _ (Bs.two w20.drew _ _) (by simp)).mono ?_
                rintro e w21 ⟨u, rfl, fr2⟩
                have hcc : Chg (fun _ => False) w20 w21 := ((Chg.drew (fun _ => False) w20).trans (Chg.alloc (fun _ => False) w20.drew _) (fun _ _ h => h)).trans fr2.chg (fun _ _ h => h)
                have hbu := fr2.bs
                rw [← HPT.out] at hbu
                have hbx := H20.out.2.kept hcc (fun _ _ _ _ _ h => h)
                refine ⟨u, rfl, ?_, ?_, H20.out.1.more hcc, hbx⟩
                · rw [← htp]; exact run_str hbu
                · rw [← htx]; exact run_str hbx
              have HTX : Hid (strOf (zeros 512) = tx) := htx
              clear fr HS htx htp
              have wq1 : IntKind.i64.wrap ((d : Int) + 1) = (d : Int) + 1 := by rw [IntKind.wrap_i64]; omega
              have wq2 : IntKind.u8.wrap ((d : Int) + 1) = (d : Int) + 1 := by rw [IntKind.wrap_u8]; omega
              have wq3 : IntKind.u8.wrap (r : Int) = (r : Int) := by rw [IntKind.wrap_u8]; omega
              have wq4 : IntKind.i64.wrap (r : Int) = (r : Int) := by rw [IntKind.wrap_i64]; omega
              have wq5 : IntKind.i64.wrap (d : Int) = (d : Int) := by rw [IntKind.wrap_i64]; omega
              have hW0 : ¬ (W : Int) = 0 := by omega
              go_wp2_with fail
              go_region_held (fun _ => True)
                (first | trivial)
                (first | (go_at_call 22; refine FL.out.mono ?_; clear FL; rintro e w21 ⟨u, rfl, x1, x2, H21⟩))
              all_goals
                clear wq1 wq2 wq3 wq4 wq5 hd1 hd2 hd3 hd4
                have FN : Hid (Calls Try.prog 22 #[.slice none 0 0] w21.drew fun e w22 => ∃ u, e = .returned u ∧ (convert 39 9 u).run Try.prog w22 = .ok (.string tx) w22 ∧ (convert 39 9 ux).run Try.prog w22 = .ok (.string tx) w22 ∧ Hid (LogUp X w1 w22 p pm 70 fz (fun _ => none) 0 NZ)) := by
                  refine (full_any (.slice none 0 0) [] w21.drew (.inl ⟨rfl, rfl⟩) (by simp)).mono ?_
                  rintro e w22 ⟨u2, rfl, fr2⟩
                  have hcc : Chg (fun _ => False) w21 w22 := (Chg.drew (fun _ => False) w21).trans fr2.chg (fun _ _ h => h)
                  have hbu := fr2.bs
                  rw [full_nil] at hbu
                  refine ⟨u2, rfl, ?_, ?_, H21.out.1.more hcc⟩
                  · rw [← HTX.out]; exact run_str hbu
                  · rw [← HTX.out]; exact run_str (H21.out.2.kept hcc (fun _ _ _ _ _ h => h))
                have x2d : (convert 39 9 ux).run Try.prog w21.drew = .ok (.string tx) w21.drew := by
                  rw [← HTX.out]; exact run_str (H21.out.2.kept (Chg.drew (fun _ => False) w21) (fun _ _ _ _ _ h => h))
                go_wp2_with fail
                go_region_held (fun w' => (convert 39 9 ux).run Try.prog w' = .ok (.string tx) w')
                  (first | assumption | exact x2 | exact x2d | exact y2)
                  (first | (go_at_call 22; refine FN.out.mono ?_; clear FN; rintro e w22 ⟨u2, rfl, y1, y2, H22⟩))
                all_goals
                  clear x1 x2 x2d
                  go_wp2
                  go_roundw
                  case rel => exact ⟨j + 1, by omega, by go_num, rfl, H22⟩
                  case measure => simp [intOf]; omega
            · have hje : j = P := by omega
              subst hje
              have hki : ¬ ((j : Int) < (j : Int)) := by omega
              have HE : Hid (Chg (fun _ => False) w wr) := HC.out.trans HS.out.chg (fun _ _ h => h)
              have hj0 : ((0 : Int) == (j : Int)) = false := by rw [beq_eq_false_iff_ne]; omega
              clear HS
              go_wp2
              go_ret
              refine ⟨?_, HE.out⟩
              simp

        · obtain ⟨fz, hfz⟩ : ∃ fz, ovr (fun _ => zeros 512) (gcom W P) = fz := ⟨_, rfl⟩
          have HFZ : Hid (∀ n, n < P → fz n = pat W n) := fun n hn => by rw [← hfz]; exact ovr_gcom hn _
          rw [hfz] at hg6
          have H6 : Hid (DkUp X w1 w6 p 70 fz true 3128) := hg6
          clear hg6 hfz
          go_wp2_with fail
          refine (off_up H6.out).mono ?_
          rintro e w7 ⟨rfl, rfl⟩
          go_wp2_with fail
          refine (on_up H6.out).mono ?_
          rintro e w9 ⟨rfl, hg9, _⟩
          have H9 : Hid (DkUp X w1 w9 p 70 fz false 3128) := hg9
          clear hg9 H6
          go_wp2_with fail
          refine (open_up (by decide) H9.out (by omega)).mono ?_
          rintro e w10 ⟨pm, rfl, hg10, _⟩
          obtain ⟨NZ, hNZ⟩ : ∃ NZ, 3128 + 64 = NZ := ⟨_, rfl⟩
          rw [hNZ] at hg10
          have hNZ' : NZ < 1000000000 := by omega
          have HZ : Hid (LogUp X w1 w10 p pm 70 fz (fun _ => none) 0 NZ) := hg10
          clear hg10 H9 hq hNZ
          have hq := eqL_some ⟨pm, 0, none⟩
          go_wp2
          go_loopw [21, 22, 23, 24, 25] (fun y x _ _ _ wq => ∃ j, j ≤ P ∧ x = .int .i64 ((j : Nat) : Int) ∧ y = .int .i64 ((j : Nat) : Int) ∧ Hid (LogUp X w1 wq p pm 70 fz (fun _ => none) 0 NZ)) (fun _ x _ _ _ _ => P - (intOf x).toNat)
          case atStart => exact ⟨0, by omega, rfl, rfl, HZ⟩
          case round =>
            obtain ⟨j, hj, rfl, rfl, HS⟩ := hrel
            clear HZ
            by_cases hjl : j < P
            · have hki : (j : Int) < (P : Int) := by omega
              have hd1 : Int.tdiv (j : Int) (W : Int) = ((j / W : Nat) : Int) := by rw [Int.tdiv_eq_ediv_of_nonneg (by omega)]; omega
              have hd2 : Int.tmod (j : Int) (W : Int) = ((j % W : Nat) : Int) := by rw [Int.tmod_eq_emod_of_nonneg (by omega)]; omega
              have hd3 : (j : Int) / (W : Int) = ((j / W : Nat) : Int) := by omega
              have hd4 : (j : Int) % (W : Int) = ((j % W : Nat) : Int) := by omega
              have hdl : j / W ≤ j := Nat.div_le_self j W
              have hml : j % W < W := Nat.mod_lt j (by omega)
              have HPT : Hid (pat W j = full [((j / W : Nat) : Int) + 1, ((j % W : Nat) : Int)]) := by unfold pat; congr 2
              have HPN : Hid (pat W j ≠ zeros 512 ∧ IsB (pat W j)) := ⟨pat_ne W j, pat_isB (by omega) (by omega) (by omega)⟩
              obtain ⟨d, hdd⟩ : ∃ d, j / W = d := ⟨_, rfl⟩
              obtain ⟨r, hrr⟩ : ∃ r, j % W = r := ⟨_, rfl⟩
              rw [hdd] at hd1 hd3 hdl HPT
              rw [hrr] at hd2 hd4 hml HPT
              clear hdd hrr
              go_wp2_with fail
              refine (read_up j HS.out (by omega) (by omega)).mono ?_
              rintro e w20 ⟨ux, rfl, fr⟩
              rw [show ovr fz (fun _ => none) j = pat W j from HFZ.out j hjl] at fr
              obtain ⟨tx, htx⟩ : ∃ t, strOf (pat W j) = t := ⟨_, rfl⟩
              have hse := str_same tx
              have H20 : Hid (LogUp X w1 w20 p pm 70 fz (fun _ => none) 0 NZ ∧ Bs w20 ux (pat W j)) := ⟨HS.out.more fr.chg, fr.bs⟩
              have FL : Hid (Calls Try.prog 22 #[.slice (some ⟨w20.heap.size, 0, none⟩) 2 2] (w20.drew.alloc (.cells #[.int .u8 ((d : Int) + 1), .int .u8 (r : Int)] 5)) fun e w21 => ∃ u, e = .returned u ∧ (convert 39 9 u).run Try.prog w21 = .ok (.string tx) w21 ∧ (convert 39 9 ux).run Try.prog w21 = .ok (.string tx) w21 ∧ Hid (LogUp X w1 w21 p pm 70 fz (fun _ => none) 0 NZ ∧ Bs w21 ux (pat W j))) := by
                refine (full_any _ _ _ (Bs.two w20.drew _ _) (by simp)).mono ?_
                rintro e w21 ⟨u, rfl, fr2⟩
                have hcc : Chg (fun _ => False) w20 w21 := ((Chg.drew (fun _ => False) w20).trans (Chg.alloc (fun _ => False) w20.drew _) (fun _ _ h => h)).trans fr2.chg (fun _ _ h => h)
                have hbu := fr2.bs
                rw [← HPT.out] at hbu
                have hbx := H20.out.2.kept hcc (fun _ _ _ _ _ h => h)
                refine ⟨u, rfl, ?_, ?_, H20.out.1.more hcc, hbx⟩
                · rw [← htx]; exact run_str hbu
                · rw [← htx]; exact run_str hbx
              have HTX : Hid (strOf (pat W j) = tx) := htx
              clear fr HS htx
              have wq1 : IntKind.i64.wrap ((d : Int) + 1) = (d : Int) + 1 := by rw [IntKind.wrap_i64]; omega
              have wq2 : IntKind.u8.wrap ((d : Int) + 1) = (d : Int) + 1 := by rw [IntKind.wrap_u8]; omega
              have wq3 : IntKind.u8.wrap (r : Int) = (r : Int) := by rw [IntKind.wrap_u8]; omega
              have wq4 : IntKind.i64.wrap (r : Int) = (r : Int) := by rw [IntKind.wrap_i64]; omega
              have wq5 : IntKind.i64.wrap (d : Int) = (d : Int) := by rw [IntKind.wrap_i64]; omega
              have hW0 : ¬ (W : Int) = 0 := by omega
              go_wp2_with fail
              go_region_held (fun _ => True)
                (first | trivial)
                (first | (go_at_call 22; refine FL.out.mono ?_; clear FL; rintro e w21 ⟨u, rfl, x1, x2, H21⟩))
              all_goals
                clear wq1 wq2 wq3 wq4 wq5 hd1 hd2 hd3 hd4
                go_wp2
                go_roundw
                case rel => exact ⟨j + 1, by omega, by go_num, by go_num, H21.out.1⟩
                case measure => simp [intOf]; omega
            · have hje : j = P := by omega
              subst hje
              have hki : ¬ ((j : Int) < (j : Int)) := by omega
              have HE : Hid (Chg (fun _ => False) w wr) := HC.out.trans HS.out.chg (fun _ _ h => h)
              have hj0 : ((0 : Int) == (j : Int)) = false := by rw [beq_eq_false_iff_ne]; omega
              clear HS
              go_wp2
              go_ret
              refine ⟨?_, HE.out⟩
              simp

end Go.Proofs.Ytkkmdmnjlncgfaa

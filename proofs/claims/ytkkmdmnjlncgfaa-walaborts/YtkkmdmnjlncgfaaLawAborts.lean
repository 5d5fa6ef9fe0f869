/-
  WalAborts answers true for every slice of numbers, every slice of bytes, and either bool.
-/
import Derived.Test.YtkkmdmnjlncgfaaWHelp
namespace Go.Proofs.Ytkkmdmnjlncgfaa
open Go.RowKit Go.Maps

/-- The first i of them were written. -/
structure Ab (w0 w : World) (p pl q : Nat) (B : List Int) (l : List Int) (i : Nat) (own : Nat → Option (List Int)) (wrote : Nat) : Prop where
  tx : TxUp (fun b => b < w0.heap.size) w0 w p pl q 70 (fun _ => zeros 512) (fun _ => none) 0 true own wrote 72
  few : wrote ≤ i
  val : ∀ n c, own n = some c → c = B
  has : ∀ j, j < i → own (idx l j) = some B
theorem Ab.more {w0 w w' : World} {p pl q : Nat} {B l : List Int} {i : Nat} {own : Nat → Option (List Int)} {wrote : Nat} (h : Ab w0 w p pl q B l i own wrote) (hc : Chg (fun _ => False) w w') : Ab w0 w' p pl q B l i own wrote := ⟨h.tx.more hc, h.few, h.val, h.has⟩
theorem Ab.next {w0 w w' : World} {p pl q : Nat} {B l : List Int} {i n : Nat} {own : Nat → Option (List Int)} {wrote : Nat} (h : Ab w0 w p pl q B l i own wrote) (hi : idx l i = n) (hn : n < 70) (ht : TxUp (fun b => b < w0.heap.size) w0 w' p pl q 70 (fun _ => zeros 512) (fun _ => none) 0 true (upd own n (some B)) (ks 70 (upd own n (some B))).length 72) : Ab w0 w' p pl q B l (i + 1) (upd own n (some B)) (ks 70 (upd own n (some B))).length := by
  have h1 := h.tx.inv
  have h2 := h.few
  refine ⟨ht, ?_, fun k c hc => ?_, fun j hj => ?_⟩
  · cases ho : own n with
    | none => rw [ks_upd_first hn ho]; omega
    | some b0 => rw [ks_upd_again ho]; omega
  · by_cases e : k = n
    · subst e; rw [upd_same] at hc; injection hc with hc; exact hc.symm
    · rw [upd_other _ _ e] at hc; exact h.val k c hc
  · by_cases e : idx l j = n
    · rw [e, upd_same]
    · rw [upd_other _ _ e]
      exact h.has j (by
        rcases Nat.lt_or_ge j i with h | h
        · exact h
        · have : j = i := by omega
          subst this; exact absurd hi e)

set_option maxHeartbeats 6400000 in
set_option maxRecDepth 100000 in
theorem law_abortsT (v0 v1 : Value) (l bs : List Int) (w : World) (hv : Is w v0 l) (hb : Bs w v1 bs) (h1 : l.length ≤ 60) (h2 : bs.length ≤ 64) (h3 : bs.length ≠ 0) :
    Calls Try.prog 6 #[v0, v1, .bool true] w fun e w' => e = .returned (.bool true) ∧ Chg (fun _ => False) w w' := by
  obtain ⟨va, vc, rfl, hvc⟩ := hv.form
  obtain ⟨ba, bc, rfl, hbc⟩ := hb.form
  have HI : Hid (Is w (.slice va l.length vc) l ∧ Bs w (.slice ba bs.length bc) bs) := ⟨hv, hb⟩
  clear hv hb hvc hbc
  have k1 : decide ((60 : Int) < (l.length : Int)) = false := by simp; omega
  have k2 : decide ((64 : Int) < (bs.length : Int)) = false := by simp; omega
  have k3 : ((bs.length : Int) == 0) = false := by rw [beq_eq_false_iff_ne]; omega
  obtain ⟨B, hB⟩ : ∃ B, full bs = B := ⟨_, rfl⟩
  have HB : Hid (full bs = B ∧ B.length = 512) := ⟨hB, by rw [← hB]; exact full_len _⟩
  obtain ⟨tW, hW⟩ : ∃ t, strOf B = t := ⟨_, rfl⟩
  obtain ⟨tN, hN⟩ : ∃ t, strOf (zeros 512) = t := ⟨_, rfl⟩
  have HW : Hid (strOf B = tW) := hW
  have HN : Hid (strOf (zeros 512) = tN) := hN
  have sW := str_same tW
  have sN := str_same tN
  clear hB hW hN
  go_enter Try.func6, Try.ntmps6
  go_wp2_with fail
  refine (known_any w).mono ?_
  rintro e w1 ⟨rfl, hc⟩
  have HC : Hid (Chg (fun _ => False) w w1) := hc
  clear hc
  go_wp2_with fail
  refine (begun_any w1).mono ?_
  rintro e w2 ⟨p, pl, rfl, hg2⟩
  have H2 : Hid (LogUp (fun b => b < w1.heap.size) w1 w2 p pl 70 (fun _ => zeros 512) (fun _ => none) 0 72) := hg2
  clear hg2
  have hq := eqL_some ⟨pl, 0, none⟩
  go_wp2_with fail
  refine (begin_up H2.out).mono ?_
  rintro e w3 ⟨q, rfl, hg3, _⟩
  have H3 : Hid (TxUp (fun b => b < w1.heap.size) w1 w3 p pl q 70 (fun _ => zeros 512) (fun _ => none) 0 true (fun _ => none) 0 72) := hg3
  clear hg3 H2
  have hq2 := eqT_some ⟨q, 0, none⟩
  go_wp2_with fail
  refine (full_any (.slice ba bs.length bc) bs w3 (HI.out.2.kept (HC.out.trans H3.out.chg (fun _ _ h => h)) (fun _ _ _ _ _ h => h)) (by omega)).mono ?_
  rintro e w4 ⟨u, rfl, fr⟩
  rw [HB.out.1] at fr
  have s4 := run_str fr.bs
  rw [HW.out] at s4
  have H4 : Hid (TxUp (fun b => b < w1.heap.size) w1 w4 p pl q 70 (fun _ => zeros 512) (fun _ => none) 0 true (fun _ => none) 0 72) := H3.out.more fr.chg
  clear fr H3
  go_wp2_with fail
  refine (full_any (.slice none 0 0) [] w4 (.inl ⟨rfl, rfl⟩) (by simp)).mono ?_
  rintro e w5 ⟨u5, rfl, fr⟩
  rw [full_nil] at fr
  have s5 := run_str fr.bs
  rw [HN.out] at s5
  have H5 : Hid (Ab w1 w5 p pl q B l 0 (fun _ => none) 0) := ⟨H4.out.more fr.chg, by omega, fun n c h => (by cases h), fun j hj => by omega⟩
  clear fr H4 s4
  go_wp2
  clear s5
  go_loopw [13, 14, 15, 16, 17, 18, 19] (fun x _ _ _ _ _ _ wr => ∃ i own wrote, i ≤ l.length ∧ x = .int .i64 ((i : Nat) : Int) ∧ Hid (Ab w1 wr p pl q B l i own wrote)) (fun x _ _ _ _ _ _ _ => l.length - (intOf x).toNat)
  case atStart => exact ⟨0, _, 0, by omega, rfl, H5⟩
  case round =>
    obtain ⟨i, own, wrote, hi, rfl, HR⟩ := hrel
    clear H5
    by_cases hlt : i < l.length
    · have hcw : Chg (fun _ => False) w wr := HC.out.trans HR.out.tx.chg (fun _ _ h => h)
      have hls : Is wr (.slice va l.length vc) l := HI.out.1.kept hcw (fun _ _ h => h)
      obtain ⟨bb, off, hva, hcs⟩ := hls.nth (j := i) hlt
      have hc := hcs i hlt
      have hn64 := idx_lt l i
      have ha := and63 (l.getD i 0)
      rw [idx_mod] at ha
      obtain ⟨n, hn⟩ : ∃ n, idx l i = n := ⟨_, rfl⟩
      rw [hn] at ha hn64
      have HX : Hid (idx l i = n) := hn
      clear hn
      generalize l.getD i 0 = y at *
      have hki : (i : Int) < (l.length : Int) := by omega
      subst hva
      clear hls hcs
      have HBB : Hid (Bs wr (.slice ba bs.length bc) bs) := HI.out.2.kept hcw (fun _ _ _ _ _ h => h)
      clear hcw
      go_wp2_with fail
      refine (full_any (.slice ba bs.length bc) bs wr HBB.out (by omega)).mono ?_
      rintro e w6 ⟨u, rfl, fr⟩
      rw [HB.out.1] at fr
      obtain ⟨ua, uc, rfl⟩ := fr.form512 HB.out.2
      have N6 : Hid (NewB wr w6 (.slice ua 512 uc) B) := fr.newB (Chg.refl (fun _ => False) wr)
      have hw63 : wrote < 63 := by have := HR.out.few; omega
      clear fr HBB
      go_wp2_with fail
      refine (write_up n B ua uc HR.out.tx N6.out HB.out.2 (by omega) (.inr hw63)).mono ?_
      rintro e w7 ⟨rfl, hg7, _⟩
      have H7 : Hid (Ab w1 w7 p pl q B l (i + 1) (upd own n (some B)) (ks 70 (upd own n (some B))).length) := HR.out.next HX.out (by omega) hg7
      clear hg7 N6 HR hc
      go_wp2_with fail
      refine (tread_up n H7.out.tx (by omega) (by omega)).mono ?_
      rintro e w8 ⟨ux, rfl, fr⟩
      rw [ovr_some (upd_same own n (some B))] at fr
      have H8 : Hid (Ab w1 w8 p pl q B l (i + 1) (upd own n (some B)) (ks 70 (upd own n (some B))).length ∧ Bs w8 ux B) := ⟨H7.out.more fr.chg, fr.bs⟩
      clear fr H7
      go_wp2_with fail
      refine (read_upT n H8.out.1.tx (by omega) (by omega)).mono ?_
      rintro e w9 ⟨uy, rfl, fr⟩
      rw [show ovr (fun _ => zeros 512) (fun _ => none) n = zeros 512 from rfl] at fr
      have sx := run_str (H8.out.2.kept fr.chg (fun _ _ _ _ _ h => h))
      have sy := run_str fr.bs
      rw [HW.out] at sx
      rw [HN.out] at sy
      have H9 : Hid (Ab w1 w9 p pl q B l (i + 1) (upd own n (some B)) (ks 70 (upd own n (some B))).length) := H8.out.1.more fr.chg
      clear fr H8
      go_wp2
      go_roundw
      case rel => exact ⟨i + 1, _, _, by omega, by go_num, H9⟩
      case measure => simp [intOf]; omega
    · have hie : i = l.length := by omega
      subst hie
      have hki : ¬ ((l.length : Int) < (l.length : Int)) := by omega
      go_wp2_with fail
      refine (commit_up HR.out.tx (by omega) (by omega)).mono ?_
      rintro e w6 ⟨rfl, f6, com6, pend6, hg6, _, hv6, _⟩
      have H6 : Hid (LogUp (fun b => b < w1.heap.size) w1 w6 p pl 70 f6 com6 pend6 200 ∧ ∀ j, j < l.length → ovr f6 com6 (idx l j) = B) := ⟨hg6.log, fun j hj => by rw [hv6, ovr_some (HR.out.has j hj)]⟩
      clear hg6 hv6 HR
      go_wp2
      go_loopw [20, 21, 22] (fun x _ _ wr => ∃ j, j ≤ l.length ∧ x = .int .i64 ((j : Nat) : Int) ∧ Hid (LogUp (fun b => b < w1.heap.size) w1 wr p pl 70 f6 com6 pend6 200)) (fun x _ _ _ => l.length - (intOf x).toNat)
      case atStart => exact ⟨0, by omega, rfl, H6.out.1⟩
      case round =>
        obtain ⟨j, hj, rfl, HS⟩ := hrel
        by_cases hjl : j < l.length
        · have hls : Is wr (.slice va l.length vc) l := HI.out.1.kept (HC.out.trans HS.out.chg (fun _ _ h => h)) (fun _ _ h => h)
          obtain ⟨bb, off, hva, hcs⟩ := hls.nth (j := j) hjl
          have hc := hcs j hjl
          have hn64 := idx_lt l j
          have ha := and63 (l.getD j 0)
          rw [idx_mod] at ha
          have HV := H6.out.2 j hjl
          obtain ⟨n, hn⟩ : ∃ n, idx l j = n := ⟨_, rfl⟩
          rw [hn] at ha hn64 HV
          have HX : Hid (ovr f6 com6 n = B) := HV
          clear hn HV
          generalize l.getD j 0 = y at *
          have hki : (j : Int) < (l.length : Int) := by omega
          subst hva
          clear hls hcs
          go_wp2_with fail
          refine (read_up n HS.out (by omega) (by omega)).mono ?_
          rintro e w7 ⟨uy, rfl, fr⟩
          rw [HX.out] at fr
          have sy := run_str fr.bs
          rw [HW.out] at sy
          have H7 : Hid (LogUp (fun b => b < w1.heap.size) w1 w7 p pl 70 f6 com6 pend6 200) := HS.out.more fr.chg
          clear fr HS hc
          go_wp2
          go_roundw
          case rel => exact ⟨j + 1, by omega, by go_num, H7⟩
          case measure => simp [intOf]; omega
        · have hje : ¬ ((j : Int) < (l.length : Int)) := by omega
          go_wp2_with fail
          refine (sync_up HS.out (by omega)).mono ?_
          rintro e w7 ⟨rfl, hg7, _⟩
          have H7 : Hid (LogUp (fun b => b < w1.heap.size) w1 w7 p pl 70 (ovr f6 com6) (fun _ => none) 0 328) := hg7
          clear hg7 HS
          go_wp2_with fail
          refine (cut_up (.slice none 0 0) [] H7.out (.inl ⟨rfl, rfl⟩) (fun h => absurd rfl h) (by decide)).mono ?_
          rintro e w8 ⟨rfl, hg8, _⟩
          have H8 : Hid (DkUp (fun b => b < w1.heap.size) w1 w8 p 70 (ovr f6 com6) true 328) := hg8
          clear hg8 H7
          go_wp2_with fail
          refine (on_up H8.out).mono ?_
          rintro e w9 ⟨rfl, hg9, _⟩
          have H9 : Hid (DkUp (fun b => b < w1.heap.size) w1 w9 p 70 (ovr f6 com6) false 328) := hg9
          clear hg9 H8
          go_wp2_with fail
          refine (open_up (by decide) H9.out (by decide)).mono ?_
          rintro e w10 ⟨pm, rfl, hg10, _⟩
          have H10 : Hid (LogUp (fun b => b < w1.heap.size) w1 w10 p pm 70 (ovr f6 com6) (fun _ => none) 0 392) := hg10
          clear hg10 H9 hq
          have hq := eqL_some ⟨pm, 0, none⟩
          go_wp2
          go_loopw [26, 27, 28] (fun x _ _ wr => ∃ j, j ≤ l.length ∧ x = .int .i64 ((j : Nat) : Int) ∧ Hid (LogUp (fun b => b < w1.heap.size) w1 wr p pm 70 (ovr f6 com6) (fun _ => none) 0 392)) (fun x _ _ _ => l.length - (intOf x).toNat)
          case atStart => exact ⟨0, by omega, rfl, H10⟩
          case round =>
            clear H10
            obtain ⟨j2, hj2, rfl, HS⟩ := hrel
            by_cases hjl : j2 < l.length
            · have hls : Is wr (.slice va l.length vc) l := HI.out.1.kept (HC.out.trans HS.out.chg (fun _ _ h => h)) (fun _ _ h => h)
              obtain ⟨bb, off, hva, hcs⟩ := hls.nth (j := j2) hjl
              have hc := hcs j2 hjl
              have hn64 := idx_lt l j2
              have ha := and63 (l.getD j2 0)
              rw [idx_mod] at ha
              have HV := H6.out.2 j2 hjl
              obtain ⟨n, hn⟩ : ∃ n, idx l j2 = n := ⟨_, rfl⟩
              rw [hn] at ha hn64 HV
              have HX : Hid (ovr f6 com6 n = B) := HV
              clear hn HV
              generalize l.getD j2 0 = y at *
              have hki : (j2 : Int) < (l.length : Int) := by omega
              subst hva
              clear hls hcs
              go_wp2_with fail
              refine (read_up n HS.out (by omega) (by omega)).mono ?_
              rintro e w11 ⟨uy, rfl, fr⟩
              rw [show ovr (ovr f6 com6) (fun _ => none) n = B from HX.out] at fr
              have sy := run_str fr.bs
              rw [HW.out] at sy
              have H11 : Hid (LogUp (fun b => b < w1.heap.size) w1 w11 p pm 70 (ovr f6 com6) (fun _ => none) 0 392) := HS.out.more fr.chg
              clear fr HS hc
              by_cases hwe : tW = tN
              · have HWE : Hid (tW = tN) := hwe
                subst hwe
                go_wp2
                all_goals
                  go_roundw
                  case rel => exact ⟨j2 + 1, by omega, by go_num, H11⟩
                  case measure => simp [intOf]; omega
              · have hwn : (tW.toList == tN.toList) = false := by
                  rw [beq_eq_false_iff_ne, ByteArray.toList_eq, ByteArray.toList_eq]
                  exact fun e => hwe (ByteArray.ext (Array.ext' e))
                clear hwe
                go_wp2
                all_goals
                  go_roundw
                  case rel => exact ⟨j2 + 1, by omega, by go_num, H11⟩
                  case measure => simp [intOf]; omega
            · have hje : ¬ ((j2 : Int) < (l.length : Int)) := by omega
              have HE : Hid (Chg (fun _ => False) w wr) := HC.out.trans HS.out.chg (fun _ _ h => h)
              clear HS
              go_wp2
              go_ret
              exact ⟨rfl, HE.out⟩

set_option maxHeartbeats 6400000 in
set_option maxRecDepth 100000 in
theorem law_abortsF (v0 v1 : Value) (l bs : List Int) (w : World) (hv : Is w v0 l) (hb : Bs w v1 bs) (h1 : l.length ≤ 60) (h2 : bs.length ≤ 64) (h3 : bs.length ≠ 0) :
    Calls Try.prog 6 #[v0, v1, .bool false] w fun e w' => e = .returned (.bool true) ∧ Chg (fun _ => False) w w' := by
  obtain ⟨va, vc, rfl, hvc⟩ := hv.form
  obtain ⟨ba, bc, rfl, hbc⟩ := hb.form
  have HI : Hid (Is w (.slice va l.length vc) l ∧ Bs w (.slice ba bs.length bc) bs) := ⟨hv, hb⟩
  clear hv hb hvc hbc
  have k1 : decide ((60 : Int) < (l.length : Int)) = false := by simp; omega
  have k2 : decide ((64 : Int) < (bs.length : Int)) = false := by simp; omega
  have k3 : ((bs.length : Int) == 0) = false := by rw [beq_eq_false_iff_ne]; omega
  obtain ⟨B, hB⟩ : ∃ B, full bs = B := ⟨_, rfl⟩
  have HB : Hid (full bs = B ∧ B.length = 512) := ⟨hB, by rw [← hB]; exact full_len _⟩
  obtain ⟨tW, hW⟩ : ∃ t, strOf B = t := ⟨_, rfl⟩
  obtain ⟨tN, hN⟩ : ∃ t, strOf (zeros 512) = t := ⟨_, rfl⟩
  have HW : Hid (strOf B = tW) := hW
  have HN : Hid (strOf (zeros 512) = tN) := hN
  have sW := str_same tW
  have sN := str_same tN
  clear hB hW hN
  go_enter Try.func6, Try.ntmps6
  go_wp2_with fail
  refine (known_any w).mono ?_
  rintro e w1 ⟨rfl, hc⟩
  have HC : Hid (Chg (fun _ => False) w w1) := hc
  clear hc
  go_wp2_with fail
  refine (begun_any w1).mono ?_
  rintro e w2 ⟨p, pl, rfl, hg2⟩
  have H2 : Hid (LogUp (fun b => b < w1.heap.size) w1 w2 p pl 70 (fun _ => zeros 512) (fun _ => none) 0 72) := hg2
  clear hg2
  have hq := eqL_some ⟨pl, 0, none⟩
  go_wp2_with fail
  refine (begin_up H2.out).mono ?_
  rintro e w3 ⟨q, rfl, hg3, _⟩
  have H3 : Hid (TxUp (fun b => b < w1.heap.size) w1 w3 p pl q 70 (fun _ => zeros 512) (fun _ => none) 0 true (fun _ => none) 0 72) := hg3
  clear hg3 H2
  have hq2 := eqT_some ⟨q, 0, none⟩
  go_wp2_with fail
  refine (full_any (.slice ba bs.length bc) bs w3 (HI.out.2.kept (HC.out.trans H3.out.chg (fun _ _ h => h)) (fun _ _ _ _ _ h => h)) (by omega)).mono ?_
  rintro e w4 ⟨u, rfl, fr⟩
  rw [HB.out.1] at fr
  have s4 := run_str fr.bs
  rw [HW.out] at s4
  have H4 : Hid (TxUp (fun b => b < w1.heap.size) w1 w4 p pl q 70 (fun _ => zeros 512) (fun _ => none) 0 true (fun _ => none) 0 72) := H3.out.more fr.chg
  clear fr H3
  go_wp2_with fail
  refine (full_any (.slice none 0 0) [] w4 (.inl ⟨rfl, rfl⟩) (by simp)).mono ?_
  rintro e w5 ⟨u5, rfl, fr⟩
  rw [full_nil] at fr
  have s5 := run_str fr.bs
  rw [HN.out] at s5
  have H5 : Hid (Ab w1 w5 p pl q B l 0 (fun _ => none) 0) := ⟨H4.out.more fr.chg, by omega, fun n c h => (by cases h), fun j hj => by omega⟩
  clear fr H4 s4
  go_wp2
  clear s5
  go_loopw [13, 14, 15, 16, 17, 18, 19] (fun x _ _ _ _ _ _ wr => ∃ i own wrote, i ≤ l.length ∧ x = .int .i64 ((i : Nat) : Int) ∧ Hid (Ab w1 wr p pl q B l i own wrote)) (fun x _ _ _ _ _ _ _ => l.length - (intOf x).toNat)
  case atStart => exact ⟨0, _, 0, by omega, rfl, H5⟩
  case round =>
    obtain ⟨i, own, wrote, hi, rfl, HR⟩ := hrel
    clear H5
    by_cases hlt : i < l.length
    · have hcw : Chg (fun _ => False) w wr := HC.out.trans HR.out.tx.chg (fun _ _ h => h)
      have hls : Is wr (.slice va l.length vc) l := HI.out.1.kept hcw (fun _ _ h => h)
      obtain ⟨bb, off, hva, hcs⟩ := hls.nth (j := i) hlt
      have hc := hcs i hlt
      have hn64 := idx_lt l i
      have ha := and63 (l.getD i 0)
      rw [idx_mod] at ha
      obtain ⟨n, hn⟩ : ∃ n, idx l i = n := ⟨_, rfl⟩
      rw [hn] at ha hn64
      have HX : Hid (idx l i = n) := hn
      clear hn
      generalize l.getD i 0 = y at *
      have hki : (i : Int) < (l.length : Int) := by omega
      subst hva
      clear hls hcs
      have HBB : Hid (Bs wr (.slice ba bs.length bc) bs) := HI.out.2.kept hcw (fun _ _ _ _ _ h => h)
      clear hcw
      go_wp2_with fail
      refine (full_any (.slice ba bs.length bc) bs wr HBB.out (by omega)).mono ?_
      rintro e w6 ⟨u, rfl, fr⟩
      rw [HB.out.1] at fr
      obtain ⟨ua, uc, rfl⟩ := fr.form512 HB.out.2
      have N6 : Hid (NewB wr w6 (.slice ua 512 uc) B) := fr.newB (Chg.refl (fun _ => False) wr)
      have hw63 : wrote < 63 := by have := HR.out.few; omega
      clear fr HBB
      go_wp2_with fail
      refine (write_up n B ua uc HR.out.tx N6.out HB.out.2 (by omega) (.inr hw63)).mono ?_
      rintro e w7 ⟨rfl, hg7, _⟩
      have H7 : Hid (Ab w1 w7 p pl q B l (i + 1) (upd own n (some B)) (ks 70 (upd own n (some B))).length) := HR.out.next HX.out (by omega) hg7
      clear hg7 N6 HR hc
      go_wp2_with fail
      refine (tread_up n H7.out.tx (by omega) (by omega)).mono ?_
      rintro e w8 ⟨ux, rfl, fr⟩
      rw [ovr_some (upd_same own n (some B))] at fr
      have H8 : Hid (Ab w1 w8 p pl q B l (i + 1) (upd own n (some B)) (ks 70 (upd own n (some B))).length ∧ Bs w8 ux B) := ⟨H7.out.more fr.chg, fr.bs⟩
      clear fr H7
      go_wp2_with fail
      refine (read_upT n H8.out.1.tx (by omega) (by omega)).mono ?_
      rintro e w9 ⟨uy, rfl, fr⟩
      rw [show ovr (fun _ => zeros 512) (fun _ => none) n = zeros 512 from rfl] at fr
      have sx := run_str (H8.out.2.kept fr.chg (fun _ _ _ _ _ h => h))
      have sy := run_str fr.bs
      rw [HW.out] at sx
      rw [HN.out] at sy
      have H9 : Hid (Ab w1 w9 p pl q B l (i + 1) (upd own n (some B)) (ks 70 (upd own n (some B))).length) := H8.out.1.more fr.chg
      clear fr H8
      go_wp2
      go_roundw
      case rel => exact ⟨i + 1, _, _, by omega, by go_num, H9⟩
      case measure => simp [intOf]; omega
    · have hie : i = l.length := by omega
      subst hie
      have hki : ¬ ((l.length : Int) < (l.length : Int)) := by omega
      go_wp2_with fail
      refine (abort_up HR.out.tx).mono ?_
      rintro e w6 ⟨rfl, hg6, _⟩
      have H6 : Hid (LogUp (fun b => b < w1.heap.size) w1 w6 p pl 70 (fun _ => zeros 512) (fun _ => none) 0 72 ∧ ∀ j, j < l.length → ovr (fun _ => zeros 512) (fun _ => none) (idx l j) = zeros 512) := ⟨hg6.log, fun j hj => rfl⟩
      clear hg6 HR
      go_wp2
      go_loopw [20, 21, 22] (fun x _ _ wr => ∃ j, j ≤ l.length ∧ x = .int .i64 ((j : Nat) : Int) ∧ Hid (LogUp (fun b => b < w1.heap.size) w1 wr p pl 70 (fun _ => zeros 512) (fun _ => none) 0 72)) (fun x _ _ _ => l.length - (intOf x).toNat)
      case atStart => exact ⟨0, by omega, rfl, H6.out.1⟩
      case round =>
        obtain ⟨j, hj, rfl, HS⟩ := hrel
        by_cases hjl : j < l.length
        · have hls : Is wr (.slice va l.length vc) l := HI.out.1.kept (HC.out.trans HS.out.chg (fun _ _ h => h)) (fun _ _ h => h)
          obtain ⟨bb, off, hva, hcs⟩ := hls.nth (j := j) hjl
          have hc := hcs j hjl
          have hn64 := idx_lt l j
          have ha := and63 (l.getD j 0)
          rw [idx_mod] at ha
          have HV := H6.out.2 j hjl
          obtain ⟨n, hn⟩ : ∃ n, idx l j = n := ⟨_, rfl⟩
          rw [hn] at ha hn64 HV
          have HX : Hid (ovr (fun _ => zeros 512) (fun _ => none) n = (zeros 512)) := HV
          clear hn HV
          generalize l.getD j 0 = y at *
          have hki : (j : Int) < (l.length : Int) := by omega
          subst hva
          clear hls hcs
          go_wp2_with fail
          refine (read_up n HS.out (by omega) (by omega)).mono ?_
          rintro e w7 ⟨uy, rfl, fr⟩
          rw [HX.out] at fr
          have sy := run_str fr.bs
          rw [HN.out] at sy
          have H7 : Hid (LogUp (fun b => b < w1.heap.size) w1 w7 p pl 70 (fun _ => zeros 512) (fun _ => none) 0 72) := HS.out.more fr.chg
          clear fr HS hc
          go_wp2
          go_roundw
          case rel => exact ⟨j + 1, by omega, by go_num, H7⟩
          case measure => simp [intOf]; omega
        · have hje : ¬ ((j : Int) < (l.length : Int)) := by omega
          go_wp2_with fail
          refine (sync_up HS.out (by omega)).mono ?_
          rintro e w7 ⟨rfl, hg7, _⟩
          have H7 : Hid (LogUp (fun b => b < w1.heap.size) w1 w7 p pl 70 (ovr (fun _ => zeros 512) (fun _ => none)) (fun _ => none) 0 200) := hg7
          clear hg7 HS
          go_wp2_with fail
          refine (cut_up (.slice none 0 0) [] H7.out (.inl ⟨rfl, rfl⟩) (fun h => absurd rfl h) (by decide)).mono ?_
          rintro e w8 ⟨rfl, hg8, _⟩
          have H8 : Hid (DkUp (fun b => b < w1.heap.size) w1 w8 p 70 (ovr (fun _ => zeros 512) (fun _ => none)) true 200) := hg8
          clear hg8 H7
          go_wp2_with fail
          refine (on_up H8.out).mono ?_
          rintro e w9 ⟨rfl, hg9, _⟩
          have H9 : Hid (DkUp (fun b => b < w1.heap.size) w1 w9 p 70 (ovr (fun _ => zeros 512) (fun _ => none)) false 200) := hg9
          clear hg9 H8
          go_wp2_with fail
          refine (open_up (by decide) H9.out (by decide)).mono ?_
          rintro e w10 ⟨pm, rfl, hg10, _⟩
          have H10 : Hid (LogUp (fun b => b < w1.heap.size) w1 w10 p pm 70 (ovr (fun _ => zeros 512) (fun _ => none)) (fun _ => none) 0 264) := hg10
          clear hg10 H9 hq
          have hq := eqL_some ⟨pm, 0, none⟩
          go_wp2
          go_loopw [26, 27, 28] (fun x _ _ wr => ∃ j, j ≤ l.length ∧ x = .int .i64 ((j : Nat) : Int) ∧ Hid (LogUp (fun b => b < w1.heap.size) w1 wr p pm 70 (ovr (fun _ => zeros 512) (fun _ => none)) (fun _ => none) 0 264)) (fun x _ _ _ => l.length - (intOf x).toNat)
          case atStart => exact ⟨0, by omega, rfl, H10⟩
          case round =>
            clear H10
            obtain ⟨j2, hj2, rfl, HS⟩ := hrel
            by_cases hjl : j2 < l.length
            · have hls : Is wr (.slice va l.length vc) l := HI.out.1.kept (HC.out.trans HS.out.chg (fun _ _ h => h)) (fun _ _ h => h)
              obtain ⟨bb, off, hva, hcs⟩ := hls.nth (j := j2) hjl
              have hc := hcs j2 hjl
              have hn64 := idx_lt l j2
              have ha := and63 (l.getD j2 0)
              rw [idx_mod] at ha
              have HV := H6.out.2 j2 hjl
              obtain ⟨n, hn⟩ : ∃ n, idx l j2 = n := ⟨_, rfl⟩
              rw [hn] at ha hn64 HV
              have HX : Hid (ovr (fun _ => zeros 512) (fun _ => none) n = (zeros 512)) := HV
              clear hn HV
              generalize l.getD j2 0 = y at *
              have hki : (j2 : Int) < (l.length : Int) := by omega
              subst hva
              clear hls hcs
              go_wp2_with fail
              refine (read_up n HS.out (by omega) (by omega)).mono ?_
              rintro e w11 ⟨uy, rfl, fr⟩
              rw [show ovr (ovr (fun _ => zeros 512) (fun _ => none)) (fun _ => none) n = (zeros 512) from HX.out] at fr
              have sy := run_str fr.bs
              rw [HN.out] at sy
              have H11 : Hid (LogUp (fun b => b < w1.heap.size) w1 w11 p pm 70 (ovr (fun _ => zeros 512) (fun _ => none)) (fun _ => none) 0 264) := HS.out.more fr.chg
              clear fr HS hc
              go_wp2
              go_roundw
              case rel => exact ⟨j2 + 1, by omega, by go_num, H11⟩
              case measure => simp [intOf]; omega
            · have hje : ¬ ((j2 : Int) < (l.length : Int)) := by omega
              have HE : Hid (Chg (fun _ => False) w wr) := HC.out.trans HS.out.chg (fun _ _ h => h)
              clear HS
              go_wp2
              go_ret
              exact ⟨rfl, HE.out⟩

set_option maxHeartbeats 1600000 in
set_option maxRecDepth 100000 in
theorem law_aborts (v0 v1 : Value) (l bs : List Int) (c : Bool) (w : World) (hv : Is w v0 l) (hb : Bs w v1 bs) :
    Calls Try.prog 6 #[v0, v1, .bool c] w fun e w' => e = .returned (.bool true) ∧ Chg (fun _ => False) w w' := by
  by_cases h1 : l.length ≤ 60
  · by_cases h2 : bs.length ≤ 64
    · by_cases h3 : bs.length = 0
      · obtain ⟨va, vc, rfl, hvc⟩ := hv.form
        obtain ⟨ba, bc, rfl, hbc⟩ := hb.form
        clear hv hb hvc hbc
        have k1 : decide ((60 : Int) < (l.length : Int)) = false := by simp; omega
        have k2 : decide ((64 : Int) < (bs.length : Int)) = false := by simp; omega
        have k3 : ((bs.length : Int) == 0) = true := by rw [beq_iff_eq]; omega
        go_enter Try.func6, Try.ntmps6
        go_wp2_with fail
        refine (known_any w).mono ?_
        rintro e w1 ⟨rfl, hc⟩
        have HC : Hid (Chg (fun _ => False) w w1) := hc
        clear hc
        go_wp2
        go_ret
        exact ⟨rfl, HC.out⟩
      · cases c with
        | true => exact law_abortsT v0 v1 l bs w hv hb h1 h2 h3
        | false => exact law_abortsF v0 v1 l bs w hv hb h1 h2 h3
    · obtain ⟨va, vc, rfl, hvc⟩ := hv.form
      obtain ⟨ba, bc, rfl, hbc⟩ := hb.form
      clear hv hb hvc hbc
      have k1 : decide ((60 : Int) < (l.length : Int)) = false := by simp; omega
      have k2 : decide ((64 : Int) < (bs.length : Int)) = true := by simp; omega
      go_enter Try.func6, Try.ntmps6
      go_wp2_with fail
      refine (known_any w).mono ?_
      rintro e w1 ⟨rfl, hc⟩
      have HC : Hid (Chg (fun _ => False) w w1) := hc
      clear hc
      go_wp2
      go_ret
      exact ⟨rfl, HC.out⟩
  · obtain ⟨va, vc, rfl, hvc⟩ := hv.form
    obtain ⟨ba, bc, rfl, hbc⟩ := hb.form
    clear hv hb hvc hbc
    have k1 : decide ((60 : Int) < (l.length : Int)) = true := by simp; omega
    go_enter Try.func6, Try.ntmps6
    go_wp2_with fail
    refine (known_any w).mono ?_
    rintro e w1 ⟨rfl, hc⟩
    have HC : Hid (Chg (fun _ => False) w w1) := hc
    clear hc
    go_wp2
    go_ret
    exact ⟨rfl, HC.out⟩
end Go.Proofs.Ytkkmdmnjlncgfaa

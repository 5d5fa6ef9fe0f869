/-
  WalRoom answers true for every slice of numbers and every byte.
-/
import Derived.Test.YtkkmdmnjlncgfaaWHelp
namespace Go.Proofs.Ytkkmdmnjlncgfaa
open Go.RowKit Go.Maps

/-- A transaction of 63 blocks. -/
structure Rm (w0 w : World) (p pl q : Nat) (k : Nat) (own : Nat → Option (List Int)) : Prop where
  tx : TxUp (fun b => b < w0.heap.size) w0 w p pl q 70 (fun _ => zeros 512) (fun _ => none) 0 true own k 72
  dom : ∀ n, (own n).isSome = decide (n < k)
theorem Rm.next {w0 w w' : World} {p pl q k : Nat} {own : Nat → Option (List Int)} {b : List Int} (h : Rm w0 w p pl q k own) (hk : k < 63) (ht : TxUp (fun b => b < w0.heap.size) w0 w' p pl q 70 (fun _ => zeros 512) (fun _ => none) 0 true (upd own k (some b)) (ks 70 (upd own k (some b))).length 72) : Rm w0 w' p pl q (k + 1) (upd own k (some b)) := by
  have hn : own k = none := by
    have := h.dom k
    simpa using this
  have e := ks_upd_first (K := 70) (b := b) (show k < 70 by omega) hn
  rw [e, ← h.tx.inv.1] at ht
  refine ⟨ht, fun n => ?_⟩
  by_cases e : n = k
  · subst e; rw [upd_same]; simp
  · rw [upd_other _ _ e, h.dom n]; simp; omega
theorem Rm.again {w0 w w' : World} {p pl q k n : Nat} {own : Nat → Option (List Int)} {b : List Int} (h : Rm w0 w p pl q k own) (hn : n < k) (ht : TxUp (fun b => b < w0.heap.size) w0 w' p pl q 70 (fun _ => zeros 512) (fun _ => none) 0 true (upd own n (some b)) (ks 70 (upd own n (some b))).length 72) : Rm w0 w' p pl q k (upd own n (some b)) := by
  obtain ⟨b0, hb⟩ : ∃ b0, own n = some b0 := by
    have := h.dom n
    rw [decide_eq_true hn] at this
    exact Option.isSome_iff_exists.1 this
  have e := ks_upd_again (K := 70) (b := b) hb
  rw [e, ← h.tx.inv.1] at ht
  refine ⟨ht, fun j => ?_⟩
  by_cases e : j = n
  · subst e; rw [upd_same]; simp; exact hn
  · rw [upd_other _ _ e, h.dom j]

set_option maxHeartbeats 6400000 in
set_option maxRecDepth 100000 in
theorem law_room (v : Value) (l : List Int) (b : Int) (w : World) (hv : Is w v l) (_hb : (Lit.int .u8 b).wf = true) :
    Calls Try.prog 7 #[v, .int .u8 b] w fun e w' => e = .returned (.bool true) ∧ Chg (fun _ => False) w w' := by
  obtain ⟨va, vc, rfl, hvc⟩ := hv.form
  have HI : Hid (Is w (.slice va l.length vc) l) := hv
  clear hv _hb hvc
  by_cases h1 : 100 < l.length
  · have k1 : decide ((100 : Int) < (l.length : Int)) = true := by simp; omega
    go_enter Try.func7, Try.ntmps7
    go_wp2_with fail
    refine (known_any w).mono ?_
    rintro e w1 ⟨rfl, hc⟩
    have HC : Hid (Chg (fun _ => False) w w1) := hc
    clear hc
    go_wp2
    go_ret
    exact ⟨rfl, HC.out⟩
  have k1 : decide ((100 : Int) < (l.length : Int)) = false := by simp; omega
  go_enter Try.func7, Try.ntmps7
  go_wp2_with fail
  refine (known_any w).mono ?_
  rintro e w1 ⟨rfl, hc⟩
  have HC : Hid (Chg (fun _ => False) w w1) := hc
  clear hc
  go_wp2_with fail
  refine (begun_any w1).mono ?_
  rintro e w2 ⟨p, pl, rfl, h2⟩
  have H2 : Hid (LogUp (fun b => b < w1.heap.size) w1 w2 p pl 70 (fun _ => zeros 512) (fun _ => none) 0 72) := h2
  clear h2
  have hq := eqL_some ⟨pl, 0, none⟩
  go_wp2_with fail
  refine (begin_up H2.out).mono ?_
  rintro e w3 ⟨q, rfl, h3, _⟩
  have H3 : Hid (Rm w1 w3 p pl q 0 (fun _ => none)) := ⟨h3, fun n => by simp⟩
  clear h3 H2
  have hq2 := eqT_some ⟨q, 0, none⟩
  go_wp2
  go_loopw [9] (fun x wr => ∃ i own, i ≤ 63 ∧ x = .int .i64 ((i : Nat) : Int) ∧ Hid (Rm w1 wr p pl q i own)) (fun x _ => 63 - (intOf x).toNat)
  case atStart => exact ⟨0, _, by omega, rfl, H3⟩
  case round =>
    obtain ⟨i, own, hi, rfl, HR⟩ := hrel
    clear H3
    go_wp2_with fail
    refine (room_any ⟨pl, 0, none⟩ wr).mono ?_
    rintro e w4 ⟨rfl, rfl⟩
    by_cases hlt : i < 63
    · have kl : (i : Int) < 63 := by omega
      go_wp2_with fail
      refine (full_any _ [b] _ (Bs.one w4 b) (by simp)).mono ?_
      rintro e w5 ⟨u, rfl, fr⟩
      obtain ⟨ua, uc, rfl⟩ := fr.form512 (full_len _)
      have N5 : Hid (NewB w4 w5 (.slice ua 512 uc) (full [b])) := fr.newB (Chg.alloc (fun _ => False) w4 _)
      clear fr
      go_wp2_with fail
      refine (write_up i (full [b]) ua uc HR.out.tx N5.out (full_len _) (by omega) (.inr hlt)).mono ?_
      rintro e w6 ⟨rfl, h6, _⟩
      have H6 : Hid (Rm w1 w6 p pl q (i + 1) (upd own i (some (full [b])))) := HR.out.next hlt h6
      clear h6 N5 HR
      go_wp2
      go_roundw
      case rel => exact ⟨i + 1, _, by omega, by go_num, H6⟩
      case measure => simp [intOf]; omega
    · have hie : i = 63 := by omega
      subst hie
      go_wp2
      go_loopw [10, 11, 12] (fun x _ _ wr => ∃ j own, j ≤ l.length ∧ x = .int .i64 ((j : Nat) : Int) ∧ Hid (Rm w1 wr p pl q 63 own)) (fun x _ _ _ => l.length - (intOf x).toNat)
      case atStart => exact ⟨0, own, by omega, rfl, HR⟩
      case round =>
        obtain ⟨j, own2, hj, rfl, HS⟩ := hrel
        clear HR
        by_cases hjl : j < l.length
        · have hls : Is wr (.slice va l.length vc) l := HI.out.kept (HC.out.trans HS.out.tx.chg (fun _ _ h => h)) (fun _ _ h => h)
          obtain ⟨bb, off, hva, hcs⟩ := hls.nth (j := j) hjl
          have hc := hcs j hjl
          obtain ⟨n, hn64, hn⟩ := int_mod64 (l.getD j 0)
          have ha := and63 (l.getD j 0)
          rw [hn] at ha
          generalize l.getD j 0 = y at *
          have hki : (j : Int) < (l.length : Int) := by omega
          have HV : Hid (va = some ⟨bb, off, none⟩) := hva
          subst hva
          clear hls hcs hn
          go_wp2_with fail
          refine (full_any _ _ _ (Bs.two wr b _) (by simp)).mono ?_
          rintro e w5 ⟨u, rfl, fr⟩
          obtain ⟨ua, uc, rfl⟩ := fr.form512 (full_len _)
          have N5 : Hid (NewB wr w5 (.slice ua 512 uc) _) := fr.newB (Chg.alloc (fun _ => False) wr _)
          clear fr
          by_cases h63 : n < 63
          · have hsm : own2 n ≠ none := by
              have := HS.out.dom n
              rw [decide_eq_true h63] at this
              intro e; rw [e] at this; cases this
            have kn : (n : Int) < 63 := by omega
            go_wp2_with fail
            refine (write_up n _ ua uc HS.out.tx N5.out (full_len _) (by omega) (.inl hsm)).mono ?_
            rintro e w6 ⟨rfl, h6, _⟩
            have H6 : Hid (Rm w1 w6 p pl q 63 _) := HS.out.again h63 h6
            clear h6 N5 HS hc
            go_wp2_with fail
            refine (room_any ⟨pl, 0, none⟩ w6).mono ?_
            rintro e w7 ⟨rfl, rfl⟩
            go_wp2
            go_roundw
            case rel => exact ⟨j + 1, _, by omega, by go_num, H6⟩
            case measure => simp [intOf]; omega
          · have hne : n = 63 := by omega
            subst hne
            have hsm : own2 63 = none := by
              have := HS.out.dom 63
              simpa using this
            go_wp2_with fail
            refine (write_full_up 63 _ ua uc HS.out.tx N5.out (by omega) hsm rfl).mono ?_
            rintro e w6 ⟨rfl, h6, _⟩
            have H6 : Hid (Rm w1 w6 p pl q 63 own2) := ⟨h6, HS.out.dom⟩
            clear h6 N5 HS hc
            go_wp2_with fail
            refine (room_any ⟨pl, 0, none⟩ w6).mono ?_
            rintro e w7 ⟨rfl, rfl⟩
            go_wp2
            go_roundw
            case rel => exact ⟨j + 1, _, by omega, by go_num, H6⟩
            case measure => simp [intOf]; omega
        · have hje : ¬ ((j : Int) < (l.length : Int)) := by omega
          have hsm : own2 69 = none := by
            have := HS.out.dom 69
            simpa using this
          go_wp2_with fail
          refine (twrites_up HS.out.tx).mono ?_
          rintro e w4 ⟨rfl, rfl⟩
          go_wp2_with fail
          refine (room_any ⟨pl, 0, none⟩ w4).mono ?_
          rintro e w5 ⟨rfl, rfl⟩
          go_wp2_with fail
          refine (full_any (.slice none 0 0) [] w5 (.inl ⟨rfl, rfl⟩) (by simp)).mono ?_
          rintro e w6 ⟨u, rfl, fr⟩
          obtain ⟨ua, uc, rfl⟩ := fr.form512 (full_len _)
          have N5 : Hid (NewB w5 w6 (.slice ua 512 uc) (full [])) := fr.newB (Chg.refl (fun _ => False) w5)
          clear fr
          go_wp2_with fail
          refine (write_full_up 69 _ ua uc HS.out.tx N5.out (by omega) hsm rfl).mono ?_
          rintro e w7 ⟨rfl, h7, _⟩
          have H7 : Hid (TxUp (fun b => b < w1.heap.size) w1 w7 p pl q 70 (fun _ => zeros 512) (fun _ => none) 0 true own2 63 72) := h7
          clear h7 N5 HS
          go_wp2_with fail
          refine (commit_up H7.out (by omega) (by omega)).mono ?_
          rintro e w8 ⟨rfl, f8, com8, pend8, h8, _, _, _⟩
          have H8 : Hid (LogUp (fun b => b < w1.heap.size) w1 w8 p pl 70 f8 com8 pend8 200) := h8.log
          clear h8 H7
          go_wp2_with fail
          refine (sync_up H8.out (by omega)).mono ?_
          rintro e w9 ⟨rfl, h9, _⟩
          have H9 : Hid (Chg (fun _ => False) w w9) := HC.out.trans h9.chg (fun _ _ h => h)
          clear h9 H8
          go_wp2
          go_ret
          exact ⟨rfl, H9.out⟩
end Go.Proofs.Ytkkmdmnjlncgfaa

/-
  TreeDeep.
-/
import Derived.Test.YtdcmkcplklkfmabDoorTDeepP
namespace Go.Proofs.YtdcmkcplklkfmabDoor
open Go.RowKit Go.Maps Go.Sort

theorem dtx_front (n i : Nat) (h : i ≤ n) : (dtx n).extract 0 (2 * i) = dtx i := by
  have key : ∀ n i, i ≤ n → ((List.replicate n ([47, 100] : List UInt8)).flatten).take (2 * i) = (List.replicate i [47, 100]).flatten := by
    intro n
    induction n with
    | zero =>
      intro i h
      have e : i = 0 := by omega
      subst e
      rfl
    | succ n ih =>
      intro i h
      cases i with
      | zero => rfl
      | succ i =>
        rw [List.replicate_succ, List.replicate_succ, List.flatten_cons, List.flatten_cons, show 2 * (i + 1) = 2 * i + 2 by omega]
        have := ih i (by omega)
        simp [this]
  apply toList_inj
  rw [ByteArray.data_extract]
  simp [dtx, key n i h]
set_option maxHeartbeats 6400000 in
set_option maxRecDepth 100000 in
theorem law_deep (n : Int) (w : World) (hT : Tab w) :
    Calls Tryd.prog 4 #[.int .i64 n] w fun e w' => e = .returned (.bool true) ∧ Chg (fun _ => False) w w' := by
  go_enter Tryd.func4, Tryd.ntmps4
  go_wp2_with fail
  refine (known_any w hT).mono ?_
  rintro e w1 ⟨rfl, B1⟩
  have fin : ∀ w', Below w.heap.size w w' → Hid (Chg (fun _ => False) w w') := fun w' h => Chg.ofBelowC h
  by_cases h1 : n < 1
  · have H := fin _ B1
    go_wp2_with fail
    go_ret
    exact ⟨rfl, H.out⟩
  by_cases h2 : 20 < n
  · have H := fin _ B1
    go_wp2_with fail
    go_ret
    exact ⟨rfl, H.out⟩
  obtain ⟨NN, rfl⟩ : ∃ N : Nat, n = (N : Int) := ⟨n.toNat, by omega⟩
  have hNN : NN ≤ 20 := by omega
  go_wp2_with fail
  refine (Lw.new 100 50 w1 (tab_below hT B1) (by omega) (by omega) (by omega) (by omega)).mono ?_
  rintro e w2 ⟨t, rfl, L⟩
  rw [de_start] at L
  have HL : Hid (Lw w1.heap.size w1 w2 t (deT (100 - (0 : Nat)) 0 0) 0 ∧ Below w.heap.size w w1) := ⟨L, B1⟩
  clear L B1
  go_wp2_with fail
  go_loopw [5, 6, 7] (fun p made i wr => ∃ (k m : Nat) (P : ByteArray), k ≤ NN ∧ i = .int .i64 k ∧ made = .int .i64 m ∧ p = .string P ∧ m ≤ 8 ∧ Hid (P = dtx k) ∧ Hid (m = min k 8 ∧ Lw w1.heap.size w1 wr t (deT (100 - m) m 0) (2 * k))) (fun _ _ i _ => NN - (intOf i).toNat)
  case atStart => exact ⟨0, 0, ⟨#[]⟩, Nat.zero_le _, rfl, rfl, rfl, by omega, rfl, by omega, HL.out.1⟩
  case round =>
    obtain ⟨k, m, P, hk, rfl, rfl, rfl, hm8, hP, H⟩ := hrel
    by_cases hlt : k < NN
    · have q1 : (k : Int) < NN := by omega
      obtain ⟨S, hS⟩ : ∃ S, Hid (dtx (k + 1) = S) := ⟨_, rfl⟩
      have eP : P ++ (⟨#[47, 100]⟩ : ByteArray) = S := by rw [hP.out, dtx_next]; exact hS.out
      have hPz : P.size ≤ 100 := by
        have := congrArg ByteArray.size eP
        rw [ByteArray.size_append, ← hS.out, (dtx_sp (k + 1) (by omega) (by omega)).2.2] at this
        omega
      have hc1 : ¬ 9223372036854775807 < P.size + 2 := by omega
      have hc2 : ¬ 9223372036854775807 < P.size + (⟨#[47, 100]⟩ : ByteArray).size := by show ¬ 9223372036854775807 < P.size + 2; omega
      clear hPz
      have hSs : S.size ≤ 3000 := by rw [← hS.out, (dtx_sp (k + 1) (by omega) (by omega)).2.2]; omega
      by_cases h8 : k < 8
      · obtain rfl : m = k := by have := H.out.1; omega
        have HC : Hid (Calls Tryd.prog 8 #[ptr t, .agg #[.int .i64 2, .string S, .string ⟨#[]⟩, .slice none 0 0, .int .i64 0]] wr fun e w' => e = .returned (.int .i64 0) ∧ Lw w1.heap.size w1 w' t (deT (100 - (m + 1 : Nat)) (m + 1) 0) (2 * m + 2)) := (H.out.2.donil (by omega) 2 S ⟨#[]⟩ hSs (by decide) (by rw [← hS.out]; exact de_mk m h8)).mono (fun e w' h => ⟨h.1, h.2.1⟩)
        have g2 : (m : Int) < 8 := by omega
        have g3 : ¬ (8 : Int) ≤ m := by omega
        clear H hSs
        go_wp2_with fail
        refine HC.out.mono ?_
        rintro e w3 ⟨rfl, L3⟩
        have H3 : Hid (Lw w1.heap.size w1 w3 t (deT (100 - (m + 1 : Nat)) (m + 1) 0) (2 * m + 2)) := L3
        clear HC L3 eP
        go_wp2_with fail
        go_roundw
        case rel => exact ⟨m + 1, m + 1, S, by omega, by go_num, by go_num, rfl, by omega, hS.out.symm, by omega, H3.out⟩
        case measure => simp [intOf]; omega
      · have HC : Hid (Calls Tryd.prog 8 #[ptr t, .agg #[.int .i64 2, .string S, .string ⟨#[]⟩, .slice none 0 0, .int .i64 0]] wr fun e w' => e = .returned (.int .i64 5) ∧ Lw w1.heap.size w1 w' t (deT (100 - m) m 0) (2 * k + 2)) := (H.out.2.donil (by omega) 2 S ⟨#[]⟩ hSs (by decide) (by rw [← hS.out]; exact de_long _ (k + 1) (by omega) (by omega))).mono (fun e w' h => ⟨h.1, h.2.1⟩)
        have hm : Hid (m = min k 8) := H.out.1
        have g2 : ¬ (k : Int) < 8 := by omega
        have g3 : (8 : Int) ≤ k := by omega
        clear H hSs
        go_wp2_with fail
        refine HC.out.mono ?_
        rintro e w3 ⟨rfl, L3⟩
        have H3 : Hid (Lw w1.heap.size w1 w3 t (deT (100 - m) m 0) (2 * k + 2)) := L3
        clear HC L3 eP
        go_wp2_with fail
        go_roundw
        case rel => exact ⟨k + 1, m, S, by omega, by go_num, rfl, rfl, by omega, hS.out.symm, by have := hm.out; omega, H3.out⟩
        case measure => simp [intOf]; omega
    · have q1 : ¬ (k : Int) < NN := by omega
      obtain rfl : k = NN := by omega
      have hF := H.out.2.free
      have hF' : Hid (Calls Tryd.prog 9 #[ptr t] wr fun e w' => e = .returned (.tuple #[.int .i64 (100 - m), .int .i64 (49 - m)]) ∧ Lw w1.heap.size w1 w' t (deT (100 - m) m 0) (2 * k)) := by
        refine hF.mono ?_
        rintro e w' ⟨rfl, B⟩
        exact ⟨rfl, H.out.2.kept B⟩
      have hmk : Hid (m = min k 8) := H.out.1
      clear hF H
      go_wp2_with fail
      refine hF'.out.mono ?_
      rintro e w3 ⟨rfl, L3⟩
      have H3 : Hid (Lw w1.heap.size w1 w3 t (deT (100 - m) m 0) (2 * k)) := L3
      clear hF' L3
      go_wp2_with fail
      go_loopw [11] (fun i wr => ∃ (j s K : Nat) (b : Int), j ≤ m ∧ i = .int .i64 j ∧ Hid (K ≤ 40 + 4 * (m - j) ∧ Lw w1.heap.size w1 wr t (deT b j s) K)) (fun i _ => (intOf i).toNat)
      case atStart => exact ⟨m, 0, 2 * k, 100 - m, Nat.le_refl _, rfl, by omega, H3.out⟩
      case round =>
        clear H3
        obtain ⟨j, s, K, b, hj, rfl, H⟩ := hrel
        by_cases h0 : 0 < j
        · have q2 : (0 : Int) < j := by omega
          obtain ⟨j', rfl⟩ : ∃ j', j = j' + 1 := ⟨j - 1, by omega⟩
          have hkj : j' + 1 ≤ k := by have := hmk.out; omega
          have hsz : P.size = 2 * k := by rw [hP.out]; exact (dtx_sp k (by omega) (by omega)).2.2
          obtain ⟨S, hS⟩ : ∃ S, Hid (dtx (j' + 1) = S) := ⟨_, rfl⟩
          have eS : P.extract 0 (2 * (j' + 1)) = S := by rw [hP.out, dtx_front k (j' + 1) hkj]; exact hS.out
          have hSz : S.size = 2 * (j' + 1) := by rw [← hS.out]; exact (dtx_sp (j' + 1) (by omega) (by omega)).2.2
          have hz1 : 2 * (j' + 1) ≤ P.size := by omega
          have hSs : S.size ≤ 3000 := by omega
          have HR : ∀ wb K', K' ≤ 1000 → Lw w1.heap.size w1 wb t (deT b (j' + 1) s) K' → Hid (Calls Tryd.prog 8 #[ptr t, .agg #[.int .i64 6, .string S, .string ⟨#[]⟩, .slice none 0 0, .int .i64 0]] wb fun e w' => e = .returned (.int .i64 0) ∧ Lw w1.heap.size w1 w' t (deT (b + slB s) j' 1) (K' + 2)) := fun wb K' hK' L => (L.donil (by omega) 6 S ⟨#[]⟩ hSs (by decide) (by rw [← hS.out]; exact de_rm b j' s (by omega) _ rfl)).mono (fun e w' h => ⟨h.1, h.2.1⟩)
          by_cases h1j : 1 < j' + 1
          · obtain ⟨S2, hS2⟩ : ∃ S2, Hid (dtx j' = S2) := ⟨_, rfl⟩
            have eS2 : S.extract 0 (2 * (j' + 1) - 2) = S2 := by rw [show 2 * (j' + 1) - 2 = 2 * j' by omega, ← hS.out, dtx_front (j' + 1) j' (by omega)]; exact hS2.out
            have hS2s : S2.size ≤ 3000 := by rw [← hS2.out, (dtx_sp j' (by omega) (by omega)).2.2]; omega
            have HC : Hid (Calls Tryd.prog 8 #[ptr t, .agg #[.int .i64 6, .string S2, .string ⟨#[]⟩, .slice none 0 0, .int .i64 0]] wr fun e w' => e = .returned (.int .i64 13) ∧ Lw w1.heap.size w1 w' t (deT b (j' + 1) s) (K + 2)) := (H.out.2.donil (by have := H.out.1; omega) 6 S2 ⟨#[]⟩ hS2s (by decide) (by rw [← hS2.out]; exact de_busy b (j' + 1) s j' (by omega) (by omega) (by omega))).mono (fun e w' h => ⟨h.1, h.2.1⟩)
            have hK : Hid (K ≤ 40 + 4 * (m - (j' + 1))) := H.out.1
            have q3 : (1 : Int) < ((j' + 1 : Nat) : Int) := by omega
            clear H hS hS2 hS2s hP
            go_wp2_with fail
            try rw [eS2]
            refine HC.out.mono ?_
            rintro e w4 ⟨rfl, L4⟩
            have HD := HR w4 (K + 2) (by have := hK.out; omega) L4
            clear HC L4 HR eS2
            go_wp2_with fail
            refine HD.out.mono ?_
            rintro e w5 ⟨rfl, L5⟩
            have H5 : Hid (Lw w1.heap.size w1 w5 t (deT (b + slB s) j' 1) (K + 2 + 2)) := L5
            clear HD L5
            go_wp2_with fail
            go_roundw
            case rel => exact ⟨j', 1, K + 2 + 2, _, by omega, by go_num, by have := hK.out; omega, H5.out⟩
            case measure => simp [intOf]
          · have q3 : ¬ (1 : Int) < ((j' + 1 : Nat) : Int) := by omega
            have HD := HR wr K (by have := H.out.1; omega) H.out.2
            have hK : Hid (K ≤ 40 + 4 * (m - (j' + 1))) := H.out.1
            clear H hS hP HR
            go_wp2_with fail
            refine HD.out.mono ?_
            rintro e w5 ⟨rfl, L5⟩
            have H5 : Hid (Lw w1.heap.size w1 w5 t (deT (b + slB s) j' 1) (K + 2)) := L5
            clear HD L5
            go_wp2_with fail
            go_roundw
            case rel => exact ⟨j', 1, K + 2, _, by omega, by go_num, by have := hK.out; omega, H5.out⟩
            case measure => simp [intOf]
        · have q2 : ¬ (0 : Int) < j := by omega
          obtain rfl : j = 0 := by omega
          have hl := de_list b s
          have HC := H.out.2.list (s := ⟨#[47]⟩) (by have := H.out.1; omega) (by decide) hl.1 hl.2
          have HE : Hid (Lw w1.heap.size w1 wr t (deT b 0 s) K) := H.out.2
          clear H hl hP
          go_wp2_with fail
          refine HC.mono ?_
          rintro e w4 ⟨v, rfl, ho, B4⟩
          obtain ⟨a4, c4, rfl⟩ := own_sl1 ho
          have HF := fin _ (HL.out.2.trans ((HE.out.bel.trans (B4.mono HE.out.le)).mono HL.out.2.size))
          clear HC ho B4 HE
          go_wp2_with fail
          go_ret
          exact ⟨rfl, HF.out⟩
end Go.Proofs.YtdcmkcplklkfmabDoor

/-
  TreeFulls.
-/
import Derived.Test.YtdcmkcplklkfmabDoorTFulP
namespace Go.Proofs.YtdcmkcplklkfmabDoor
open Go.RowKit Go.Maps Go.Sort

theorem strC_two (x y : Int) : strC [x, y] = ⟨#[UInt8.ofNat x.toNat, UInt8.ofNat y.toNat]⟩ := rfl
theorem fpt_add (k : Nat) (S : ByteArray) (h : strC [97 + (k : Int) % 26, 97 + (k : Int) / 26] = S) : (⟨#[47, 102]⟩ : ByteArray) ++ S = fpt k := by
  subst h
  rw [strC_two, show (97 + (k : Int) % 26).toNat = 97 + k % 26 by omega, show (97 + (k : Int) / 26).toNat = 97 + k / 26 by omega]
  rfl
theorem fpt_size (k : Nat) : (fpt k).size = 4 := rfl
set_option maxHeartbeats 6400000 in
set_option maxRecDepth 100000 in
theorem law_fulls (I n : Int) (w : World) (hT : Tab w) :
    Calls Tryd.prog 3 #[.int .i64 I, .int .i64 n] w fun e w' => e = .returned (.bool true) ∧ Chg (fun _ => False) w w' := by
  go_enter Tryd.func3, Tryd.ntmps3
  go_wp2_with fail
  refine (known_any w hT).mono ?_
  rintro e w1 ⟨rfl, B1⟩
  have fin : ∀ w', Below w.heap.size w w' → Hid (Chg (fun _ => False) w w') := fun w' h => Chg.ofBelowC h
  by_cases h1 : I < 1
  · have H := fin _ B1
    go_wp2_with fail
    go_ret
    exact ⟨rfl, H.out⟩
  by_cases h2 : 40 < I
  · have H := fin _ B1
    go_wp2_with fail
    go_ret
    exact ⟨rfl, H.out⟩
  by_cases h3 : n < 0
  · have H := fin _ B1
    go_wp2_with fail
    go_ret
    exact ⟨rfl, H.out⟩
  by_cases h4 : 60 < n
  · have H := fin _ B1
    go_wp2_with fail
    go_ret
    exact ⟨rfl, H.out⟩
  obtain ⟨NN, rfl⟩ : ∃ N : Nat, n = (N : Int) := ⟨n.toNat, by omega⟩
  have hNN : NN ≤ 60 := by omega
  obtain ⟨M, hM8, hMI, hMe⟩ : ∃ M : Nat, M ≤ 8 ∧ (M : Int) ≤ I - 1 ∧ (M = 8 ∨ I - 1 = M) := by
    by_cases h : I - 1 ≤ 8
    · exact ⟨(I - 1).toNat, by omega, by omega, .inr (by omega)⟩
    · exact ⟨8, by omega, by omega, .inl rfl⟩
  have HMe : Hid (M = 8 ∨ I - 1 = M) := hMe
  clear hMe
  go_wp2_with fail
  refine (Lw.new 1 I w1 (tab_below hT B1) (by omega) (by omega) (by omega) (by omega)).mono ?_
  rintro e w2 ⟨t, rfl, L⟩
  rw [fu_start] at L
  have HL : Hid (Lw w1.heap.size w1 w2 t (fuT I 0) 0 ∧ Below w.heap.size w w1) := ⟨L, B1⟩
  clear L B1
  go_wp2_with fail
  go_loopw [7, 8] (fun made i wr => ∃ k m : Nat, k ≤ NN ∧ i = .int .i64 k ∧ made = .int .i64 m ∧ m ≤ 8 ∧ m ≤ k ∧ Hid (m = min k M ∧ Lw w1.heap.size w1 wr t (fuT I m) (2 * k))) (fun _ i _ => NN - (intOf i).toNat)
  case atStart => exact ⟨0, 0, Nat.zero_le _, rfl, rfl, by omega, by omega, by omega, HL.out.1⟩
  case round =>
    obtain ⟨k, m, hk, rfl, rfl, hm8, hmk, H⟩ := hrel
    by_cases hlt : k < NN
    · have q1 : (k : Int) < NN := by omega
      have hb := Bs.litC wr [97 + (k : Int) % 26, 97 + (k : Int) / 26] (0, 0) (by simp)
      obtain ⟨S, hS⟩ : ∃ S, Hid (strC [97 + (k : Int) % 26, 97 + (k : Int) / 26] = S) := ⟨_, rfl⟩
      have hr : (convert 28 9 (.slice (some ⟨wr.heap.size, 0, none⟩) 2 2)).run Tryd.prog (wr.alloc (.cells #[.int .u8 (97 + (k : Int) % 26), .int .u8 (97 + (k : Int) / 26)] 5)) = .ok (.string S) (wr.alloc (.cells #[.int .u8 (97 + (k : Int) % 26), .int .u8 (97 + (k : Int) / 26)] 5)) := by
        have := run_strC hb
        rw [hS.out] at this
        exact this
      have BA := below_alloc wr (.cells #[.int .u8 (97 + (k : Int) % 26), .int .u8 (97 + (k : Int) / 26)] 5)
      obtain ⟨P, hP⟩ : ∃ P, Hid (fpt k = P) := ⟨_, rfl⟩
      have eP : (⟨#[47, 102]⟩ : ByteArray) ++ S = P := (fpt_add k S hS.out).trans hP.out
      have hSz : S.size = 2 := by rw [← hS.out]; rfl
      have hc1 : ¬ 9223372036854775807 < 2 + S.size := by omega
      have hc2 : ¬ 9223372036854775807 < (⟨#[47, 102]⟩ : ByteArray).size + S.size := by show ¬ 9223372036854775807 < 2 + S.size; omega
      clear hSz
      have hPs : P.size ≤ 3000 := by rw [← hP.out, fpt_size]; omega
      have HLa : Hid (m = min k M ∧ Lw w1.heap.size w1 (wr.alloc (.cells #[.int .u8 (97 + (k : Int) % 26), .int .u8 (97 + (k : Int) / 26)] 5)) t (fuT I m) (2 * k)) := ⟨H.out.1, H.out.2.kept BA⟩
      clear hb BA H hS
      have e1 : (97 + (k : Int) / 26) % 256 = 97 + (k : Int) / 26 := by omega
      have e2 : (97 + (k : Int) % 26) % 256 = 97 + (k : Int) % 26 := by omega
      by_cases hkM : k < M
      · obtain rfl : m = k := by have := HLa.out.1; omega
        have hd : doR (fuT I m) ⟨1, P, ⟨#[]⟩, [], 0⟩ = (0, fuT I (m + 1)) := by rw [← hP.out]; exact fu_yes I m (by omega) (by omega)
        have HC : Hid (Calls Tryd.prog 8 #[ptr t, .agg #[.int .i64 1, .string P, .string ⟨#[]⟩, .slice none 0 0, .int .i64 0]] (wr.alloc (.cells #[.int .u8 (97 + (m : Int) % 26), .int .u8 (97 + (m : Int) / 26)] 5)) fun e w' => e = .returned (.int .i64 0) ∧ Lw w1.heap.size w1 w' t (fuT I (m + 1)) (2 * m + 2)) := (HLa.out.2.donil (by omega) 1 P ⟨#[]⟩ hPs (by decide) hd).mono (fun e w' h => ⟨h.1, h.2.1⟩)
        have g1 : (m : Int) < I - 1 := by omega
        have g2 : (m : Int) < 8 := by omega
        clear HLa hd hP hPs
        go_wp2_with fail
        refine HC.out.mono ?_
        rintro e w3 ⟨rfl, L3⟩
        have H3 : Hid (Lw w1.heap.size w1 w3 t (fuT I (m + 1)) (2 * m + 2)) := L3
        clear HC L3 hr eP e1 e2
        go_wp2_with fail
        go_roundw
        case rel => exact ⟨m + 1, m + 1, by omega, by go_num, by go_num, by omega, by omega, by omega, H3.out⟩
        case measure => simp [intOf]; omega
      · have HmM : Hid (m = M) := by have := HLa.out.1; show m = M; omega
        have hd : doR (fuT I m) ⟨1, P, ⟨#[]⟩, [], 0⟩ = (7, fuT I m) := by rw [← hP.out]; exact fu_no I m k (by omega) hmk hm8 (by rw [HmM.out]; exact HMe.out)
        have HC : Hid (Calls Tryd.prog 8 #[ptr t, .agg #[.int .i64 1, .string P, .string ⟨#[]⟩, .slice none 0 0, .int .i64 0]] (wr.alloc (.cells #[.int .u8 (97 + (k : Int) % 26), .int .u8 (97 + (k : Int) / 26)] 5)) fun e w' => e = .returned (.int .i64 7) ∧ Lw w1.heap.size w1 w' t (fuT I m) (2 * k + 2)) := (HLa.out.2.donil (by omega) 1 P ⟨#[]⟩ hPs (by decide) hd).mono (fun e w' h => ⟨h.1, h.2.1⟩)
        clear HLa hd hP hPs
        by_cases g1 : (m : Int) < I - 1
        · have g2 : ¬ (m : Int) < 8 := by have := HMe.out; have := HmM.out; omega
          go_wp2_with fail
          refine HC.out.mono ?_
          rintro e w3 ⟨rfl, L3⟩
          have H3 : Hid (Lw w1.heap.size w1 w3 t (fuT I m) (2 * k + 2)) := L3
          clear HC L3 hr eP e1 e2
          go_wp2_with fail
          go_roundw
          case rel => exact ⟨k + 1, m, by omega, by go_num, rfl, by omega, by omega, by have := HmM.out; omega, H3.out⟩
          case measure => simp [intOf]; omega
        · go_wp2_with fail
          refine HC.out.mono ?_
          rintro e w3 ⟨rfl, L3⟩
          have H3 : Hid (Lw w1.heap.size w1 w3 t (fuT I m) (2 * k + 2)) := L3
          clear HC L3 hr eP e1 e2
          go_wp2_with fail
          go_roundw
          case rel => exact ⟨k + 1, m, by omega, by go_num, rfl, by omega, by omega, by have := HmM.out; omega, H3.out⟩
          case measure => simp [intOf]; omega
    · have q1 : ¬ (k : Int) < NN := by omega
      have hF := H.out.2.free
      have hmI : (m : Int) ≤ I - 1 := by have := H.out.1; omega
      by_cases hm0 : m = 0
      · subst hm0
        have hF' : Calls Tryd.prog 9 #[ptr t] wr fun e w' => e = .returned (.tuple #[.int .i64 1, .int .i64 (I - 1)]) ∧ Below wr.heap.size wr w' := by
          refine hF.mono ?_
          rintro e w' ⟨rfl, B⟩
          exact ⟨by simp [fuT], B⟩
        clear hF
        go_wp2_with fail
        refine hF'.mono ?_
        rintro e w3 ⟨rfl, B3⟩
        have HE := fin _ (HL.out.2.trans ((H.out.2.bel.trans (B3.mono H.out.2.le)).mono HL.out.2.size))
        clear hF' B3 H
        go_wp2_with fail
        go_ret
        exact ⟨rfl, HE.out⟩
      · have hF' : Calls Tryd.prog 9 #[ptr t] wr fun e w' => e = .returned (.tuple #[.int .i64 0, .int .i64 (I - 1 - m)]) ∧ Below wr.heap.size wr w' := by
          refine hF.mono ?_
          rintro e w' ⟨rfl, B⟩
          exact ⟨by simp [fuT, hm0], B⟩
        clear hF
        have kc := fun (w : World) (C : Array Value) (n c : Nat) => Lib.run_convert_bytes_const (P := Tryd.prog) w 28 5 C n c Tryd.underlying28 Tryd.underlying5
        have g1 : (0 : Int) < m := by omega
        have g2 : ¬ (m : Int) = 0 := by omega
        have g3 : decide (m = 0) = false := by simpa using hm0
        go_wp2_with fail
        refine hF'.mono ?_
        rintro e w3 ⟨rfl, B3⟩
        have L3 := H.out.2.kept B3
        have BL := below_alloc w3 (.cells #[.int .u8 120] 5 (1, 2))
        have hB : Bs (w3.alloc (.cells #[.int .u8 120] 5 (1, 2))) (.slice (some ⟨w3.heap.size, 0, none⟩) 1 1) [120] := Bs.litC w3 [120] (1, 2) (by decide)
        have htl := L3.tN.2
        have HC : Hid (Calls Tryd.prog 8 #[ptr t, .agg #[.int .i64 3, .string ⟨#[47, 102, 97, 97]⟩, .string ⟨#[]⟩, .slice (some ⟨w3.heap.size, 0, none⟩) 1 1, .int .i64 0]] (w3.alloc (.cells #[.int .u8 120] 5 (1, 2))) fun e w' => e = .returned (.int .i64 7) ∧ Below w.heap.size w w') := by
          refine ((L3.kept BL).do_ (by omega) ⟨3, ⟨#[47, 102, 97, 97]⟩, ⟨#[]⟩, [120], 0⟩ (.slice (some ⟨w3.heap.size, 0, none⟩) 1 1) hB (fun x hx => by simp at hx; omega) (fun a n c e _ => by cases e; show ¬ w3.heap.size = t; omega) (by decide) (by decide) (fu_app I m (by omega) hm8)).mono ?_
          rintro e w' ⟨rfl, L, _⟩
          exact ⟨rfl, HL.out.2.trans (L.bel.mono HL.out.2.size)⟩
        clear hF' B3 H L3 BL hB htl
        go_wp2_with fail
        refine HC.out.mono ?_
        rintro e w4 ⟨rfl, B4⟩
        have HE := fin _ B4
        clear HC B4
        go_wp2_with fail
        go_ret
        exact ⟨rfl, HE.out⟩
end Go.Proofs.YtdcmkcplklkfmabDoor

/-
  AddrNumbers.
-/
import Derived.Test.YtefofoocglhdmaaDoorMLawNum0
import Derived.OpenShut
namespace Go.Proofs.YtefofoocglhdmaaDoor
open Go.RowKit

theorem sz_app (a b : ByteArray) : (a ++ b).size = a.size + b.size := ByteArray.size_append

set_option maxHeartbeats 6400000 in
set_option maxRecDepth 100000 in
theorem law_numbers_n (N : Nat) (a b c d : Nat) (t : Bool) (w : World) (ha : a ≤ 65535) (hb : b ≤ 255) (hc : c ≤ 255) (hd : d ≤ 255) (hV : Vr N w) :
    Calls Tryd.prog 7 #[.int .u16 (a : Int), .int .u8 (b : Int), .int .u8 (c : Int), .int .u8 (d : Int), .bool t] w fun e w' => e = .returned (.bool true) ∧ Below w.heap.size w w' := by
  have HK : Hid (Calls Tryd.prog 9 #[] w fun e w' => e = .returned (.bool true) ∧ Below w.heap.size w w') := known_any N w hV
  have HV : Hid (Vr N w) := hV
  obtain ⟨A, hA⟩ : ∃ T, bl (Lib.decDigits a) = T := ⟨_, rfl⟩
  obtain ⟨B, hB⟩ : ∃ T, bl (Lib.decDigits b) = T := ⟨_, rfl⟩
  obtain ⟨C, hC⟩ : ∃ T, bl (Lib.decDigits c) = T := ⟨_, rfl⟩
  obtain ⟨D, hD⟩ : ∃ T, bl (Lib.decDigits d) = T := ⟨_, rfl⟩
  have CA : Hid (∀ w1, Calls Tryd.prog 29 #[.int .i64 (a : Int)] w1 fun e w' => e = .returned (.string A) ∧ Below w1.heap.size w1 w') := fun w1 => by rw [← hA]; exact decimal_any a w1 (by omega)
  have CB : Hid (∀ w1, Calls Tryd.prog 29 #[.int .i64 (b : Int)] w1 fun e w' => e = .returned (.string B) ∧ Below w1.heap.size w1 w') := fun w1 => by rw [← hB]; exact decimal_any b w1 (by omega)
  have CC : Hid (∀ w1, Calls Tryd.prog 29 #[.int .i64 (c : Int)] w1 fun e w' => e = .returned (.string C) ∧ Below w1.heap.size w1 w') := fun w1 => by rw [← hC]; exact decimal_any c w1 (by omega)
  have CD : Hid (∀ w1, Calls Tryd.prog 29 #[.int .i64 (d : Int)] w1 fun e w' => e = .returned (.string D) ∧ Below w1.heap.size w1 w') := fun w1 => by rw [← hD]; exact decimal_any d w1 (by omega)
  have sA : A.size ≤ 5 := by rw [← hA, bl_size]; exact dd_len a (by omega)
  have sB : B.size ≤ 5 := by rw [← hB, bl_size]; exact dd_len b (by omega)
  have sC : C.size ≤ 5 := by rw [← hC, bl_size]; exact dd_len c (by omega)
  have sD : D.size ≤ 5 := by rw [← hD, bl_size]; exact dd_len d (by omega)
  have eA : A.data.toList = Lib.decDigits a := by rw [← hA]
  have eB : B.data.toList = Lib.decDigits b := by rw [← hB]
  have eC : C.data.toList = Lib.decDigits c := by rw [← hC]
  have eD : D.data.toList = Lib.decDigits d := by rw [← hD]
  -- the number's text, with a nought ahead or not
  have key : ∀ X : ByteArray, X.data.toList.all inDig = true → X.data.toList ≠ [] → X.size ≤ 6 → ∃ S : ByteArray, ⟨#[91]⟩ ++ X ++ ⟨#[46]⟩ ++ B ++ ⟨#[46]⟩ ++ C ++ ⟨#[46]⟩ ++ D ++ ⟨#[93]⟩ = S ∧ S.size ≤ 40 ∧ 1 ≤ S.size ∧ domB S.data.toList = octB X.data.toList ∧ domB (S.extract 1 S.size).data.toList = false := fun X h1 h2 h3 => by
    refine ⟨_, rfl, ?_, ?_, ?_, ?_⟩
    · simp only [sz_app]; show 1 + X.size + 1 + B.size + 1 + C.size + 1 + D.size + 1 ≤ 40; omega
    · simp only [sz_app]; show 1 ≤ 1 + X.size + 1 + B.size + 1 + C.size + 1 + D.size + 1; omega
    · have e : (⟨#[91]⟩ ++ X ++ ⟨#[46]⟩ ++ B ++ ⟨#[46]⟩ ++ C ++ ⟨#[46]⟩ ++ D ++ ⟨#[93]⟩ : ByteArray).data.toList = 91 :: ((X.data.toList ++ 46 :: (B.data.toList ++ 46 :: (C.data.toList ++ 46 :: D.data.toList))) ++ [93]) := by simp
      rw [e]
      refine four_dom h1 (by rw [eB]; exact dd_dig b) (by rw [eC]; exact dd_dig c) (by rw [eD]; exact dd_dig d) (by rw [← sz_list]; omega) (by rw [← sz_list]; omega) (by rw [← sz_list]; omega) (by rw [← sz_list]; omega) ?_ ?_ ?_
      · rw [eB, dd_oct]; simpa using hb
      · rw [eC, dd_oct]; simpa using hc
      · rw [eD, dd_oct]; simpa using hd
    · have e : (⟨#[91]⟩ ++ X ++ ⟨#[46]⟩ ++ B ++ ⟨#[46]⟩ ++ C ++ ⟨#[46]⟩ ++ D ++ ⟨#[93]⟩ : ByteArray) = bl (91 :: (X.data.toList ++ (46 :: (B.data.toList ++ 46 :: (C.data.toList ++ 46 :: D.data.toList))) ++ [93])) := by
        apply ByteArray.ext
        apply Array.toList_inj.1
        simp
      rw [e, bl_drop]
      exact four_no h1 h2
  cases t with
  | true =>
    obtain ⟨Z, hZ⟩ : ∃ Z, ⟨#[48]⟩ ++ A = Z := ⟨_, rfl⟩
    have eZ : Z.data.toList = 48 :: A.data.toList := by rw [← hZ]; simp
    have sZ : Z.size ≤ 6 := by rw [← hZ, sz_app]; show 1 + A.size ≤ 6; omega
    have v0 : octB Z.data.toList = false := by rw [eZ, eA]; exact nought_oct _ (dd_ne a)
    have KX : Z.data.toList.all inDig = true := by rw [eZ, eA, List.all_cons, dd_dig]; rfl
    obtain ⟨S, hS, s1, s2, d1, d2⟩ := key Z KX (by rw [eZ]; simp) sZ
    obtain ⟨U, hU⟩ : ∃ U, S.extract 1 S.size = U := ⟨_, rfl⟩
    rw [hU] at d2
    have sU : U.size ≤ 40 := by rw [← hU, ByteArray.size_extract]; omega
    rw [v0] at d1
    have HD1 : Hid (∀ w1, Vr N w1 → Calls Tryd.prog 14 #[.string S] w1 fun e w' => e = .returned (.bool false) ∧ Below w1.heap.size w1 w') := fun w1 h1 => by
      have := domain_any N S w1 (by omega) h1
      rw [d1] at this
      exact this
    have HD2 : Hid (∀ w1, Vr N w1 → Calls Tryd.prog 14 #[.string U] w1 fun e w' => e = .returned (.bool false) ∧ Below w1.heap.size w1 w') := fun w1 h1 => by
      have := domain_any N U w1 (by omega) h1
      rw [d2] at this
      exact this
    have HD3 : Hid (∀ w1, Calls Tryd.prog 15 #[.string S] w1 fun e w' => e = .returned (.bool false) ∧ w' = w1) := fun w1 => by
      have := rdomain_any S w1 (by omega)
      rw [d1] at this
      exact this
    have p1 : (1 : Int) ≤ S.size := by omega
    have a0 : ¬ 9223372036854775807 < 1 + A.size := by omega
    have b0 : ¬ 9223372036854775807 < 1 + Z.size := by omega
    have b1 : ¬ 9223372036854775807 < 1 + Z.size + 1 := by omega
    have b2 : ¬ 9223372036854775807 < 1 + Z.size + 1 + B.size := by omega
    have b3 : ¬ 9223372036854775807 < 1 + Z.size + 1 + B.size + 1 := by omega
    have b4 : ¬ 9223372036854775807 < 1 + Z.size + 1 + B.size + 1 + C.size := by omega
    have b5 : ¬ 9223372036854775807 < 1 + Z.size + 1 + B.size + 1 + C.size + 1 := by omega
    have b6 : ¬ 9223372036854775807 < 1 + Z.size + 1 + B.size + 1 + C.size + 1 + D.size := by omega
    have b7 : ¬ 9223372036854775807 < 1 + Z.size + 1 + B.size + 1 + C.size + 1 + D.size + 1 := by omega
    clear d1 d2 hA hB hC hD eA eB eC eD key hV eZ v0 KX
    by_cases hq : a ≤ 255
    · have q1 : (a : Int) ≤ 255 := by omega
      have q1d : decide ((a : Int) ≤ 255) = true := decide_eq_true q1
      go_enter Tryd.func7, Tryd.ntmps7
      go_wp2_with (first
            | (go_at_call 9; refine HK.out.mono ?_; rintro e w1 ⟨rfl, hB1⟩; have HB1 := toHid hB1; clear hB1)
            | (go_at_call 29; with_reducible refine (CA.out _).mono ?_; rintro e w2 ⟨rfl, hB2⟩; have HB2 := toHid (HB1.out.trans (hB2.mono HB1.out.size)); clear hB2)
            | (go_at_call 29; with_reducible refine (CB.out _).mono ?_; rintro e w3 ⟨rfl, hB3⟩; have HB3 := toHid (HB2.out.trans (hB3.mono HB2.out.size)); clear hB3)
            | (go_at_call 29; with_reducible refine (CC.out _).mono ?_; rintro e w4 ⟨rfl, hB4⟩; have HB4 := toHid (HB3.out.trans (hB4.mono HB3.out.size)); clear hB4)
            | (go_at_call 29; with_reducible refine (CD.out _).mono ?_; rintro e w5 ⟨rfl, hB5⟩; have HB5 := toHid (HB4.out.trans (hB5.mono HB4.out.size)); clear hB5)
            | (go_at_call 14; with_reducible refine (HD1.out _ (HV.out.new HB5.out)).mono ?_; rintro e w6 ⟨rfl, hB6⟩; have HB6 := toHid (HB5.out.trans (hB6.mono HB5.out.size)); clear hB6)
            | (go_at_call 14; with_reducible refine (HD2.out _ (HV.out.new HB6.out)).mono ?_; rintro e w7 ⟨rfl, hB7⟩; have HB7 := toHid (HB6.out.trans (hB7.mono HB6.out.size)); clear hB7)
            | (go_at_call 14; with_reducible refine (HD1.out _ (HV.out.new HB7.out)).mono ?_; rintro e w8 ⟨rfl, hB8⟩; have HB8 := toHid (HB7.out.trans (hB8.mono HB7.out.size)); clear hB8)
            | (go_at_call 15; refine (HD3.out _).mono ?_; rintro e w9 ⟨rfl, rfl⟩))
      go_ret
      exact ⟨rfl, HB8.out⟩
    · have q1 : ¬ (a : Int) ≤ 255 := by omega
      have q1d : decide ((a : Int) ≤ 255) = false := decide_eq_false q1
      go_enter Tryd.func7, Tryd.ntmps7
      go_wp2_with (first
            | (go_at_call 9; refine HK.out.mono ?_; rintro e w1 ⟨rfl, hB1⟩; have HB1 := toHid hB1; clear hB1)
            | (go_at_call 29; with_reducible refine (CA.out _).mono ?_; rintro e w2 ⟨rfl, hB2⟩; have HB2 := toHid (HB1.out.trans (hB2.mono HB1.out.size)); clear hB2)
            | (go_at_call 29; with_reducible refine (CB.out _).mono ?_; rintro e w3 ⟨rfl, hB3⟩; have HB3 := toHid (HB2.out.trans (hB3.mono HB2.out.size)); clear hB3)
            | (go_at_call 29; with_reducible refine (CC.out _).mono ?_; rintro e w4 ⟨rfl, hB4⟩; have HB4 := toHid (HB3.out.trans (hB4.mono HB3.out.size)); clear hB4)
            | (go_at_call 29; with_reducible refine (CD.out _).mono ?_; rintro e w5 ⟨rfl, hB5⟩; have HB5 := toHid (HB4.out.trans (hB5.mono HB4.out.size)); clear hB5)
            | (go_at_call 14; with_reducible refine (HD1.out _ (HV.out.new HB5.out)).mono ?_; rintro e w6 ⟨rfl, hB6⟩; have HB6 := toHid (HB5.out.trans (hB6.mono HB5.out.size)); clear hB6)
            | (go_at_call 14; with_reducible refine (HD2.out _ (HV.out.new HB6.out)).mono ?_; rintro e w7 ⟨rfl, hB7⟩; have HB7 := toHid (HB6.out.trans (hB7.mono HB6.out.size)); clear hB7)
            | (go_at_call 14; with_reducible refine (HD1.out _ (HV.out.new HB7.out)).mono ?_; rintro e w8 ⟨rfl, hB8⟩; have HB8 := toHid (HB7.out.trans (hB8.mono HB7.out.size)); clear hB8)
            | (go_at_call 15; refine (HD3.out _).mono ?_; rintro e w9 ⟨rfl, rfl⟩))
      go_ret
      exact ⟨rfl, HB8.out⟩
  | false =>
    have v0 : octB A.data.toList = decide (a ≤ 255) := by rw [eA]; exact dd_oct a
    have KX : A.data.toList.all inDig = true := by rw [eA]; exact dd_dig a
    by_cases hq : a ≤ 255
    · rw [decide_eq_true hq] at v0
      obtain ⟨S, hS, s1, s2, d1, d2⟩ := key A KX (by rw [eA]; exact dd_ne a) (by omega)
      obtain ⟨U, hU⟩ : ∃ U, S.extract 1 S.size = U := ⟨_, rfl⟩
      rw [hU] at d2
      have sU : U.size ≤ 40 := by rw [← hU, ByteArray.size_extract]; omega
      rw [v0] at d1
      have HD1 : Hid (∀ w1, Vr N w1 → Calls Tryd.prog 14 #[.string S] w1 fun e w' => e = .returned (.bool true) ∧ Below w1.heap.size w1 w') := fun w1 h1 => by
        have := domain_any N S w1 (by omega) h1
        rw [d1] at this
        exact this
      have HD2 : Hid (∀ w1, Vr N w1 → Calls Tryd.prog 14 #[.string U] w1 fun e w' => e = .returned (.bool false) ∧ Below w1.heap.size w1 w') := fun w1 h1 => by
        have := domain_any N U w1 (by omega) h1
        rw [d2] at this
        exact this
      have HD3 : Hid (∀ w1, Calls Tryd.prog 15 #[.string S] w1 fun e w' => e = .returned (.bool true) ∧ w' = w1) := fun w1 => by
        have := rdomain_any S w1 (by omega)
        rw [d1] at this
        exact this
      have p1 : (1 : Int) ≤ S.size := by omega
      have b0 : ¬ 9223372036854775807 < 1 + A.size := by omega
      have b1 : ¬ 9223372036854775807 < 1 + A.size + 1 := by omega
      have b2 : ¬ 9223372036854775807 < 1 + A.size + 1 + B.size := by omega
      have b3 : ¬ 9223372036854775807 < 1 + A.size + 1 + B.size + 1 := by omega
      have b4 : ¬ 9223372036854775807 < 1 + A.size + 1 + B.size + 1 + C.size := by omega
      have b5 : ¬ 9223372036854775807 < 1 + A.size + 1 + B.size + 1 + C.size + 1 := by omega
      have b6 : ¬ 9223372036854775807 < 1 + A.size + 1 + B.size + 1 + C.size + 1 + D.size := by omega
      have b7 : ¬ 9223372036854775807 < 1 + A.size + 1 + B.size + 1 + C.size + 1 + D.size + 1 := by omega
      clear d1 d2 hA hB hC hD eA eB eC eD key hV v0 KX
      have q1 : (a : Int) ≤ 255 := by omega
      have q1d : decide ((a : Int) ≤ 255) = true := decide_eq_true q1
      go_enter Tryd.func7, Tryd.ntmps7
      go_wp2_with (first
            | (go_at_call 9; refine HK.out.mono ?_; rintro e w1 ⟨rfl, hB1⟩; have HB1 := toHid hB1; clear hB1)
            | (go_at_call 29; with_reducible refine (CA.out _).mono ?_; rintro e w2 ⟨rfl, hB2⟩; have HB2 := toHid (HB1.out.trans (hB2.mono HB1.out.size)); clear hB2)
            | (go_at_call 29; with_reducible refine (CB.out _).mono ?_; rintro e w3 ⟨rfl, hB3⟩; have HB3 := toHid (HB2.out.trans (hB3.mono HB2.out.size)); clear hB3)
            | (go_at_call 29; with_reducible refine (CC.out _).mono ?_; rintro e w4 ⟨rfl, hB4⟩; have HB4 := toHid (HB3.out.trans (hB4.mono HB3.out.size)); clear hB4)
            | (go_at_call 29; with_reducible refine (CD.out _).mono ?_; rintro e w5 ⟨rfl, hB5⟩; have HB5 := toHid (HB4.out.trans (hB5.mono HB4.out.size)); clear hB5)
            | (go_at_call 14; with_reducible refine (HD1.out _ (HV.out.new HB5.out)).mono ?_; rintro e w6 ⟨rfl, hB6⟩; have HB6 := toHid (HB5.out.trans (hB6.mono HB5.out.size)); clear hB6)
            | (go_at_call 14; with_reducible refine (HD2.out _ (HV.out.new HB6.out)).mono ?_; rintro e w7 ⟨rfl, hB7⟩; have HB7 := toHid (HB6.out.trans (hB7.mono HB6.out.size)); clear hB7)
            | (go_at_call 14; with_reducible refine (HD1.out _ (HV.out.new HB7.out)).mono ?_; rintro e w8 ⟨rfl, hB8⟩; have HB8 := toHid (HB7.out.trans (hB8.mono HB7.out.size)); clear hB8)
            | (go_at_call 15; refine (HD3.out _).mono ?_; rintro e w9 ⟨rfl, rfl⟩))
      go_ret
      exact ⟨rfl, HB8.out⟩
    · rw [decide_eq_false hq] at v0
      obtain ⟨S, hS, s1, s2, d1, d2⟩ := key A KX (by rw [eA]; exact dd_ne a) (by omega)
      obtain ⟨U, hU⟩ : ∃ U, S.extract 1 S.size = U := ⟨_, rfl⟩
      rw [hU] at d2
      have sU : U.size ≤ 40 := by rw [← hU, ByteArray.size_extract]; omega
      rw [v0] at d1
      have HD1 : Hid (∀ w1, Vr N w1 → Calls Tryd.prog 14 #[.string S] w1 fun e w' => e = .returned (.bool false) ∧ Below w1.heap.size w1 w') := fun w1 h1 => by
        have := domain_any N S w1 (by omega) h1
        rw [d1] at this
        exact this
      have HD2 : Hid (∀ w1, Vr N w1 → Calls Tryd.prog 14 #[.string U] w1 fun e w' => e = .returned (.bool false) ∧ Below w1.heap.size w1 w') := fun w1 h1 => by
        have := domain_any N U w1 (by omega) h1
        rw [d2] at this
        exact this
      have HD3 : Hid (∀ w1, Calls Tryd.prog 15 #[.string S] w1 fun e w' => e = .returned (.bool false) ∧ w' = w1) := fun w1 => by
        have := rdomain_any S w1 (by omega)
        rw [d1] at this
        exact this
      have p1 : (1 : Int) ≤ S.size := by omega
      have b0 : ¬ 9223372036854775807 < 1 + A.size := by omega
      have b1 : ¬ 9223372036854775807 < 1 + A.size + 1 := by omega
      have b2 : ¬ 9223372036854775807 < 1 + A.size + 1 + B.size := by omega
      have b3 : ¬ 9223372036854775807 < 1 + A.size + 1 + B.size + 1 := by omega
      have b4 : ¬ 9223372036854775807 < 1 + A.size + 1 + B.size + 1 + C.size := by omega
      have b5 : ¬ 9223372036854775807 < 1 + A.size + 1 + B.size + 1 + C.size + 1 := by omega
      have b6 : ¬ 9223372036854775807 < 1 + A.size + 1 + B.size + 1 + C.size + 1 + D.size := by omega
      have b7 : ¬ 9223372036854775807 < 1 + A.size + 1 + B.size + 1 + C.size + 1 + D.size + 1 := by omega
      clear d1 d2 hA hB hC hD eA eB eC eD key hV v0 KX
      have q1 : ¬ (a : Int) ≤ 255 := by omega
      have q1d : decide ((a : Int) ≤ 255) = false := decide_eq_false q1
      go_enter Tryd.func7, Tryd.ntmps7
      go_wp2_with (first
            | (go_at_call 9; refine HK.out.mono ?_; rintro e w1 ⟨rfl, hB1⟩; have HB1 := toHid hB1; clear hB1)
            | (go_at_call 29; with_reducible refine (CA.out _).mono ?_; rintro e w2 ⟨rfl, hB2⟩; have HB2 := toHid (HB1.out.trans (hB2.mono HB1.out.size)); clear hB2)
            | (go_at_call 29; with_reducible refine (CB.out _).mono ?_; rintro e w3 ⟨rfl, hB3⟩; have HB3 := toHid (HB2.out.trans (hB3.mono HB2.out.size)); clear hB3)
            | (go_at_call 29; with_reducible refine (CC.out _).mono ?_; rintro e w4 ⟨rfl, hB4⟩; have HB4 := toHid (HB3.out.trans (hB4.mono HB3.out.size)); clear hB4)
            | (go_at_call 29; with_reducible refine (CD.out _).mono ?_; rintro e w5 ⟨rfl, hB5⟩; have HB5 := toHid (HB4.out.trans (hB5.mono HB4.out.size)); clear hB5)
            | (go_at_call 14; with_reducible refine (HD1.out _ (HV.out.new HB5.out)).mono ?_; rintro e w6 ⟨rfl, hB6⟩; have HB6 := toHid (HB5.out.trans (hB6.mono HB5.out.size)); clear hB6)
            | (go_at_call 14; with_reducible refine (HD2.out _ (HV.out.new HB6.out)).mono ?_; rintro e w7 ⟨rfl, hB7⟩; have HB7 := toHid (HB6.out.trans (hB7.mono HB6.out.size)); clear hB7)
            | (go_at_call 14; with_reducible refine (HD1.out _ (HV.out.new HB7.out)).mono ?_; rintro e w8 ⟨rfl, hB8⟩; have HB8 := toHid (HB7.out.trans (hB8.mono HB7.out.size)); clear hB8)
            | (go_at_call 15; refine (HD3.out _).mono ?_; rintro e w9 ⟨rfl, rfl⟩))
      go_ret
      exact ⟨rfl, HB8.out⟩
theorem law_numbers (N : Nat) (a b c d : Int) (t : Bool) (w : World) (ha : (Lit.int .u16 a).wf = true) (hb : (Lit.int .u8 b).wf = true) (hc : (Lit.int .u8 c).wf = true) (hd : (Lit.int .u8 d).wf = true) (hV : Vr N w) :
    Calls Tryd.prog 7 #[.int .u16 a, .int .u8 b, .int .u8 c, .int .u8 d, .bool t] w fun e w' => e = .returned (.bool true) ∧ Below w.heap.size w w' := by
  have h1 := bounds_u16 ha
  have h2 := bounds_u8 hb
  have h3 := bounds_u8 hc
  have h4 := bounds_u8 hd
  obtain ⟨a, rfl⟩ := Int.eq_ofNat_of_zero_le h1.1
  obtain ⟨b, rfl⟩ := Int.eq_ofNat_of_zero_le h2.1
  obtain ⟨c, rfl⟩ := Int.eq_ofNat_of_zero_le h3.1
  obtain ⟨d, rfl⟩ := Int.eq_ofNat_of_zero_le h4.1
  exact law_numbers_n N a b c d t w (by omega) (by omega) (by omega) (by omega) hV
end Go.Proofs.YtefofoocglhdmaaDoor

/-
  AddrBack.
-/
import Derived.Test.YtefofoocglhdmaaDoorMRef8
import Derived.Test.YtefofoocglhdmaaDoorMBack1
namespace Go.Proofs.YtefofoocglhdmaaDoor
open Go.RowKit

theorem rdomain_all (s : ByteArray) (w : World) :
    Calls Tryd.prog 15 #[.string s] w fun e w' => e = .returned (.bool (domB s.data.toList)) ∧ w' = w := by
  by_cases h255 : 255 < s.size
  · have hz := sz_list s
    have q0 := str_some (show ¬ s.size = 0 by omega)
    have q1 : (255 : Int) < s.size := by omega
    have q1d : decide ((255 : Int) < s.size) = true := decide_eq_true q1
    have HR : Hid (domB s.data.toList = false) := by show _ = _; unfold domB; rw [← hz, decide_eq_false (by omega)]; rfl
    clear h255 hz
    go_enter Tryd.func15, Tryd.ntmps15
    go_wp2_with fail
    go_ret
    exact ⟨by rw [HR.out]; rfl, rfl⟩
  · exact rdomain_any s w (by omega)
theorem domB_len {l : List UInt8} (h : domB l = true) : l.length ≤ 255 := by
  unfold domB at h
  rw [Bool.and_eq_true, Bool.and_eq_true, decide_eq_true_eq] at h
  exact h.1.1

set_option maxHeartbeats 6400000 in
set_option maxRecDepth 100000 in
theorem law_back (N : Nat) (a d m : ByteArray) (v : Value) (ss : List ByteArray) (w : World) (hv : Tx w v ss) (hV : Vr N w) :
    Calls Tryd.prog 5 #[adV a d, .string m, v] w fun e w' => e = .returned (.bool true) ∧ Below w.heap.size w w' := by
  obtain ⟨av, cv, rfl⟩ := hv.form
  have A0 := Ad.new w a d
  have B0 := alloc_below w (.cells #[.string a, .string d] 24)
  obtain ⟨D, hD⟩ : ∃ D, w.heap.size = D := ⟨_, rfl⟩
  obtain ⟨W, hW⟩ : ∃ W, w.alloc (.cells #[.string a, .string d] 24) = W := ⟨_, rfl⟩
  rw [hW] at A0 B0
  rw [hD] at A0
  have HA0 : Hid (Ad W D a d) := A0
  have HB0 : Hid (Below w.heap.size w W) := B0
  have HV : Hid (Vr N w) := hV
  have HT : Hid (Tx w (.slice av ss.length cv) ss) := hv
  have HK : Hid (Calls Tryd.prog 9 #[] W fun e w' => e = .returned (.bool true) ∧ Below W.heap.size W w') := known_any N W (hV.new B0)
  have HF : Hid (∀ w, Calls Tryd.prog 20 #[adV a d] w fun e w' => e = .returned (.bool (decide (a.size ≤ 400) && decide (d.size ≤ 600))) ∧ Below w.heap.size w w') := fun w => few_any a d w
  have HW := toHid hW
  have HD := toHid hD
  clear A0 B0 hV hv
  cases hf : (decide (a.size ≤ 400) && decide (d.size ≤ 600)) with
  | false =>
    rw [hf] at HF
    clear hf
    go_enter Tryd.func5, Tryd.ntmps5
    go_upto_region 1 with fail
    try rw [HW.out]
    try rw [HD.out]
    clear hW hD
    go_wp2_with (first
      | (go_at_call 9; refine HK.out.mono ?_; rintro e w1 ⟨rfl, hB1⟩; have hB2 := HB0.out.trans (hB1.mono HB0.out.size); have A1 := HA0.out.more hB1; have z0 := A1.c0; have z1 := A1.c1)
      | (go_at_call 20; refine (HF.out _).mono ?_; rintro e w2 ⟨rfl, hB3⟩; have hB4 := hB2.trans (hB3.mono hB2.size)))
    go_ret
    exact ⟨rfl, hB4⟩
  | true =>
    rw [hf] at HF
    rw [Bool.and_eq_true, decide_eq_true_eq, decide_eq_true_eq] at hf
    by_cases h300 : 300 < m.size
    · have q0 : (300 : Int) < m.size := by omega
      have q0d : decide ((300 : Int) < m.size) = true := decide_eq_true q0
      clear hf h300
      go_enter Tryd.func5, Tryd.ntmps5
      go_upto_region 1 with fail
      try rw [HW.out]
      try rw [HD.out]
      clear hW hD
      go_wp2_with (first
        | (go_at_call 9; refine HK.out.mono ?_; rintro e w1 ⟨rfl, hB1⟩; have hB2 := HB0.out.trans (hB1.mono HB0.out.size); have A1 := HA0.out.more hB1; have z0 := A1.c0; have z1 := A1.c1)
        | (go_at_call 20; refine (HF.out _).mono ?_; rintro e w2 ⟨rfl, hB3⟩; have hB4 := hB2.trans (hB3.mono hB2.size)))
      go_ret
      exact ⟨rfl, hB4⟩
    have q0 : ¬ (300 : Int) < m.size := by omega
    have q0d : decide ((300 : Int) < m.size) = false := decide_eq_false q0
    by_cases h10 : 10 < ss.length
    · have q1 : (10 : Int) < ss.length := by omega
      have q1d : decide ((10 : Int) < ss.length) = true := decide_eq_true q1
      clear hf h300 h10
      go_enter Tryd.func5, Tryd.ntmps5
      go_upto_region 1 with fail
      try rw [HW.out]
      try rw [HD.out]
      clear hW hD
      go_wp2_with (first
        | (go_at_call 9; refine HK.out.mono ?_; rintro e w1 ⟨rfl, hB1⟩; have hB2 := HB0.out.trans (hB1.mono HB0.out.size); have A1 := HA0.out.more hB1; have z0 := A1.c0; have z1 := A1.c1)
        | (go_at_call 20; refine (HF.out _).mono ?_; rintro e w2 ⟨rfl, hB3⟩; have hB4 := hB2.trans (hB3.mono hB2.size)))
      go_ret
      exact ⟨rfl, hB4⟩
    have q1 : ¬ (10 : Int) < ss.length := by omega
    have q1d : decide ((10 : Int) < ss.length) = false := decide_eq_false q1
    have HRr : Hid (∀ w, Calls Tryd.prog 24 #[adV a d] w fun e w' => e = .returned (.bool (rgt a.data.toList d.data.toList)) ∧ Below w.heap.size w w') := fun w => rright_any a d w (by omega) (by omega)
    cases hr : rgt a.data.toList d.data.toList with
    | false =>
      rw [hr] at HRr
      clear hf h300 h10 hr
      go_enter Tryd.func5, Tryd.ntmps5
      go_upto_region 1 with fail
      try rw [HW.out]
      try rw [HD.out]
      clear hW hD
      go_wp2_with (first
        | (go_at_call 9; refine HK.out.mono ?_; rintro e w1 ⟨rfl, hB1⟩; have hB2 := HB0.out.trans (hB1.mono HB0.out.size); have A1 := HA0.out.more hB1; have z0 := A1.c0; have z1 := A1.c1)
        | (go_at_call 20; refine (HF.out _).mono ?_; rintro e w2 ⟨rfl, hB3⟩; have hB4 := hB2.trans (hB3.mono hB2.size); have A2 := A1.more hB3; have z0 := A2.c0; have z1 := A2.c1)
        | (go_at_call 24; refine (HRr.out _).mono ?_; rintro e w3 ⟨rfl, hB5⟩; have hB6 := hB4.trans (hB5.mono hB4.size)))
      go_ret
      exact ⟨rfl, hB6⟩
    | true =>
      rw [hr] at HRr
      obtain ⟨P, hP⟩ : ∃ P, bl (prn a.data.toList d.data.toList) = P := ⟨_, rfl⟩
      have hPs : 2 ≤ P.size ∧ P.size ≤ 256 := by
        rw [← hP, bl_size]
        unfold prn
        rw [if_pos hr]
        rcases rgt_parts hr with ⟨e1, e2⟩ | ⟨h1, _, _, h4⟩
        · rw [e1, e2]; decide
        · rw [h1, if_neg (by decide)]
          refine ⟨?_, h4⟩
          unfold wrt; simp; omega
      have HPr : Hid (∀ w1, Vr N w1 → Calls Tryd.prog 25 #[adV a d] w1 fun e w' => e = .returned (.string P) ∧ Below w1.heap.size w1 w') := fun w1 h => by
        have := print_any N a d w1 (by omega) (by omega) h
        rw [hP] at this
        exact this
      have hpd : P.data.toList = prn a.data.toList d.data.toList := by rw [← hP]
      have HPa : Hid (∀ w1, Vr N w1 → Calls Tryd.prog 10 #[.string (P ++ m)] w1 fun e w' => e = .returned (.tuple #[adV a d, .string m, .int .i64 0]) ∧ Below w1.heap.size w1 w') := fun w1 h => by
        have := Path_any N (P ++ m) w1 (by rw [ByteArray.size_append]; omega) h
        rw [show (P ++ m : ByteArray).data.toList = prn a.data.toList d.data.toList ++ m.data.toList by rw [← hpd]; simp, pathR_prn _ hr] at this
        exact this
      have b1 : ¬ 9223372036854775807 < P.size + m.size := by omega
      have q2 : ¬ (P.size : Int) < 2 := by omega
      have q2d : decide ((P.size : Int) < 2) = false := decide_eq_false q2
      have HP := toHid hP
      have hHpd := toHid hpd
      have HPs := toHid hPs
      have HR := toHid hr
      have Hf := toHid hf
      clear hf h300 hr hP hpd hPs
      obtain ⟨A, hA⟩ : ∃ A, (a.toList == []) = A := ⟨_, rfl⟩
      have HAe := toHid hA
      cases A with
      | true =>
        clear h10
        go_enter Tryd.func5, Tryd.ntmps5
        go_upto_region 1 with fail
        try rw [HW.out]
        try rw [HD.out]
        clear hW hD
        go_wp2_with (first
          | (go_at_call 9; refine HK.out.mono ?_; rintro e w1 ⟨rfl, hB1⟩; have hB2 := HB0.out.trans (hB1.mono HB0.out.size); have A1 := HA0.out.more hB1; have z0 := A1.c0; have z1 := A1.c1)
          | (go_at_call 20; refine (HF.out _).mono ?_; rintro e w2 ⟨rfl, hB3⟩; have hB4 := hB2.trans (hB3.mono hB2.size); have A2 := A1.more hB3; have z0 := A2.c0; have z1 := A2.c1; clear hB3 A1)
          | (go_at_call 24; refine (HRr.out _).mono ?_; rintro e w3 ⟨rfl, hB5⟩; have hB6 := hB4.trans (hB5.mono hB4.size); have A3 := A2.more hB5; have z0 := A3.c0; have z1 := A3.c1; clear hB5 hB4 A2)
          | (go_at_call 25; with_reducible refine (HPr.out _ (HV.out.new hB6)).mono ?_; rintro e w4 ⟨rfl, hB7⟩; have hB8 := hB6.trans (hB7.mono hB6.size); have A4 := A3.more hB7; have z0 := A4.c0; have z1 := A4.c1; clear hB7 hB6 A3)
          | (go_at_call 10; with_reducible refine (HPa.out _ (HV.out.new hB8)).mono ?_; rintro e w5 ⟨rfl, hB9⟩; have hB10 := hB8.trans (hB9.mono hB8.size); have A5 := A4.more hB9; have B11 := alloc_below w5 (.cells #[.string a, .string d] 24); have A6 := A5.more B11; have hB12 := hB10.trans (B11.mono hB10.size); have z0 := A6.c0; have z1 := A6.c1; have A7 := Ad.new w5 a d; have y0 := A7.c0; have y1 := A7.c1; clear hB9 hB10 B11 A4 A5))
        go_ret
        exact ⟨rfl, hB12⟩
      | false =>
        have hne : ¬ a.data.toList = [] := by
          intro e
          rw [ByteArray.toList_eq, e] at hA
          cases hA
        obtain ⟨e1, e2, e3⟩ := prn_tail HR.out hne
        have HNE := toHid hne
        clear e2 e3 hne
        by_cases hs0 : ss.length = 0
        · have q3 : ((ss.length : Int) == 0) = true := by simp [hs0]
          clear h10 hs0 e1
          go_enter Tryd.func5, Tryd.ntmps5
          go_upto_region 1 with fail
          try rw [HW.out]
          try rw [HD.out]
          clear hW hD
          go_wp2_with (first
            | (go_at_call 9; refine HK.out.mono ?_; rintro e w1 ⟨rfl, hB1⟩; have hB2 := HB0.out.trans (hB1.mono HB0.out.size); have A1 := HA0.out.more hB1; have z0 := A1.c0; have z1 := A1.c1)
            | (go_at_call 20; refine (HF.out _).mono ?_; rintro e w2 ⟨rfl, hB3⟩; have hB4 := hB2.trans (hB3.mono hB2.size); have A2 := A1.more hB3; have z0 := A2.c0; have z1 := A2.c1; clear hB3 A1)
            | (go_at_call 24; refine (HRr.out _).mono ?_; rintro e w3 ⟨rfl, hB5⟩; have hB6 := hB4.trans (hB5.mono hB4.size); have A3 := A2.more hB5; have z0 := A3.c0; have z1 := A3.c1; clear hB5 hB4 A2)
            | (go_at_call 25; with_reducible refine (HPr.out _ (HV.out.new hB6)).mono ?_; rintro e w4 ⟨rfl, hB7⟩; have hB8 := hB6.trans (hB7.mono hB6.size); have A4 := A3.more hB7; have z0 := A4.c0; have z1 := A4.c1; clear hB7 hB6 A3)
            | (go_at_call 10; with_reducible refine (HPa.out _ (HV.out.new hB8)).mono ?_; rintro e w5 ⟨rfl, hB9⟩; have hB10 := hB8.trans (hB9.mono hB8.size); have A5 := A4.more hB9; have B11 := alloc_below w5 (.cells #[.string a, .string d] 24); have A6 := A5.more B11; have hB12 := hB10.trans (B11.mono hB10.size); have z0 := A6.c0; have z1 := A6.c1; have A7 := Ad.new w5 a d; have y0 := A7.c0; have y1 := A7.c1; clear hB9 hB10 B11 A4 A5))
          go_ret
          exact ⟨rfl, hB12⟩
        · have q3 : ((ss.length : Int) == 0) = false := beq_eq_false_iff_ne.2 (by omega)
          have hn10 : ss.length ≤ 10 := by omega
          have HN0 := toHid hs0
          have HI : Hid (P.extract 1 P.size = bl (ins a.data.toList d.data.toList)) := by
            show _ = _
            have h1 : P = bl (60 :: ins a.data.toList d.data.toList) := by rw [← e1]; exact HP.out.symm
            rw [h1]
            apply ByteArray.ext
            simp
            exact List.take_of_length_le (by rw [bl_size]; simp)
          clear h10 hs0 e1
          go_enter Tryd.func5, Tryd.ntmps5
          go_upto_region 1 with fail
          try rw [HW.out]
          try rw [HD.out]
          clear hW hD
          go_wp2_with (first
            | (go_at_call 9; refine HK.out.mono ?_; rintro e w1 ⟨rfl, hB1⟩; have hB2 := HB0.out.trans (hB1.mono HB0.out.size); have A1 := HA0.out.more hB1; have z0 := A1.c0; have z1 := A1.c1)
            | (go_at_call 20; refine (HF.out _).mono ?_; rintro e w2 ⟨rfl, hB3⟩; have hB4 := hB2.trans (hB3.mono hB2.size); have A2 := A1.more hB3; have z0 := A2.c0; have z1 := A2.c1; clear hB3 A1)
            | (go_at_call 24; refine (HRr.out _).mono ?_; rintro e w3 ⟨rfl, hB5⟩; have hB6 := hB4.trans (hB5.mono hB4.size); have A3 := A2.more hB5; have z0 := A3.c0; have z1 := A3.c1; clear hB5 hB4 A2)
            | (go_at_call 25; with_reducible refine (HPr.out _ (HV.out.new hB6)).mono ?_; rintro e w4 ⟨rfl, hB7⟩; have hB8 := hB6.trans (hB7.mono hB6.size); have A4 := A3.more hB7; have z0 := A4.c0; have z1 := A4.c1; clear hB7 hB6 A3)
            | (go_at_call 10; with_reducible refine (HPa.out _ (HV.out.new hB8)).mono ?_; rintro e w5 ⟨rfl, hB9⟩; have hB10 := hB8.trans (hB9.mono hB8.size); have A5 := A4.more hB9; have B11 := alloc_below w5 (.cells #[.string a, .string d] 24); have A6 := A5.more B11; have hB12 := hB10.trans (B11.mono hB10.size); have z0 := A6.c0; have z1 := A6.c1; have A7 := Ad.new w5 a d; have y0 := A7.c0; have y1 := A7.c1; clear hB9 hB10 B11 A4 A5))
          have HB12 := toHid hB12
          have HA6 := toHid A6
          obtain ⟨w6, hw6⟩ : ∃ w6, w5.alloc (.cells #[.string a, .string d] 24) = w6 := ⟨_, rfl⟩
          rw [hw6] at HB12 HA6
          simp only [hw6]
          clear hw6 hB12 A6 A7 z0 z1 y0 y1 hB1 hB2 hB8 HK HF HRr HPr HPa
          go_loopw [11, 12] (fun sv i wr => ∃ (k : Nat) (r : ByteArray), sv = .string r ∧ i = .int .i64 k ∧ k ≤ ss.length ∧ r.size ≤ 257 * k ∧ Hid (Below w6.heap.size w6 wr ∧ (k = 0 ∧ r.data.toList = [] ∨ 0 < k ∧ Rt r.data.toList))) (fun _ i _ => ss.length - (intOf i).toNat)
          case atStart => exact ⟨0, ⟨#[]⟩, rfl, rfl, Nat.zero_le _, Nat.zero_le _, Below.refl _ _, .inl ⟨rfl, rfl⟩⟩
          case round =>
            obtain ⟨k, r, rfl, rfl, hk, hrs, hA8⟩ := hrel
            by_cases hlt : k < ss.length
            · have q4 : (k : Int) < ss.length := by omega
              have hBr := hA8.out.1
              have hBw := HB12.out.trans (hBr.mono HB12.out.size)
              have HTr := toHid (HT.out.below hBw)
              obtain ⟨b, off, hab, hc⟩ := HTr.out.nth hlt
              subst hab
              obtain ⟨x, hx⟩ : ∃ x, ss.getD k ByteArray.empty = x := ⟨_, rfl⟩
              have c1 := hc k hlt
              rw [hx] at c1
              have HBw := toHid hBw
              clear hc hx hBw
              have HDo : Hid (∀ w, Calls Tryd.prog 15 #[.string x] w fun e w' => e = .returned (.bool (domB x.data.toList)) ∧ w' = w) := fun w => rdomain_all x w
              cases hdx : domB x.data.toList with
              | false =>
                rw [hdx] at HDo
                clear hdx hBr
                go_wp2_with (go_at_call 15; refine (HDo.out _).mono ?_; rintro e w7 ⟨rfl, rfl⟩)
                go_ret
                exact ⟨rfl, HBw.out⟩
              | true =>
                rw [hdx] at HDo
                have hxs := domB_len hdx
                have hxz := sz_list x
                have hxS := domB_S hdx
                by_cases hk0 : k = 0
                · have q6 : ¬ (0 : Int) < k := by omega
                  have b2 : ¬ 9223372036854775807 < r.size + 1 := by omega
                  have b3 : ¬ 9223372036854775807 < r.size + 1 + x.size := by omega
                  have HN : Hid (Rt (r ++ ⟨#[64]⟩ ++ x).data.toList) := by
                    have h1 : r.data.toList = [] := hA8.out.2.elim (fun h => h.2) (fun h => by omega)
                    have : (r ++ ⟨#[64]⟩ ++ x : ByteArray).data.toList = r.data.toList ++ 64 :: x.data.toList := by simp
                    show Rt _
                    rw [this, h1]
                    exact Rt.one hxS
                  have HZ : Hid ((r ++ ⟨#[64]⟩ ++ x).size ≤ 257 * (k + 1)) := by show _ ≤ _; rw [ByteArray.size_append, ByteArray.size_append]; show r.size + 1 + x.size ≤ _; omega
                  have HBr := toHid hBr
                  clear hdx hxs hxz hxS hk0 hA8 hBr
                  go_wp2_with (go_at_call 15; refine (HDo.out _).mono ?_; rintro e w7 ⟨rfl, rfl⟩)
                  go_roundw
                  case rel => exact ⟨k + 1, _, rfl, by go_num, by omega, HZ.out, HBr.out, .inr ⟨by omega, HN.out⟩⟩
                  case measure => simp [intOf]; omega
                · have q6 : (0 : Int) < k := by omega
                  have b2 : ¬ 9223372036854775807 < r.size + 1 := by omega
                  have b3 : ¬ 9223372036854775807 < r.size + 1 + 1 := by omega
                  have b4 : ¬ 9223372036854775807 < r.size + 1 + 1 + x.size := by omega
                  have HN : Hid (Rt (r ++ ⟨#[44]⟩ ++ ⟨#[64]⟩ ++ x).data.toList) := by
                    have h1 : Rt r.data.toList := hA8.out.2.elim (fun h => by omega) (fun h => h.2)
                    have : (r ++ ⟨#[44]⟩ ++ ⟨#[64]⟩ ++ x : ByteArray).data.toList = r.data.toList ++ 44 :: 64 :: x.data.toList := by simp
                    show Rt _
                    rw [this]
                    exact h1.more hxS
                  have HZ : Hid ((r ++ ⟨#[44]⟩ ++ ⟨#[64]⟩ ++ x).size ≤ 257 * (k + 1)) := by show _ ≤ _; rw [ByteArray.size_append, ByteArray.size_append, ByteArray.size_append]; show r.size + 1 + 1 + x.size ≤ _; omega
                  have HBr := toHid hBr
                  clear hdx hxs hxz hxS hk0 hA8 hBr
                  go_wp2_with (go_at_call 15; refine (HDo.out _).mono ?_; rintro e w7 ⟨rfl, rfl⟩)
                  go_roundw
                  case rel => exact ⟨k + 1, _, rfl, by go_num, by omega, HZ.out, HBr.out, .inr ⟨by omega, HN.out⟩⟩
                  case measure => simp [intOf]; omega
            · have q4 : ¬ (k : Int) < ss.length := by omega
              have hRt : Rt r.data.toList := hA8.out.2.elim (fun h => by have := HN0.out; omega) (fun h => h.2)
              have hBw := HB12.out.trans (hA8.out.1.mono HB12.out.size)
              have h5 := parseR_route hRt HR.out HNE.out
              obtain ⟨I, hI⟩ : ∃ I, bl (ins a.data.toList d.data.toList) = I := ⟨_, rfl⟩
              have hIs : I.size ≤ 256 := by
                have h6 : (P.extract 1 P.size).size = I.size := by rw [HI.out, hI]
                have := HPs.out
                rw [ByteArray.size_extract] at h6
                omega
              have hEx : P.extract 1 P.size = I := HI.out.trans hI
              have HPs2 : Hid (∀ w1, Vr N w1 → Calls Tryd.prog 12 #[.string (⟨#[60]⟩ ++ r ++ ⟨#[58]⟩ ++ I)] w1 fun e w' => e = .returned (.tuple #[adV a d, .int .i64 0]) ∧ Below w1.heap.size w1 w') := fun w1 h => by
                have := Parse_any N (⟨#[60]⟩ ++ r ++ ⟨#[58]⟩ ++ I) w1 (by rw [ByteArray.size_append, ByteArray.size_append, ByteArray.size_append]; show 1 + r.size + 1 + I.size ≤ _; omega) h
                rw [show (⟨#[60]⟩ ++ r ++ ⟨#[58]⟩ ++ I : ByteArray).data.toList = 60 :: (r.data.toList ++ 58 :: ins a.data.toList d.data.toList) by rw [← hI]; simp, h5] at this
                exact this
              have b2 : ¬ 9223372036854775807 < 1 + r.size := by omega
              have b3 : ¬ 9223372036854775807 < 1 + r.size + 1 := by omega
              have b4 : ¬ 9223372036854775807 < 1 + r.size + 1 + I.size := by omega
              have q7 : (1 : Int) ≤ P.size := by have := HPs.out; omega
              have HAw := toHid (HA6.out.more hA8.out.1)
              have HBw := toHid hBw
              clear hRt h5 hI hIs hBw hA8
              go_wp2_with (go_at_call 12; with_reducible refine (HPs2.out _ (HV.out.new HBw.out)).mono ?_; rintro e w7 ⟨rfl, hB13⟩; have B14 := alloc_below w7 (.cells #[.string a, .string d] 24); have A8 := (HAw.out.more hB13).more B14; have A9 := Ad.new w7 a d; have hB15 := (HBw.out.trans (hB13.mono HBw.out.size)).trans (B14.mono (Nat.le_trans HBw.out.size hB13.size)); have z0 := A8.c0; have z1 := A8.c1; have y0 := A9.c0; have y1 := A9.c1)
              go_ret
              exact ⟨rfl, hB15⟩
end Go.Proofs.YtefofoocglhdmaaDoor

/-
  The scanner's path.
-/
import Derived.Test.YtefofoocglhdmaaDoorMPth
import Derived.Deep.RegionWith
namespace Go.Proofs.YtefofoocglhdmaaDoor
open Go.RowKit

set_option maxHeartbeats 6400000 in
theorem path_any (N : Nat) (w : World) (b : Nat) (l : List UInt8) (h : Sc w b l) (hb : N ≤ b) (hV : Vr N w) :
    Calls Tryd.prog 30 #[.pointer (some ⟨b, 0, none⟩)] w fun e w' => ∃ r, MbxT (pth l) e r ∧ Sc w' b r ∧ On b w w' := by
  have HB : Hid (N ≤ b) := hb
  have hbl := h.lt
  have A0 := Ad.new w ⟨#[]⟩ ⟨#[]⟩
  have B0 := alloc_below w (.cells #[.string ⟨#[]⟩, .string ⟨#[]⟩] 24)
  have S0 : Hid (Sc (w.alloc (.cells #[.string ⟨#[]⟩, .string ⟨#[]⟩] 24)) b l) := h.more B0
  have O0 : Hid (On b w (w.alloc (.cells #[.string ⟨#[]⟩, .string ⟨#[]⟩] 24))) := On.more (Chg.refl _ _) B0
  have V0 : Hid (Vr N (w.alloc (.cells #[.string ⟨#[]⟩, .string ⟨#[]⟩] 24))) := hV.new B0
  obtain ⟨D, hD⟩ : ∃ D, w.heap.size = D := ⟨_, rfl⟩
  have HD : Hid (w.heap.size = D) := hD
  have HbD : Hid (¬ D = b) := by show ¬ D = b; omega
  rw [hD] at A0
  have HA : Hid (Ad (w.alloc (.cells #[.string ⟨#[]⟩, .string ⟨#[]⟩] 24)) D ⟨#[]⟩ ⟨#[]⟩) := A0
  clear h hb hV hbl A0 B0
  go_enter Tryd.func30, Tryd.ntmps30
  go_upto_region 1 with fail
  obtain ⟨W, hW⟩ : ∃ W, (w.alloc (.cells #[.string ⟨#[]⟩, .string ⟨#[]⟩] 24)) = W := ⟨_, rfl⟩
  rw [hW] at S0 O0 V0 HA ⊢
  have hsv : ∀ w1, On b W w1 → Ad w1 D ⟨#[]⟩ ⟨#[]⟩ := fun w1 h1 => HA.out.kept h1 HbD.out
  have HAk := toHid hsv
  have HM := toHid (mark_at W b l 60 60 rfl S0.out)
  clear hW hD hsv
  by_cases h60 : l.headD 0 = 60
  · rw [decide_eq_true h60, if_pos h60] at HM
    obtain ⟨q, hq⟩ : ∃ q, l.tail = q := ⟨_, rfl⟩
    have hpth : pth l = (if q.headD 0 = 62 then some ([], [], q.tail) else if q.headD 0 = 64 then (match rte q with | some r => clo (mbx r) | none => none) else clo (mbx q)) := by unfold pth; rw [if_pos h60, hq]; first | rfl | (cases rte q <;> rfl)
    rw [hq] at HM
    obtain ⟨X, hX⟩ : ∃ X : Int, ((q.headD 0).toNat : Int) = X := ⟨_, rfl⟩
    have HF : Hid (∀ w1, Sc w1 b q → Calls Tryd.prog 47 #[.pointer (some ⟨b, 0, none⟩)] w1 fun e w' => e = .returned (.int .u8 X) ∧ w' = w1) := fun w1 h1 => by
      have := front_any w1 b q h1
      rw [hX] at this
      exact this
    by_cases h62 : q.headD 0 = 62
    · have e62 : (X == 62) = true := by rw [← hX]; exact i_eq h62
      rw [if_pos h62] at hpth
      have HP := toHid hpth
      have HM2 : Hid (∀ w1, Sc w1 b q → Calls Tryd.prog 46 #[.pointer (some ⟨b, 0, none⟩), .int .u8 62] w1 fun e w' => e = .returned (.bool true) ∧ Sc w' b q.tail ∧ On b w1 w') := fun w1 h1 => by
        have := mark_at w1 b q 62 62 rfl h1
        rw [decide_eq_true h62, if_pos h62] at this
        exact this
      clear h60 hq hpth hX h62
      go_wp2_with (first
        | (go_at_call 46; with_reducible refine HM.out.mono ?_; rintro e w2 ⟨rfl, hS2, hO2⟩)
        | (go_at_call 47; refine (HF.out _ hS2).mono ?_; rintro e w3 ⟨rfl, rfl⟩)
        | (go_at_call 46; with_reducible refine (HM2.out _ hS2).mono ?_; rintro e w4 ⟨rfl, hS4, hO4⟩; have HO4 := toHid (hO2.trans hO4); have A2 := HAk.out _ HO4.out; have c0 := A2.c0; have c1 := A2.c1; have f0 := A2.fr 0; have f1 := A2.fr 1))
      obtain ⟨s1, s2⟩ := A2.put ⟨#[]⟩ ⟨#[]⟩
      have z0 := s1.c0
      have z1 := s1.c1
      try simp only [Exit.inBlock, Exit.then]
      obtain ⟨w10, hw10⟩ : ∃ w10, (w4.setCell ⟨D, 0, none⟩ (.string ⟨#[]⟩)).setCell ⟨D, 1, none⟩ (.string ⟨#[]⟩) = w10 := ⟨_, rfl⟩
      rw [hw10] at s2 z0 z1
      simp only [hw10]
      refine bodyPost_ret (v := .tuple #[adV ⟨#[]⟩ ⟨#[]⟩, .bool true]) ?_ rfl ?_
      · simp [results, Tryd.results30, go_sem, z0, z1]
      · exact ⟨_, .inl ⟨[], [], HP.out, rfl⟩, hS4.kept s2 (fun e => HbD.out e.symm), Chg.fresh2 (O0.out.trans HO4.out) s2 (by rw [HD.out]; exact Nat.le_refl _)⟩
    · have e62 : (X == 62) = false := by rw [← hX]; exact i_ne h62
      rw [if_neg h62] at hpth
      by_cases h64 : q.headD 0 = 64
      · have e64 : (X == 64) = true := by rw [← hX]; exact i_eq h64
        rw [if_pos h64] at hpth
        have HRr : Hid (∀ w1, Sc w1 b q → Vr N w1 → Calls Tryd.prog 48 #[.pointer (some ⟨b, 0, none⟩)] w1 fun e w' => ∃ r, RteT (rte q) e r ∧ Sc w' b r ∧ On b w1 w') := fun w1 h1 h2 => route_any N w1 b q h1 HB.out h2
        cases hr : rte q with
        | none =>
          rw [hr] at hpth HRr
          have HP := toHid hpth
          have HRr2 : Hid (∀ w1, Sc w1 b q → Vr N w1 → Calls Tryd.prog 48 #[.pointer (some ⟨b, 0, none⟩)] w1 fun e w' => ∃ r, e = .returned (.bool false) ∧ Sc w' b r ∧ On b w1 w') := fun w1 h1 h2 => (HRr.out w1 h1 h2).mono fun e w' ⟨r, hL, hS, hO⟩ => by
            rcases hL with ⟨e1, _⟩ | ⟨_, e2⟩
            · cases e1
            · exact ⟨r, e2, hS, hO⟩
          clear h60 hq hpth hX h62 h64 hr HRr
          go_wp2_with (first
            | (go_at_call 46; with_reducible refine HM.out.mono ?_; rintro e w2 ⟨rfl, hS2, hO2⟩)
            | (go_at_call 47; refine (HF.out _ hS2).mono ?_; rintro e w3 ⟨rfl, rfl⟩)
            | (go_at_call 48; refine (HRr2.out _ hS2 (V0.out.on HB.out hO2)).mono ?_; rintro e w4 ⟨r, rfl, hS4, hO4⟩; have HO4 := toHid (hO2.trans hO4); have A2 := HAk.out _ HO4.out; have c0 := A2.c0; have c1 := A2.c1; have f0 := A2.fr 0; have f1 := A2.fr 1))
          obtain ⟨s1, s2⟩ := A2.put ⟨#[]⟩ ⟨#[]⟩
          have z0 := s1.c0
          have z1 := s1.c1
          try simp only [Exit.inBlock, Exit.then]
          obtain ⟨w10, hw10⟩ : ∃ w10, (w4.setCell ⟨D, 0, none⟩ (.string ⟨#[]⟩)).setCell ⟨D, 1, none⟩ (.string ⟨#[]⟩) = w10 := ⟨_, rfl⟩
          rw [hw10] at s2 z0 z1
          simp only [hw10]
          refine bodyPost_ret (v := .tuple #[adV ⟨#[]⟩ ⟨#[]⟩, .bool false]) ?_ rfl ?_
          · simp [results, Tryd.results30, go_sem, z0, z1]
          · exact ⟨_, .inr ⟨HP.out, _, _, rfl⟩, hS4.kept s2 (fun e => HbD.out e.symm), Chg.fresh2 (O0.out.trans HO4.out) s2 (by rw [HD.out]; exact Nat.le_refl _)⟩
        | some r1 =>
          have hpx : pth l = clo (mbx r1) := by rw [hpth, hr]
          have HPx := toHid hpx
          rw [hr] at HRr
          have HRr2 : Hid (∀ w1, Sc w1 b q → Vr N w1 → Calls Tryd.prog 48 #[.pointer (some ⟨b, 0, none⟩)] w1 fun e w' => e = .returned (.bool true) ∧ Sc w' b r1 ∧ On b w1 w') := fun w1 h1 h2 => (HRr.out w1 h1 h2).mono fun e w' ⟨r, hL, hS, hO⟩ => by
            rcases hL with ⟨e1, e2⟩ | ⟨e1, _⟩
            · injection e1 with e1
              subst e1
              exact ⟨e2, hS, hO⟩
            · cases e1
          clear h60 hq hpth hpx hX h62 h64 hr HRr
          have HMb : Hid (∀ w1, Sc w1 b r1 → Vr N w1 → Calls Tryd.prog 49 #[.pointer (some ⟨b, 0, none⟩)] w1 fun e w' => ∃ r, MbxT (mbx r1) e r ∧ Sc w' b r ∧ On b w1 w') := fun w1 h1 h2 => mailbox_any N w1 b r1 h1 HB.out h2
          cases hm : mbx r1 with
          | none =>
            have HP2 : Hid (pth l = none) := by show _ = _; rw [HPx.out, hm]; rfl
            have HMb2 : Hid (∀ w1, Sc w1 b r1 → Vr N w1 → Calls Tryd.prog 49 #[.pointer (some ⟨b, 0, none⟩)] w1 fun e w' => ∃ r x9 y9, e = .returned (.tuple #[adV x9 y9, .bool false]) ∧ Sc w' b r ∧ On b w1 w') := fun w1 h1 h2 => (HMb.out w1 h1 h2).mono fun e w' ⟨r, hL, hS, hO⟩ => by
              rcases hL with ⟨a, d, e1, _⟩ | ⟨_, x9, y9, e2⟩
              · rw [hm] at e1; cases e1
              · exact ⟨r, x9, y9, e2, hS, hO⟩
            clear hm HMb
            go_upto_region 10 with (first
              | (go_at_call 46; with_reducible refine HM.out.mono ?_; rintro e w2 ⟨rfl, hS2, hO2⟩)
              | (go_at_call 47; refine (HF.out _ hS2).mono ?_; rintro e w3 ⟨rfl, rfl⟩)
              | (go_at_call 48; refine (HRr2.out _ hS2 (V0.out.on HB.out hO2)).mono ?_; rintro e w8 ⟨rfl, hS8, hO8⟩; have HO8 := toHid (hO2.trans hO8))
              | (go_at_call 49; refine (HMb2.out _ hS8 (V0.out.on HB.out HO8.out)).mono ?_; rintro e w4 ⟨r, x9, y9, rfl, hS4, hO4⟩; have HO4 := toHid (Chg.trans HO8.out hO4 (fun _ _ h => h))))
            have A5 := Ad.new w4 x9 y9
            have B5 := alloc_below w4 (.cells #[.string x9, .string y9] 24)
            have A2 := (HAk.out _ HO4.out).more B5
            have hS5 := hS4.more B5
            have HO5 : Hid (On b W (w4.alloc (.cells #[.string x9, .string y9] 24))) := On.more HO4.out B5
            obtain ⟨W5, hW5⟩ : ∃ W5, w4.alloc (.cells #[.string x9, .string y9] 24) = W5 := ⟨_, rfl⟩
            obtain ⟨D2, hD2⟩ : ∃ D2, w4.heap.size = D2 := ⟨_, rfl⟩
            rw [hW5] at A5 A2 hS5 HO5 ⊢
            rw [hD2] at A5 ⊢
            have c0 := A2.c0
            have c1 := A2.c1
            have f0 := A2.fr 0
            have f1 := A2.fr 1
            have d0 := A5.c0
            have d1 := A5.c1
            clear hW5 hD2 hS2 hO2 hS8 hO8 hS4 hO4 B5
            go_region
            go_wp2_with fail
            all_goals
              obtain ⟨s1, s2⟩ := A2.put x9 y9
              have s3 : Chg (fun k => k = D) W5 (((W5.setCell ⟨D, 0, none⟩ (.string x9)).setCell ⟨D, 1, none⟩ (.string y9)).drew) := Chg.trans s2 (Chg.drew (fun _ => False) _) (fun _ _ h => h.elim)
              have z0 : (((W5.setCell ⟨D, 0, none⟩ (.string x9)).setCell ⟨D, 1, none⟩ (.string y9)).drew).cell? ⟨D, 0, none⟩ = some (.string x9) := s1.c0
              have z1 : (((W5.setCell ⟨D, 0, none⟩ (.string x9)).setCell ⟨D, 1, none⟩ (.string y9)).drew).cell? ⟨D, 1, none⟩ = some (.string y9) := s1.c1
              try simp only [Exit.inBlock, Exit.then]
              obtain ⟨w10, hw10⟩ : ∃ w10, ((W5.setCell ⟨D, 0, none⟩ (.string x9)).setCell ⟨D, 1, none⟩ (.string y9)).drew = w10 := ⟨_, rfl⟩
              rw [hw10] at s3 z0 z1
              simp only [hw10]
              refine bodyPost_ret (v := .tuple #[adV (x9) (y9), .bool false]) ?_ rfl ?_
              · simp [results, Tryd.results30, go_sem, z0, z1]
              · exact ⟨_, .inr ⟨HP2.out, _, _, rfl⟩, hS5.kept s3 (fun e => HbD.out e.symm), Chg.fresh2 (O0.out.trans HO5.out) s3 (by rw [HD.out]; exact Nat.le_refl _)⟩
          | some v =>
            obtain ⟨a, d, r⟩ := v
            have HMb2 : Hid (∀ w1, Sc w1 b r1 → Vr N w1 → Calls Tryd.prog 49 #[.pointer (some ⟨b, 0, none⟩)] w1 fun e w' => e = .returned (.tuple #[adV (bl a) (bl d), .bool true]) ∧ Sc w' b r ∧ On b w1 w') := fun w1 h1 h2 => (HMb.out w1 h1 h2).mono fun e w' ⟨r2, hL, hS, hO⟩ => by
              rcases hL with ⟨a2, d2, e1, e2⟩ | ⟨e1, _⟩
              · rw [hm] at e1
                injection e1 with e1
                injection e1 with e3 e4
                injection e4 with e4 e5
                subst e3; subst e4; subst e5
                exact ⟨e2, hS, hO⟩
              · rw [hm] at e1; cases e1
            have HP2 : Hid (pth l = if r.headD 0 = 62 then some (a, d, r.tail) else none) := by show _ = _; rw [HPx.out, hm]; rfl
            obtain ⟨x9, hx9⟩ : ∃ t, bl a = t := ⟨_, rfl⟩
            obtain ⟨y9, hy9⟩ : ∃ t, bl d = t := ⟨_, rfl⟩
            have HX9 : Hid (bl a = x9) := hx9
            have HY9 : Hid (bl d = y9) := hy9
            rw [hx9, hy9] at HMb2
            clear hm HMb hx9 hy9
            go_upto_region 10 with (first
              | (go_at_call 46; with_reducible refine HM.out.mono ?_; rintro e w2 ⟨rfl, hS2, hO2⟩)
              | (go_at_call 47; refine (HF.out _ hS2).mono ?_; rintro e w3 ⟨rfl, rfl⟩)
              | (go_at_call 48; refine (HRr2.out _ hS2 (V0.out.on HB.out hO2)).mono ?_; rintro e w8 ⟨rfl, hS8, hO8⟩; have HO8 := toHid (hO2.trans hO8))
              | (go_at_call 49; refine (HMb2.out _ hS8 (V0.out.on HB.out HO8.out)).mono ?_; rintro e w4 ⟨rfl, hS4, hO4⟩; have HO4 := toHid (Chg.trans HO8.out hO4 (fun _ _ h => h))))
            have A5 := Ad.new w4 x9 y9
            have B5 := alloc_below w4 (.cells #[.string x9, .string y9] 24)
            have A2 := (HAk.out _ HO4.out).more B5
            have hS5 := hS4.more B5
            have hbD2 : ¬ w4.heap.size = b := by have := hS4.lt; omega
            have HO5 : Hid (On b W (w4.alloc (.cells #[.string x9, .string y9] 24))) := On.more HO4.out B5
            obtain ⟨W5, hW5⟩ : ∃ W5, w4.alloc (.cells #[.string x9, .string y9] 24) = W5 := ⟨_, rfl⟩
            obtain ⟨D2, hD2⟩ : ∃ D2, w4.heap.size = D2 := ⟨_, rfl⟩
            rw [hW5] at A5 A2 hS5 HO5 ⊢
            rw [hD2] at A5 hbD2 ⊢
            have HA2 : Hid (Ad W5.drew D ⟨#[]⟩ ⟨#[]⟩) := A2.kept (Chg.drew (fun _ => False) W5) (fun h => h)
            have HA5 : Hid (Ad W5.drew D2 x9 y9) := A5.kept (Chg.drew (fun _ => False) W5) (fun h => h)
            have Hb2 : Hid (¬ D2 = b) := hbD2
            have c0 := A2.c0
            have c1 := A2.c1
            have f0 := A2.fr 0
            have f1 := A2.fr 1
            have d0 := A5.c0
            have d1 := A5.c1
            have HSd : Hid (Sc W5.drew b r) := hS5.kept (Chg.drew (fun _ => False) W5) (fun h => h)
            have HM9 : Hid (∀ w1, Hid (Sc w1 b r) → Calls Tryd.prog 46 #[.pointer (some ⟨b, 0, none⟩), .int .u8 62] w1 fun e w' => e = .returned (.bool (decide (r.headD 0 = 62))) ∧ Sc w' b (if r.headD 0 = 62 then r.tail else r) ∧ On b w1 w') := fun w1 h1 => mark_at w1 b r 62 62 rfl h1.out
            have HO5d : Hid (On b W W5.drew) := Chg.trans HO5.out (Chg.drew (fun _ => False) W5) (fun _ _ h => h.elim)
            clear hW5 hD2 hS2 hO2 hS8 hO8 hS4 hO4 B5 A2 A5 hbD2 hS5
            by_cases h69 : r.headD 0 = 62
            · rw [decide_eq_true h69, if_pos h69] at HM9
              rw [if_pos h69] at HP2
              clear h69
              go_region_with (go_at_call 46; refine (HM9.out _ (by with_reducible assumption)).mono ?_; rintro e w6 ⟨rfl, hS6, hO6⟩; have B2 := HA2.out.kept hO6 HbD.out; have B5 := HA5.out.kept hO6 Hb2.out; have HO6 := toHid hO6; have HS6 := toHid hS6; clear hO6 hS6; have g0 := B2.c0; have g1 := B2.c1; have h0 := B2.fr 0; have h1 := B2.fr 1; have k0 := B5.c0; have k1 := B5.c1)
              go_wp2_with fail
              all_goals
                obtain ⟨s1, s2⟩ := B2.put x9 y9
                have z0 := s1.c0
                have z1 := s1.c1
                try simp only [Exit.inBlock, Exit.then]
                obtain ⟨w10, hw10⟩ : ∃ w10, (w6.setCell ⟨D, 0, none⟩ (.string x9)).setCell ⟨D, 1, none⟩ (.string y9) = w10 := ⟨_, rfl⟩
                rw [hw10] at s2 z0 z1
                simp only [hw10]
                refine bodyPost_ret (v := .tuple #[adV x9 y9, .bool true]) ?_ rfl ?_
                · simp [results, Tryd.results30, go_sem, z0, z1]
                · exact ⟨_, .inl ⟨a, d, HP2.out, by rw [HX9.out, HY9.out]⟩, HS6.out.kept s2 (fun e => HbD.out e.symm), Chg.fresh2 (Chg.trans O0.out (Chg.trans HO5d.out HO6.out (fun _ _ h => h)) (fun _ _ h => h)) s2 (by rw [HD.out]; exact Nat.le_refl _)⟩
            · rw [decide_eq_false h69, if_neg h69] at HM9
              rw [if_neg h69] at HP2
              clear h69
              go_region_with (go_at_call 46; refine (HM9.out _ (by with_reducible assumption)).mono ?_; rintro e w6 ⟨rfl, hS6, hO6⟩; have B2 := HA2.out.kept hO6 HbD.out; have B5 := HA5.out.kept hO6 Hb2.out; have HO6 := toHid hO6; have HS6 := toHid hS6; clear hO6 hS6; have g0 := B2.c0; have g1 := B2.c1; have h0 := B2.fr 0; have h1 := B2.fr 1; have k0 := B5.c0; have k1 := B5.c1)
              go_wp2_with fail
              all_goals
                obtain ⟨s1, s2⟩ := B2.put x9 y9
                have z0 := s1.c0
                have z1 := s1.c1
                try simp only [Exit.inBlock, Exit.then]
                obtain ⟨w10, hw10⟩ : ∃ w10, (w6.setCell ⟨D, 0, none⟩ (.string x9)).setCell ⟨D, 1, none⟩ (.string y9) = w10 := ⟨_, rfl⟩
                rw [hw10] at s2 z0 z1
                simp only [hw10]
                refine bodyPost_ret (v := .tuple #[adV x9 y9, .bool false]) ?_ rfl ?_
                · simp [results, Tryd.results30, go_sem, z0, z1]
                · exact ⟨_, .inr ⟨HP2.out, _, _, rfl⟩, HS6.out.kept s2 (fun e => HbD.out e.symm), Chg.fresh2 (Chg.trans O0.out (Chg.trans HO5d.out HO6.out (fun _ _ h => h)) (fun _ _ h => h)) s2 (by rw [HD.out]; exact Nat.le_refl _)⟩
      · have e64 : (X == 64) = false := by rw [← hX]; exact i_ne h64
        rw [if_neg h64] at hpth
        have HPx := toHid hpth
        clear h60 hq hpth hX h62 h64
        have HMb : Hid (∀ w1, Sc w1 b q → Vr N w1 → Calls Tryd.prog 49 #[.pointer (some ⟨b, 0, none⟩)] w1 fun e w' => ∃ r, MbxT (mbx q) e r ∧ Sc w' b r ∧ On b w1 w') := fun w1 h1 h2 => mailbox_any N w1 b q h1 HB.out h2
        cases hm : mbx q with
        | none =>
          have HP2 : Hid (pth l = none) := by show _ = _; rw [HPx.out, hm]; rfl
          have HMb2 : Hid (∀ w1, Sc w1 b q → Vr N w1 → Calls Tryd.prog 49 #[.pointer (some ⟨b, 0, none⟩)] w1 fun e w' => ∃ r x9 y9, e = .returned (.tuple #[adV x9 y9, .bool false]) ∧ Sc w' b r ∧ On b w1 w') := fun w1 h1 h2 => (HMb.out w1 h1 h2).mono fun e w' ⟨r, hL, hS, hO⟩ => by
            rcases hL with ⟨a, d, e1, _⟩ | ⟨_, x9, y9, e2⟩
            · rw [hm] at e1; cases e1
            · exact ⟨r, x9, y9, e2, hS, hO⟩
          clear hm HMb
          go_upto_region 10 with (first
            | (go_at_call 46; with_reducible refine HM.out.mono ?_; rintro e w2 ⟨rfl, hS2, hO2⟩)
            | (go_at_call 47; refine (HF.out _ hS2).mono ?_; rintro e w3 ⟨rfl, rfl⟩)
            | (go_at_call 49; refine (HMb2.out _ hS2 (V0.out.on HB.out hO2)).mono ?_; rintro e w4 ⟨r, x9, y9, rfl, hS4, hO4⟩; have HO4 := toHid (Chg.trans hO2 hO4 (fun _ _ h => h))))
          have A5 := Ad.new w4 x9 y9
          have B5 := alloc_below w4 (.cells #[.string x9, .string y9] 24)
          have A2 := (HAk.out _ HO4.out).more B5
          have hS5 := hS4.more B5
          have HO5 : Hid (On b W (w4.alloc (.cells #[.string x9, .string y9] 24))) := On.more HO4.out B5
          obtain ⟨W5, hW5⟩ : ∃ W5, w4.alloc (.cells #[.string x9, .string y9] 24) = W5 := ⟨_, rfl⟩
          obtain ⟨D2, hD2⟩ : ∃ D2, w4.heap.size = D2 := ⟨_, rfl⟩
          rw [hW5] at A5 A2 hS5 HO5 ⊢
          rw [hD2] at A5 ⊢
          have c0 := A2.c0
          have c1 := A2.c1
          have f0 := A2.fr 0
          have f1 := A2.fr 1
          have d0 := A5.c0
          have d1 := A5.c1
          clear hW5 hD2 hS2 hO2 hS4 hO4 B5
          go_region
          go_wp2_with fail
          all_goals
            obtain ⟨s1, s2⟩ := A2.put x9 y9
            have s3 : Chg (fun k => k = D) W5 (((W5.setCell ⟨D, 0, none⟩ (.string x9)).setCell ⟨D, 1, none⟩ (.string y9)).drew) := Chg.trans s2 (Chg.drew (fun _ => False) _) (fun _ _ h => h.elim)
            have z0 : (((W5.setCell ⟨D, 0, none⟩ (.string x9)).setCell ⟨D, 1, none⟩ (.string y9)).drew).cell? ⟨D, 0, none⟩ = some (.string x9) := s1.c0
            have z1 : (((W5.setCell ⟨D, 0, none⟩ (.string x9)).setCell ⟨D, 1, none⟩ (.string y9)).drew).cell? ⟨D, 1, none⟩ = some (.string y9) := s1.c1
            try simp only [Exit.inBlock, Exit.then]
            obtain ⟨w10, hw10⟩ : ∃ w10, ((W5.setCell ⟨D, 0, none⟩ (.string x9)).setCell ⟨D, 1, none⟩ (.string y9)).drew = w10 := ⟨_, rfl⟩
            rw [hw10] at s3 z0 z1
            simp only [hw10]
            refine bodyPost_ret (v := .tuple #[adV (x9) (y9), .bool false]) ?_ rfl ?_
            · simp [results, Tryd.results30, go_sem, z0, z1]
            · exact ⟨_, .inr ⟨HP2.out, _, _, rfl⟩, hS5.kept s3 (fun e => HbD.out e.symm), Chg.fresh2 (O0.out.trans HO5.out) s3 (by rw [HD.out]; exact Nat.le_refl _)⟩
        | some v =>
          obtain ⟨a, d, r⟩ := v
          have HMb2 : Hid (∀ w1, Sc w1 b q → Vr N w1 → Calls Tryd.prog 49 #[.pointer (some ⟨b, 0, none⟩)] w1 fun e w' => e = .returned (.tuple #[adV (bl a) (bl d), .bool true]) ∧ Sc w' b r ∧ On b w1 w') := fun w1 h1 h2 => (HMb.out w1 h1 h2).mono fun e w' ⟨r2, hL, hS, hO⟩ => by
            rcases hL with ⟨a2, d2, e1, e2⟩ | ⟨e1, _⟩
            · rw [hm] at e1
              injection e1 with e1
              injection e1 with e3 e4
              injection e4 with e4 e5
              subst e3; subst e4; subst e5
              exact ⟨e2, hS, hO⟩
            · rw [hm] at e1; cases e1
          have HP2 : Hid (pth l = if r.headD 0 = 62 then some (a, d, r.tail) else none) := by show _ = _; rw [HPx.out, hm]; rfl
          obtain ⟨x9, hx9⟩ : ∃ t, bl a = t := ⟨_, rfl⟩
          obtain ⟨y9, hy9⟩ : ∃ t, bl d = t := ⟨_, rfl⟩
          have HX9 : Hid (bl a = x9) := hx9
          have HY9 : Hid (bl d = y9) := hy9
          rw [hx9, hy9] at HMb2
          clear hm HMb hx9 hy9
          go_upto_region 10 with (first
            | (go_at_call 46; with_reducible refine HM.out.mono ?_; rintro e w2 ⟨rfl, hS2, hO2⟩)
            | (go_at_call 47; refine (HF.out _ hS2).mono ?_; rintro e w3 ⟨rfl, rfl⟩)
            | (go_at_call 49; refine (HMb2.out _ hS2 (V0.out.on HB.out hO2)).mono ?_; rintro e w4 ⟨rfl, hS4, hO4⟩; have HO4 := toHid (Chg.trans hO2 hO4 (fun _ _ h => h))))
          have A5 := Ad.new w4 x9 y9
          have B5 := alloc_below w4 (.cells #[.string x9, .string y9] 24)
          have A2 := (HAk.out _ HO4.out).more B5
          have hS5 := hS4.more B5
          have hbD2 : ¬ w4.heap.size = b := by have := hS4.lt; omega
          have HO5 : Hid (On b W (w4.alloc (.cells #[.string x9, .string y9] 24))) := On.more HO4.out B5
          obtain ⟨W5, hW5⟩ : ∃ W5, w4.alloc (.cells #[.string x9, .string y9] 24) = W5 := ⟨_, rfl⟩
          obtain ⟨D2, hD2⟩ : ∃ D2, w4.heap.size = D2 := ⟨_, rfl⟩
          rw [hW5] at A5 A2 hS5 HO5 ⊢
          rw [hD2] at A5 hbD2 ⊢
          have HA2 : Hid (Ad W5.drew D ⟨#[]⟩ ⟨#[]⟩) := A2.kept (Chg.drew (fun _ => False) W5) (fun h => h)
          have HA5 : Hid (Ad W5.drew D2 x9 y9) := A5.kept (Chg.drew (fun _ => False) W5) (fun h => h)
          have Hb2 : Hid (¬ D2 = b) := hbD2
          have c0 := A2.c0
          have c1 := A2.c1
          have f0 := A2.fr 0
          have f1 := A2.fr 1
          have d0 := A5.c0
          have d1 := A5.c1
          have HSd : Hid (Sc W5.drew b r) := hS5.kept (Chg.drew (fun _ => False) W5) (fun h => h)
          have HM9 : Hid (∀ w1, Hid (Sc w1 b r) → Calls Tryd.prog 46 #[.pointer (some ⟨b, 0, none⟩), .int .u8 62] w1 fun e w' => e = .returned (.bool (decide (r.headD 0 = 62))) ∧ Sc w' b (if r.headD 0 = 62 then r.tail else r) ∧ On b w1 w') := fun w1 h1 => mark_at w1 b r 62 62 rfl h1.out
          have HO5d : Hid (On b W W5.drew) := Chg.trans HO5.out (Chg.drew (fun _ => False) W5) (fun _ _ h => h.elim)
          clear hW5 hD2 hS2 hO2 hS4 hO4 B5 A2 A5 hbD2 hS5
          by_cases h69 : r.headD 0 = 62
          · rw [decide_eq_true h69, if_pos h69] at HM9
            rw [if_pos h69] at HP2
            clear h69
            go_region_with (go_at_call 46; refine (HM9.out _ (by with_reducible assumption)).mono ?_; rintro e w6 ⟨rfl, hS6, hO6⟩; have B2 := HA2.out.kept hO6 HbD.out; have B5 := HA5.out.kept hO6 Hb2.out; have HO6 := toHid hO6; have HS6 := toHid hS6; clear hO6 hS6; have g0 := B2.c0; have g1 := B2.c1; have h0 := B2.fr 0; have h1 := B2.fr 1; have k0 := B5.c0; have k1 := B5.c1)
            go_wp2_with fail
            all_goals
              obtain ⟨s1, s2⟩ := B2.put x9 y9
              have z0 := s1.c0
              have z1 := s1.c1
              try simp only [Exit.inBlock, Exit.then]
              obtain ⟨w10, hw10⟩ : ∃ w10, (w6.setCell ⟨D, 0, none⟩ (.string x9)).setCell ⟨D, 1, none⟩ (.string y9) = w10 := ⟨_, rfl⟩
              rw [hw10] at s2 z0 z1
              simp only [hw10]
              refine bodyPost_ret (v := .tuple #[adV x9 y9, .bool true]) ?_ rfl ?_
              · simp [results, Tryd.results30, go_sem, z0, z1]
              · exact ⟨_, .inl ⟨a, d, HP2.out, by rw [HX9.out, HY9.out]⟩, HS6.out.kept s2 (fun e => HbD.out e.symm), Chg.fresh2 (Chg.trans O0.out (Chg.trans HO5d.out HO6.out (fun _ _ h => h)) (fun _ _ h => h)) s2 (by rw [HD.out]; exact Nat.le_refl _)⟩
          · rw [decide_eq_false h69, if_neg h69] at HM9
            rw [if_neg h69] at HP2
            clear h69
            go_region_with (go_at_call 46; refine (HM9.out _ (by with_reducible assumption)).mono ?_; rintro e w6 ⟨rfl, hS6, hO6⟩; have B2 := HA2.out.kept hO6 HbD.out; have B5 := HA5.out.kept hO6 Hb2.out; have HO6 := toHid hO6; have HS6 := toHid hS6; clear hO6 hS6; have g0 := B2.c0; have g1 := B2.c1; have h0 := B2.fr 0; have h1 := B2.fr 1; have k0 := B5.c0; have k1 := B5.c1)
            go_wp2_with fail
            all_goals
              obtain ⟨s1, s2⟩ := B2.put x9 y9
              have z0 := s1.c0
              have z1 := s1.c1
              try simp only [Exit.inBlock, Exit.then]
              obtain ⟨w10, hw10⟩ : ∃ w10, (w6.setCell ⟨D, 0, none⟩ (.string x9)).setCell ⟨D, 1, none⟩ (.string y9) = w10 := ⟨_, rfl⟩
              rw [hw10] at s2 z0 z1
              simp only [hw10]
              refine bodyPost_ret (v := .tuple #[adV x9 y9, .bool false]) ?_ rfl ?_
              · simp [results, Tryd.results30, go_sem, z0, z1]
              · exact ⟨_, .inr ⟨HP2.out, _, _, rfl⟩, HS6.out.kept s2 (fun e => HbD.out e.symm), Chg.fresh2 (Chg.trans O0.out (Chg.trans HO5d.out HO6.out (fun _ _ h => h)) (fun _ _ h => h)) s2 (by rw [HD.out]; exact Nat.le_refl _)⟩
  · rw [decide_eq_false h60, if_neg h60] at HM
    have HP : Hid (pth l = none) := by show _ = _; unfold pth; rw [if_neg h60]
    clear h60
    go_wp2_with (go_at_call 46; with_reducible refine HM.out.mono ?_; rintro e w2 ⟨rfl, hS2, hO2⟩; have HO4 := toHid hO2; have A2 := HAk.out _ HO4.out; have c0 := A2.c0; have c1 := A2.c1; have f0 := A2.fr 0; have f1 := A2.fr 1)
    obtain ⟨s1, s2⟩ := A2.put ⟨#[]⟩ ⟨#[]⟩
    have z0 := s1.c0
    have z1 := s1.c1
    try simp only [Exit.inBlock, Exit.then]
    obtain ⟨w10, hw10⟩ : ∃ w10, (w2.setCell ⟨D, 0, none⟩ (.string ⟨#[]⟩)).setCell ⟨D, 1, none⟩ (.string ⟨#[]⟩) = w10 := ⟨_, rfl⟩
    rw [hw10] at s2 z0 z1
    simp only [hw10]
    refine bodyPost_ret (v := .tuple #[adV ⟨#[]⟩ ⟨#[]⟩, .bool false]) ?_ rfl ?_
    · simp [results, Tryd.results30, go_sem, z0, z1]
    · exact ⟨_, .inr ⟨HP.out, _, _, rfl⟩, hS2.kept s2 (fun e => HbD.out e.symm), Chg.fresh2 (O0.out.trans HO4.out) s2 (by rw [HD.out]; exact Nat.le_refl _)⟩
end Go.Proofs.YtefofoocglhdmaaDoor

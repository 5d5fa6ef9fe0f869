/-
  The scanner's mailbox, path.
-/
import Derived.Test.YtefofoocglhdmaaDoorMLoc
namespace Go.Proofs.YtefofoocglhdmaaDoor
open Go.RowKit

/-- How mailbox and path end. -/
def MbxT (o : Option (List UInt8 × List UInt8 × List UInt8)) (e : Ending) (r : List UInt8) : Prop :=
  (∃ a d, o = some (a, d, r) ∧ e = .returned (.tuple #[adV (bl a) (bl d), .bool true])) ∨ (o = none ∧ ∃ X Y, e = .returned (.tuple #[adV X Y, .bool false]))
theorem Chg.fresh2 {b D : Nat} {w w1 w2 : World} (h : On b w w1) (k : Chg (fun k => k = D) w1 w2) (hD : w.heap.size ≤ D) : On b w w2 := Chg.trans h k fun i hi e => by omega

set_option maxHeartbeats 3200000 in
theorem mailbox_any (N : Nat) (w : World) (b : Nat) (l : List UInt8) (h : Sc w b l) (hb : N ≤ b) (hV : Vr N w) :
    Calls Tryd.prog 49 #[.pointer (some ⟨b, 0, none⟩)] w fun e w' => ∃ r, MbxT (mbx l) e r ∧ Sc w' b r ∧ On b w w' := by
  have HB : Hid (N ≤ b) := hb
  have hbl := h.lt
  have A0 := Ad.new w ⟨#[]⟩ ⟨#[]⟩
  have B0 := alloc_below w (.cells #[.string ⟨#[]⟩, .string ⟨#[]⟩] 24)
  have S0 : Hid (Sc (w.alloc (.cells #[.string ⟨#[]⟩, .string ⟨#[]⟩] 24)) b l) := h.more B0
  have O0 : Hid (On b w (w.alloc (.cells #[.string ⟨#[]⟩, .string ⟨#[]⟩] 24))) := On.more (Chg.refl _ _) B0
  have V0 : Hid (Vr N (w.alloc (.cells #[.string ⟨#[]⟩, .string ⟨#[]⟩] 24))) := hV.new B0
  obtain ⟨D, hD⟩ : ∃ D, w.heap.size = D := ⟨_, rfl⟩
  have HD : Hid (w.heap.size = D) := hD
  have HbD : Hid (¬ D = b) := by show ¬ D = b; omega
  rw [hD] at A0
  have HA : Hid (Ad (w.alloc (.cells #[.string ⟨#[]⟩, .string ⟨#[]⟩] 24)) D ⟨#[]⟩ ⟨#[]⟩) := A0
  have hlen := h.len
  clear h hb hV hbl A0 B0
  go_enter Tryd.func49, Tryd.ntmps49
  go_upto_region 1 with fail
  obtain ⟨W, hW⟩ : ∃ W, w.alloc (.cells #[.string ⟨#[]⟩, .string ⟨#[]⟩] 24) = W := ⟨_, rfl⟩
  rw [hW] at S0 O0 V0 HA ⊢
  have HC : Hid (Calls Tryd.prog 64 #[.pointer (some ⟨b, 0, none⟩)] W fun e w' => ∃ r, LocT (loc l) e r ∧ Sc w' b r ∧ On b W w') := loc_any W b l S0.out
  have hsv : ∀ w1, On b W w1 → Ad w1 D ⟨#[]⟩ ⟨#[]⟩ := fun w1 h1 => HA.out.kept h1 HbD.out
  have HAk := toHid hsv
  clear hW hD hsv
  cases hl : loc l with
  | none =>
    have HM : Hid (mbx l = none) := by show _ = _; unfold mbx; rw [hl]
    have HC2 : Hid (Calls Tryd.prog 64 #[.pointer (some ⟨b, 0, none⟩)] W fun e w' => ∃ r X, e = .returned (.tuple #[.string X, .bool false]) ∧ Sc w' b r ∧ On b W w') := HC.out.mono fun e w' ⟨r, hL, hS, hO⟩ => by
      rcases hL with ⟨a, e1, _⟩ | ⟨_, X, e2⟩
      · rw [hl] at e1; cases e1
      · exact ⟨r, X, e2, hS, hO⟩
    clear hl HC
    go_wp2_with (go_at_call 64; refine HC2.out.mono ?_; rintro e w2 ⟨r, X, rfl, hS2, hO2⟩; have A2 := HAk.out _ hO2; have c0 := A2.c0; have c1 := A2.c1; have f0 := A2.fr 0; have f1 := A2.fr 1)
    obtain ⟨s1, s2⟩ := A2.put ⟨#[]⟩ ⟨#[]⟩
    have z0 := s1.c0
    have z1 := s1.c1
    try simp only [Exit.inBlock, Exit.then]
    obtain ⟨w10, hw10⟩ : ∃ w10, (w2.setCell ⟨D, 0, none⟩ (.string ⟨#[]⟩)).setCell ⟨D, 1, none⟩ (.string ⟨#[]⟩) = w10 := ⟨_, rfl⟩
    rw [hw10] at s2 z0 z1
    simp only [hw10]
    refine bodyPost_ret (v := .tuple #[adV ⟨#[]⟩ ⟨#[]⟩, .bool false]) ?_ rfl ?_
    · simp [results, Tryd.results49, go_sem, z0, z1]
    · exact ⟨_, .inr ⟨HM.out, _, _, rfl⟩, hS2.kept s2 (fun e => HbD.out e.symm), Chg.fresh2 (O0.out.trans hO2) s2 (by rw [HD.out]; exact Nat.le_refl _)⟩
  | some x =>
    obtain ⟨a, r⟩ := x
    have HC2 : Hid (Calls Tryd.prog 64 #[.pointer (some ⟨b, 0, none⟩)] W fun e w' => e = .returned (.tuple #[.string (bl a), .bool true]) ∧ Sc w' b r ∧ On b W w') := HC.out.mono fun e w' ⟨r2, hL, hS, hO⟩ => by
      rcases hL with ⟨a2, e1, e2⟩ | ⟨e1, _⟩
      · rw [hl] at e1
        injection e1 with e1
        injection e1 with e3 e4
        subst e3; subst e4
        exact ⟨e2, hS, hO⟩
      · rw [hl] at e1; cases e1
    have HM : Hid (mbx l = if r.headD 0 = 64 then (if domS (r.tail.takeWhile inDom) = true then some (a, r.tail.takeWhile inDom, r.tail.dropWhile inDom) else none) else none) := by show _ = _; unfold mbx; rw [hl]
    obtain ⟨u, hu⟩ : ∃ u, bl a = u := ⟨_, rfl⟩
    have HU : Hid (bl a = u) := hu
    rw [hu] at HC2
    have HMk : Hid (∀ w1, Sc w1 b r → Calls Tryd.prog 46 #[.pointer (some ⟨b, 0, none⟩), .int .u8 64] w1 fun e w' => e = .returned (.bool (decide (r.headD 0 = 64))) ∧ Sc w' b (if r.headD 0 = 64 then r.tail else r) ∧ On b w1 w') := fun w1 h1 => mark_at w1 b r 64 64 rfl h1
    clear hl HC hu
    by_cases h64 : r.headD 0 = 64
    · rw [decide_eq_true h64, if_pos h64] at HMk
      rw [if_pos h64] at HM
      obtain ⟨dm, hdm⟩ : ∃ d, r.tail.takeWhile inDom = d := ⟨_, rfl⟩
      obtain ⟨rs, hrs⟩ : ∃ d, r.tail.dropWhile inDom = d := ⟨_, rfl⟩
      obtain ⟨t, ht⟩ : ∃ t, bl dm = t := ⟨_, rfl⟩
      have HT : Hid (bl dm = t) := ht
      have HDM : Hid (r.tail.takeWhile inDom = dm) := hdm
      have HRn : Hid (∀ w1, Sc w1 b r.tail → Calls Tryd.prog 62 #[.pointer (some ⟨b, 0, none⟩), .func (.func 63) #[] #[]] w1 fun e w' => e = .returned (.string t) ∧ Sc w' b rs ∧ On b w1 w') := fun w1 h1 => by
        have := runD_any w1 b _ h1
        rw [hdm, hrs, ht] at this
        exact this
      have HDo : Hid (∀ w1, dm.length ≤ 1099511627776 → Vr N w1 → Calls Tryd.prog 37 #[.string t] w1 fun e w' => e = .returned (.bool (domS dm)) ∧ Below w1.heap.size w1 w') := fun w1 hdl h1 => domT_any N dm t ht hdl w1 h1
      rw [hdm, hrs] at HM
      cases hd : domS dm with
      | false =>
        rw [hd, if_neg (by simp)] at HM
        rw [hd] at HDo
        clear h64 hdm hrs ht hd
        go_wp2_with (first
          | (go_at_call 64; refine HC2.out.mono ?_; rintro e w2 ⟨rfl, hS2, hO2⟩)
          | (go_at_call 46; refine (HMk.out _ hS2).mono ?_; rintro e w3 ⟨rfl, hS3, hO3⟩; have HDL : Hid (dm.length ≤ 1099511627776) := (by show _ ≤ _; rw [← HDM.out]; exact Nat.le_trans (tw_le _ _) hS3.len))
          | (go_at_call 62; refine (HRn.out _ hS3).mono ?_; rintro e w4 ⟨rfl, hS4, hO4⟩; have HO4 := toHid ((hO2.trans hO3).trans hO4); have HV4 := toHid (V0.out.on HB.out HO4.out))
          | (go_at_call 37; refine (HDo.out _ HDL.out HV4.out).mono ?_; rintro e w5 ⟨rfl, hB5⟩; have A2 := (HAk.out _ HO4.out).more hB5; have c0 := A2.c0; have c1 := A2.c1; have f0 := A2.fr 0; have f1 := A2.fr 1))
        obtain ⟨s1, s2⟩ := A2.put u t
        have z0 := s1.c0
        have z1 := s1.c1
        try simp only [Exit.inBlock, Exit.then]
        obtain ⟨w10, hw10⟩ : ∃ w10, (w5.setCell ⟨D, 0, none⟩ (.string u)).setCell ⟨D, 1, none⟩ (.string t) = w10 := ⟨_, rfl⟩
        rw [hw10] at s2 z0 z1
        simp only [hw10]
        refine bodyPost_ret (v := .tuple #[adV u t, .bool false]) ?_ rfl ?_
        · simp [results, Tryd.results49, go_sem, z0, z1]
        · exact ⟨_, .inr ⟨HM.out, _, _, rfl⟩, (hS4.more hB5).kept s2 (fun e => HbD.out e.symm), Chg.fresh2 ((O0.out.trans HO4.out).more hB5) s2 (by rw [HD.out]; exact Nat.le_refl _)⟩
      | true =>
        rw [hd, if_pos rfl] at HM
        rw [hd] at HDo
        clear h64 hdm hrs ht hd
        go_wp2_with (first
          | (go_at_call 64; refine HC2.out.mono ?_; rintro e w2 ⟨rfl, hS2, hO2⟩)
          | (go_at_call 46; refine (HMk.out _ hS2).mono ?_; rintro e w3 ⟨rfl, hS3, hO3⟩; have HDL : Hid (dm.length ≤ 1099511627776) := (by show _ ≤ _; rw [← HDM.out]; exact Nat.le_trans (tw_le _ _) hS3.len))
          | (go_at_call 62; refine (HRn.out _ hS3).mono ?_; rintro e w4 ⟨rfl, hS4, hO4⟩; have HO4 := toHid ((hO2.trans hO3).trans hO4); have HV4 := toHid (V0.out.on HB.out HO4.out))
          | (go_at_call 37; refine (HDo.out _ HDL.out HV4.out).mono ?_; rintro e w5 ⟨rfl, hB5⟩; have A2 := (HAk.out _ HO4.out).more hB5; have c0 := A2.c0; have c1 := A2.c1; have f0 := A2.fr 0; have f1 := A2.fr 1))
        obtain ⟨s1, s2⟩ := A2.put u t
        have z0 := s1.c0
        have z1 := s1.c1
        try simp only [Exit.inBlock, Exit.then]
        obtain ⟨w10, hw10⟩ : ∃ w10, (w5.setCell ⟨D, 0, none⟩ (.string u)).setCell ⟨D, 1, none⟩ (.string t) = w10 := ⟨_, rfl⟩
        rw [hw10] at s2 z0 z1
        simp only [hw10]
        refine bodyPost_ret (v := .tuple #[adV u t, .bool true]) ?_ rfl ?_
        · simp [results, Tryd.results49, go_sem, z0, z1]
        · exact ⟨_, .inl ⟨a, dm, HM.out, by rw [HU.out, HT.out]⟩, (hS4.more hB5).kept s2 (fun e => HbD.out e.symm), Chg.fresh2 ((O0.out.trans HO4.out).more hB5) s2 (by rw [HD.out]; exact Nat.le_refl _)⟩
    · rw [decide_eq_false h64, if_neg h64] at HMk
      rw [if_neg h64] at HM
      clear h64
      go_wp2_with (first
        | (go_at_call 64; refine HC2.out.mono ?_; rintro e w2 ⟨rfl, hS2, hO2⟩)
        | (go_at_call 46; refine (HMk.out _ hS2).mono ?_; rintro e w3 ⟨rfl, hS3, hO3⟩; have HO3 := toHid (hO2.trans hO3); have A2 := HAk.out _ HO3.out; have c0 := A2.c0; have c1 := A2.c1; have f0 := A2.fr 0; have f1 := A2.fr 1))
      obtain ⟨s1, s2⟩ := A2.put ⟨#[]⟩ ⟨#[]⟩
      have z0 := s1.c0
      have z1 := s1.c1
      try simp only [Exit.inBlock, Exit.then]
      obtain ⟨w10, hw10⟩ : ∃ w10, (w3.setCell ⟨D, 0, none⟩ (.string ⟨#[]⟩)).setCell ⟨D, 1, none⟩ (.string ⟨#[]⟩) = w10 := ⟨_, rfl⟩
      rw [hw10] at s2 z0 z1
      simp only [hw10]
      refine bodyPost_ret (v := .tuple #[adV ⟨#[]⟩ ⟨#[]⟩, .bool false]) ?_ rfl ?_
      · simp [results, Tryd.results49, go_sem, z0, z1]
      · exact ⟨_, .inr ⟨HM.out, _, _, rfl⟩, hS3.kept s2 (fun e => HbD.out e.symm), Chg.fresh2 (O0.out.trans HO3.out) s2 (by rw [HD.out]; exact Nat.le_refl _)⟩
end Go.Proofs.YtefofoocglhdmaaDoor

/-
  Path, Parse.
-/
import Derived.Test.YtefofoocglhdmaaDoorMPth2
import Derived.Deep.DeepCutAuto
namespace Go.Proofs.YtefofoocglhdmaaDoor
open Go.RowKit

theorem clone_any (s : ByteArray) (w : World) (hs : s.size ≤ 281474976710656) :
    Calls Tryd.prog 31 #[.string s] w fun e w' => e = .returned (.string s) ∧ Below w.heap.size w w' := by
  have H : Hid (Calls Tryd.prog 50 #[.string s] w fun e w' => e = .returned (.string s) ∧ Below w.heap.size w w') := Tryd.stringslite_Clone s w hs
  clear hs
  go_enter Tryd.func31, Tryd.ntmps31
  go_wp2_with (go_at_call 50; refine H.out.mono ?_; rintro e w1 ⟨rfl, hB⟩)
  go_ret
  exact ⟨rfl, hB⟩
theorem loc_len {l a r : List UInt8} (h : loc l = some (a, r)) : a.length ≤ l.length ∧ r.length ≤ l.length := by
  unfold loc at h
  by_cases h34 : l.headD 0 = 34
  · rw [if_pos h34] at h
    have hq : ∀ (n : Nat) (x a r : List UInt8), x.length ≤ n → quo x = some (a, r) → a.length ≤ x.length ∧ r.length ≤ x.length := by
      intro n
      induction n with
      | zero =>
        intro x a r hx h
        have : x = [] := List.eq_nil_of_length_eq_zero (by omega)
        subst this
        cases h
      | succ n ih =>
        intro x a r hx h
        cases x with
        | nil => cases h
        | cons c y =>
          rw [quo.eq_def] at h
          by_cases h1 : c = 34
          · simp [h1] at h
            obtain ⟨rfl, rfl⟩ := h
            simp
          · by_cases h2 : c = 92
            · simp [h2] at h
              cases y with
              | nil => simp at h
              | cons d z =>
                by_cases hp : prt d = true
                · simp [hp] at h
                  obtain ⟨p, h3, rfl⟩ := h
                  have := ih z p _ (by simp at hx; omega) h3
                  simp at this ⊢; omega
                · simp [hp] at h
            · by_cases hp : prt c = true
              · simp [h1, h2, hp] at h
                obtain ⟨p, h3, rfl⟩ := h
                have := ih y p _ (by simp at hx; omega) h3
                simp at this ⊢; omega
              · simp [h1, h2, hp] at h
    cases hh : quo l.tail with
    | none => rw [hh] at h; cases h
    | some v =>
      obtain ⟨a2, r2⟩ := v
      rw [hh] at h
      have h3 := hq _ l.tail a2 r2 (Nat.le_refl _) hh
      have h4 : l.tail.length ≤ l.length := by simp
      by_cases ha : a2 = []
      · simp [ha] at h
      · simp [ha] at h
        obtain ⟨rfl, rfl⟩ := h
        omega
  · rw [if_neg h34] at h
    by_cases h0 : 0 < dotN inWrd okWrd l
    · rw [if_pos h0] at h
      injection h with h
      injection h with h1 h2
      subst h1; subst h2
      exact ⟨tw_le _ _, dw_le _ _⟩
    · rw [if_neg h0] at h; cases h
theorem mbx_len {l a d r : List UInt8} (h : mbx l = some (a, d, r)) : a.length ≤ l.length ∧ d.length ≤ l.length ∧ r.length ≤ l.length := by
  unfold mbx at h
  cases hl : loc l with
  | none => rw [hl] at h; cases h
  | some v =>
    obtain ⟨a2, r2⟩ := v
    rw [hl] at h
    have h1 := loc_len hl
    simp only at h
    have h2 : r2.tail.length ≤ r2.length := by simp
    have h3 := tw_le inDom r2.tail
    have h4 := dw_le inDom r2.tail
    by_cases h64 : r2.headD 0 = 64
    · rw [if_pos h64] at h
      by_cases hd : domS (r2.tail.takeWhile inDom) = true
      · rw [if_pos hd] at h
        injection h with h
        injection h with h5 h6
        injection h6 with h6 h7
        subst h5; subst h6; subst h7
        omega
      · rw [if_neg hd] at h; cases h
    · rw [if_neg h64] at h; cases h
theorem rte_len {l r : List UInt8} (h : rte l = some r) : r.length ≤ l.length := by
  have H : ∀ (n : Nat) (l r : List UInt8), rteF n l = some r → r.length ≤ l.length := by
    intro n
    induction n with
    | zero => intro l r h; cases h
    | succ n ih =>
      intro l r h
      rw [rteF] at h
      have h2 : l.tail.length ≤ l.length := by simp
      have h4 := dw_le inDom l.tail
      have h5 : (l.tail.dropWhile inDom).tail.length ≤ (l.tail.dropWhile inDom).length := by simp
      split at h
      · split at h
        · split at h
          · have := ih _ _ h; omega
          · split at h
            · injection h with h; subst h; omega
            · cases h
        · cases h
      · cases h
  exact H _ _ _ h
theorem clo_len {o : Option (List UInt8 × List UInt8 × List UInt8)} {a d r : List UInt8} (h : clo o = some (a, d, r)) : ∃ r', o = some (a, d, r') ∧ r.length ≤ r'.length := by
  unfold clo at h
  cases o with
  | none => cases h
  | some v =>
    obtain ⟨a2, d2, r2⟩ := v
    simp only at h
    split at h
    · injection h with h
      injection h with h5 h6
      injection h6 with h6 h7
      subst h5; subst h6; subst h7
      exact ⟨_, rfl, by simp⟩
    · cases h
theorem pth_len {l a d r : List UInt8} (h : pth l = some (a, d, r)) : a.length ≤ l.length ∧ d.length ≤ l.length ∧ r.length ≤ l.length := by
  unfold pth at h
  have ht : l.tail.length ≤ l.length := by simp
  split at h
  · split at h
    · injection h with h
      injection h with h5 h6
      injection h6 with h6 h7
      subst h5; subst h6; subst h7
      simp; omega
    · split at h
      · cases hr : rte l.tail with
        | none => rw [hr] at h; cases h
        | some r1 =>
          rw [hr] at h
          obtain ⟨r', h1, h2⟩ := clo_len h
          have h3 := mbx_len h1
          have h4 := rte_len hr
          omega
      · obtain ⟨r', h1, h2⟩ := clo_len h
        have h3 := mbx_len h1
        omega
  · cases h

set_option maxHeartbeats 6400000 in
theorem Path_any (N : Nat) (s : ByteArray) (w : World) (hs : s.size ≤ 1099511627776) (hV : Vr N w) :
    Calls Tryd.prog 10 #[.string s] w fun e w' => e = .returned (.tuple #[adV (bl (pathR s.data.toList).1) (bl (pathR s.data.toList).2.1), .string (bl (pathR s.data.toList).2.2.1), .int .i64 (pathR s.data.toList).2.2.2]) ∧ Below w.heap.size w w' := by
  obtain ⟨l, hl⟩ : ∃ l, s.data.toList = l := ⟨_, rfl⟩
  have hsl : s = bl l := by rw [← hl]
  rw [hl]
  have hlen : l.length ≤ 1099511627776 := by rw [hsl, bl_size] at hs; exact hs
  obtain ⟨D, hD⟩ : ∃ D, w.heap.size = D := ⟨_, rfl⟩
  have HD : Hid (w.heap.size = D) := hD
  have A0 := Ad.new w ⟨#[]⟩ ⟨#[]⟩
  have B0 := alloc_below w (.cells #[.string ⟨#[]⟩, .string ⟨#[]⟩] 24)
  have hs1 : (w.alloc (.cells #[.string ⟨#[]⟩, .string ⟨#[]⟩] 24)).heap.size = D + 1 := by rw [← hD]; simp
  have S1 := sc_new (w.alloc (.cells #[.string ⟨#[]⟩, .string ⟨#[]⟩] 24)) l hlen
  have B1 := alloc_below (w.alloc (.cells #[.string ⟨#[]⟩, .string ⟨#[]⟩] 24)) (.cells #[.string (bl l)] 51)
  have A1 := A0.more B1
  have B2 := B0.trans (B1.mono B0.size)
  rw [hs1, ← hsl] at S1
  rw [← hsl] at A1 B2
  rw [hD] at A1
  have V1 := hV.new B2
  have hbN : N ≤ D + 1 := by have := hV.1; omega
  have HbN : Hid (N ≤ D + 1) := hbN
  clear A0 B0 B1 hs1 hV hs hsl hl
  go_enter Tryd.func10, Tryd.ntmps10
  go_upto_region 2 with fail
  obtain ⟨W, hW⟩ : ∃ W, (w.alloc (.cells #[.string ⟨#[]⟩, .string ⟨#[]⟩] 24)).alloc (.cells #[.string s] 51) = W := ⟨_, rfl⟩
  rw [hW] at S1 A1 B2 V1
  simp only [hW]
  obtain ⟨b, hb⟩ : ∃ b, D + 1 = b := ⟨_, rfl⟩
  rw [hb] at S1 hbN
  rw [hb]
  have HbD : Hid (¬ D = b) := by show ¬ D = b; omega
  have HDb : Hid (D < b) := by show D < b; omega
  have HS1 : Hid (Sc W b l) := S1
  have HB2 : Hid (Below w.heap.size w W) := B2
  have HV1 : Hid (Vr N W) := V1
  have HNb : Hid (N ≤ b) := hbN
  have HAk : Hid (∀ w1, On b W w1 → Ad w1 D ⟨#[]⟩ ⟨#[]⟩) := fun w1 h1 => A1.kept h1 HbD.out
  have HBk : Hid (∀ w1, On b W w1 → Below w.heap.size w w1) := fun w1 h1 => B2.trans (Chg.below h1 B2.size fun k hk => by rw [hk, HD.out]; exact Nat.le_of_lt HDb.out)
  have HC : Hid (Calls Tryd.prog 30 #[.pointer (some ⟨b, 0, none⟩)] W fun e w' => ∃ r, MbxT (pth l) e r ∧ Sc w' b r ∧ On b W w') := path_any N W b l S1 hbN V1
  clear hW hD hb A1 S1 B2 V1 hbN HbN
  cases hp : pth l with
  | none =>
    have HP : Hid (pathR l = ([], [], [], 3)) := by show _ = _; unfold pathR; rw [hp]
    have HC2 : Hid (Calls Tryd.prog 30 #[.pointer (some ⟨b, 0, none⟩)] W fun e w' => ∃ r x9 y9, e = .returned (.tuple #[adV x9 y9, .bool false]) ∧ Sc w' b r ∧ On b W w') := HC.out.mono fun e w' ⟨r, hL, hS, hO⟩ => by
      rcases hL with ⟨a, d, e1, _⟩ | ⟨_, x9, y9, e2⟩
      · rw [hp] at e1; cases e1
      · exact ⟨r, x9, y9, e2, hS, hO⟩
    clear hp HC hlen
    go_wp2_with (go_at_call 30; refine HC2.out.mono ?_; rintro e w2 ⟨r, x9, y9, rfl, hS2, hO2⟩; have B5 := alloc_below w2 (.cells #[.string x9, .string y9] 24); have A2 := (HAk.out _ hO2).more B5; have HB5 := toHid ((HBk.out _ hO2).trans (B5.mono (HBk.out _ hO2).size)); have c0 := A2.c0; have c1 := A2.c1; have f0 := A2.fr 0; have f1 := A2.fr 1; clear B5)
    obtain ⟨s1, s2⟩ := A2.put ⟨#[]⟩ ⟨#[]⟩
    have s3 : Chg (fun k => k = D) (w2.alloc (.cells #[.string x9, .string y9] 24)) (((w2.alloc (.cells #[.string x9, .string y9] 24)).setCell ⟨D, 0, none⟩ (.string ⟨#[]⟩)).setCell ⟨D, 1, none⟩ (.string ⟨#[]⟩)) := s2
    have z0 : (((w2.alloc (.cells #[.string x9, .string y9] 24)).setCell ⟨D, 0, none⟩ (.string ⟨#[]⟩)).setCell ⟨D, 1, none⟩ (.string ⟨#[]⟩)).cell? ⟨D, 0, none⟩ = some (.string ⟨#[]⟩) := s1.c0
    have z1 : (((w2.alloc (.cells #[.string x9, .string y9] 24)).setCell ⟨D, 0, none⟩ (.string ⟨#[]⟩)).setCell ⟨D, 1, none⟩ (.string ⟨#[]⟩)).cell? ⟨D, 1, none⟩ = some (.string ⟨#[]⟩) := s1.c1
    try simp only [Exit.inBlock, Exit.then]
    obtain ⟨w10, hw10⟩ : ∃ w10, ((w2.alloc (.cells #[.string x9, .string y9] 24)).setCell ⟨D, 0, none⟩ (.string ⟨#[]⟩)).setCell ⟨D, 1, none⟩ (.string ⟨#[]⟩) = w10 := ⟨_, rfl⟩
    rw [hw10] at s3 z0 z1
    simp only [hw10]
    refine bodyPost_ret (v := .tuple #[adV (⟨#[]⟩) (⟨#[]⟩), .string (⟨#[]⟩), .int .i64 3]) ?_ rfl ?_
    · simp [results, Tryd.results10, go_sem, z0, z1]
    · exact ⟨by rw [HP.out], HB5.out.trans (s3.below HB5.out.size fun k hk => by rw [hk, HD.out]; exact Nat.le_refl _)⟩
  | some v =>
    obtain ⟨a, d, r⟩ := v
    have hle := pth_len hp
    have HC2 : Hid (Calls Tryd.prog 30 #[.pointer (some ⟨b, 0, none⟩)] W fun e w' => e = .returned (.tuple #[adV (bl a) (bl d), .bool true]) ∧ Sc w' b r ∧ On b W w') := HC.out.mono fun e w' ⟨r2, hL, hS, hO⟩ => by
      rcases hL with ⟨a2, d2, e1, e2⟩ | ⟨e1, _⟩
      · rw [hp] at e1
        injection e1 with e1
        injection e1 with e3 e4
        injection e4 with e4 e5
        subst e3; subst e4; subst e5
        exact ⟨e2, hS, hO⟩
      · rw [hp] at e1; cases e1
    have hRg : ∀ w1, Vr N w1 → Calls Tryd.prog 23 #[adV (bl a) (bl d)] w1 fun e w' => e = .returned (.bool (rgt a d)) ∧ Below w1.heap.size w1 w' := fun w1 h1 => right_any N (bl a) (bl d) w1 (by rw [bl_size]; omega) (by rw [bl_size]; omega) h1
    have HRg := toHid hRg
    have HP : Hid (pathR l = if rgt a d = true then (a, d, r, 0) else ([], [], [], 5)) := by show _ = _; unfold pathR; rw [hp]
    obtain ⟨x9, hx9⟩ : ∃ t, bl a = t := ⟨_, rfl⟩
    obtain ⟨y9, hy9⟩ : ∃ t, bl d = t := ⟨_, rfl⟩
    obtain ⟨r9, hr9⟩ : ∃ t, bl r = t := ⟨_, rfl⟩
    have HX9 : Hid (bl a = x9) := hx9
    have HY9 : Hid (bl d = y9) := hy9
    have HR9 : Hid (bl r = r9) := hr9
    have HCx : Hid (∀ w1, Calls Tryd.prog 31 #[.string x9] w1 fun e w' => e = .returned (.string x9) ∧ Below w1.heap.size w1 w') := fun w1 => clone_any x9 w1 (by rw [← hx9, bl_size]; omega)
    have HCy : Hid (∀ w1, Calls Tryd.prog 31 #[.string y9] w1 fun e w' => e = .returned (.string y9) ∧ Below w1.heap.size w1 w') := fun w1 => clone_any y9 w1 (by rw [← hy9, bl_size]; omega)
    have HCr : Hid (∀ w1, Calls Tryd.prog 31 #[.string r9] w1 fun e w' => e = .returned (.string r9) ∧ Below w1.heap.size w1 w') := fun w1 => clone_any r9 w1 (by rw [← hr9, bl_size]; omega)
    rw [hx9, hy9] at HC2 HRg
    clear hp HC hlen hle hRg hx9 hy9 hr9
    cases hg : rgt a d with
    | false =>
      rw [hg] at HRg
      rw [hg, if_neg (by simp)] at HP
      clear hg HCx HCy HCr
      go_wp2_with (first
        | (go_at_call 30; refine HC2.out.mono ?_; rintro e w2 ⟨rfl, hS2, hO2⟩; have A5 := Ad.new w2 x9 y9; have B5 := alloc_below w2 (.cells #[.string x9, .string y9] 24); have A2 := (HAk.out _ hO2).more B5; have HB5 := toHid ((HBk.out _ hO2).trans (B5.mono (HBk.out _ hO2).size)); have HV5 := toHid ((HV1.out.on HNb.out hO2).new B5); have d0 := A5.c0; have d1 := A5.c1; clear B5)
        | (go_at_call 23; refine (HRg.out _ HV5.out).mono ?_; rintro e w3 ⟨rfl, hB3⟩; have A3 := A2.more hB3; have HB6 := toHid (HB5.out.trans (hB3.mono HB5.out.size)); have c0 := A3.c0; have c1 := A3.c1; have f0 := A3.fr 0; have f1 := A3.fr 1))
      obtain ⟨s1, s2⟩ := A3.put ⟨#[]⟩ ⟨#[]⟩
      have s3 : Chg (fun k => k = D) w3 ((w3.setCell ⟨D, 0, none⟩ (.string ⟨#[]⟩)).setCell ⟨D, 1, none⟩ (.string ⟨#[]⟩)) := s2
      have z0 : ((w3.setCell ⟨D, 0, none⟩ (.string ⟨#[]⟩)).setCell ⟨D, 1, none⟩ (.string ⟨#[]⟩)).cell? ⟨D, 0, none⟩ = some (.string ⟨#[]⟩) := s1.c0
      have z1 : ((w3.setCell ⟨D, 0, none⟩ (.string ⟨#[]⟩)).setCell ⟨D, 1, none⟩ (.string ⟨#[]⟩)).cell? ⟨D, 1, none⟩ = some (.string ⟨#[]⟩) := s1.c1
      try simp only [Exit.inBlock, Exit.then]
      obtain ⟨w10, hw10⟩ : ∃ w10, (w3.setCell ⟨D, 0, none⟩ (.string ⟨#[]⟩)).setCell ⟨D, 1, none⟩ (.string ⟨#[]⟩) = w10 := ⟨_, rfl⟩
      rw [hw10] at s3 z0 z1
      simp only [hw10]
      refine bodyPost_ret (v := .tuple #[adV (⟨#[]⟩) (⟨#[]⟩), .string (⟨#[]⟩), .int .i64 5]) ?_ rfl ?_
      · simp [results, Tryd.results10, go_sem, z0, z1]
      · exact ⟨by rw [HP.out], HB6.out.trans (s3.below HB6.out.size fun k hk => by rw [hk, HD.out]; exact Nat.le_refl _)⟩
    | true =>
      rw [hg] at HRg
      rw [hg, if_pos rfl] at HP
      clear hg
      go_upto_region 7 with (first
        | (go_at_call 30; refine HC2.out.mono ?_; rintro e w2 ⟨rfl, hS2, hO2⟩; have A5 := Ad.new w2 x9 y9; have B5 := alloc_below w2 (.cells #[.string x9, .string y9] 24); have A2 := (HAk.out _ hO2).more B5; have hS5 := hS2.more B5; have HB5 := toHid ((HBk.out _ hO2).trans (B5.mono (HBk.out _ hO2).size)); have HV5 := toHid ((HV1.out.on HNb.out hO2).new B5); have d0 := A5.c0; have d1 := A5.c1; clear B5)
        | (go_at_call 23; refine (HRg.out _ HV5.out).mono ?_; rintro e w3 ⟨rfl, hB3⟩))
      obtain ⟨D2, hD2⟩ : ∃ D2, w2.heap.size = D2 := ⟨_, rfl⟩
      have hD2b : ¬ D2 = b ∧ ¬ D2 = D := by
        have h1 := hS2.lt
        have h2 := (HAk.out _ hO2).lt
        omega
      have HD2b := toHid hD2b
      have hwD2 : w.heap.size ≤ D2 := by have := (HBk.out _ hO2).size; omega
      have HwD2 := toHid hwD2
      rw [hD2] at A5 ⊢
      have HA5 : Hid (Ad w3 D2 x9 y9) := A5.more hB3
      have HA2 : Hid (Ad w3 D ⟨#[]⟩ ⟨#[]⟩) := A2.more hB3
      have HS5 : Hid (Sc w3 b r) := hS5.more hB3
      have HB6 : Hid (Below w.heap.size w w3) := HB5.out.trans (hB3.mono HB5.out.size)
      clear hD2 A5 A2 hS5 hB3 hS2 hO2 d0 d1 hD2b hwD2 HC2 HV5 HB5
      go_cut [25] from 23 to 29 (fun _ wc => Hid (Ad wc D2 x9 y9 ∧ Ad wc D ⟨#[]⟩ ⟨#[]⟩ ∧ Sc wc b r ∧ Below w.heap.size w wc))
      case first =>
        have HK : Hid (∀ w1, Hid (Below w3.heap.size w3 w1) → Ad w1 D2 x9 y9) := fun w1 h1 => HA5.out.more h1.out
        have Kx : Hid (∀ w1, Hid (Below w3.heap.size w3 w1) → Calls Tryd.prog 31 #[.string x9] w1 fun e w' => e = .returned (.string x9) ∧ Hid (Below w3.heap.size w3 w')) := fun w1 h1 => (HCx.out w1).mono fun e w' ⟨h2, h3⟩ => ⟨h2, h1.out.trans (h3.mono h1.out.size)⟩
        have Ky : Hid (∀ w1, Hid (Below w3.heap.size w3 w1) → Calls Tryd.prog 31 #[.string y9] w1 fun e w' => e = .returned (.string y9) ∧ Hid (Below w3.heap.size w3 w')) := fun w1 h1 => (HCy.out w1).mono fun e w' ⟨h2, h3⟩ => ⟨h2, h1.out.trans (h3.mono h1.out.size)⟩
        have HBd : Hid (Below w3.heap.size w3 w3.drew) := (Chg.drew (fun _ => False) w3).below (Nat.le_refl _) fun _ h => h.elim
        have HFin : Hid (∀ w1, Hid (Below w3.heap.size w3 w1) → Hid (Ad ((w1.setCell ⟨D2, 0, none⟩ (.string x9)).setCell ⟨D2, 1, none⟩ (.string y9)) D2 x9 y9 ∧ Ad ((w1.setCell ⟨D2, 0, none⟩ (.string x9)).setCell ⟨D2, 1, none⟩ (.string y9)) D ⟨#[]⟩ ⟨#[]⟩ ∧ Sc ((w1.setCell ⟨D2, 0, none⟩ (.string x9)).setCell ⟨D2, 1, none⟩ (.string y9)) b r ∧ Below w.heap.size w ((w1.setCell ⟨D2, 0, none⟩ (.string x9)).setCell ⟨D2, 1, none⟩ (.string y9)))) := fun w1 h1 => by
          obtain ⟨p1, p2⟩ := (HA5.out.more h1.out).put x9 y9
          exact ⟨p1, (HA2.out.more h1.out).kept p2 (fun e => HD2b.out.2 e.symm), (HS5.out.more h1.out).kept p2 (fun e => HD2b.out.1 e.symm), (HB6.out.trans (h1.out.mono HB6.out.size)).trans (p2.below (Nat.le_trans HB6.out.size h1.out.size) fun k hk => by rw [hk]; exact HwD2.out)⟩
        have c0 := HA5.out.c0
        have c1 := HA5.out.c1
        have f0 := HA5.out.fr 0
        have f1 := HA5.out.fr 1
        clear HCx HCy HCr HA5 HA2 HS5 HB6 HwD2 HD2b HRg HAk HBk
        go_region_with (first
          | (go_at_call 31; with_reducible refine (Kx.out _ (by with_reducible assumption)).mono ?_; rintro e w4 ⟨rfl, HB4⟩; have c0 := (HK.out _ HB4).c0; have c1 := (HK.out _ HB4).c1; have f0 := (HK.out _ HB4).fr 0; have f1 := (HK.out _ HB4).fr 1)
          | (go_at_call 31; with_reducible refine (Ky.out _ (by with_reducible assumption)).mono ?_; rintro e w5 ⟨rfl, HB5⟩; have c0 := (HK.out _ HB5).c0; have c1 := (HK.out _ HB5).c1; have f0 := (HK.out _ HB5).fr 0; have f1 := (HK.out _ HB5).fr 1))
        all_goals
          go_wp2_with fail
          go_meet
          first
            | exact HFin.out _ HB5
            | exact HFin.out _ HB4
      case rest =>
        obtain ⟨hA5, hA2, hS5, hB6⟩ := hcut.out
        have HK : Hid (∀ w1, Hid (Below wc.heap.size wc w1) → Ad w1 D2 x9 y9 ∧ Ad w1 D ⟨#[]⟩ ⟨#[]⟩ ∧ Sc w1 b r ∧ Below w.heap.size w w1) := fun w1 h1 => ⟨hA5.more h1.out, hA2.more h1.out, hS5.more h1.out, hB6.trans (h1.out.mono hB6.size)⟩
        have Kr : Hid (∀ w1, Hid (Below wc.heap.size wc w1) → Calls Tryd.prog 31 #[.string r9] w1 fun e w' => e = .returned (.string r9) ∧ Hid (Below wc.heap.size wc w')) := fun w1 h1 => (HCr.out w1).mono fun e w' ⟨h2, h3⟩ => ⟨h2, h1.out.trans (h3.mono h1.out.size)⟩
        have HBd : Hid (Below wc.heap.size wc wc.drew) := (Chg.drew (fun _ => False) wc).below (Nat.le_refl _) fun _ h => h.elim
        have c0 := hA5.c0
        have c1 := hA5.c1
        have d0 := hS5.c
        rw [HR9.out] at d0
        have z0 := hA2.c0
        have z1 := hA2.c1
        have f0 := hA2.fr 0
        have f1 := hA2.fr 1
        clear HCx HCy HCr HA5 HA2 HS5 HB6 HwD2 HD2b HRg HAk HBk hcut hA5 hA2 hS5 hB6
        go_wp2_with fail
        go_region_with (go_at_call 31; refine (Kr.out _ (by with_reducible assumption)).mono ?_; rintro e w4 ⟨rfl, HB4⟩; obtain ⟨k5, k2, _, k6⟩ := HK.out _ HB4; have HK6 := toHid k6; have HK2 := toHid k2; have g0 := k5.c0; have g1 := k5.c1; have h0 := k2.fr 0; have h1 := k2.fr 1; have y0 := k2.c0; have y1 := k2.c1; clear k5 k2 k6)
        go_wp2_with fail
        all_goals
          clear z0 z1
          obtain ⟨s1, s3⟩ := HK2.out.put x9 y9
          have z0 : ((w4.setCell ⟨D, 0, none⟩ (.string x9)).setCell ⟨D, 1, none⟩ (.string y9)).cell? ⟨D, 0, none⟩ = some (.string x9) := s1.c0
          have z1 : ((w4.setCell ⟨D, 0, none⟩ (.string x9)).setCell ⟨D, 1, none⟩ (.string y9)).cell? ⟨D, 1, none⟩ = some (.string y9) := s1.c1
          try simp only [Exit.inBlock, Exit.then]
          obtain ⟨w10, hw10⟩ : ∃ w10, (w4.setCell ⟨D, 0, none⟩ (.string x9)).setCell ⟨D, 1, none⟩ (.string y9) = w10 := ⟨_, rfl⟩
          rw [hw10] at s3 z0 z1
          simp only [hw10]
          refine bodyPost_ret (v := .tuple #[adV (x9) (y9), .string (r9), .int .i64 0]) ?_ rfl ?_
          · simp [results, Tryd.results10, go_sem, z0, z1]
          · exact ⟨by rw [HP.out, HX9.out, HY9.out, HR9.out], HK6.out.trans (s3.below HK6.out.size fun k hk => by rw [hk, HD.out]; exact Nat.le_refl _)⟩

theorem pathR_len (l : List UInt8) : (pathR l).1.length ≤ l.length ∧ (pathR l).2.1.length ≤ l.length ∧ (pathR l).2.2.1.length ≤ l.length := by
  unfold pathR
  cases h : pth l with
  | none => simp
  | some v =>
    obtain ⟨a, d, r⟩ := v
    have := pth_len h
    by_cases hg : rgt a d = true
    · simp [hg]; omega
    · simp [hg]

set_option maxHeartbeats 3200000 in
theorem Parse_any (N : Nat) (s : ByteArray) (w : World) (hs : s.size ≤ 1099511627776) (hV : Vr N w) :
    Calls Tryd.prog 12 #[.string s] w fun e w' => e = .returned (.tuple #[adV (bl (parseR s.data.toList).1) (bl (parseR s.data.toList).2.1), .int .i64 (parseR s.data.toList).2.2]) ∧ Below w.heap.size w w' := by
  obtain ⟨l, hl⟩ : ∃ l, s.data.toList = l := ⟨_, rfl⟩
  have B0 := alloc_below w (.cells #[.string ⟨#[]⟩, .string ⟨#[]⟩] 24)
  have A0 := Ad.new w ⟨#[]⟩ ⟨#[]⟩
  have HC0 := Path_any N s (w.alloc (.cells #[.string ⟨#[]⟩, .string ⟨#[]⟩] 24)) hs (hV.new B0)
  rw [hl] at HC0 ⊢
  obtain ⟨D, hD⟩ : ∃ D, w.heap.size = D := ⟨_, rfl⟩
  have HD : Hid (w.heap.size = D) := hD
  rw [hD] at A0
  have HB0 : Hid (Below w.heap.size w (w.alloc (.cells #[.string ⟨#[]⟩, .string ⟨#[]⟩] 24))) := B0
  have HA0 : Hid (Ad (w.alloc (.cells #[.string ⟨#[]⟩, .string ⟨#[]⟩] 24)) D ⟨#[]⟩ ⟨#[]⟩) := A0
  obtain ⟨v, hv⟩ : ∃ v, pathR l = v := ⟨_, rfl⟩
  obtain ⟨a, d, r, E⟩ := v
  have HPs : Hid (parseR l = if E = 0 then (if r = [] then (a, d, 0) else ([], [], 3)) else ([], [], E)) := by show _ = _; unfold parseR; rw [hv]
  rw [hv] at HC0
  simp only at HC0
  obtain ⟨x9, hx9⟩ : ∃ t, bl a = t := ⟨_, rfl⟩
  obtain ⟨y9, hy9⟩ : ∃ t, bl d = t := ⟨_, rfl⟩
  obtain ⟨r9, hr9⟩ : ∃ t, bl r = t := ⟨_, rfl⟩
  have HX9 : Hid (bl a = x9) := hx9
  have HY9 : Hid (bl d = y9) := hy9
  have hre : (r9.toList == []) = (r == []) := by rw [← hr9, bl_toList]
  rw [hx9, hy9, hr9] at HC0
  have HC := toHid HC0
  clear A0 B0 HC0 hV hs hl hx9 hy9 hr9 hv
  by_cases hE : E = 0
  · subst hE
    by_cases hr : r = []
    · have q : (r9.toList == []) = true := by rw [hre, hr]; rfl
      have HP : Hid (parseR l = (a, d, 0)) := by show _ = _; rw [HPs.out, if_pos rfl, if_pos hr]
      clear hr hre HPs
      go_enter Tryd.func12, Tryd.ntmps12
      go_wp2_with (go_at_call 10; refine HC.out.mono ?_; rintro e w2 ⟨rfl, hB2⟩; have A5 := Ad.new w2 x9 y9; have B5 := alloc_below w2 (.cells #[.string x9, .string y9] 24); have A2 := (HA0.out.more hB2).more B5; have HB2 := toHid ((HB0.out.trans (hB2.mono HB0.out.size)).trans (B5.mono (Nat.le_trans HB0.out.size hB2.size))); have d0 := A5.c0; have d1 := A5.c1; have c0 := A2.c0; have c1 := A2.c1; have f0 := A2.fr 0; have f1 := A2.fr 1; clear B5 hB2)
      obtain ⟨s1, s3⟩ := A2.put x9 y9
      have z0 : (((w2.alloc (.cells #[.string x9, .string y9] 24)).setCell ⟨D, 0, none⟩ (.string x9)).setCell ⟨D, 1, none⟩ (.string y9)).cell? ⟨D, 0, none⟩ = some (.string x9) := s1.c0
      have z1 : (((w2.alloc (.cells #[.string x9, .string y9] 24)).setCell ⟨D, 0, none⟩ (.string x9)).setCell ⟨D, 1, none⟩ (.string y9)).cell? ⟨D, 1, none⟩ = some (.string y9) := s1.c1
      try simp only [Exit.inBlock, Exit.then]
      obtain ⟨w10, hw10⟩ : ∃ w10, ((w2.alloc (.cells #[.string x9, .string y9] 24)).setCell ⟨D, 0, none⟩ (.string x9)).setCell ⟨D, 1, none⟩ (.string y9) = w10 := ⟨_, rfl⟩
      rw [hw10] at s3 z0 z1
      simp only [hw10]
      refine bodyPost_ret (v := .tuple #[adV (x9) (y9), .int .i64 0]) ?_ rfl ?_
      · simp [results, Tryd.results12, go_sem, z0, z1]
      · exact ⟨by rw [HP.out, HX9.out, HY9.out], HB2.out.trans (s3.below HB2.out.size fun k hk => by rw [hk, HD.out]; exact Nat.le_refl _)⟩
    · have q : (r9.toList == []) = false := by rw [hre]; exact beq_eq_false_iff_ne.2 hr
      have HP : Hid (parseR l = ([], [], 3)) := by show _ = _; rw [HPs.out, if_pos rfl, if_neg hr]
      clear hr hre HPs
      go_enter Tryd.func12, Tryd.ntmps12
      go_wp2_with (go_at_call 10; refine HC.out.mono ?_; rintro e w2 ⟨rfl, hB2⟩; have A5 := Ad.new w2 x9 y9; have B5 := alloc_below w2 (.cells #[.string x9, .string y9] 24); have A2 := (HA0.out.more hB2).more B5; have HB2 := toHid ((HB0.out.trans (hB2.mono HB0.out.size)).trans (B5.mono (Nat.le_trans HB0.out.size hB2.size))); have d0 := A5.c0; have d1 := A5.c1; have c0 := A2.c0; have c1 := A2.c1; have f0 := A2.fr 0; have f1 := A2.fr 1; clear B5 hB2)
      obtain ⟨s1, s3⟩ := A2.put ⟨#[]⟩ ⟨#[]⟩
      have z0 : (((w2.alloc (.cells #[.string x9, .string y9] 24)).setCell ⟨D, 0, none⟩ (.string ⟨#[]⟩)).setCell ⟨D, 1, none⟩ (.string ⟨#[]⟩)).cell? ⟨D, 0, none⟩ = some (.string ⟨#[]⟩) := s1.c0
      have z1 : (((w2.alloc (.cells #[.string x9, .string y9] 24)).setCell ⟨D, 0, none⟩ (.string ⟨#[]⟩)).setCell ⟨D, 1, none⟩ (.string ⟨#[]⟩)).cell? ⟨D, 1, none⟩ = some (.string ⟨#[]⟩) := s1.c1
      try simp only [Exit.inBlock, Exit.then]
      obtain ⟨w10, hw10⟩ : ∃ w10, ((w2.alloc (.cells #[.string x9, .string y9] 24)).setCell ⟨D, 0, none⟩ (.string ⟨#[]⟩)).setCell ⟨D, 1, none⟩ (.string ⟨#[]⟩) = w10 := ⟨_, rfl⟩
      rw [hw10] at s3 z0 z1
      simp only [hw10]
      refine bodyPost_ret (v := .tuple #[adV (⟨#[]⟩) (⟨#[]⟩), .int .i64 3]) ?_ rfl ?_
      · simp [results, Tryd.results12, go_sem, z0, z1]
      · exact ⟨by rw [HP.out], HB2.out.trans (s3.below HB2.out.size fun k hk => by rw [hk, HD.out]; exact Nat.le_refl _)⟩
  · have q : (E == 0) = false := beq_eq_false_iff_ne.2 hE
    have HP : Hid (parseR l = ([], [], E)) := by show _ = _; rw [HPs.out, if_neg hE]
    clear hE hre HPs
    go_enter Tryd.func12, Tryd.ntmps12
    go_wp2_with (go_at_call 10; refine HC.out.mono ?_; rintro e w2 ⟨rfl, hB2⟩; have A5 := Ad.new w2 x9 y9; have B5 := alloc_below w2 (.cells #[.string x9, .string y9] 24); have A2 := (HA0.out.more hB2).more B5; have HB2 := toHid ((HB0.out.trans (hB2.mono HB0.out.size)).trans (B5.mono (Nat.le_trans HB0.out.size hB2.size))); have d0 := A5.c0; have d1 := A5.c1; have c0 := A2.c0; have c1 := A2.c1; have f0 := A2.fr 0; have f1 := A2.fr 1; clear B5 hB2)
    obtain ⟨s1, s3⟩ := A2.put ⟨#[]⟩ ⟨#[]⟩
    have z0 : (((w2.alloc (.cells #[.string x9, .string y9] 24)).setCell ⟨D, 0, none⟩ (.string ⟨#[]⟩)).setCell ⟨D, 1, none⟩ (.string ⟨#[]⟩)).cell? ⟨D, 0, none⟩ = some (.string ⟨#[]⟩) := s1.c0
    have z1 : (((w2.alloc (.cells #[.string x9, .string y9] 24)).setCell ⟨D, 0, none⟩ (.string ⟨#[]⟩)).setCell ⟨D, 1, none⟩ (.string ⟨#[]⟩)).cell? ⟨D, 1, none⟩ = some (.string ⟨#[]⟩) := s1.c1
    try simp only [Exit.inBlock, Exit.then]
    obtain ⟨w10, hw10⟩ : ∃ w10, ((w2.alloc (.cells #[.string x9, .string y9] 24)).setCell ⟨D, 0, none⟩ (.string ⟨#[]⟩)).setCell ⟨D, 1, none⟩ (.string ⟨#[]⟩) = w10 := ⟨_, rfl⟩
    rw [hw10] at s3 z0 z1
    simp only [hw10]
    refine bodyPost_ret (v := .tuple #[adV (⟨#[]⟩) (⟨#[]⟩), .int .i64 E]) ?_ rfl ?_
    · simp [results, Tryd.results12, go_sem, z0, z1]
    · exact ⟨by rw [HP.out], HB2.out.trans (s3.below HB2.out.size fun k hk => by rw [hk, HD.out]; exact Nat.le_refl _)⟩
end Go.Proofs.YtefofoocglhdmaaDoor

/-
  The document's Lower, Same, Print, Hash.
-/
import Derived.Test.YtefofoocglhdmaaDoorMRef8
import Derived.BigQuiet
import Derived.BigRegion
import Derived.Deep.QuietTactic
import Derived.Deep.RegionHeld
import Derived.Deep.Cut
namespace Go.Proofs.YtefofoocglhdmaaDoor
open Go.RowKit

set_option maxHeartbeats 1600000 in
theorem rlower_any (s : ByteArray) (w : World) (hs : s.size ≤ 1099511627776) :
    Calls Tryd.prog 19 #[.string s] w fun e w' => e = .returned (.string (bl (low s.data.toList))) ∧ Below w.heap.size w w' := by
  obtain ⟨c, w1, r1, hB, hR, hc1, hc2⟩ := conv_row w s hs
  obtain ⟨l, hl⟩ : ∃ l, s.data.toList = l := ⟨_, rfl⟩
  have hz : s.size = l.length := by rw [← hl]; simp
  obtain ⟨g, hg⟩ : ∃ g, w.heap.size = g := ⟨_, rfl⟩
  rw [hl] at hR ⊢
  rw [hg] at hR r1
  have HB : Hid (Below w.heap.size w w1) := hB
  have HR : Hid (Rowb w1 g (lowK l 0)) := by show Rowb w1 g (lowK l 0); unfold lowK low; simpa using hR
  have HG : Hid (w.heap.size = g) := hg
  have HZ : Hid (s.size = l.length) := hz
  have HC : Hid (c ≤ maxLen) := hc2
  have hsc : (s.size : Int) ≤ c := by omega
  clear hl hz hg hR hB hc2
  go_enter Tryd.func19, Tryd.ntmps19
  go_wp2_with fail
  go_loopw [4] (fun i wr => ∃ k : Nat, k ≤ s.size ∧ i = .int .i64 k ∧ Hid (Chg (fun k => k = g) w1 wr ∧ Rowb wr g (lowK l k))) (fun i _ => s.size - (intOf i).toNat)
  case atStart => exact ⟨0, Nat.zero_le _, rfl, Chg.refl _ _, HR.out⟩
  case round =>
    obtain ⟨k, hk, rfl, hA⟩ := hrel
    obtain ⟨hO, hR⟩ := hA.out
    by_cases hlt : k < s.size
    · have q1 : (k : Int) < s.size := by omega
      have hkl : k < l.length := by have := HZ.out; omega
      have c1 := hR.c k (by rw [lowK_len]; exact hkl)
      have f1 := hR.fr k (by rw [lowK_len]; exact hkl)
      rw [lowK_get l k hkl] at c1
      obtain ⟨X, hX⟩ : ∃ X : Int, ((l.getD k 0).toNat : Int) = X := ⟨_, rfl⟩
      rw [hX] at c1
      cases hcap : inCap (l.getD k 0) with
      | true =>
        obtain ⟨e1, e2, e3⟩ := lowB_cap hcap
        rw [hX] at e1 e2 e3
        have HS : Hid (Chg (fun k => k = g) w1 (wr.setCell ⟨g, k, none⟩ (.int .u8 (X + 32))) ∧ Rowb (wr.setCell ⟨g, k, none⟩ (.int .u8 (X + 32))) g (lowK l (k + 1))) := by
          have h2 := hR.set k (by rw [lowK_len]; exact hkl) (lowB (l.getD k 0))
          rw [lowK_next l k hkl, e1] at h2
          exact ⟨Chg.trans hO (Chg.setCell (S := fun k => k = g) wr ⟨g, k, none⟩ _ rfl) (fun _ _ h => h), h2⟩
        clear hcap hX hkl hO hR hA e1
        go_wp2_with fail
        go_roundw
        case rel => exact ⟨k + 1, by omega, by go_num, HS.out⟩
        case measure => simp [intOf]; omega
      | false =>
        have hn : ¬ (65 ≤ (l.getD k 0).toNat ∧ (l.getD k 0).toNat ≤ 90) := inCap_not hcap
        have HS : Hid (Chg (fun k => k = g) w1 wr ∧ Rowb wr g (lowK l (k + 1))) := ⟨hO, by rw [← lowK_same l k hkl (lowB_not hcap)]; exact hR⟩
        by_cases h65 : (65 : Int) ≤ X
        · have h90 : ¬ X ≤ 90 := by omega
          clear hcap hX hkl hO hR hA hn
          go_wp2_with fail
          go_roundw
          case rel => exact ⟨k + 1, by omega, by go_num, HS.out⟩
          case measure => simp [intOf]; omega
        · clear hcap hX hkl hO hR hA hn
          go_wp2_with fail
          go_roundw
          case rel => exact ⟨k + 1, by omega, by go_num, HS.out⟩
          case measure => simp [intOf]; omega
    · have q1 : ¬ (k : Int) < s.size := by omega
      have hkl : k = l.length := by have := HZ.out; omega
      have hb : Bs wr (.slice (some ⟨g, 0, none⟩) s.size c) (iB (low l)) := by
        have := hR.bs c (by rw [lowK_len, ← HZ.out]; omega) HC.out
        rw [lowK_len, ← HZ.out, hkl, lowK_all] at this
        exact this
      have r2 := run_strC hb
      rw [strC_iB] at r2
      obtain ⟨T, hT⟩ : ∃ T, bl (low l) = T := ⟨_, rfl⟩
      have HT : Hid (bl (low l) = T) := hT
      rw [hT] at r2
      have HO : Hid (Below w.heap.size w wr) := HB.out.trans (hO.below HB.out.size fun i hi => by rw [hi, HG.out]; exact Nat.le_refl _)
      clear hkl hb hT hA hO hR
      go_wp2_with fail
      go_ret
      exact ⟨by rw [HT.out]; rfl, HO.out⟩

set_option maxHeartbeats 1600000 in
theorem rsame_any (a d b e : ByteArray) (w : World) (hd : d.size ≤ 1099511627776) (he : e.size ≤ 1099511627776) :
    Calls Tryd.prog 22 #[adV a d, adV b e] w fun r w' => r = .returned (.bool (samB a.data.toList d.data.toList b.data.toList e.data.toList)) ∧ Below w.heap.size w w' := by
  obtain ⟨A, hA⟩ : ∃ A, (a.toList == b.toList) = A := ⟨_, rfl⟩
  have hA' : (a.data.toList == b.data.toList) = A := by rw [← hA, ByteArray.toList_eq, ByteArray.toList_eq]
  obtain ⟨T1, h1⟩ : ∃ T, bl (low d.data.toList) = T := ⟨_, rfl⟩
  obtain ⟨T2, h2⟩ : ∃ T, bl (low e.data.toList) = T := ⟨_, rfl⟩
  obtain ⟨B, hB⟩ : ∃ A, (T1.toList == T2.toList) = A := ⟨_, rfl⟩
  have HR : Hid (samB a.data.toList d.data.toList b.data.toList e.data.toList = (A && B)) := by
    show _ = _
    unfold samB
    rw [hA', ← hB, ← h1, ← h2, bl_toList, bl_toList]
  have L1 : Hid (∀ w, Calls Tryd.prog 19 #[.string d] w fun e w' => e = .returned (.string T1) ∧ Below w.heap.size w w') := fun w => by
    have := rlower_any d w hd
    rw [h1] at this
    exact this
  have L2 : Hid (∀ w, Calls Tryd.prog 19 #[.string e] w fun e w' => e = .returned (.string T2) ∧ Below w.heap.size w w') := fun w => by
    have := rlower_any e w he
    rw [h2] at this
    exact this
  clear h1 h2 hA' hd he
  go_enter Tryd.func22, Tryd.ntmps22
  go_upto_region 1 with fail
  have A1 := Ad.new w a d
  have A2 := Ad.new (w.alloc (.cells #[.string a, .string d] 24)) b e
  have A1' := A1.kept (Chg.alloc (fun _ => False) _ (.cells #[.string b, .string e] 24)) (fun h => h)
  have B0 : Below w.heap.size w ((w.alloc (.cells #[.string a, .string d] 24)).alloc (.cells #[.string b, .string e] 24)) :=
    (alloc_below w _).trans ((alloc_below _ _).mono (alloc_below w _).size)
  have hs1 : (w.alloc (.cells #[.string a, .string d] 24)).heap.size = w.heap.size + 1 := by simp
  rw [hs1] at A2
  obtain ⟨W, hW⟩ : ∃ W, (w.alloc (.cells #[.string a, .string d] 24)).alloc (.cells #[.string b, .string e] 24) = W := ⟨_, rfl⟩
  rw [hW] at A1' A2 B0 ⊢
  obtain ⟨D, hD⟩ : ∃ D, w.heap.size = D := ⟨_, rfl⟩
  have HB0 : Hid (Below w.heap.size w W) := B0
  obtain ⟨D2, hD2⟩ : ∃ D2, w.heap.size + 1 = D2 := ⟨_, rfl⟩
  rw [hD2] at A2 ⊢
  rw [hD] at A1' ⊢
  have HK : Hid (∀ w', Hid (Below W.heap.size W w') → Hid (Below W.heap.size W w') ∧ w'.cell? ⟨D, 0, none⟩ = some (.string a) ∧ w'.cell? ⟨D, 1, none⟩ = some (.string d) ∧ w'.cell? ⟨D2, 0, none⟩ = some (.string b) ∧ w'.cell? ⟨D2, 1, none⟩ = some (.string e)) := fun w' h =>
    ⟨h, (A1'.more h.out).c0, (A1'.more h.out).c1, (A2.more h.out).c0, (A2.more h.out).c1⟩
  have C1 : Hid (∀ w1, Hid (Below W.heap.size W w1) → Calls Tryd.prog 19 #[.string d] w1 fun e w' => e = .returned (.string T1) ∧ Hid (Below W.heap.size W w')) := fun w1 h => (L1.out w1).mono fun e w' ⟨h1, h2⟩ => ⟨h1, h.out.trans (h2.mono h.out.size)⟩
  have C2 : Hid (∀ w1, Hid (Below W.heap.size W w1) → Calls Tryd.prog 19 #[.string e] w1 fun e w' => e = .returned (.string T2) ∧ Hid (Below W.heap.size W w')) := fun w1 h => (L2.out w1).mono fun e w' ⟨h1, h2⟩ => ⟨h1, h.out.trans (h2.mono h.out.size)⟩
  have HBW : Hid (Below W.heap.size W W) := Below.refl _ _
  have HBD : Hid (Below W.heap.size W W.drew) := (Chg.drew (fun _ => False) W).below (Nat.le_refl _) fun _ h => h.elim
  have c0 := A1'.c0
  have c1 := A1'.c1
  have c2 := A2.c0
  have c3 := A2.c1
  clear A1 A2 A1' B0 hs1 hW hD2 hD L1 L2
  cases A with
  | true =>
    go_region_held (fun w' => Hid (Below W.heap.size W w') ∧ w'.cell? ⟨D, 0, none⟩ = some (.string a) ∧ w'.cell? ⟨D, 1, none⟩ = some (.string d) ∧ w'.cell? ⟨D2, 0, none⟩ = some (.string b) ∧ w'.cell? ⟨D2, 1, none⟩ = some (.string e)) (exact HK.out _ (by with_reducible assumption))
      (first
        | (go_at_call 19; with_reducible refine (C1.out _ (by with_reducible assumption)).mono ?_; rintro e w3 ⟨rfl, HB3⟩)
        | (go_at_call 19; with_reducible refine (C2.out _ (by with_reducible assumption)).mono ?_; rintro e w4 ⟨rfl, HB4⟩))
    all_goals
      go_wp2_with fail
      go_ret
      exact ⟨by rw [HR.out]; first | rfl | simp, HB0.out.trans (HB4.out.mono HB0.out.size)⟩
  | false =>
    go_quiet (fail)
    have HB9 : Hid (Below W.heap.size W (W.drewN nq)) := (Chg.drewN (fun _ => False) W nq).below (Nat.le_refl _) fun _ h => h.elim
    go_wp2_with fail
    go_ret
    exact ⟨by rw [HR.out]; first | rfl | simp, HB0.out.trans (HB9.out.mono HB0.out.size)⟩

set_option maxHeartbeats 1600000 in
theorem rprint_any (a d : ByteArray) (w : World) (ha : a.size ≤ 1099511627776) (hd : d.size ≤ 1099511627776) :
    Calls Tryd.prog 26 #[adV a d] w fun e w' => e = .returned (.string (bl (prn a.data.toList d.data.toList))) ∧ Below w.heap.size w w' := by
  have hA0 := Ad.new w a d
  have HB0 : Hid (Below w.heap.size w (w.alloc (.cells #[.string a, .string d] 24))) := alloc_below w _
  have HRr : Hid (∀ w, Calls Tryd.prog 24 #[adV a d] w fun e w' => e = .returned (.bool (rgt a.data.toList d.data.toList)) ∧ Below w.heap.size w w') := fun w => rright_any a d w ha hd
  have z0 := hA0.c0
  have z1 := hA0.c1
  have HA0 := toHid hA0
  cases hr : rgt a.data.toList d.data.toList with
  | false =>
    have HR : Hid (prn a.data.toList d.data.toList = []) := by show _ = _; unfold prn; rw [hr]; rfl
    rw [hr] at HRr
    clear hr hA0 ha hd
    go_enter Tryd.func26, Tryd.ntmps26
    go_wp2_with (go_at_call 24; refine (HRr.out _).mono ?_; rintro e w1 ⟨rfl, hB1⟩)
    go_ret
    exact ⟨by rw [HR.out]; rfl, HB0.out.trans (hB1.mono HB0.out.size)⟩
  | true =>
    have hal := rgt_small hr
    have hz := sz_list a
    obtain ⟨T, hT⟩ : ∃ T, bl (txt a.data.toList d.data.toList) = T := ⟨_, rfl⟩
    have HR : Hid (bl (prn a.data.toList d.data.toList) = T) := by show _ = _; rw [← hT]; unfold prn; rw [if_pos hr]; rfl
    have HTx : Hid (∀ w, Calls Tryd.prog 43 #[adV a d] w fun e w' => e = .returned (.string T) ∧ Below w.heap.size w w') := fun w => by
      have := rtext_any a d w (by omega) hd
      rw [hT] at this
      exact this
    rw [hr] at HRr
    clear hr hA0 ha hd hal hz hT
    go_enter Tryd.func26, Tryd.ntmps26
    go_wp2_with (first
      | (go_at_call 24; refine (HRr.out _).mono ?_; rintro e w1 ⟨rfl, hB1⟩; have A1 := HA0.out.more hB1; have y0 := A1.c0; have y1 := A1.c1; have hB2 := HB0.out.trans (hB1.mono HB0.out.size))
      | (go_at_call 43; refine (HTx.out _).mono ?_; rintro e w2 ⟨rfl, hB3⟩))
    go_ret
    exact ⟨by rw [HR.out]; rfl, hB2.trans (hB3.mono hB2.size)⟩
end Go.Proofs.YtefofoocglhdmaaDoor

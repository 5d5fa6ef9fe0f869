/-
  AddrPairs.
-/
import Derived.Test.YtefofoocglhdmaaDoorMHash2
import Derived.Test.YtefofoocglhdmaaDoorMBack1
namespace Go.Proofs.YtefofoocglhdmaaDoor
open Go.RowKit

theorem samB_sym (a d b e : List UInt8) : samB a d b e = samB b e a d := by
  unfold samB
  rw [Bool.beq_comm (a := a), Bool.beq_comm (a := low d)]
theorem samB_hsh {a d b e : List UInt8} (h : samB a d b e = true) : hsh a d = hsh b e := by
  unfold samB at h
  rw [Bool.and_eq_true, beq_iff_eq, beq_iff_eq] at h
  unfold hsh
  rw [h.1, h.2]
/-- What the long question asks of the world. -/
def PS (W : World) (D D2 : Nat) (a d b e : ByteArray) (w' : World) : Prop :=
  Hid (Below W.heap.size W w') ∧ w'.cell? ⟨D, 0, none⟩ = some (.string a) ∧ w'.cell? ⟨D, 1, none⟩ = some (.string d) ∧ w'.cell? ⟨D2, 0, none⟩ = some (.string b) ∧ w'.cell? ⟨D2, 1, none⟩ = some (.string e)

set_option maxHeartbeats 25600000 in
set_option maxRecDepth 100000 in
theorem law_pairs (N : Nat) (a d b e : ByteArray) (w : World) (hV : Vr N w) (hT : Tab w) :
    Calls Tryd.prog 4 #[adV a d, adV b e] w fun r w' => r = .returned (.bool true) ∧ Below w.heap.size w w' := by
  have A1 := Ad.new w a d
  have A2 := Ad.new (w.alloc (.cells #[.string a, .string d] 24)) b e
  have A1' := A1.kept (Chg.alloc (fun _ => False) _ (.cells #[.string b, .string e] 24)) (fun h => h)
  have B0 : Below w.heap.size w ((w.alloc (.cells #[.string a, .string d] 24)).alloc (.cells #[.string b, .string e] 24)) :=
    (alloc_below w _).trans ((alloc_below _ _).mono (alloc_below w _).size)
  have hs1 : (w.alloc (.cells #[.string a, .string d] 24)).heap.size = w.heap.size + 1 := by simp
  rw [hs1] at A2
  obtain ⟨W, hW⟩ : ∃ W, (w.alloc (.cells #[.string a, .string d] 24)).alloc (.cells #[.string b, .string e] 24) = W := ⟨_, rfl⟩
  rw [hW] at A1' A2 B0
  obtain ⟨D, hD⟩ : ∃ D, w.heap.size = D := ⟨_, rfl⟩
  obtain ⟨D2, hD2⟩ : ∃ D2, w.heap.size + 1 = D2 := ⟨_, rfl⟩
  rw [hD2] at A2
  rw [hD] at A1'
  have HA1 : Hid (Ad W D a d) := A1'
  have HA2 : Hid (Ad W D2 b e) := A2
  have HB0 : Hid (Below w.heap.size w W) := B0
  have HV : Hid (Vr N W) := hV.new B0
  have HTb : Hid (Tab W) := hT.more B0
  have HK : Hid (Calls Tryd.prog 9 #[] W fun e w' => e = .returned (.bool true) ∧ Below W.heap.size W w') := known_any N W (hV.new B0)
  have HF1 : Hid (∀ w, Calls Tryd.prog 20 #[adV a d] w fun e w' => e = .returned (.bool (decide (a.size ≤ 400) && decide (d.size ≤ 600))) ∧ Below w.heap.size w w') := fun w => few_any a d w
  have HF2 : Hid (∀ w, Calls Tryd.prog 20 #[adV b e] w fun r w' => r = .returned (.bool (decide (b.size ≤ 400) && decide (e.size ≤ 600))) ∧ Below w.heap.size w w') := fun w => few_any b e w
  have HW := toHid hW
  have HD := toHid hD
  have HD2 := toHid hD2
  clear A1 A2 A1' B0 hs1 hW hD2 hD hV hT
  cases hf : (decide (a.size ≤ 400) && decide (d.size ≤ 600)) with
  | false =>
    rw [hf] at HF1
    clear hf HF2
    go_enter Tryd.func4, Tryd.ntmps4
    go_upto_region 1 with fail
    rw [HW.out, HD2.out, HD.out]
    go_wp2_with (first
      | (go_at_call 9; refine HK.out.mono ?_; rintro r w1 ⟨rfl, hB1⟩; have hB2 := HB0.out.trans (hB1.mono HB0.out.size); have z0 := (HA1.out.more hB1).c0; have z1 := (HA1.out.more hB1).c1)
      | (go_at_call 20; refine (HF1.out _).mono ?_; rintro r w2 ⟨rfl, hB3⟩; have hB4 := hB2.trans (hB3.mono hB2.size)))
    go_ret
    exact ⟨rfl, hB4⟩
  | true =>
  rw [hf] at HF1
  rw [Bool.and_eq_true, decide_eq_true_eq, decide_eq_true_eq] at hf
  cases hg : (decide (b.size ≤ 400) && decide (e.size ≤ 600)) with
  | false =>
    rw [hg] at HF2
    clear hf hg
    go_enter Tryd.func4, Tryd.ntmps4
    go_upto_region 1 with fail
    rw [HW.out, HD2.out, HD.out]
    go_wp2_with (first
      | (go_at_call 9; refine HK.out.mono ?_; rintro r w1 ⟨rfl, hB1⟩; have hB2 := HB0.out.trans (hB1.mono HB0.out.size); have z0 := (HA1.out.more hB1).c0; have z1 := (HA1.out.more hB1).c1; have A2 := HA2.out.more hB1)
      | (go_at_call 20; with_reducible refine (HF1.out _).mono ?_; rintro r w2 ⟨rfl, hB3⟩; have hB4 := hB2.trans (hB3.mono hB2.size); have y0 := (A2.more hB3).c0; have y1 := (A2.more hB3).c1)
      | (go_at_call 20; with_reducible refine (HF2.out _).mono ?_; rintro r w3 ⟨rfl, hB5⟩; have hB6 := hB4.trans (hB5.mono hB4.size)))
    go_ret
    exact ⟨rfl, hB6⟩
  | true =>
  rw [hg] at HF2
  rw [Bool.and_eq_true, decide_eq_true_eq, decide_eq_true_eq] at hg
  obtain ⟨s, hs⟩ : ∃ s, samB a.data.toList d.data.toList b.data.toList e.data.toList = s := ⟨_, rfl⟩
  have hs2 : samB b.data.toList e.data.toList a.data.toList d.data.toList = s := by rw [samB_sym]; exact hs
  obtain ⟨R, hR⟩ : ∃ R, rgt a.data.toList d.data.toList = R := ⟨_, rfl⟩
  obtain ⟨P, hP⟩ : ∃ P, bl (prn a.data.toList d.data.toList) = P := ⟨_, rfl⟩
  obtain ⟨H1, hH1⟩ : ∃ n, sumV (iB (hsh a.data.toList d.data.toList)) = n := ⟨_, rfl⟩
  obtain ⟨H2, hH2⟩ : ∃ n, sumV (iB (hsh b.data.toList e.data.toList)) = n := ⟨_, rfl⟩
  have HEq : Hid (s = true → H1 = H2) := fun h => by rw [← hH1, ← hH2, samB_hsh (hs.trans h)]
  have C1 : Hid (∀ w1, Hid (Below W.heap.size W w1) → Calls Tryd.prog 21 #[adV a d, adV b e] w1 fun r w' => r = .returned (.bool s) ∧ Hid (Below W.heap.size W w')) := fun w1 h => by
    have := same_any a d b e w1 (by omega) (by omega)
    rw [hs] at this
    exact this.mono fun r w' ⟨h1, h2⟩ => ⟨h1, h.out.trans (h2.mono h.out.size)⟩
  have C2 : Hid (∀ w1, Hid (Below W.heap.size W w1) → Calls Tryd.prog 21 #[adV b e, adV a d] w1 fun r w' => r = .returned (.bool s) ∧ Hid (Below W.heap.size W w')) := fun w1 h => by
    have := same_any b e a d w1 (by omega) (by omega)
    rw [hs2] at this
    exact this.mono fun r w' ⟨h1, h2⟩ => ⟨h1, h.out.trans (h2.mono h.out.size)⟩
  have C3 : Hid (∀ w1, Hid (Below W.heap.size W w1) → Calls Tryd.prog 22 #[adV a d, adV b e] w1 fun r w' => r = .returned (.bool s) ∧ Hid (Below W.heap.size W w')) := fun w1 h => by
    have := rsame_any a d b e w1 (by omega) (by omega)
    rw [hs] at this
    exact this.mono fun r w' ⟨h1, h2⟩ => ⟨h1, h.out.trans (h2.mono h.out.size)⟩
  have C4 : Hid (∀ w1, Hid (Below W.heap.size W w1) → Calls Tryd.prog 23 #[adV a d] w1 fun r w' => r = .returned (.bool R) ∧ Hid (Below W.heap.size W w')) := fun w1 h => by
    have := right_any N a d w1 (by omega) (by omega) (HV.out.new h.out)
    rw [hR] at this
    exact this.mono fun r w' ⟨h1, h2⟩ => ⟨h1, h.out.trans (h2.mono h.out.size)⟩
  have C5 : Hid (∀ w1, Hid (Below W.heap.size W w1) → Calls Tryd.prog 24 #[adV a d] w1 fun r w' => r = .returned (.bool R) ∧ Hid (Below W.heap.size W w')) := fun w1 h => by
    have := rright_any a d w1 (by omega) (by omega)
    rw [hR] at this
    exact this.mono fun r w' ⟨h1, h2⟩ => ⟨h1, h.out.trans (h2.mono h.out.size)⟩
  have C6 : Hid (∀ w1, Hid (Below W.heap.size W w1) → Calls Tryd.prog 25 #[adV a d] w1 fun r w' => r = .returned (.string P) ∧ Hid (Below W.heap.size W w')) := fun w1 h => by
    have := print_any N a d w1 (by omega) (by omega) (HV.out.new h.out)
    rw [hP] at this
    exact this.mono fun r w' ⟨h1, h2⟩ => ⟨h1, h.out.trans (h2.mono h.out.size)⟩
  have C7 : Hid (∀ w1, Hid (Below W.heap.size W w1) → Calls Tryd.prog 26 #[adV a d] w1 fun r w' => r = .returned (.string P) ∧ Hid (Below W.heap.size W w')) := fun w1 h => by
    have := rprint_any a d w1 (by omega) (by omega)
    rw [hP] at this
    exact this.mono fun r w' ⟨h1, h2⟩ => ⟨h1, h.out.trans (h2.mono h.out.size)⟩
  have C8 : Hid (∀ w1, Hid (Below W.heap.size W w1) → Calls Tryd.prog 27 #[adV a d] w1 fun r w' => r = .returned (.int .u32 (H1 : Int)) ∧ Hid (Below W.heap.size W w')) := fun w1 h => by
    have := hash_any a d w1 (by omega) (by omega) (HTb.out.more h.out)
    rw [hH1] at this
    exact this.mono fun r w' ⟨h1, h2⟩ => ⟨h1, h.out.trans (h2.mono h.out.size)⟩
  have C9 : Hid (∀ w1, Hid (Below W.heap.size W w1) → Calls Tryd.prog 28 #[adV a d] w1 fun r w' => r = .returned (.int .u32 (H1 : Int)) ∧ Hid (Below W.heap.size W w')) := fun w1 h => by
    have := rhash_any a d w1 (by omega) (by omega)
    rw [hH1] at this
    exact this.mono fun r w' ⟨h1, h2⟩ => ⟨h1, h.out.trans (h2.mono h.out.size)⟩
  have C10 : Hid (∀ w1, Hid (Below W.heap.size W w1) → Calls Tryd.prog 27 #[adV b e] w1 fun r w' => r = .returned (.int .u32 (H2 : Int)) ∧ Hid (Below W.heap.size W w')) := fun w1 h => by
    have := hash_any b e w1 (by omega) (by omega) (HTb.out.more h.out)
    rw [hH2] at this
    exact this.mono fun r w' ⟨h1, h2⟩ => ⟨h1, h.out.trans (h2.mono h.out.size)⟩
  have HPS : Hid (∀ w', Hid (Below W.heap.size W w') → Hid (Below W.heap.size W w') ∧ w'.cell? ⟨D, 0, none⟩ = some (.string a) ∧ w'.cell? ⟨D, 1, none⟩ = some (.string d) ∧ w'.cell? ⟨D2, 0, none⟩ = some (.string b) ∧ w'.cell? ⟨D2, 1, none⟩ = some (.string e)) := fun w' h =>
    ⟨h, (HA1.out.more h.out).c0, (HA1.out.more h.out).c1, (HA2.out.more h.out).c0, (HA2.out.more h.out).c1⟩
  clear hs hs2 hR hP hH1 hH2 hf hg
  cases s with
  | true =>
    obtain rfl : H1 = H2 := HEq.out rfl
    clear HEq
    go_enter Tryd.func4, Tryd.ntmps4
    go_upto_region 1 with fail
    rw [HW.out, HD2.out, HD.out]
    go_upto_region 6 with (first
      | (go_at_call 9; refine HK.out.mono ?_; rintro r w1 ⟨rfl, hB1⟩; have hB2 := hB1; have z0 := (HA1.out.more hB1).c0; have z1 := (HA1.out.more hB1).c1; have A2 := HA2.out.more hB1; have A1 := HA1.out.more hB1)
      | (go_at_call 20; with_reducible refine (HF1.out _).mono ?_; rintro r w2 ⟨rfl, hB3⟩; have hB4 := hB2.trans (hB3.mono hB2.size); have y0 := (A2.more hB3).c0; have y1 := (A2.more hB3).c1)
      | (go_at_call 20; with_reducible refine (HF2.out _).mono ?_; rintro r w3 ⟨rfl, hB5⟩; have hB6 := hB4.trans (hB5.mono hB4.size); have HB6 := toHid hB6; have x0 := (HA1.out.more hB6).c0; have x1 := (HA1.out.more hB6).c1; have x2 := (HA2.out.more hB6).c0; have x3 := (HA2.out.more hB6).c1; clear hB3 hB5 hB4 z0 z1 y0 y1 A1 A2)
      | (go_at_call 21; with_reducible refine (C1.out _ (by with_reducible assumption)).mono ?_; rintro r w4 ⟨rfl, HBW⟩))
    have HBD : Hid (Below W.heap.size W w4.drew) := HBW.out.trans ((Chg.drew (fun _ => False) w4).below HBW.out.size fun _ h => h.elim)
    have c0 := (HA1.out.more HBW.out).c0
    have c1 := (HA1.out.more HBW.out).c1
    have c2 := (HA2.out.more HBW.out).c0
    have c3 := (HA2.out.more HBW.out).c1
    clear x0 x1 x2 x3 hB2 hB6 HB6 HK HF1 HF2 C1
    go_region_held (fun w' => Hid (Below W.heap.size W w') ∧ w'.cell? ⟨D, 0, none⟩ = some (.string a) ∧ w'.cell? ⟨D, 1, none⟩ = some (.string d) ∧ w'.cell? ⟨D2, 0, none⟩ = some (.string b) ∧ w'.cell? ⟨D2, 1, none⟩ = some (.string e)) (exact HPS.out _ (by with_reducible assumption))
      (first
        | (go_at_call 21; with_reducible refine (C2.out _ (by with_reducible assumption)).mono ?_; rintro r vC2 ⟨rfl, HBC2⟩)
        | (go_at_call 22; with_reducible refine (C3.out _ (by with_reducible assumption)).mono ?_; rintro r vC3 ⟨rfl, HBC3⟩)
        | (go_at_call 23; with_reducible refine (C4.out _ (by with_reducible assumption)).mono ?_; rintro r vC4 ⟨rfl, HBC4⟩)
        | (go_at_call 24; with_reducible refine (C5.out _ (by with_reducible assumption)).mono ?_; rintro r vC5 ⟨rfl, HBC5⟩)
        | (go_at_call 25; with_reducible refine (C6.out _ (by with_reducible assumption)).mono ?_; rintro r vC6 ⟨rfl, HBC6⟩)
        | (go_at_call 26; with_reducible refine (C7.out _ (by with_reducible assumption)).mono ?_; rintro r vC7 ⟨rfl, HBC7⟩)
        | (go_at_call 27; with_reducible refine (C8.out _ (by with_reducible assumption)).mono ?_; rintro r vC8 ⟨rfl, HBC8⟩)
        | (go_at_call 27; with_reducible refine (C10.out _ (by with_reducible assumption)).mono ?_; rintro r vC10 ⟨rfl, HBC10⟩)
        | (go_at_call 28; with_reducible refine (C9.out _ (by with_reducible assumption)).mono ?_; rintro r vC9 ⟨rfl, HBC9⟩))
    all_goals
      go_wp2_with fail
      go_ret
      refine ⟨by first | rfl | simp, HB0.out.trans (Below.mono (Hid.out ?_) HB0.out.size)⟩
      with_reducible assumption
  | false =>
    clear HEq
    go_enter Tryd.func4, Tryd.ntmps4
    go_upto_region 1 with fail
    rw [HW.out, HD2.out, HD.out]
    go_upto_region 6 with (first
      | (go_at_call 9; refine HK.out.mono ?_; rintro r w1 ⟨rfl, hB1⟩; have hB2 := hB1; have z0 := (HA1.out.more hB1).c0; have z1 := (HA1.out.more hB1).c1; have A2 := HA2.out.more hB1; have A1 := HA1.out.more hB1)
      | (go_at_call 20; with_reducible refine (HF1.out _).mono ?_; rintro r w2 ⟨rfl, hB3⟩; have hB4 := hB2.trans (hB3.mono hB2.size); have y0 := (A2.more hB3).c0; have y1 := (A2.more hB3).c1)
      | (go_at_call 20; with_reducible refine (HF2.out _).mono ?_; rintro r w3 ⟨rfl, hB5⟩; have hB6 := hB4.trans (hB5.mono hB4.size); have HB6 := toHid hB6; have x0 := (HA1.out.more hB6).c0; have x1 := (HA1.out.more hB6).c1; have x2 := (HA2.out.more hB6).c0; have x3 := (HA2.out.more hB6).c1; clear hB3 hB5 hB4 z0 z1 y0 y1 A1 A2)
      | (go_at_call 21; with_reducible refine (C1.out _ (by with_reducible assumption)).mono ?_; rintro r w4 ⟨rfl, HBW⟩))
    have HBD : Hid (Below W.heap.size W w4.drew) := HBW.out.trans ((Chg.drew (fun _ => False) w4).below HBW.out.size fun _ h => h.elim)
    have c0 := (HA1.out.more HBW.out).c0
    have c1 := (HA1.out.more HBW.out).c1
    have c2 := (HA2.out.more HBW.out).c0
    have c3 := (HA2.out.more HBW.out).c1
    clear x0 x1 x2 x3 hB2 hB6 HB6 HK HF1 HF2 C1
    refine wp_region_held_drew (S := (fun w' => Hid (Below W.heap.size W w') ∧ w'.cell? ⟨D, 0, none⟩ = some (.string a) ∧ w'.cell? ⟨D, 1, none⟩ = some (.string d) ∧ w'.cell? ⟨D2, 0, none⟩ = some (.string b) ∧ w'.cell? ⟨D2, 1, none⟩ = some (.string e))) (by kernel_rfl) (HPS.out _ HBD) (fun hHeld => ?_)
    refine wpAnyH_take (i := 0) (v := ?_) rfl (by kernel_rfl) (by kernel_rfl) (by kernel_rfl) (fun _ _ _ h => h) (Or.inl ⟨by rfl, ?_⟩) hHeld ?_
    rotate_left
    · (intro w hSw; (try dsimp only at hSw); go_simp; try with_reducible rfl)
    simp only [List.getElem_toArray, List.getElem_cons_zero, Act.put, List.setIfInBounds_toArray, List.set_cons_zero, List.set_cons_succ]
    refine wpAnyH_take (i := 1) (v := ?_) rfl (by kernel_rfl) (by kernel_rfl) (by kernel_rfl) (fun _ _ _ h => h) (Or.inl ⟨by rfl, ?_⟩) hHeld ?_
    rotate_left
    · (intro w hSw; (try dsimp only at hSw); go_simp; try with_reducible rfl)
    simp only [List.getElem_toArray, List.getElem_cons_succ, List.getElem_cons_zero, Act.put, List.setIfInBounds_toArray, List.set_cons_zero, List.set_cons_succ]
    refine wpAnyH_take (i := 2) (v := ?_) rfl (by kernel_rfl) (by kernel_rfl) (by kernel_rfl) (fun _ _ _ h => h) (Or.inl ⟨by rfl, ?_⟩) hHeld ?_
    rotate_left
    · (intro w hSw; (try dsimp only at hSw); go_simp; try with_reducible rfl)
    simp only [List.getElem_toArray, List.getElem_cons_succ, List.getElem_cons_zero, Act.put, List.setIfInBounds_toArray, List.set_cons_zero, List.set_cons_succ]
    refine wpAnyH_ready (rs := [3]) (by kernel_rfl) (by simp) ?_
    refine AllReadyH.cons rfl (fun K hK => ?_) AllReadyH.nil
    go_simp
    go_wp2_with (go_at_call 22; with_reducible refine (C3.out _ (by with_reducible assumption)).mono ?_; rintro r v1 ⟨rfl, HB1⟩)
    refine hK.out _ _ (HPS.out _ HB1) (fun hHeld => ?_)
    clear hK K
    refine wpAnyH_take (i := 4) (v := ?_) rfl (by kernel_rfl) (by kernel_rfl) (by kernel_rfl) (fun _ _ _ h => h) (Or.inl ⟨by rfl, ?_⟩) hHeld ?_
    rotate_left
    · (intro w hSw; (try dsimp only at hSw); go_simp; try with_reducible rfl)
    simp only [List.getElem_toArray, List.getElem_cons_succ, List.getElem_cons_zero, Act.put, List.setIfInBounds_toArray, List.set_cons_zero, List.set_cons_succ]
    refine wpAnyH_take (i := 5) (v := ?_) rfl (by kernel_rfl) (by kernel_rfl) (by kernel_rfl) (fun _ _ _ h => h) (Or.inl ⟨by rfl, ?_⟩) hHeld ?_
    rotate_left
    · (intro w hSw; (try dsimp only at hSw); go_simp; try with_reducible rfl)
    simp only [List.getElem_toArray, List.getElem_cons_succ, List.getElem_cons_zero, Act.put, List.setIfInBounds_toArray, List.set_cons_zero, List.set_cons_succ]
    refine wpAnyH_take (i := 6) (v := ?_) rfl (by kernel_rfl) (by kernel_rfl) (by kernel_rfl) (fun _ _ _ h => h) (Or.inl ⟨by rfl, ?_⟩) hHeld ?_
    rotate_left
    · (intro w hSw; (try dsimp only at hSw); go_simp; try with_reducible rfl)
    simp only [List.getElem_toArray, List.getElem_cons_succ, List.getElem_cons_zero, Act.put, List.setIfInBounds_toArray, List.set_cons_zero, List.set_cons_succ]
    refine wpAnyH_take (i := 7) (v := ?_) rfl (by kernel_rfl) (by kernel_rfl) (by kernel_rfl) (fun _ _ _ h => h) (Or.inl ⟨by rfl, ?_⟩) hHeld ?_
    rotate_left
    · (intro w hSw; (try dsimp only at hSw); go_simp; try with_reducible rfl)
    simp only [List.getElem_toArray, List.getElem_cons_succ, List.getElem_cons_zero, Act.put, List.setIfInBounds_toArray, List.set_cons_zero, List.set_cons_succ]
    refine wpAnyH_take (i := 8) (v := ?_) rfl (by kernel_rfl) (by kernel_rfl) (by kernel_rfl) (fun _ _ _ h => h) (Or.inl ⟨by rfl, ?_⟩) hHeld ?_
    rotate_left
    · (intro w hSw; (try dsimp only at hSw); go_simp; try with_reducible rfl)
    simp only [List.getElem_toArray, List.getElem_cons_succ, List.getElem_cons_zero, Act.put, List.setIfInBounds_toArray, List.set_cons_zero, List.set_cons_succ]
    refine wpAnyH_ready (rs := [9]) (by kernel_rfl) (by simp) ?_
    refine AllReadyH.cons rfl (fun K hK => ?_) AllReadyH.nil
    go_simp
    go_wp2_with (go_at_call 21; with_reducible refine (C2.out _ (by with_reducible assumption)).mono ?_; rintro r v2 ⟨rfl, HB2⟩)
    refine hK.out _ _ (HPS.out _ HB2) (fun hHeld => ?_)
    clear hK K
    refine wpAnyH_take (i := 10) (v := ?_) rfl (by kernel_rfl) (by kernel_rfl) (by kernel_rfl) (fun _ _ _ h => h) (Or.inl ⟨by rfl, ?_⟩) hHeld ?_
    rotate_left
    · (intro w hSw; (try dsimp only at hSw); go_simp; try with_reducible rfl)
    simp only [List.getElem_toArray, List.getElem_cons_succ, List.getElem_cons_zero, Act.put, List.setIfInBounds_toArray, List.set_cons_zero, List.set_cons_succ]
    refine wpAnyH_take (i := 11) (v := ?_) rfl (by kernel_rfl) (by kernel_rfl) (by kernel_rfl) (fun _ _ _ h => h) (Or.inl ⟨by rfl, ?_⟩) hHeld ?_
    rotate_left
    · (intro w hSw; (try dsimp only at hSw); go_simp; try with_reducible rfl)
    simp only [List.getElem_toArray, List.getElem_cons_succ, List.getElem_cons_zero, Act.put, List.setIfInBounds_toArray, List.set_cons_zero, List.set_cons_succ]
    refine wpAnyH_take (i := 12) (v := ?_) rfl (by kernel_rfl) (by kernel_rfl) (by kernel_rfl) (fun _ _ _ h => h) (Or.inl ⟨by rfl, ?_⟩) hHeld ?_
    rotate_left
    · (intro w hSw; (try dsimp only at hSw); go_simp; try with_reducible rfl)
    simp only [List.getElem_toArray, List.getElem_cons_succ, List.getElem_cons_zero, Act.put, List.setIfInBounds_toArray, List.set_cons_zero, List.set_cons_succ]
    refine wpAnyH_take (i := 13) (v := ?_) rfl (by kernel_rfl) (by kernel_rfl) (by kernel_rfl) (fun _ _ _ h => h) (Or.inl ⟨by rfl, ?_⟩) hHeld ?_
    rotate_left
    · (intro w hSw; (try dsimp only at hSw); go_simp; try with_reducible rfl)
    simp only [List.getElem_toArray, List.getElem_cons_succ, List.getElem_cons_zero, Act.put, List.setIfInBounds_toArray, List.set_cons_zero, List.set_cons_succ]
    refine wpAnyH_take (i := 15) (v := ?_) rfl (by kernel_rfl) (by kernel_rfl) (by kernel_rfl) (fun _ _ _ h => h) (Or.inl ⟨by rfl, ?_⟩) hHeld ?_
    rotate_left
    · (intro w hSw; (try dsimp only at hSw); go_simp; try with_reducible rfl)
    simp only [List.getElem_toArray, List.getElem_cons_succ, List.getElem_cons_zero, Act.put, List.setIfInBounds_toArray, List.set_cons_zero, List.set_cons_succ]
    refine wpAnyH_ready (rs := [14]) (by kernel_rfl) (by simp) ?_
    refine AllReadyH.cons rfl (fun K hK => ?_) AllReadyH.nil
    go_simp
    go_wp2_with (go_at_call 23; with_reducible refine (C4.out _ (by with_reducible assumption)).mono ?_; rintro r v3 ⟨rfl, HB3⟩)
    refine hK.out _ _ (HPS.out _ HB3) (fun hHeld => ?_)
    clear hK K
    refine wpAnyH_ready (rs := [16]) (by kernel_rfl) (by simp) ?_
    refine AllReadyH.cons rfl (fun K hK => ?_) AllReadyH.nil
    go_simp
    go_wp2_with (go_at_call 24; with_reducible refine (C5.out _ (by with_reducible assumption)).mono ?_; rintro r v4 ⟨rfl, HB4⟩)
    refine hK.out _ _ (HPS.out _ HB4) (fun hHeld => ?_)
    clear hK K
    refine wpAnyH_take (i := 17) (v := ?_) rfl (by kernel_rfl) (by kernel_rfl) (by kernel_rfl) (fun _ _ _ h => h) (Or.inl ⟨by rfl, ?_⟩) hHeld ?_
    rotate_left
    · (intro w hSw; (try dsimp only at hSw); go_simp; try with_reducible rfl)
    simp only [List.getElem_toArray, List.getElem_cons_succ, List.getElem_cons_zero, Act.put, List.setIfInBounds_toArray, List.set_cons_zero, List.set_cons_succ]
    refine wpAnyH_take (i := 18) (v := ?_) rfl (by kernel_rfl) (by kernel_rfl) (by kernel_rfl) (fun _ _ _ h => h) (Or.inl ⟨by rfl, ?_⟩) hHeld ?_
    rotate_left
    · (intro w hSw; (try dsimp only at hSw); go_simp; try with_reducible rfl)
    simp only [List.getElem_toArray, List.getElem_cons_succ, List.getElem_cons_zero, Act.put, List.setIfInBounds_toArray, List.set_cons_zero, List.set_cons_succ]
    refine wpAnyH_take (i := 19) (v := ?_) rfl (by kernel_rfl) (by kernel_rfl) (by kernel_rfl) (fun _ _ _ h => h) (Or.inl ⟨by rfl, ?_⟩) hHeld ?_
    rotate_left
    · (intro w hSw; (try dsimp only at hSw); go_simp; try with_reducible rfl)
    simp only [List.getElem_toArray, List.getElem_cons_succ, List.getElem_cons_zero, Act.put, List.setIfInBounds_toArray, List.set_cons_zero, List.set_cons_succ]
    refine wpAnyH_take (i := 20) (v := ?_) rfl (by kernel_rfl) (by kernel_rfl) (by kernel_rfl) (fun _ _ _ h => h) (Or.inl ⟨by rfl, ?_⟩) hHeld ?_
    rotate_left
    · (intro w hSw; (try dsimp only at hSw); go_simp; try with_reducible rfl)
    simp only [List.getElem_toArray, List.getElem_cons_succ, List.getElem_cons_zero, Act.put, List.setIfInBounds_toArray, List.set_cons_zero, List.set_cons_succ]
    refine wpAnyH_take (i := 22) (v := ?_) rfl (by kernel_rfl) (by kernel_rfl) (by kernel_rfl) (fun _ _ _ h => h) (Or.inl ⟨by rfl, ?_⟩) hHeld ?_
    rotate_left
    · (intro w hSw; (try dsimp only at hSw); go_simp; try with_reducible rfl)
    simp only [List.getElem_toArray, List.getElem_cons_succ, List.getElem_cons_zero, Act.put, List.setIfInBounds_toArray, List.set_cons_zero, List.set_cons_succ]
    refine wpAnyH_ready (rs := [21]) (by kernel_rfl) (by simp) ?_
    refine AllReadyH.cons rfl (fun K hK => ?_) AllReadyH.nil
    go_simp
    go_wp2_with (go_at_call 25; with_reducible refine (C6.out _ (by with_reducible assumption)).mono ?_; rintro r v5 ⟨rfl, HB5⟩)
    refine hK.out _ _ (HPS.out _ HB5) (fun hHeld => ?_)
    clear hK K
    refine wpAnyH_ready (rs := [23]) (by kernel_rfl) (by simp) ?_
    refine AllReadyH.cons rfl (fun K hK => ?_) AllReadyH.nil
    go_simp
    go_wp2_with (go_at_call 26; with_reducible refine (C7.out _ (by with_reducible assumption)).mono ?_; rintro r v6 ⟨rfl, HB6⟩)
    refine hK.out _ _ (HPS.out _ HB6) (fun hHeld => ?_)
    clear hK K
    refine wpAnyH_take (i := 24) (v := ?_) rfl (by kernel_rfl) (by kernel_rfl) (by kernel_rfl) (fun _ _ _ h => h) (Or.inl ⟨by rfl, ?_⟩) hHeld ?_
    rotate_left
    · (intro w hSw; (try dsimp only at hSw); go_simp; try with_reducible rfl)
    simp only [List.getElem_toArray, List.getElem_cons_succ, List.getElem_cons_zero, Act.put, List.setIfInBounds_toArray, List.set_cons_zero, List.set_cons_succ]
    refine wpAnyH_take (i := 25) (v := ?_) rfl (by kernel_rfl) (by kernel_rfl) (by kernel_rfl) (fun _ _ _ h => h) (Or.inl ⟨by rfl, ?_⟩) hHeld ?_
    rotate_left
    · (intro w hSw; (try dsimp only at hSw); go_simp; try with_reducible rfl)
    simp only [List.getElem_toArray, List.getElem_cons_succ, List.getElem_cons_zero, Act.put, List.setIfInBounds_toArray, List.set_cons_zero, List.set_cons_succ]
    refine wpAnyH_take (i := 26) (v := ?_) rfl (by kernel_rfl) (by kernel_rfl) (by kernel_rfl) (fun _ _ _ h => h) (Or.inl ⟨by rfl, ?_⟩) hHeld ?_
    rotate_left
    · (intro w hSw; (try dsimp only at hSw); go_simp; try with_reducible rfl)
    simp only [List.getElem_toArray, List.getElem_cons_succ, List.getElem_cons_zero, Act.put, List.setIfInBounds_toArray, List.set_cons_zero, List.set_cons_succ]
    refine wpAnyH_take (i := 27) (v := ?_) rfl (by kernel_rfl) (by kernel_rfl) (by kernel_rfl) (fun _ _ _ h => h) (Or.inl ⟨by rfl, ?_⟩) hHeld ?_
    rotate_left
    · (intro w hSw; (try dsimp only at hSw); go_simp; try with_reducible rfl)
    simp only [List.getElem_toArray, List.getElem_cons_succ, List.getElem_cons_zero, Act.put, List.setIfInBounds_toArray, List.set_cons_zero, List.set_cons_succ]
    refine wpAnyH_take (i := 29) (v := ?_) rfl (by kernel_rfl) (by kernel_rfl) (by kernel_rfl) (fun _ _ _ h => h) (Or.inl ⟨by rfl, ?_⟩) hHeld ?_
    rotate_left
    · (intro w hSw; (try dsimp only at hSw); go_simp; try with_reducible rfl)
    simp only [List.getElem_toArray, List.getElem_cons_succ, List.getElem_cons_zero, Act.put, List.setIfInBounds_toArray, List.set_cons_zero, List.set_cons_succ]
    refine wpAnyH_ready (rs := [28]) (by kernel_rfl) (by simp) ?_
    refine AllReadyH.cons rfl (fun K hK => ?_) AllReadyH.nil
    go_simp
    go_wp2_with (go_at_call 27; with_reducible refine (C8.out _ (by with_reducible assumption)).mono ?_; rintro r v7 ⟨rfl, HB7⟩)
    refine hK.out _ _ (HPS.out _ HB7) (fun hHeld => ?_)
    clear hK K
    refine wpAnyH_ready (rs := [30]) (by kernel_rfl) (by simp) ?_
    refine AllReadyH.cons rfl (fun K hK => ?_) AllReadyH.nil
    go_simp
    go_wp2_with (go_at_call 28; with_reducible refine (C9.out _ (by with_reducible assumption)).mono ?_; rintro r v8 ⟨rfl, HB8⟩)
    refine hK.out _ _ (HPS.out _ HB8) (fun hHeld => ?_)
    clear hK K
    refine wpAnyH_take (i := 31) (v := ?_) rfl (by kernel_rfl) (by kernel_rfl) (by kernel_rfl) (fun _ _ _ h => h) (Or.inl ⟨by rfl, ?_⟩) hHeld ?_
    rotate_left
    · (intro w hSw; (try dsimp only at hSw); go_simp; try with_reducible rfl)
    simp only [List.getElem_toArray, List.getElem_cons_succ, List.getElem_cons_zero, Act.put, List.setIfInBounds_toArray, List.set_cons_zero, List.set_cons_succ]
    refine wpAnyH_take (i := 32) (v := ?_) rfl (by kernel_rfl) (by kernel_rfl) (by kernel_rfl) (fun _ _ _ h => h) (Or.inl ⟨by rfl, ?_⟩) hHeld ?_
    rotate_left
    · (intro w hSw; (try dsimp only at hSw); go_simp; try with_reducible rfl)
    simp only [List.getElem_toArray, List.getElem_cons_succ, List.getElem_cons_zero, Act.put, List.setIfInBounds_toArray, List.set_cons_zero, List.set_cons_succ]
    refine wpAnyH_take (i := 33) (v := ?_) rfl (by kernel_rfl) (by kernel_rfl) (by kernel_rfl) (fun _ _ _ h => h) (Or.inl ⟨by rfl, ?_⟩) hHeld ?_
    rotate_left
    · (intro w hSw; (try dsimp only at hSw); go_simp; try with_reducible rfl)
    simp only [List.getElem_toArray, List.getElem_cons_succ, List.getElem_cons_zero, Act.put, List.setIfInBounds_toArray, List.set_cons_zero, List.set_cons_succ]
    refine wpAnyH_take (i := 34) (v := ?_) rfl (by kernel_rfl) (by kernel_rfl) (by kernel_rfl) (fun _ _ _ h => h) (Or.inl ⟨by rfl, ?_⟩) hHeld ?_
    rotate_left
    · (intro w hSw; (try dsimp only at hSw); go_simp; try with_reducible rfl)
    simp only [List.getElem_toArray, List.getElem_cons_succ, List.getElem_cons_zero, Act.put, List.setIfInBounds_toArray, List.set_cons_zero, List.set_cons_succ]
    refine wpAnyH_take (i := 35) (v := ?_) rfl (by kernel_rfl) (by kernel_rfl) (by kernel_rfl) (fun _ _ _ h => h) (Or.inl ⟨by rfl, ?_⟩) hHeld ?_
    rotate_left
    · (intro w hSw; (try dsimp only at hSw); go_simp; try with_reducible rfl)
    simp only [List.getElem_toArray, List.getElem_cons_succ, List.getElem_cons_zero, Act.put, List.setIfInBounds_toArray, List.set_cons_zero, List.set_cons_succ]
    refine wpAnyH_take (i := 36) (v := ?_) rfl (by kernel_rfl) (by kernel_rfl) (by kernel_rfl) (fun _ _ _ h => h) (Or.inl ⟨by rfl, ?_⟩) hHeld ?_
    rotate_left
    · (intro w hSw; (try dsimp only at hSw); go_simp; try with_reducible rfl)
    simp only [List.getElem_toArray, List.getElem_cons_succ, List.getElem_cons_zero, Act.put, List.setIfInBounds_toArray, List.set_cons_zero, List.set_cons_succ]
    refine wpAnyH_take (i := 37) (v := undef) rfl (by kernel_rfl) (by kernel_rfl) (by kernel_rfl) (fun _ _ _ h => h) (Or.inr ⟨by rfl, rfl⟩) hHeld ?_
    simp only [List.getElem_toArray, List.getElem_cons_succ, List.getElem_cons_zero, Act.put, List.setIfInBounds_toArray, List.set_cons_zero, List.set_cons_succ]
    refine wpAnyH_take (i := 38) (v := undef) rfl (by kernel_rfl) (by kernel_rfl) (by kernel_rfl) (fun _ _ _ h => h) (Or.inr ⟨by rfl, rfl⟩) hHeld ?_
    simp only [List.getElem_toArray, List.getElem_cons_succ, List.getElem_cons_zero, Act.put, List.setIfInBounds_toArray, List.set_cons_zero, List.set_cons_succ]
    refine wpAnyH_take (i := 39) (v := undef) rfl (by kernel_rfl) (by kernel_rfl) (by kernel_rfl) (fun _ _ _ h => h) (Or.inr ⟨by rfl, rfl⟩) hHeld ?_
    simp only [List.getElem_toArray, List.getElem_cons_succ, List.getElem_cons_zero, Act.put, List.setIfInBounds_toArray, List.set_cons_zero, List.set_cons_succ]
    refine wpAnyH_take (i := 40) (v := undef) rfl (by kernel_rfl) (by kernel_rfl) (by kernel_rfl) (fun _ _ _ h => h) (Or.inr ⟨by rfl, rfl⟩) hHeld ?_
    simp only [List.getElem_toArray, List.getElem_cons_succ, List.getElem_cons_zero, Act.put, List.setIfInBounds_toArray, List.set_cons_zero, List.set_cons_succ]
    refine wpAnyH_take (i := 41) (v := undef) rfl (by kernel_rfl) (by kernel_rfl) (by kernel_rfl) (fun _ _ _ h => h) (Or.inr ⟨by rfl, rfl⟩) hHeld ?_
    simp only [List.getElem_toArray, List.getElem_cons_succ, List.getElem_cons_zero, Act.put, List.setIfInBounds_toArray, List.set_cons_zero, List.set_cons_succ]
    refine wpAnyH_take (i := 42) (v := ?_) rfl (by kernel_rfl) (by kernel_rfl) (by kernel_rfl) (fun _ _ _ h => h) (Or.inl ⟨by rfl, ?_⟩) hHeld ?_
    rotate_left
    · (intro w hSw; (try dsimp only at hSw); go_simp; try with_reducible rfl)
    simp only [List.getElem_toArray, List.getElem_cons_succ, List.getElem_cons_zero, Act.put, List.setIfInBounds_toArray, List.set_cons_zero, List.set_cons_succ]
    refine wpAnyH_take (i := 43) (v := ?_) rfl (by kernel_rfl) (by kernel_rfl) (by kernel_rfl) (fun _ _ _ h => h) (Or.inl ⟨by rfl, ?_⟩) hHeld ?_
    rotate_left
    · (intro w hSw; (try dsimp only at hSw); go_simp; try with_reducible rfl)
    simp only [List.getElem_toArray, List.getElem_cons_succ, List.getElem_cons_zero, Act.put, List.setIfInBounds_toArray, List.set_cons_zero, List.set_cons_succ]
    refine wpAnyH_take (i := 44) (v := ?_) rfl (by kernel_rfl) (by kernel_rfl) (by kernel_rfl) (fun _ _ _ h => h) (Or.inl ⟨by rfl, ?_⟩) hHeld ?_
    rotate_left
    · (intro w hSw; (try dsimp only at hSw); go_simp; try with_reducible rfl)
    simp only [List.getElem_toArray, List.getElem_cons_succ, List.getElem_cons_zero, Act.put, List.setIfInBounds_toArray, List.set_cons_zero, List.set_cons_succ]
    refine wpAnyH_done (by kernel_rfl) ?_ _
    clear hHeld
    go_wp2_with fail
    go_ret
    refine ⟨by first | rfl | simp, HB0.out.trans (Below.mono (Hid.out ?_) HB0.out.size)⟩
    with_reducible assumption
end Go.Proofs.YtefofoocglhdmaaDoor

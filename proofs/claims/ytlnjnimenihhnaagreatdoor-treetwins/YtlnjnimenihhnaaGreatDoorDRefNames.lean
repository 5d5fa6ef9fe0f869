/-
  Names of the document's slots.
-/
import Derived.Test.YtlnjnimenihhnaaGreatDoorDStr
import Derived.Test.YtlnjnimenihhnaaGreatDoorVPut
import Derived.BigQuiet
import Derived.Deep.QuietTactic
import Derived.Deep.RegionHeld3
namespace Go.Proofs.YtlnjnimenihhnaaGreatDoor
open Go.RowKit Go.Sort

theorem below_dr9 {N : Nat} {w w' : World} (h : RowKit.Below N w w') : RowKit.Below N w w'.drew := ⟨h.os, h.tape, h.output, h.size, h.block⟩
theorem Ss.take' {w : World} {b c n : Nat} {ss : List (List UInt8)} (h : Ss w (.slice (some ⟨b, 0, none⟩) n c) ss) (hn : ss.length = n) (p : Nat) (hp : p ≤ n) : Ss w (.slice (some ⟨b, 0, none⟩) p c) (ss.take p) := by
  subst hn
  exact h.take p hp
theorem Ss.drop' {w : World} {b c n : Nat} {ss : List (List UInt8)} (h : Ss w (.slice (some ⟨b, 0, none⟩) n c) ss) (hn : ss.length = n) (p : Nat) (hp : p ≤ n) : (p < c → Ss w (.slice (some ⟨b, p, none⟩) (n - p) (c - p)) (ss.drop p)) ∧ (c = p → ∀ ad, Ss w (.slice (some ad) 0 0) (ss.drop p)) := by
  subst hn
  refine ⟨fun _ => h.drop p hp _ (fun _ => rfl), fun hc ad => ?_⟩
  have h1 := h.drop p hp ad (fun h => by omega)
  obtain ⟨_, c', e, h3, _⟩ := h
  injection e with _ _ e
  have e1 : ss.length - p = 0 := by omega
  have e2 : c - p = 0 := by omega
  rw [e1, e2] at h1
  exact h1
set_option maxHeartbeats 1600000 in
set_option maxRecDepth 100000 in
theorem rnames_any (v : Value) (es : List En) (w : World) (hv : Es w v es) (hl : es.length ≤ 1000000000) :
    Calls Tryz.prog 66 #[v] w fun e w' => ∃ u, e = .returned u ∧ w'.ownsRow w.heap.size 9 1 u (namesL es).length ((sortL (namesL es)).map encStr) ∧ Below w.heap.size w w' := by
  obtain ⟨i9, h9, hz90, hz91, hz92⟩ := info_parts info9
  obtain ⟨a, c, rfl⟩ := hv.form
  have hle := namesL_le
  go_enter Tryz.func66, Tryz.ntmps66
  go_wp2_with fail
  go_loopw [3, 4] (fun u i wr => ∃ k : Nat, k ≤ es.length ∧ i = .int .i64 k ∧ Below w.heap.size w wr ∧ wr.ownsRow w.heap.size 9 1 u (namesL (es.take k)).length ((sortL (namesL (es.take k))).map encStr)) (fun _ i _ => es.length - (intOf i).toNat)
  case atStart => exact ⟨0, Nat.zero_le _, rfl, Below.refl _ _, by simpa [namesL, sortL] using World.ownsRow_nil w w.heap.size 9 1⟩
  case round =>
    obtain ⟨k, hk, rfl, B, ho⟩ := hrel
    by_cases hlt : k < es.length
    · have q1 : (k : Int) < es.length := by omega
      have hv' := hv.below B
      obtain ⟨b, off, rfl, hc⟩ := hv'.nth hlt
      obtain ⟨c1, c2⟩ := hc k hlt
      have HT := namesL_take es k hlt
      obtain ⟨x, hx⟩ : ∃ x, Hid (es.getD k En.fr = x) := ⟨_, rfl⟩
      rw [hx.out] at c1 c2 HT
      have HT' : Hid (namesL (es.take (k + 1)) = namesL (es.take k) ++ (if 1 ≤ x.nm.size then [x.nm.data.toList] else [])) := HT
      have hn1 := hle (es.take k)
      rw [List.length_take] at hn1
      obtain ⟨L0, hL⟩ : ∃ L0, Hid (namesL (es.take k) = L0) := ⟨_, rfl⟩
      rw [hL.out] at ho hn1 HT'
      clear hc hv' HT
      by_cases h0 : x.nm.size = 0
      · have g3 : x.nm = ⟨#[]⟩ := by
          obtain ⟨⟨⟨l⟩⟩, _⟩ := x
          have : l = [] := List.eq_nil_of_length_eq_zero h0
          simp [this]
        have HT2 : Hid (namesL (es.take (k + 1)) = L0) := by rw [Hid, HT'.out, if_neg (by omega), List.append_nil]
        have g0 : (x.nm.toList == []) = true := by rw [g3, ByteArray.toList_eq]; rfl
        clear HT' hL h0 g3
        go_wp2_with fail
        go_roundw
        case rel =>
          refine ⟨k + 1, by omega, by go_num, B, ?_⟩
          rw [HT2.out]; exact ho
        case measure => simp [intOf]; omega
      · have h1 : 1 ≤ x.nm.size := by omega
        have HT2 : Hid (namesL (es.take (k + 1)) = L0 ++ [x.nm.data.toList]) := by rw [Hid, HT'.out, if_pos h1]
        have g0 : (x.nm.toList == []) = false := beq_eq_false_iff_ne.2 (str_some h1)
        have hSl : Hid ((sortL L0).length = L0.length) := sortL_len L0
        clear HT' hL h0 h1
        obtain ⟨SL, hSL⟩ : ∃ SL, Hid (sortL L0 = SL) := ⟨_, rfl⟩
        rw [hSL.out] at ho hSl
        obtain ⟨w0, hw0⟩ : ∃ w0, w0 = wr := ⟨_, rfl⟩
        subst hw0
        rcases ho.2 with ⟨rfl, hn0⟩ | ⟨g, cap, cur, rfl, _, _, hnc, hcm, _, _⟩
        · have hSL0 : Hid (SL = []) := List.eq_nil_of_length_eq_zero (by rw [hSl.out, hn0])
          go_wp2_with fail
          go_loopw [5] (fun i wr' => i = .int .i64 0 ∧ Below w0.heap.size w0 wr') (fun _ _ => 0)
          case atStart => exact ⟨rfl, Below.refl _ _⟩
          case round =>
            obtain ⟨rfl, B1⟩ := hrel
            obtain ⟨p, hp0⟩ : ∃ p : Nat, p ≤ 1000 := ⟨0, Nat.zero_le _⟩
            go_wp2_with fail
            go_quiet (fail)
            have bb0 : RowKit.Below w0.heap.size w0 (wr.drewN nq).drew := below_dr9 (B1.trans ((Chg.drewN (fun _ => False) wr _).below B1.size (fun _ h => h.elim)))
            have cx := (Chg.ofBelowC bb0).cell c1 (fun h => h)
            have hT : Ss (wr.drewN nq).drew (.slice none 0 0) (SL.take p) := by rw [hSL0.out, List.take_nil]; exact Ss.nil _
            go_wp2_with fail
            refine wp_region_held_drew (S := (fun w' => w'.cell? ⟨b, off + k * 2, none⟩ = some (.string x.nm))) (by kernel_rfl) cx (fun hHeld => ?_)
            generalize (wr.drewN nq).drew = V0 at *
            refine wpAnyH_take (i := 1) (v := ?_) rfl (by kernel_rfl) (by kernel_rfl) (by kernel_rfl) (fun _ _ _ h => h) (Or.inl ⟨by rfl, ?_⟩) hHeld ?_
            rotate_left
            · (intro w hSw; (try dsimp only at hSw); go_simp; try with_reducible rfl)
            simp only [List.getElem_toArray, List.getElem_cons_succ, List.getElem_cons_zero, Act.put, List.setIfInBounds_toArray, List.set_cons_zero, List.set_cons_succ]
            refine wpAnyH_take (i := 2) (v := ?_) rfl (by kernel_rfl) (by kernel_rfl) (by kernel_rfl) (fun _ _ _ h => h) (Or.inl ⟨by rfl, ?_⟩) hHeld ?_
            rotate_left
            · (intro w hSw; (try dsimp only at hSw); go_simp; try with_reducible rfl)
            simp only [List.getElem_toArray, List.getElem_cons_succ, List.getElem_cons_zero, Act.put, List.setIfInBounds_toArray, List.set_cons_zero, List.set_cons_succ]
            refine wpAnyH_take (i := 3) (v := ?_) rfl (by kernel_rfl) (by kernel_rfl) (by kernel_rfl) (fun _ _ _ h => h) (Or.inl ⟨by rfl, ?_⟩) hHeld ?_
            rotate_left
            · (intro w hSw; (try dsimp only at hSw); go_simp; try with_reducible rfl)
            simp only [List.getElem_toArray, List.getElem_cons_succ, List.getElem_cons_zero, Act.put, List.setIfInBounds_toArray, List.set_cons_zero, List.set_cons_succ]
            refine wpAnyH_take (i := 5) (v := ?_) rfl (by kernel_rfl) (by kernel_rfl) (by kernel_rfl) (fun _ _ _ h => h) (Or.inl ⟨by rfl, ?_⟩) hHeld ?_
            rotate_left
            · (intro w hSw; (try dsimp only at hSw); go_simp; try with_reducible rfl)
            simp only [List.getElem_toArray, List.getElem_cons_succ, List.getElem_cons_zero, Act.put, List.setIfInBounds_toArray, List.set_cons_zero, List.set_cons_succ]
            refine wpAnyH_take (i := 6) (v := ?_) rfl (by kernel_rfl) (by kernel_rfl) (by kernel_rfl) (fun _ _ _ h => h) (Or.inl ⟨by rfl, ?_⟩) hHeld ?_
            rotate_left
            · (intro w hSw; (try dsimp only at hSw); go_simp; try with_reducible rfl)
            simp only [List.getElem_toArray, List.getElem_cons_succ, List.getElem_cons_zero, Act.put, List.setIfInBounds_toArray, List.set_cons_zero, List.set_cons_succ]
            refine wpAnyH_take (i := 7) (v := ?_) rfl (by kernel_rfl) (by kernel_rfl) (by kernel_rfl) (fun _ _ _ h => h) (Or.inl ⟨by rfl, ?_⟩) hHeld ?_
            rotate_left
            · (intro w hSw; (try dsimp only at hSw); go_simp; try with_reducible rfl)
            simp only [List.getElem_toArray, List.getElem_cons_succ, List.getElem_cons_zero, Act.put, List.setIfInBounds_toArray, List.set_cons_zero, List.set_cons_succ]
            refine wpAnyH_take (i := 8) (v := ?_) rfl (by kernel_rfl) (by kernel_rfl) (by kernel_rfl) (fun _ _ _ h => h) (Or.inl ⟨by rfl, ?_⟩) hHeld ?_
            rotate_left
            · (intro w hSw; (try dsimp only at hSw); go_simp; try with_reducible rfl)
            simp only [List.getElem_toArray, List.getElem_cons_succ, List.getElem_cons_zero, Act.put, List.setIfInBounds_toArray, List.set_cons_zero, List.set_cons_succ]
            refine wpAnyH_take (i := 9) (v := ?_) rfl (by kernel_rfl) (by kernel_rfl) (by kernel_rfl) (fun _ _ _ h => h) (Or.inl ⟨by rfl, ?_⟩) hHeld ?_
            rotate_left
            · (intro w hSw; (try dsimp only at hSw); go_simp; try with_reducible rfl)
            simp only [List.getElem_toArray, List.getElem_cons_succ, List.getElem_cons_zero, Act.put, List.setIfInBounds_toArray, List.set_cons_zero, List.set_cons_succ]
            refine wpAnyH_ready (rs := [0, 10]) (by kernel_rfl) (by simp) ?_
            refine AllReadyH.cons rfl (fun K hK => ?_) (AllReadyH.cons rfl (fun K hK => ?_) AllReadyH.nil)
            · skip
              go_simp
              have cc1 : Below V0.heap.size V0 (V0.alloc (.cells #[] 9)) := (Below.refl _ _).alloc (Nat.le_refl _) _
              have bb1 : Below w0.heap.size w0 (V0.alloc (.cells #[] 9)) := bb0.alloc bb0.size (.cells #[] 9)
              have OA := lit_ownS V0 w0.heap.size bb0.size
              have sz1 : Hid ((V0.alloc (.cells #[] 9)).heap.size = V0.heap.size + 1) := by simp [Hid]
              have hT := hT.below cc1
              refine hK.out _ _ ((Chg.ofBelowC cc1).cell hHeld (fun h => h)) (fun hHeld => ?_)
              clear hK K cc1
              generalize V0.alloc (.cells #[] 9) = W1 at *
              refine wpAnyH_ready (rs := [4, 10]) (by kernel_rfl) (by simp) ?_
              refine AllReadyH.cons rfl (fun K hK => ?_) (AllReadyH.cons rfl (fun K hK => ?_) AllReadyH.nil)
              · skip
                refine step_appS (by rfl) _ _ 49 (by rfl) w0.heap.size i9 Tryz.underlying49 h9 hz90 hz91 hz92 _ _ 0 [] (SL.take p) (by rfl) OA (by rfl) hT (by simp; omega) bb1.size ?_
                intro vC W2 OC bc2 ch2
                have bb2 := bb1.trans bc2
                refine hK.out _ _ ((Chg.ofBelowC (Below.trans (Below.refl _ _) bb2)).cell c1 (fun h => h)) (fun hHeld => ?_)
                clear hK K bc2 ch2 OA
                simp only [List.getElem_toArray, List.getElem_cons_succ, List.getElem_cons_zero, Act.put, List.setIfInBounds_toArray, List.set_cons_zero, List.set_cons_succ]
                refine wpAnyH_ready (rs := [10]) (by kernel_rfl) (by simp) ?_
                refine AllReadyH.cons rfl (fun K hK => ?_) AllReadyH.nil
                go_simp
                have cc3 : Below W2.heap.size W2 (W2.alloc (.cells #[.string x.nm] 9)) := (Below.refl _ _).alloc (Nat.le_refl _) _
                have bb3 : Below w0.heap.size w0 (W2.alloc (.cells #[.string x.nm] 9)) := bb2.alloc bb2.size (.cells #[.string x.nm] 9)
                have OC := own_kept1 OC cc3
                have SD := Ss.one W2 x.nm
                have sz3 : Hid ((W2.alloc (.cells #[.string x.nm] 9)).heap.size = W2.heap.size + 1) := by simp [Hid]
                refine hK.out _ _ ((Chg.ofBelowC cc3).cell hHeld (fun h => h)) (fun hHeld => ?_)
                clear hK K cc3
                generalize W2.alloc (.cells #[.string x.nm] 9) = W3 at *
                refine wpAnyH_ready (rs := [11]) (by kernel_rfl) (by simp) ?_
                refine AllReadyH.cons rfl (fun K hK => ?_) AllReadyH.nil
                refine step_appS (by rfl) _ _ 49 (by rfl) w0.heap.size i9 Tryz.underlying49 h9 hz90 hz91 hz92 _ _ _ ([] ++ SL.take p) [x.nm.data.toList] (by rfl) OC (by rfl) SD (by simp; omega) bb3.size ?_
                intro vE W4 OE bc4 ch4
                have bb4 := bb3.trans bc4
                refine hK.out _ _ ((Chg.ofBelowC (Below.trans (Below.refl _ _) bb4)).cell c1 (fun h => h)) (fun hHeld => ?_)
                clear hK K bc4 ch4 OC SD
                simp only [List.getElem_toArray, List.getElem_cons_succ, List.getElem_cons_zero, Act.put, List.setIfInBounds_toArray, List.set_cons_zero, List.set_cons_succ]
                refine wpAnyH_take (i := 12) (v := ?_) rfl (by kernel_rfl) (by kernel_rfl) (by kernel_rfl) (fun _ _ _ h => h) (Or.inl ⟨by rfl, ?_⟩) hHeld ?_
                rotate_left
                · (intro w hSw; (try dsimp only at hSw); go_simp; try with_reducible rfl)
                simp only [List.getElem_toArray, List.getElem_cons_succ, List.getElem_cons_zero, Act.put, List.setIfInBounds_toArray, List.set_cons_zero, List.set_cons_succ]
                refine wpAnyH_done (by kernel_rfl) ?_ _
                have OE2 : W4.ownsRow w0.heap.size 9 1 vE 1 (([x.nm.data.toList] : List (List UInt8)).map encStr) := by
                  have e9 : SL.take p = [] := by rw [hSL0.out, List.take_nil]
                  rw [e9] at OE
                  simpa using OE
                have HI := sortL_insert L0 x.nm.data.toList 0 (Nat.zero_le _) (fun j h => by omega) (by rw [hSL.out, hSL0.out]; intro h; simp at h)
                rw [hSL.out, hSL0.out, ← HT2.out] at HI
                have HI' : Hid _ := HI
                have BW := B.trans (bb4.mono B.size)
                have hN0 := bb4.size
                have hL9 : Hid (L0.length = 0) := hn0
                clear HI OE hHeld
                have hD := Ss.nil W4
                go_wp2_with (at_builtin; go_must (refine wpList_appS rfl _ (.tmp 52) 49 rfl w0.heap.size i9 Tryz.underlying49 h9 hz90 hz91 hz92 _ _ 1 [x.nm.data.toList] [] rfl OE2 rfl hD (by simp) hN0 ?next))
                case next =>
                  intro u wz ho3 hB3 _
                  have B3 := BW.trans (hB3.mono B.size)
                  have ho4 : wz.ownsRow w.heap.size 9 1 u (namesL (es.take (k + 1))).length ((sortL (namesL (es.take (k + 1)))).map encStr) := by
                    have e1 : (namesL (es.take (k + 1))).length = 1 := by rw [HT2.out]; simp [hL9.out]
                    rw [HI'.out, e1]
                    have ho5 := own_mono1 ho3 B.size
                    simpa using ho5
                  clear ho3 hB3 hD OE2
                  go_wp2_with fail
                  go_roundw
                  case rel => exact ⟨k + 1, by omega, by go_num, B3, ho4⟩
                  case measure => simp [intOf]; omega
              · skip
                go_simp
                have cc2 : Below W1.heap.size W1 (W1.alloc (.cells #[.string x.nm] 9)) := (Below.refl _ _).alloc (Nat.le_refl _) _
                have bb2 : Below w0.heap.size w0 (W1.alloc (.cells #[.string x.nm] 9)) := bb1.alloc bb1.size (.cells #[.string x.nm] 9)
                have OA := own_kept1 OA cc2
                have SD := Ss.one W1 x.nm
                have sz2 : Hid ((W1.alloc (.cells #[.string x.nm] 9)).heap.size = W1.heap.size + 1) := by simp [Hid]
                have hT := hT.below cc2
                refine hK.out _ _ ((Chg.ofBelowC cc2).cell hHeld (fun h => h)) (fun hHeld => ?_)
                clear hK K cc2
                generalize W1.alloc (.cells #[.string x.nm] 9) = W2 at *
                refine wpAnyH_ready (rs := [4]) (by kernel_rfl) (by simp) ?_
                refine AllReadyH.cons rfl (fun K hK => ?_) AllReadyH.nil
                refine step_appS (by rfl) _ _ 49 (by rfl) w0.heap.size i9 Tryz.underlying49 h9 hz90 hz91 hz92 _ _ 0 [] (SL.take p) (by rfl) OA (by rfl) hT (by simp; omega) bb2.size ?_
                intro vC W3 OC bc3 ch3
                have bb3 := bb2.trans bc3
                have SD := SD.far ch3 (fun e => by have hs := sz1.out; simp [Value.ownBlock] at e; omega)
                refine hK.out _ _ ((Chg.ofBelowC (Below.trans (Below.refl _ _) bb3)).cell c1 (fun h => h)) (fun hHeld => ?_)
                clear hK K bc3 ch3 OA
                simp only [List.getElem_toArray, List.getElem_cons_succ, List.getElem_cons_zero, Act.put, List.setIfInBounds_toArray, List.set_cons_zero, List.set_cons_succ]
                refine wpAnyH_ready (rs := [11]) (by kernel_rfl) (by simp) ?_
                refine AllReadyH.cons rfl (fun K hK => ?_) AllReadyH.nil
                refine step_appS (by rfl) _ _ 49 (by rfl) w0.heap.size i9 Tryz.underlying49 h9 hz90 hz91 hz92 _ _ _ ([] ++ SL.take p) [x.nm.data.toList] (by rfl) OC (by rfl) SD (by simp; omega) bb3.size ?_
                intro vE W4 OE bc4 ch4
                have bb4 := bb3.trans bc4
                refine hK.out _ _ ((Chg.ofBelowC (Below.trans (Below.refl _ _) bb4)).cell c1 (fun h => h)) (fun hHeld => ?_)
                clear hK K bc4 ch4 OC SD
                simp only [List.getElem_toArray, List.getElem_cons_succ, List.getElem_cons_zero, Act.put, List.setIfInBounds_toArray, List.set_cons_zero, List.set_cons_succ]
                refine wpAnyH_take (i := 12) (v := ?_) rfl (by kernel_rfl) (by kernel_rfl) (by kernel_rfl) (fun _ _ _ h => h) (Or.inl ⟨by rfl, ?_⟩) hHeld ?_
                rotate_left
                · (intro w hSw; (try dsimp only at hSw); go_simp; try with_reducible rfl)
                simp only [List.getElem_toArray, List.getElem_cons_succ, List.getElem_cons_zero, Act.put, List.setIfInBounds_toArray, List.set_cons_zero, List.set_cons_succ]
                refine wpAnyH_done (by kernel_rfl) ?_ _
                have OE2 : W4.ownsRow w0.heap.size 9 1 vE 1 (([x.nm.data.toList] : List (List UInt8)).map encStr) := by
                  have e9 : SL.take p = [] := by rw [hSL0.out, List.take_nil]
                  rw [e9] at OE
                  simpa using OE
                have HI := sortL_insert L0 x.nm.data.toList 0 (Nat.zero_le _) (fun j h => by omega) (by rw [hSL.out, hSL0.out]; intro h; simp at h)
                rw [hSL.out, hSL0.out, ← HT2.out] at HI
                have HI' : Hid _ := HI
                have BW := B.trans (bb4.mono B.size)
                have hN0 := bb4.size
                have hL9 : Hid (L0.length = 0) := hn0
                clear HI OE hHeld
                have hD := Ss.nil W4
                go_wp2_with (at_builtin; go_must (refine wpList_appS rfl _ (.tmp 52) 49 rfl w0.heap.size i9 Tryz.underlying49 h9 hz90 hz91 hz92 _ _ 1 [x.nm.data.toList] [] rfl OE2 rfl hD (by simp) hN0 ?next))
                case next =>
                  intro u wz ho3 hB3 _
                  have B3 := BW.trans (hB3.mono B.size)
                  have ho4 : wz.ownsRow w.heap.size 9 1 u (namesL (es.take (k + 1))).length ((sortL (namesL (es.take (k + 1)))).map encStr) := by
                    have e1 : (namesL (es.take (k + 1))).length = 1 := by rw [HT2.out]; simp [hL9.out]
                    rw [HI'.out, e1]
                    have ho5 := own_mono1 ho3 B.size
                    simpa using ho5
                  clear ho3 hB3 hD OE2
                  go_wp2_with fail
                  go_roundw
                  case rel => exact ⟨k + 1, by omega, by go_num, B3, ho4⟩
                  case measure => simp [intOf]; omega
            · skip
              go_simp
              have cc1 : Below V0.heap.size V0 (V0.alloc (.cells #[.string x.nm] 9)) := (Below.refl _ _).alloc (Nat.le_refl _) _
              have bb1 : Below w0.heap.size w0 (V0.alloc (.cells #[.string x.nm] 9)) := bb0.alloc bb0.size (.cells #[.string x.nm] 9)
              have SD := Ss.one V0 x.nm
              have sz1 : Hid ((V0.alloc (.cells #[.string x.nm] 9)).heap.size = V0.heap.size + 1) := by simp [Hid]
              have hT := hT.below cc1
              refine hK.out _ _ ((Chg.ofBelowC cc1).cell hHeld (fun h => h)) (fun hHeld => ?_)
              clear hK K cc1
              generalize V0.alloc (.cells #[.string x.nm] 9) = W1 at *
              refine wpAnyH_ready (rs := [0]) (by kernel_rfl) (by simp) ?_
              refine AllReadyH.cons rfl (fun K hK => ?_) AllReadyH.nil
              go_simp
              have cc2 : Below W1.heap.size W1 (W1.alloc (.cells #[] 9)) := (Below.refl _ _).alloc (Nat.le_refl _) _
              have bb2 : Below w0.heap.size w0 (W1.alloc (.cells #[] 9)) := bb1.alloc bb1.size (.cells #[] 9)
              have SD := SD.below cc2
              have OA := lit_ownS W1 w0.heap.size bb1.size
              have sz2 : Hid ((W1.alloc (.cells #[] 9)).heap.size = W1.heap.size + 1) := by simp [Hid]
              have hT := hT.below cc2
              refine hK.out _ _ ((Chg.ofBelowC cc2).cell hHeld (fun h => h)) (fun hHeld => ?_)
              clear hK K cc2
              generalize W1.alloc (.cells #[] 9) = W2 at *
              refine wpAnyH_ready (rs := [4]) (by kernel_rfl) (by simp) ?_
              refine AllReadyH.cons rfl (fun K hK => ?_) AllReadyH.nil
              refine step_appS (by rfl) _ _ 49 (by rfl) w0.heap.size i9 Tryz.underlying49 h9 hz90 hz91 hz92 _ _ 0 [] (SL.take p) (by rfl) OA (by rfl) hT (by simp; omega) bb2.size ?_
              intro vC W3 OC bc3 ch3
              have bb3 := bb2.trans bc3
              have SD := SD.far ch3 (fun e => by have hs := sz1.out; simp [Value.ownBlock] at e; omega)
              refine hK.out _ _ ((Chg.ofBelowC (Below.trans (Below.refl _ _) bb3)).cell c1 (fun h => h)) (fun hHeld => ?_)
              clear hK K bc3 ch3 OA
              simp only [List.getElem_toArray, List.getElem_cons_succ, List.getElem_cons_zero, Act.put, List.setIfInBounds_toArray, List.set_cons_zero, List.set_cons_succ]
              refine wpAnyH_ready (rs := [11]) (by kernel_rfl) (by simp) ?_
              refine AllReadyH.cons rfl (fun K hK => ?_) AllReadyH.nil
              refine step_appS (by rfl) _ _ 49 (by rfl) w0.heap.size i9 Tryz.underlying49 h9 hz90 hz91 hz92 _ _ _ ([] ++ SL.take p) [x.nm.data.toList] (by rfl) OC (by rfl) SD (by simp; omega) bb3.size ?_
              intro vE W4 OE bc4 ch4
              have bb4 := bb3.trans bc4
              refine hK.out _ _ ((Chg.ofBelowC (Below.trans (Below.refl _ _) bb4)).cell c1 (fun h => h)) (fun hHeld => ?_)
              clear hK K bc4 ch4 OC SD
              simp only [List.getElem_toArray, List.getElem_cons_succ, List.getElem_cons_zero, Act.put, List.setIfInBounds_toArray, List.set_cons_zero, List.set_cons_succ]
              refine wpAnyH_take (i := 12) (v := ?_) rfl (by kernel_rfl) (by kernel_rfl) (by kernel_rfl) (fun _ _ _ h => h) (Or.inl ⟨by rfl, ?_⟩) hHeld ?_
              rotate_left
              · (intro w hSw; (try dsimp only at hSw); go_simp; try with_reducible rfl)
              simp only [List.getElem_toArray, List.getElem_cons_succ, List.getElem_cons_zero, Act.put, List.setIfInBounds_toArray, List.set_cons_zero, List.set_cons_succ]
              refine wpAnyH_done (by kernel_rfl) ?_ _
              have OE2 : W4.ownsRow w0.heap.size 9 1 vE 1 (([x.nm.data.toList] : List (List UInt8)).map encStr) := by
                have e9 : SL.take p = [] := by rw [hSL0.out, List.take_nil]
                rw [e9] at OE
                simpa using OE
              have HI := sortL_insert L0 x.nm.data.toList 0 (Nat.zero_le _) (fun j h => by omega) (by rw [hSL.out, hSL0.out]; intro h; simp at h)
              rw [hSL.out, hSL0.out, ← HT2.out] at HI
              have HI' : Hid _ := HI
              have BW := B.trans (bb4.mono B.size)
              have hN0 := bb4.size
              have hL9 : Hid (L0.length = 0) := hn0
              clear HI OE hHeld
              have hD := Ss.nil W4
              go_wp2_with (at_builtin; go_must (refine wpList_appS rfl _ (.tmp 52) 49 rfl w0.heap.size i9 Tryz.underlying49 h9 hz90 hz91 hz92 _ _ 1 [x.nm.data.toList] [] rfl OE2 rfl hD (by simp) hN0 ?next))
              case next =>
                intro u wz ho3 hB3 _
                have B3 := BW.trans (hB3.mono B.size)
                have ho4 : wz.ownsRow w.heap.size 9 1 u (namesL (es.take (k + 1))).length ((sortL (namesL (es.take (k + 1)))).map encStr) := by
                  have e1 : (namesL (es.take (k + 1))).length = 1 := by rw [HT2.out]; simp [hL9.out]
                  rw [HI'.out, e1]
                  have ho5 := own_mono1 ho3 B.size
                  simpa using ho5
                clear ho3 hB3 hD OE2
                go_wp2_with fail
                go_roundw
                case rel => exact ⟨k + 1, by omega, by go_num, B3, ho4⟩
                case measure => simp [intOf]; omega
        · go_wp2_with fail
          go_loopw [5] (fun i wr' => ∃ p : Nat, p ≤ L0.length ∧ i = .int .i64 p ∧ Below w0.heap.size w0 wr' ∧ Hid (∀ j, j < p → SL.getD j [] < x.nm.data.toList)) (fun i _ => L0.length - (intOf i).toNat)
          case atStart => exact ⟨0, Nat.zero_le _, rfl, Below.refl _ _, fun j h => by omega⟩
          case round =>
            obtain ⟨p, hp, rfl, B1, HJ⟩ := hrel
            have ho' := own_kept1 ho B1
            have hU := Ss.ofOwns ho'
            have c1' := (Chg.ofBelowC B1).cell c1 (fun h => h)
            have hpc : (p : Int) ≤ cap := by omega
            by_cases hpl : p < L0.length
            · have q2 : (p : Int) < L0.length := by omega
              obtain ⟨ub, uo, hue, hcu⟩ := hU.nthS (k := p) (by have := hSl.out; omega)
              injection hue with hue
              injection hue with hu1 hu2
              subst hu1; subst hu2
              have d1 := hcu p (by have := hSl.out; omega)
              rw [Nat.zero_add] at d1
              obtain ⟨Y, hY, hY2⟩ : ∃ Y : ByteArray, encStr (SL.getD p []) = .string Y ∧ Hid (Y.data.toList = SL.getD p []) := ⟨_, rfl, by simp [Hid]⟩
              rw [hY] at d1
              clear hcu ho' hY
              by_cases hb : Op.bytesLess Y.toList x.nm.toList = true
              · have hj2 : Hid (SL.getD p [] < x.nm.data.toList) := by
                  rw [bytesLess_eq, Lib.toList_data, Lib.toList_data, hY2.out] at hb
                  exact (of_decide_eq_true hb : SL.getD p [] < x.nm.data.toList)
                clear hU
                go_wp2_with fail
                go_quiet (fail)
                have B2 : RowKit.Below w0.heap.size w0 (wr.drewN nq) := B1.trans ((Chg.drewN (fun _ => False) wr _).below B1.size (fun _ h => h.elim))
                go_wp2_with fail
                go_roundw
                case rel => exact ⟨p + 1, by omega, by go_num, B2, fun j hj => by
                  rcases (by omega : j < p ∨ j = p) with h | rfl
                  · exact HJ.out j h
                  · exact hj2.out⟩
                case measure => simp [intOf]; omega
              · have hj2 : Hid (p < SL.length → ¬ SL.getD p [] < x.nm.data.toList) := fun _ h => by
                  rw [bytesLess_eq, Lib.toList_data, Lib.toList_data, hY2.out] at hb
                  exact hb (decide_eq_true h)
                have hb' : Op.bytesLess Y.toList x.nm.toList = false := by simpa using hb
                clear hb
                go_wp2_with fail
                go_quiet (fail)
                have bb0 : RowKit.Below w0.heap.size w0 (wr.drewN nq).drew := below_dr9 (B1.trans ((Chg.drewN (fun _ => False) wr _).below B1.size (fun _ h => h.elim)))
                have cx := (Chg.ofBelowC bb0).cell c1 (fun h => h)
                have hT := ((Ss.ofOwns (own_kept1 ho bb0)).take' hSl.out p hp)
                clear d1 hY2 hb' hU c1'
                go_wp2_with fail
                refine wp_region_held_drew (S := (fun w' => w'.cell? ⟨b, off + k * 2, none⟩ = some (.string x.nm))) (by kernel_rfl) cx (fun hHeld => ?_)
                generalize (wr.drewN nq).drew = V0 at *
                refine wpAnyH_take (i := 1) (v := ?_) rfl (by kernel_rfl) (by kernel_rfl) (by kernel_rfl) (fun _ _ _ h => h) (Or.inl ⟨by rfl, ?_⟩) hHeld ?_
                rotate_left
                · (intro w hSw; (try dsimp only at hSw); go_simp; try with_reducible rfl)
                simp only [List.getElem_toArray, List.getElem_cons_succ, List.getElem_cons_zero, Act.put, List.setIfInBounds_toArray, List.set_cons_zero, List.set_cons_succ]
                refine wpAnyH_take (i := 2) (v := ?_) rfl (by kernel_rfl) (by kernel_rfl) (by kernel_rfl) (fun _ _ _ h => h) (Or.inl ⟨by rfl, ?_⟩) hHeld ?_
                rotate_left
                · (intro w hSw; (try dsimp only at hSw); go_simp; try with_reducible rfl)
                simp only [List.getElem_toArray, List.getElem_cons_succ, List.getElem_cons_zero, Act.put, List.setIfInBounds_toArray, List.set_cons_zero, List.set_cons_succ]
                refine wpAnyH_take (i := 3) (v := ?_) rfl (by kernel_rfl) (by kernel_rfl) (by kernel_rfl) (fun _ _ _ h => h) (Or.inl ⟨by rfl, ?_⟩) hHeld ?_
                rotate_left
                · (intro w hSw; (try dsimp only at hSw); go_simp; try with_reducible rfl)
                simp only [List.getElem_toArray, List.getElem_cons_succ, List.getElem_cons_zero, Act.put, List.setIfInBounds_toArray, List.set_cons_zero, List.set_cons_succ]
                refine wpAnyH_take (i := 5) (v := ?_) rfl (by kernel_rfl) (by kernel_rfl) (by kernel_rfl) (fun _ _ _ h => h) (Or.inl ⟨by rfl, ?_⟩) hHeld ?_
                rotate_left
                · (intro w hSw; (try dsimp only at hSw); go_simp; try with_reducible rfl)
                simp only [List.getElem_toArray, List.getElem_cons_succ, List.getElem_cons_zero, Act.put, List.setIfInBounds_toArray, List.set_cons_zero, List.set_cons_succ]
                refine wpAnyH_take (i := 6) (v := ?_) rfl (by kernel_rfl) (by kernel_rfl) (by kernel_rfl) (fun _ _ _ h => h) (Or.inl ⟨by rfl, ?_⟩) hHeld ?_
                rotate_left
                · (intro w hSw; (try dsimp only at hSw); go_simp; try with_reducible rfl)
                simp only [List.getElem_toArray, List.getElem_cons_succ, List.getElem_cons_zero, Act.put, List.setIfInBounds_toArray, List.set_cons_zero, List.set_cons_succ]
                refine wpAnyH_take (i := 7) (v := ?_) rfl (by kernel_rfl) (by kernel_rfl) (by kernel_rfl) (fun _ _ _ h => h) (Or.inl ⟨by rfl, ?_⟩) hHeld ?_
                rotate_left
                · (intro w hSw; (try dsimp only at hSw); go_simp; try with_reducible rfl)
                simp only [List.getElem_toArray, List.getElem_cons_succ, List.getElem_cons_zero, Act.put, List.setIfInBounds_toArray, List.set_cons_zero, List.set_cons_succ]
                refine wpAnyH_take (i := 8) (v := ?_) rfl (by kernel_rfl) (by kernel_rfl) (by kernel_rfl) (fun _ _ _ h => h) (Or.inl ⟨by rfl, ?_⟩) hHeld ?_
                rotate_left
                · (intro w hSw; (try dsimp only at hSw); go_simp; try with_reducible rfl)
                simp only [List.getElem_toArray, List.getElem_cons_succ, List.getElem_cons_zero, Act.put, List.setIfInBounds_toArray, List.set_cons_zero, List.set_cons_succ]
                refine wpAnyH_take (i := 9) (v := ?_) rfl (by kernel_rfl) (by kernel_rfl) (by kernel_rfl) (fun _ _ _ h => h) (Or.inl ⟨by rfl, ?_⟩) hHeld ?_
                rotate_left
                · (intro w hSw; (try dsimp only at hSw); go_simp; try with_reducible rfl)
                simp only [List.getElem_toArray, List.getElem_cons_succ, List.getElem_cons_zero, Act.put, List.setIfInBounds_toArray, List.set_cons_zero, List.set_cons_succ]
                refine wpAnyH_ready (rs := [0, 10]) (by kernel_rfl) (by simp) ?_
                refine AllReadyH.cons rfl (fun K hK => ?_) (AllReadyH.cons rfl (fun K hK => ?_) AllReadyH.nil)
                · skip
                  go_simp
                  have cc1 : Below V0.heap.size V0 (V0.alloc (.cells #[] 9)) := (Below.refl _ _).alloc (Nat.le_refl _) _
                  have bb1 : Below w0.heap.size w0 (V0.alloc (.cells #[] 9)) := bb0.alloc bb0.size (.cells #[] 9)
                  have OA := lit_ownS V0 w0.heap.size bb0.size
                  have sz1 : Hid ((V0.alloc (.cells #[] 9)).heap.size = V0.heap.size + 1) := by simp [Hid]
                  have hT := hT.below cc1
                  refine hK.out _ _ ((Chg.ofBelowC cc1).cell hHeld (fun h => h)) (fun hHeld => ?_)
                  clear hK K cc1
                  generalize V0.alloc (.cells #[] 9) = W1 at *
                  refine wpAnyH_ready (rs := [4, 10]) (by kernel_rfl) (by simp) ?_
                  refine AllReadyH.cons rfl (fun K hK => ?_) (AllReadyH.cons rfl (fun K hK => ?_) AllReadyH.nil)
                  · skip
                    refine step_appS (by rfl) _ _ 49 (by rfl) w0.heap.size i9 Tryz.underlying49 h9 hz90 hz91 hz92 _ _ 0 [] (SL.take p) (by rfl) OA (by rfl) hT (by simp; omega) bb1.size ?_
                    intro vC W2 OC bc2 ch2
                    have bb2 := bb1.trans bc2
                    refine hK.out _ _ ((Chg.ofBelowC (Below.trans (Below.refl _ _) bb2)).cell c1 (fun h => h)) (fun hHeld => ?_)
                    clear hK K bc2 ch2 OA
                    simp only [List.getElem_toArray, List.getElem_cons_succ, List.getElem_cons_zero, Act.put, List.setIfInBounds_toArray, List.set_cons_zero, List.set_cons_succ]
                    refine wpAnyH_ready (rs := [10]) (by kernel_rfl) (by simp) ?_
                    refine AllReadyH.cons rfl (fun K hK => ?_) AllReadyH.nil
                    go_simp
                    have cc3 : Below W2.heap.size W2 (W2.alloc (.cells #[.string x.nm] 9)) := (Below.refl _ _).alloc (Nat.le_refl _) _
                    have bb3 : Below w0.heap.size w0 (W2.alloc (.cells #[.string x.nm] 9)) := bb2.alloc bb2.size (.cells #[.string x.nm] 9)
                    have OC := own_kept1 OC cc3
                    have SD := Ss.one W2 x.nm
                    have sz3 : Hid ((W2.alloc (.cells #[.string x.nm] 9)).heap.size = W2.heap.size + 1) := by simp [Hid]
                    refine hK.out _ _ ((Chg.ofBelowC cc3).cell hHeld (fun h => h)) (fun hHeld => ?_)
                    clear hK K cc3
                    generalize W2.alloc (.cells #[.string x.nm] 9) = W3 at *
                    refine wpAnyH_ready (rs := [11]) (by kernel_rfl) (by simp) ?_
                    refine AllReadyH.cons rfl (fun K hK => ?_) AllReadyH.nil
                    refine step_appS (by rfl) _ _ 49 (by rfl) w0.heap.size i9 Tryz.underlying49 h9 hz90 hz91 hz92 _ _ _ ([] ++ SL.take p) [x.nm.data.toList] (by rfl) OC (by rfl) SD (by simp; omega) bb3.size ?_
                    intro vE W4 OE bc4 ch4
                    have bb4 := bb3.trans bc4
                    refine hK.out _ _ ((Chg.ofBelowC (Below.trans (Below.refl _ _) bb4)).cell c1 (fun h => h)) (fun hHeld => ?_)
                    clear hK K bc4 ch4 OC SD
                    simp only [List.getElem_toArray, List.getElem_cons_succ, List.getElem_cons_zero, Act.put, List.setIfInBounds_toArray, List.set_cons_zero, List.set_cons_succ]
                    refine wpAnyH_take (i := 12) (v := ?_) rfl (by kernel_rfl) (by kernel_rfl) (by kernel_rfl) (fun _ _ _ h => h) (Or.inl ⟨by rfl, ?_⟩) hHeld ?_
                    rotate_left
                    · (intro w hSw; (try dsimp only at hSw); go_simp; try with_reducible rfl)
                    simp only [List.getElem_toArray, List.getElem_cons_succ, List.getElem_cons_zero, Act.put, List.setIfInBounds_toArray, List.set_cons_zero, List.set_cons_succ]
                    refine wpAnyH_done (by kernel_rfl) ?_ _
                    have hD0 := (Ss.ofOwns (own_kept1 ho bb4)).drop' hSl.out p hp
                    have OE2 : W4.ownsRow w0.heap.size 9 1 vE (p + 1) ((SL.take p ++ [x.nm.data.toList]).map encStr) := by
                      have hl9 : (SL.take p).length = p := by have := hSl.out; simp; omega
                      rw [hl9] at OE
                      simpa using OE
                    have HI := sortL_insert L0 x.nm.data.toList p (by rw [hSL.out, hSl.out]; exact hp) (by rw [hSL.out]; exact HJ.out) (by rw [hSL.out]; exact hj2.out)
                    rw [hSL.out, ← HT2.out] at HI
                    have HI' : Hid _ := HI
                    have BW := B.trans (bb4.mono B.size)
                    have hql : ((SL.take p ++ [x.nm.data.toList]).length + (SL.drop p).length ≤ 1099511627776) := by have := hSl.out; simp; omega
                    have hN0 := bb4.size
                    have hpp : (p : Int) ≤ L0.length := by omega
                    have hlc : (L0.length : Int) ≤ cap := by omega
                    have hL9 : Hid ((SL.drop p).length = L0.length - p) := by have := hSl.out; simp [Hid]; omega
                    clear HI OE hHeld HJ hj2 hT cx
                    have hlcN : ¬ cap < L0.length := by omega
                    by_cases hcp : cap = p
                    · have hLp : L0.length = p := by omega
                      have hD := hD0.2 hcp
                      clear hD0
                      go_wp2_with (at_builtin; go_must (refine wpList_appS rfl _ (.tmp 52) 49 rfl w0.heap.size i9 Tryz.underlying49 h9 hz90 hz91 hz92 _ _ (p + 1) (SL.take p ++ [x.nm.data.toList]) (SL.drop p) rfl OE2 rfl (hD _) hql hN0 ?next))
                      case next =>
                        intro u wz ho3 hB3 _
                        have B3 := BW.trans (hB3.mono B.size)
                        have ho4 : wz.ownsRow w.heap.size 9 1 u (namesL (es.take (k + 1))).length ((sortL (namesL (es.take (k + 1)))).map encStr) := by
                          have e1 : (namesL (es.take (k + 1))).length = p + 1 + (SL.drop p).length := by
                            rw [HT2.out, hL9.out]; simp; omega
                          rw [HI'.out, e1]
                          have ho5 := own_mono1 ho3 B.size
                          simpa using ho5
                        clear ho3 hB3 hD OE2
                        go_wp2_with fail
                        go_roundw
                        case rel => exact ⟨k + 1, by omega, by go_num, B3, ho4⟩
                        case measure => simp [intOf]; omega
                    · skip
                      have hD := hD0.1 (by omega)
                      clear hD0
                      go_wp2_with (at_builtin; go_must (refine wpList_appS rfl _ (.tmp 52) 49 rfl w0.heap.size i9 Tryz.underlying49 h9 hz90 hz91 hz92 _ _ (p + 1) (SL.take p ++ [x.nm.data.toList]) (SL.drop p) rfl OE2 rfl hD hql hN0 ?next))
                      case next =>
                        intro u wz ho3 hB3 _
                        have B3 := BW.trans (hB3.mono B.size)
                        have ho4 : wz.ownsRow w.heap.size 9 1 u (namesL (es.take (k + 1))).length ((sortL (namesL (es.take (k + 1)))).map encStr) := by
                          have e1 : (namesL (es.take (k + 1))).length = p + 1 + (SL.drop p).length := by
                            rw [HT2.out, hL9.out]; simp; omega
                          rw [HI'.out, e1]
                          have ho5 := own_mono1 ho3 B.size
                          simpa using ho5
                        clear ho3 hB3 hD OE2
                        go_wp2_with fail
                        go_roundw
                        case rel => exact ⟨k + 1, by omega, by go_num, B3, ho4⟩
                        case measure => simp [intOf]; omega
                  · skip
                    go_simp
                    have cc2 : Below W1.heap.size W1 (W1.alloc (.cells #[.string x.nm] 9)) := (Below.refl _ _).alloc (Nat.le_refl _) _
                    have bb2 : Below w0.heap.size w0 (W1.alloc (.cells #[.string x.nm] 9)) := bb1.alloc bb1.size (.cells #[.string x.nm] 9)
                    have OA := own_kept1 OA cc2
                    have SD := Ss.one W1 x.nm
                    have sz2 : Hid ((W1.alloc (.cells #[.string x.nm] 9)).heap.size = W1.heap.size + 1) := by simp [Hid]
                    have hT := hT.below cc2
                    refine hK.out _ _ ((Chg.ofBelowC cc2).cell hHeld (fun h => h)) (fun hHeld => ?_)
                    clear hK K cc2
                    generalize W1.alloc (.cells #[.string x.nm] 9) = W2 at *
                    refine wpAnyH_ready (rs := [4]) (by kernel_rfl) (by simp) ?_
                    refine AllReadyH.cons rfl (fun K hK => ?_) AllReadyH.nil
                    refine step_appS (by rfl) _ _ 49 (by rfl) w0.heap.size i9 Tryz.underlying49 h9 hz90 hz91 hz92 _ _ 0 [] (SL.take p) (by rfl) OA (by rfl) hT (by simp; omega) bb2.size ?_
                    intro vC W3 OC bc3 ch3
                    have bb3 := bb2.trans bc3
                    have SD := SD.far ch3 (fun e => by have hs := sz1.out; simp [Value.ownBlock] at e; omega)
                    refine hK.out _ _ ((Chg.ofBelowC (Below.trans (Below.refl _ _) bb3)).cell c1 (fun h => h)) (fun hHeld => ?_)
                    clear hK K bc3 ch3 OA
                    simp only [List.getElem_toArray, List.getElem_cons_succ, List.getElem_cons_zero, Act.put, List.setIfInBounds_toArray, List.set_cons_zero, List.set_cons_succ]
                    refine wpAnyH_ready (rs := [11]) (by kernel_rfl) (by simp) ?_
                    refine AllReadyH.cons rfl (fun K hK => ?_) AllReadyH.nil
                    refine step_appS (by rfl) _ _ 49 (by rfl) w0.heap.size i9 Tryz.underlying49 h9 hz90 hz91 hz92 _ _ _ ([] ++ SL.take p) [x.nm.data.toList] (by rfl) OC (by rfl) SD (by simp; omega) bb3.size ?_
                    intro vE W4 OE bc4 ch4
                    have bb4 := bb3.trans bc4
                    refine hK.out _ _ ((Chg.ofBelowC (Below.trans (Below.refl _ _) bb4)).cell c1 (fun h => h)) (fun hHeld => ?_)
                    clear hK K bc4 ch4 OC SD
                    simp only [List.getElem_toArray, List.getElem_cons_succ, List.getElem_cons_zero, Act.put, List.setIfInBounds_toArray, List.set_cons_zero, List.set_cons_succ]
                    refine wpAnyH_take (i := 12) (v := ?_) rfl (by kernel_rfl) (by kernel_rfl) (by kernel_rfl) (fun _ _ _ h => h) (Or.inl ⟨by rfl, ?_⟩) hHeld ?_
                    rotate_left
                    · (intro w hSw; (try dsimp only at hSw); go_simp; try with_reducible rfl)
                    simp only [List.getElem_toArray, List.getElem_cons_succ, List.getElem_cons_zero, Act.put, List.setIfInBounds_toArray, List.set_cons_zero, List.set_cons_succ]
                    refine wpAnyH_done (by kernel_rfl) ?_ _
                    have hD0 := (Ss.ofOwns (own_kept1 ho bb4)).drop' hSl.out p hp
                    have OE2 : W4.ownsRow w0.heap.size 9 1 vE (p + 1) ((SL.take p ++ [x.nm.data.toList]).map encStr) := by
                      have hl9 : (SL.take p).length = p := by have := hSl.out; simp; omega
                      rw [hl9] at OE
                      simpa using OE
                    have HI := sortL_insert L0 x.nm.data.toList p (by rw [hSL.out, hSl.out]; exact hp) (by rw [hSL.out]; exact HJ.out) (by rw [hSL.out]; exact hj2.out)
                    rw [hSL.out, ← HT2.out] at HI
                    have HI' : Hid _ := HI
                    have BW := B.trans (bb4.mono B.size)
                    have hql : ((SL.take p ++ [x.nm.data.toList]).length + (SL.drop p).length ≤ 1099511627776) := by have := hSl.out; simp; omega
                    have hN0 := bb4.size
                    have hpp : (p : Int) ≤ L0.length := by omega
                    have hlc : (L0.length : Int) ≤ cap := by omega
                    have hL9 : Hid ((SL.drop p).length = L0.length - p) := by have := hSl.out; simp [Hid]; omega
                    clear HI OE hHeld HJ hj2 hT cx
                    have hlcN : ¬ cap < L0.length := by omega
                    by_cases hcp : cap = p
                    · have hLp : L0.length = p := by omega
                      have hD := hD0.2 hcp
                      clear hD0
                      go_wp2_with (at_builtin; go_must (refine wpList_appS rfl _ (.tmp 52) 49 rfl w0.heap.size i9 Tryz.underlying49 h9 hz90 hz91 hz92 _ _ (p + 1) (SL.take p ++ [x.nm.data.toList]) (SL.drop p) rfl OE2 rfl (hD _) hql hN0 ?next))
                      case next =>
                        intro u wz ho3 hB3 _
                        have B3 := BW.trans (hB3.mono B.size)
                        have ho4 : wz.ownsRow w.heap.size 9 1 u (namesL (es.take (k + 1))).length ((sortL (namesL (es.take (k + 1)))).map encStr) := by
                          have e1 : (namesL (es.take (k + 1))).length = p + 1 + (SL.drop p).length := by
                            rw [HT2.out, hL9.out]; simp; omega
                          rw [HI'.out, e1]
                          have ho5 := own_mono1 ho3 B.size
                          simpa using ho5
                        clear ho3 hB3 hD OE2
                        go_wp2_with fail
                        go_roundw
                        case rel => exact ⟨k + 1, by omega, by go_num, B3, ho4⟩
                        case measure => simp [intOf]; omega
                    · skip
                      have hD := hD0.1 (by omega)
                      clear hD0
                      go_wp2_with (at_builtin; go_must (refine wpList_appS rfl _ (.tmp 52) 49 rfl w0.heap.size i9 Tryz.underlying49 h9 hz90 hz91 hz92 _ _ (p + 1) (SL.take p ++ [x.nm.data.toList]) (SL.drop p) rfl OE2 rfl hD hql hN0 ?next))
                      case next =>
                        intro u wz ho3 hB3 _
                        have B3 := BW.trans (hB3.mono B.size)
                        have ho4 : wz.ownsRow w.heap.size 9 1 u (namesL (es.take (k + 1))).length ((sortL (namesL (es.take (k + 1)))).map encStr) := by
                          have e1 : (namesL (es.take (k + 1))).length = p + 1 + (SL.drop p).length := by
                            rw [HT2.out, hL9.out]; simp; omega
                          rw [HI'.out, e1]
                          have ho5 := own_mono1 ho3 B.size
                          simpa using ho5
                        clear ho3 hB3 hD OE2
                        go_wp2_with fail
                        go_roundw
                        case rel => exact ⟨k + 1, by omega, by go_num, B3, ho4⟩
                        case measure => simp [intOf]; omega
                · skip
                  go_simp
                  have cc1 : Below V0.heap.size V0 (V0.alloc (.cells #[.string x.nm] 9)) := (Below.refl _ _).alloc (Nat.le_refl _) _
                  have bb1 : Below w0.heap.size w0 (V0.alloc (.cells #[.string x.nm] 9)) := bb0.alloc bb0.size (.cells #[.string x.nm] 9)
                  have SD := Ss.one V0 x.nm
                  have sz1 : Hid ((V0.alloc (.cells #[.string x.nm] 9)).heap.size = V0.heap.size + 1) := by simp [Hid]
                  have hT := hT.below cc1
                  refine hK.out _ _ ((Chg.ofBelowC cc1).cell hHeld (fun h => h)) (fun hHeld => ?_)
                  clear hK K cc1
                  generalize V0.alloc (.cells #[.string x.nm] 9) = W1 at *
                  refine wpAnyH_ready (rs := [0]) (by kernel_rfl) (by simp) ?_
                  refine AllReadyH.cons rfl (fun K hK => ?_) AllReadyH.nil
                  go_simp
                  have cc2 : Below W1.heap.size W1 (W1.alloc (.cells #[] 9)) := (Below.refl _ _).alloc (Nat.le_refl _) _
                  have bb2 : Below w0.heap.size w0 (W1.alloc (.cells #[] 9)) := bb1.alloc bb1.size (.cells #[] 9)
                  have SD := SD.below cc2
                  have OA := lit_ownS W1 w0.heap.size bb1.size
                  have sz2 : Hid ((W1.alloc (.cells #[] 9)).heap.size = W1.heap.size + 1) := by simp [Hid]
                  have hT := hT.below cc2
                  refine hK.out _ _ ((Chg.ofBelowC cc2).cell hHeld (fun h => h)) (fun hHeld => ?_)
                  clear hK K cc2
                  generalize W1.alloc (.cells #[] 9) = W2 at *
                  refine wpAnyH_ready (rs := [4]) (by kernel_rfl) (by simp) ?_
                  refine AllReadyH.cons rfl (fun K hK => ?_) AllReadyH.nil
                  refine step_appS (by rfl) _ _ 49 (by rfl) w0.heap.size i9 Tryz.underlying49 h9 hz90 hz91 hz92 _ _ 0 [] (SL.take p) (by rfl) OA (by rfl) hT (by simp; omega) bb2.size ?_
                  intro vC W3 OC bc3 ch3
                  have bb3 := bb2.trans bc3
                  have SD := SD.far ch3 (fun e => by have hs := sz1.out; simp [Value.ownBlock] at e; omega)
                  refine hK.out _ _ ((Chg.ofBelowC (Below.trans (Below.refl _ _) bb3)).cell c1 (fun h => h)) (fun hHeld => ?_)
                  clear hK K bc3 ch3 OA
                  simp only [List.getElem_toArray, List.getElem_cons_succ, List.getElem_cons_zero, Act.put, List.setIfInBounds_toArray, List.set_cons_zero, List.set_cons_succ]
                  refine wpAnyH_ready (rs := [11]) (by kernel_rfl) (by simp) ?_
                  refine AllReadyH.cons rfl (fun K hK => ?_) AllReadyH.nil
                  refine step_appS (by rfl) _ _ 49 (by rfl) w0.heap.size i9 Tryz.underlying49 h9 hz90 hz91 hz92 _ _ _ ([] ++ SL.take p) [x.nm.data.toList] (by rfl) OC (by rfl) SD (by simp; omega) bb3.size ?_
                  intro vE W4 OE bc4 ch4
                  have bb4 := bb3.trans bc4
                  refine hK.out _ _ ((Chg.ofBelowC (Below.trans (Below.refl _ _) bb4)).cell c1 (fun h => h)) (fun hHeld => ?_)
                  clear hK K bc4 ch4 OC SD
                  simp only [List.getElem_toArray, List.getElem_cons_succ, List.getElem_cons_zero, Act.put, List.setIfInBounds_toArray, List.set_cons_zero, List.set_cons_succ]
                  refine wpAnyH_take (i := 12) (v := ?_) rfl (by kernel_rfl) (by kernel_rfl) (by kernel_rfl) (fun _ _ _ h => h) (Or.inl ⟨by rfl, ?_⟩) hHeld ?_
                  rotate_left
                  · (intro w hSw; (try dsimp only at hSw); go_simp; try with_reducible rfl)
                  simp only [List.getElem_toArray, List.getElem_cons_succ, List.getElem_cons_zero, Act.put, List.setIfInBounds_toArray, List.set_cons_zero, List.set_cons_succ]
                  refine wpAnyH_done (by kernel_rfl) ?_ _
                  have hD0 := (Ss.ofOwns (own_kept1 ho bb4)).drop' hSl.out p hp
                  have OE2 : W4.ownsRow w0.heap.size 9 1 vE (p + 1) ((SL.take p ++ [x.nm.data.toList]).map encStr) := by
                    have hl9 : (SL.take p).length = p := by have := hSl.out; simp; omega
                    rw [hl9] at OE
                    simpa using OE
                  have HI := sortL_insert L0 x.nm.data.toList p (by rw [hSL.out, hSl.out]; exact hp) (by rw [hSL.out]; exact HJ.out) (by rw [hSL.out]; exact hj2.out)
                  rw [hSL.out, ← HT2.out] at HI
                  have HI' : Hid _ := HI
                  have BW := B.trans (bb4.mono B.size)
                  have hql : ((SL.take p ++ [x.nm.data.toList]).length + (SL.drop p).length ≤ 1099511627776) := by have := hSl.out; simp; omega
                  have hN0 := bb4.size
                  have hpp : (p : Int) ≤ L0.length := by omega
                  have hlc : (L0.length : Int) ≤ cap := by omega
                  have hL9 : Hid ((SL.drop p).length = L0.length - p) := by have := hSl.out; simp [Hid]; omega
                  clear HI OE hHeld HJ hj2 hT cx
                  have hlcN : ¬ cap < L0.length := by omega
                  by_cases hcp : cap = p
                  · have hLp : L0.length = p := by omega
                    have hD := hD0.2 hcp
                    clear hD0
                    go_wp2_with (at_builtin; go_must (refine wpList_appS rfl _ (.tmp 52) 49 rfl w0.heap.size i9 Tryz.underlying49 h9 hz90 hz91 hz92 _ _ (p + 1) (SL.take p ++ [x.nm.data.toList]) (SL.drop p) rfl OE2 rfl (hD _) hql hN0 ?next))
                    case next =>
                      intro u wz ho3 hB3 _
                      have B3 := BW.trans (hB3.mono B.size)
                      have ho4 : wz.ownsRow w.heap.size 9 1 u (namesL (es.take (k + 1))).length ((sortL (namesL (es.take (k + 1)))).map encStr) := by
                        have e1 : (namesL (es.take (k + 1))).length = p + 1 + (SL.drop p).length := by
                          rw [HT2.out, hL9.out]; simp; omega
                        rw [HI'.out, e1]
                        have ho5 := own_mono1 ho3 B.size
                        simpa using ho5
                      clear ho3 hB3 hD OE2
                      go_wp2_with fail
                      go_roundw
                      case rel => exact ⟨k + 1, by omega, by go_num, B3, ho4⟩
                      case measure => simp [intOf]; omega
                  · skip
                    have hD := hD0.1 (by omega)
                    clear hD0
                    go_wp2_with (at_builtin; go_must (refine wpList_appS rfl _ (.tmp 52) 49 rfl w0.heap.size i9 Tryz.underlying49 h9 hz90 hz91 hz92 _ _ (p + 1) (SL.take p ++ [x.nm.data.toList]) (SL.drop p) rfl OE2 rfl hD hql hN0 ?next))
                    case next =>
                      intro u wz ho3 hB3 _
                      have B3 := BW.trans (hB3.mono B.size)
                      have ho4 : wz.ownsRow w.heap.size 9 1 u (namesL (es.take (k + 1))).length ((sortL (namesL (es.take (k + 1)))).map encStr) := by
                        have e1 : (namesL (es.take (k + 1))).length = p + 1 + (SL.drop p).length := by
                          rw [HT2.out, hL9.out]; simp; omega
                        rw [HI'.out, e1]
                        have ho5 := own_mono1 ho3 B.size
                        simpa using ho5
                      clear ho3 hB3 hD OE2
                      go_wp2_with fail
                      go_roundw
                      case rel => exact ⟨k + 1, by omega, by go_num, B3, ho4⟩
                      case measure => simp [intOf]; omega
            · have q2 : ¬ (p : Int) < L0.length := by omega
              have hj2 : Hid (p < SL.length → ¬ SL.getD p [] < x.nm.data.toList) := fun h => by have := hSl.out; omega
              go_wp2_with fail
              go_quiet (fail)
              have bb0 : RowKit.Below w0.heap.size w0 (wr.drewN nq).drew := below_dr9 (B1.trans ((Chg.drewN (fun _ => False) wr _).below B1.size (fun _ h => h.elim)))
              have cx := (Chg.ofBelowC bb0).cell c1 (fun h => h)
              have hT := ((Ss.ofOwns (own_kept1 ho bb0)).take' hSl.out p hp)
              clear hU c1' ho'
              go_wp2_with fail
              refine wp_region_held_drew (S := (fun w' => w'.cell? ⟨b, off + k * 2, none⟩ = some (.string x.nm))) (by kernel_rfl) cx (fun hHeld => ?_)
              generalize (wr.drewN nq).drew = V0 at *
              refine wpAnyH_take (i := 1) (v := ?_) rfl (by kernel_rfl) (by kernel_rfl) (by kernel_rfl) (fun _ _ _ h => h) (Or.inl ⟨by rfl, ?_⟩) hHeld ?_
              rotate_left
              · (intro w hSw; (try dsimp only at hSw); go_simp; try with_reducible rfl)
              simp only [List.getElem_toArray, List.getElem_cons_succ, List.getElem_cons_zero, Act.put, List.setIfInBounds_toArray, List.set_cons_zero, List.set_cons_succ]
              refine wpAnyH_take (i := 2) (v := ?_) rfl (by kernel_rfl) (by kernel_rfl) (by kernel_rfl) (fun _ _ _ h => h) (Or.inl ⟨by rfl, ?_⟩) hHeld ?_
              rotate_left
              · (intro w hSw; (try dsimp only at hSw); go_simp; try with_reducible rfl)
              simp only [List.getElem_toArray, List.getElem_cons_succ, List.getElem_cons_zero, Act.put, List.setIfInBounds_toArray, List.set_cons_zero, List.set_cons_succ]
              refine wpAnyH_take (i := 3) (v := ?_) rfl (by kernel_rfl) (by kernel_rfl) (by kernel_rfl) (fun _ _ _ h => h) (Or.inl ⟨by rfl, ?_⟩) hHeld ?_
              rotate_left
              · (intro w hSw; (try dsimp only at hSw); go_simp; try with_reducible rfl)
              simp only [List.getElem_toArray, List.getElem_cons_succ, List.getElem_cons_zero, Act.put, List.setIfInBounds_toArray, List.set_cons_zero, List.set_cons_succ]
              refine wpAnyH_take (i := 5) (v := ?_) rfl (by kernel_rfl) (by kernel_rfl) (by kernel_rfl) (fun _ _ _ h => h) (Or.inl ⟨by rfl, ?_⟩) hHeld ?_
              rotate_left
              · (intro w hSw; (try dsimp only at hSw); go_simp; try with_reducible rfl)
              simp only [List.getElem_toArray, List.getElem_cons_succ, List.getElem_cons_zero, Act.put, List.setIfInBounds_toArray, List.set_cons_zero, List.set_cons_succ]
              refine wpAnyH_take (i := 6) (v := ?_) rfl (by kernel_rfl) (by kernel_rfl) (by kernel_rfl) (fun _ _ _ h => h) (Or.inl ⟨by rfl, ?_⟩) hHeld ?_
              rotate_left
              · (intro w hSw; (try dsimp only at hSw); go_simp; try with_reducible rfl)
              simp only [List.getElem_toArray, List.getElem_cons_succ, List.getElem_cons_zero, Act.put, List.setIfInBounds_toArray, List.set_cons_zero, List.set_cons_succ]
              refine wpAnyH_take (i := 7) (v := ?_) rfl (by kernel_rfl) (by kernel_rfl) (by kernel_rfl) (fun _ _ _ h => h) (Or.inl ⟨by rfl, ?_⟩) hHeld ?_
              rotate_left
              · (intro w hSw; (try dsimp only at hSw); go_simp; try with_reducible rfl)
              simp only [List.getElem_toArray, List.getElem_cons_succ, List.getElem_cons_zero, Act.put, List.setIfInBounds_toArray, List.set_cons_zero, List.set_cons_succ]
              refine wpAnyH_take (i := 8) (v := ?_) rfl (by kernel_rfl) (by kernel_rfl) (by kernel_rfl) (fun _ _ _ h => h) (Or.inl ⟨by rfl, ?_⟩) hHeld ?_
              rotate_left
              · (intro w hSw; (try dsimp only at hSw); go_simp; try with_reducible rfl)
              simp only [List.getElem_toArray, List.getElem_cons_succ, List.getElem_cons_zero, Act.put, List.setIfInBounds_toArray, List.set_cons_zero, List.set_cons_succ]
              refine wpAnyH_take (i := 9) (v := ?_) rfl (by kernel_rfl) (by kernel_rfl) (by kernel_rfl) (fun _ _ _ h => h) (Or.inl ⟨by rfl, ?_⟩) hHeld ?_
              rotate_left
              · (intro w hSw; (try dsimp only at hSw); go_simp; try with_reducible rfl)
              simp only [List.getElem_toArray, List.getElem_cons_succ, List.getElem_cons_zero, Act.put, List.setIfInBounds_toArray, List.set_cons_zero, List.set_cons_succ]
              refine wpAnyH_ready (rs := [0, 10]) (by kernel_rfl) (by simp) ?_
              refine AllReadyH.cons rfl (fun K hK => ?_) (AllReadyH.cons rfl (fun K hK => ?_) AllReadyH.nil)
              · skip
                go_simp
                have cc1 : Below V0.heap.size V0 (V0.alloc (.cells #[] 9)) := (Below.refl _ _).alloc (Nat.le_refl _) _
                have bb1 : Below w0.heap.size w0 (V0.alloc (.cells #[] 9)) := bb0.alloc bb0.size (.cells #[] 9)
                have OA := lit_ownS V0 w0.heap.size bb0.size
                have sz1 : Hid ((V0.alloc (.cells #[] 9)).heap.size = V0.heap.size + 1) := by simp [Hid]
                have hT := hT.below cc1
                refine hK.out _ _ ((Chg.ofBelowC cc1).cell hHeld (fun h => h)) (fun hHeld => ?_)
                clear hK K cc1
                generalize V0.alloc (.cells #[] 9) = W1 at *
                refine wpAnyH_ready (rs := [4, 10]) (by kernel_rfl) (by simp) ?_
                refine AllReadyH.cons rfl (fun K hK => ?_) (AllReadyH.cons rfl (fun K hK => ?_) AllReadyH.nil)
                · skip
                  refine step_appS (by rfl) _ _ 49 (by rfl) w0.heap.size i9 Tryz.underlying49 h9 hz90 hz91 hz92 _ _ 0 [] (SL.take p) (by rfl) OA (by rfl) hT (by simp; omega) bb1.size ?_
                  intro vC W2 OC bc2 ch2
                  have bb2 := bb1.trans bc2
                  refine hK.out _ _ ((Chg.ofBelowC (Below.trans (Below.refl _ _) bb2)).cell c1 (fun h => h)) (fun hHeld => ?_)
                  clear hK K bc2 ch2 OA
                  simp only [List.getElem_toArray, List.getElem_cons_succ, List.getElem_cons_zero, Act.put, List.setIfInBounds_toArray, List.set_cons_zero, List.set_cons_succ]
                  refine wpAnyH_ready (rs := [10]) (by kernel_rfl) (by simp) ?_
                  refine AllReadyH.cons rfl (fun K hK => ?_) AllReadyH.nil
                  go_simp
                  have cc3 : Below W2.heap.size W2 (W2.alloc (.cells #[.string x.nm] 9)) := (Below.refl _ _).alloc (Nat.le_refl _) _
                  have bb3 : Below w0.heap.size w0 (W2.alloc (.cells #[.string x.nm] 9)) := bb2.alloc bb2.size (.cells #[.string x.nm] 9)
                  have OC := own_kept1 OC cc3
                  have SD := Ss.one W2 x.nm
                  have sz3 : Hid ((W2.alloc (.cells #[.string x.nm] 9)).heap.size = W2.heap.size + 1) := by simp [Hid]
                  refine hK.out _ _ ((Chg.ofBelowC cc3).cell hHeld (fun h => h)) (fun hHeld => ?_)
                  clear hK K cc3
                  generalize W2.alloc (.cells #[.string x.nm] 9) = W3 at *
                  refine wpAnyH_ready (rs := [11]) (by kernel_rfl) (by simp) ?_
                  refine AllReadyH.cons rfl (fun K hK => ?_) AllReadyH.nil
                  refine step_appS (by rfl) _ _ 49 (by rfl) w0.heap.size i9 Tryz.underlying49 h9 hz90 hz91 hz92 _ _ _ ([] ++ SL.take p) [x.nm.data.toList] (by rfl) OC (by rfl) SD (by simp; omega) bb3.size ?_
                  intro vE W4 OE bc4 ch4
                  have bb4 := bb3.trans bc4
                  refine hK.out _ _ ((Chg.ofBelowC (Below.trans (Below.refl _ _) bb4)).cell c1 (fun h => h)) (fun hHeld => ?_)
                  clear hK K bc4 ch4 OC SD
                  simp only [List.getElem_toArray, List.getElem_cons_succ, List.getElem_cons_zero, Act.put, List.setIfInBounds_toArray, List.set_cons_zero, List.set_cons_succ]
                  refine wpAnyH_take (i := 12) (v := ?_) rfl (by kernel_rfl) (by kernel_rfl) (by kernel_rfl) (fun _ _ _ h => h) (Or.inl ⟨by rfl, ?_⟩) hHeld ?_
                  rotate_left
                  · (intro w hSw; (try dsimp only at hSw); go_simp; try with_reducible rfl)
                  simp only [List.getElem_toArray, List.getElem_cons_succ, List.getElem_cons_zero, Act.put, List.setIfInBounds_toArray, List.set_cons_zero, List.set_cons_succ]
                  refine wpAnyH_done (by kernel_rfl) ?_ _
                  have hD0 := (Ss.ofOwns (own_kept1 ho bb4)).drop' hSl.out p hp
                  have OE2 : W4.ownsRow w0.heap.size 9 1 vE (p + 1) ((SL.take p ++ [x.nm.data.toList]).map encStr) := by
                    have hl9 : (SL.take p).length = p := by have := hSl.out; simp; omega
                    rw [hl9] at OE
                    simpa using OE
                  have HI := sortL_insert L0 x.nm.data.toList p (by rw [hSL.out, hSl.out]; exact hp) (by rw [hSL.out]; exact HJ.out) (by rw [hSL.out]; exact hj2.out)
                  rw [hSL.out, ← HT2.out] at HI
                  have HI' : Hid _ := HI
                  have BW := B.trans (bb4.mono B.size)
                  have hql : ((SL.take p ++ [x.nm.data.toList]).length + (SL.drop p).length ≤ 1099511627776) := by have := hSl.out; simp; omega
                  have hN0 := bb4.size
                  have hpp : (p : Int) ≤ L0.length := by omega
                  have hlc : (L0.length : Int) ≤ cap := by omega
                  have hL9 : Hid ((SL.drop p).length = L0.length - p) := by have := hSl.out; simp [Hid]; omega
                  clear HI OE hHeld HJ hj2 hT cx
                  have hlcN : ¬ cap < L0.length := by omega
                  by_cases hcp : cap = p
                  · have hLp : L0.length = p := by omega
                    have hD := hD0.2 hcp
                    clear hD0
                    go_wp2_with (at_builtin; go_must (refine wpList_appS rfl _ (.tmp 52) 49 rfl w0.heap.size i9 Tryz.underlying49 h9 hz90 hz91 hz92 _ _ (p + 1) (SL.take p ++ [x.nm.data.toList]) (SL.drop p) rfl OE2 rfl (hD _) hql hN0 ?next))
                    case next =>
                      intro u wz ho3 hB3 _
                      have B3 := BW.trans (hB3.mono B.size)
                      have ho4 : wz.ownsRow w.heap.size 9 1 u (namesL (es.take (k + 1))).length ((sortL (namesL (es.take (k + 1)))).map encStr) := by
                        have e1 : (namesL (es.take (k + 1))).length = p + 1 + (SL.drop p).length := by
                          rw [HT2.out, hL9.out]; simp; omega
                        rw [HI'.out, e1]
                        have ho5 := own_mono1 ho3 B.size
                        simpa using ho5
                      clear ho3 hB3 hD OE2
                      go_wp2_with fail
                      go_roundw
                      case rel => exact ⟨k + 1, by omega, by go_num, B3, ho4⟩
                      case measure => simp [intOf]; omega
                  · skip
                    have hD := hD0.1 (by omega)
                    clear hD0
                    go_wp2_with (at_builtin; go_must (refine wpList_appS rfl _ (.tmp 52) 49 rfl w0.heap.size i9 Tryz.underlying49 h9 hz90 hz91 hz92 _ _ (p + 1) (SL.take p ++ [x.nm.data.toList]) (SL.drop p) rfl OE2 rfl hD hql hN0 ?next))
                    case next =>
                      intro u wz ho3 hB3 _
                      have B3 := BW.trans (hB3.mono B.size)
                      have ho4 : wz.ownsRow w.heap.size 9 1 u (namesL (es.take (k + 1))).length ((sortL (namesL (es.take (k + 1)))).map encStr) := by
                        have e1 : (namesL (es.take (k + 1))).length = p + 1 + (SL.drop p).length := by
                          rw [HT2.out, hL9.out]; simp; omega
                        rw [HI'.out, e1]
                        have ho5 := own_mono1 ho3 B.size
                        simpa using ho5
                      clear ho3 hB3 hD OE2
                      go_wp2_with fail
                      go_roundw
                      case rel => exact ⟨k + 1, by omega, by go_num, B3, ho4⟩
                      case measure => simp [intOf]; omega
                · skip
                  go_simp
                  have cc2 : Below W1.heap.size W1 (W1.alloc (.cells #[.string x.nm] 9)) := (Below.refl _ _).alloc (Nat.le_refl _) _
                  have bb2 : Below w0.heap.size w0 (W1.alloc (.cells #[.string x.nm] 9)) := bb1.alloc bb1.size (.cells #[.string x.nm] 9)
                  have OA := own_kept1 OA cc2
                  have SD := Ss.one W1 x.nm
                  have sz2 : Hid ((W1.alloc (.cells #[.string x.nm] 9)).heap.size = W1.heap.size + 1) := by simp [Hid]
                  have hT := hT.below cc2
                  refine hK.out _ _ ((Chg.ofBelowC cc2).cell hHeld (fun h => h)) (fun hHeld => ?_)
                  clear hK K cc2
                  generalize W1.alloc (.cells #[.string x.nm] 9) = W2 at *
                  refine wpAnyH_ready (rs := [4]) (by kernel_rfl) (by simp) ?_
                  refine AllReadyH.cons rfl (fun K hK => ?_) AllReadyH.nil
                  refine step_appS (by rfl) _ _ 49 (by rfl) w0.heap.size i9 Tryz.underlying49 h9 hz90 hz91 hz92 _ _ 0 [] (SL.take p) (by rfl) OA (by rfl) hT (by simp; omega) bb2.size ?_
                  intro vC W3 OC bc3 ch3
                  have bb3 := bb2.trans bc3
                  have SD := SD.far ch3 (fun e => by have hs := sz1.out; simp [Value.ownBlock] at e; omega)
                  refine hK.out _ _ ((Chg.ofBelowC (Below.trans (Below.refl _ _) bb3)).cell c1 (fun h => h)) (fun hHeld => ?_)
                  clear hK K bc3 ch3 OA
                  simp only [List.getElem_toArray, List.getElem_cons_succ, List.getElem_cons_zero, Act.put, List.setIfInBounds_toArray, List.set_cons_zero, List.set_cons_succ]
                  refine wpAnyH_ready (rs := [11]) (by kernel_rfl) (by simp) ?_
                  refine AllReadyH.cons rfl (fun K hK => ?_) AllReadyH.nil
                  refine step_appS (by rfl) _ _ 49 (by rfl) w0.heap.size i9 Tryz.underlying49 h9 hz90 hz91 hz92 _ _ _ ([] ++ SL.take p) [x.nm.data.toList] (by rfl) OC (by rfl) SD (by simp; omega) bb3.size ?_
                  intro vE W4 OE bc4 ch4
                  have bb4 := bb3.trans bc4
                  refine hK.out _ _ ((Chg.ofBelowC (Below.trans (Below.refl _ _) bb4)).cell c1 (fun h => h)) (fun hHeld => ?_)
                  clear hK K bc4 ch4 OC SD
                  simp only [List.getElem_toArray, List.getElem_cons_succ, List.getElem_cons_zero, Act.put, List.setIfInBounds_toArray, List.set_cons_zero, List.set_cons_succ]
                  refine wpAnyH_take (i := 12) (v := ?_) rfl (by kernel_rfl) (by kernel_rfl) (by kernel_rfl) (fun _ _ _ h => h) (Or.inl ⟨by rfl, ?_⟩) hHeld ?_
                  rotate_left
                  · (intro w hSw; (try dsimp only at hSw); go_simp; try with_reducible rfl)
                  simp only [List.getElem_toArray, List.getElem_cons_succ, List.getElem_cons_zero, Act.put, List.setIfInBounds_toArray, List.set_cons_zero, List.set_cons_succ]
                  refine wpAnyH_done (by kernel_rfl) ?_ _
                  have hD0 := (Ss.ofOwns (own_kept1 ho bb4)).drop' hSl.out p hp
                  have OE2 : W4.ownsRow w0.heap.size 9 1 vE (p + 1) ((SL.take p ++ [x.nm.data.toList]).map encStr) := by
                    have hl9 : (SL.take p).length = p := by have := hSl.out; simp; omega
                    rw [hl9] at OE
                    simpa using OE
                  have HI := sortL_insert L0 x.nm.data.toList p (by rw [hSL.out, hSl.out]; exact hp) (by rw [hSL.out]; exact HJ.out) (by rw [hSL.out]; exact hj2.out)
                  rw [hSL.out, ← HT2.out] at HI
                  have HI' : Hid _ := HI
                  have BW := B.trans (bb4.mono B.size)
                  have hql : ((SL.take p ++ [x.nm.data.toList]).length + (SL.drop p).length ≤ 1099511627776) := by have := hSl.out; simp; omega
                  have hN0 := bb4.size
                  have hpp : (p : Int) ≤ L0.length := by omega
                  have hlc : (L0.length : Int) ≤ cap := by omega
                  have hL9 : Hid ((SL.drop p).length = L0.length - p) := by have := hSl.out; simp [Hid]; omega
                  clear HI OE hHeld HJ hj2 hT cx
                  have hlcN : ¬ cap < L0.length := by omega
                  by_cases hcp : cap = p
                  · have hLp : L0.length = p := by omega
                    have hD := hD0.2 hcp
                    clear hD0
                    go_wp2_with (at_builtin; go_must (refine wpList_appS rfl _ (.tmp 52) 49 rfl w0.heap.size i9 Tryz.underlying49 h9 hz90 hz91 hz92 _ _ (p + 1) (SL.take p ++ [x.nm.data.toList]) (SL.drop p) rfl OE2 rfl (hD _) hql hN0 ?next))
                    case next =>
                      intro u wz ho3 hB3 _
                      have B3 := BW.trans (hB3.mono B.size)
                      have ho4 : wz.ownsRow w.heap.size 9 1 u (namesL (es.take (k + 1))).length ((sortL (namesL (es.take (k + 1)))).map encStr) := by
                        have e1 : (namesL (es.take (k + 1))).length = p + 1 + (SL.drop p).length := by
                          rw [HT2.out, hL9.out]; simp; omega
                        rw [HI'.out, e1]
                        have ho5 := own_mono1 ho3 B.size
                        simpa using ho5
                      clear ho3 hB3 hD OE2
                      go_wp2_with fail
                      go_roundw
                      case rel => exact ⟨k + 1, by omega, by go_num, B3, ho4⟩
                      case measure => simp [intOf]; omega
                  · skip
                    have hD := hD0.1 (by omega)
                    clear hD0
                    go_wp2_with (at_builtin; go_must (refine wpList_appS rfl _ (.tmp 52) 49 rfl w0.heap.size i9 Tryz.underlying49 h9 hz90 hz91 hz92 _ _ (p + 1) (SL.take p ++ [x.nm.data.toList]) (SL.drop p) rfl OE2 rfl hD hql hN0 ?next))
                    case next =>
                      intro u wz ho3 hB3 _
                      have B3 := BW.trans (hB3.mono B.size)
                      have ho4 : wz.ownsRow w.heap.size 9 1 u (namesL (es.take (k + 1))).length ((sortL (namesL (es.take (k + 1)))).map encStr) := by
                        have e1 : (namesL (es.take (k + 1))).length = p + 1 + (SL.drop p).length := by
                          rw [HT2.out, hL9.out]; simp; omega
                        rw [HI'.out, e1]
                        have ho5 := own_mono1 ho3 B.size
                        simpa using ho5
                      clear ho3 hB3 hD OE2
                      go_wp2_with fail
                      go_roundw
                      case rel => exact ⟨k + 1, by omega, by go_num, B3, ho4⟩
                      case measure => simp [intOf]; omega
              · skip
                go_simp
                have cc1 : Below V0.heap.size V0 (V0.alloc (.cells #[.string x.nm] 9)) := (Below.refl _ _).alloc (Nat.le_refl _) _
                have bb1 : Below w0.heap.size w0 (V0.alloc (.cells #[.string x.nm] 9)) := bb0.alloc bb0.size (.cells #[.string x.nm] 9)
                have SD := Ss.one V0 x.nm
                have sz1 : Hid ((V0.alloc (.cells #[.string x.nm] 9)).heap.size = V0.heap.size + 1) := by simp [Hid]
                have hT := hT.below cc1
                refine hK.out _ _ ((Chg.ofBelowC cc1).cell hHeld (fun h => h)) (fun hHeld => ?_)
                clear hK K cc1
                generalize V0.alloc (.cells #[.string x.nm] 9) = W1 at *
                refine wpAnyH_ready (rs := [0]) (by kernel_rfl) (by simp) ?_
                refine AllReadyH.cons rfl (fun K hK => ?_) AllReadyH.nil
                go_simp
                have cc2 : Below W1.heap.size W1 (W1.alloc (.cells #[] 9)) := (Below.refl _ _).alloc (Nat.le_refl _) _
                have bb2 : Below w0.heap.size w0 (W1.alloc (.cells #[] 9)) := bb1.alloc bb1.size (.cells #[] 9)
                have SD := SD.below cc2
                have OA := lit_ownS W1 w0.heap.size bb1.size
                have sz2 : Hid ((W1.alloc (.cells #[] 9)).heap.size = W1.heap.size + 1) := by simp [Hid]
                have hT := hT.below cc2
                refine hK.out _ _ ((Chg.ofBelowC cc2).cell hHeld (fun h => h)) (fun hHeld => ?_)
                clear hK K cc2
                generalize W1.alloc (.cells #[] 9) = W2 at *
                refine wpAnyH_ready (rs := [4]) (by kernel_rfl) (by simp) ?_
                refine AllReadyH.cons rfl (fun K hK => ?_) AllReadyH.nil
                refine step_appS (by rfl) _ _ 49 (by rfl) w0.heap.size i9 Tryz.underlying49 h9 hz90 hz91 hz92 _ _ 0 [] (SL.take p) (by rfl) OA (by rfl) hT (by simp; omega) bb2.size ?_
                intro vC W3 OC bc3 ch3
                have bb3 := bb2.trans bc3
                have SD := SD.far ch3 (fun e => by have hs := sz1.out; simp [Value.ownBlock] at e; omega)
                refine hK.out _ _ ((Chg.ofBelowC (Below.trans (Below.refl _ _) bb3)).cell c1 (fun h => h)) (fun hHeld => ?_)
                clear hK K bc3 ch3 OA
                simp only [List.getElem_toArray, List.getElem_cons_succ, List.getElem_cons_zero, Act.put, List.setIfInBounds_toArray, List.set_cons_zero, List.set_cons_succ]
                refine wpAnyH_ready (rs := [11]) (by kernel_rfl) (by simp) ?_
                refine AllReadyH.cons rfl (fun K hK => ?_) AllReadyH.nil
                refine step_appS (by rfl) _ _ 49 (by rfl) w0.heap.size i9 Tryz.underlying49 h9 hz90 hz91 hz92 _ _ _ ([] ++ SL.take p) [x.nm.data.toList] (by rfl) OC (by rfl) SD (by simp; omega) bb3.size ?_
                intro vE W4 OE bc4 ch4
                have bb4 := bb3.trans bc4
                refine hK.out _ _ ((Chg.ofBelowC (Below.trans (Below.refl _ _) bb4)).cell c1 (fun h => h)) (fun hHeld => ?_)
                clear hK K bc4 ch4 OC SD
                simp only [List.getElem_toArray, List.getElem_cons_succ, List.getElem_cons_zero, Act.put, List.setIfInBounds_toArray, List.set_cons_zero, List.set_cons_succ]
                refine wpAnyH_take (i := 12) (v := ?_) rfl (by kernel_rfl) (by kernel_rfl) (by kernel_rfl) (fun _ _ _ h => h) (Or.inl ⟨by rfl, ?_⟩) hHeld ?_
                rotate_left
                · (intro w hSw; (try dsimp only at hSw); go_simp; try with_reducible rfl)
                simp only [List.getElem_toArray, List.getElem_cons_succ, List.getElem_cons_zero, Act.put, List.setIfInBounds_toArray, List.set_cons_zero, List.set_cons_succ]
                refine wpAnyH_done (by kernel_rfl) ?_ _
                have hD0 := (Ss.ofOwns (own_kept1 ho bb4)).drop' hSl.out p hp
                have OE2 : W4.ownsRow w0.heap.size 9 1 vE (p + 1) ((SL.take p ++ [x.nm.data.toList]).map encStr) := by
                  have hl9 : (SL.take p).length = p := by have := hSl.out; simp; omega
                  rw [hl9] at OE
                  simpa using OE
                have HI := sortL_insert L0 x.nm.data.toList p (by rw [hSL.out, hSl.out]; exact hp) (by rw [hSL.out]; exact HJ.out) (by rw [hSL.out]; exact hj2.out)
                rw [hSL.out, ← HT2.out] at HI
                have HI' : Hid _ := HI
                have BW := B.trans (bb4.mono B.size)
                have hql : ((SL.take p ++ [x.nm.data.toList]).length + (SL.drop p).length ≤ 1099511627776) := by have := hSl.out; simp; omega
                have hN0 := bb4.size
                have hpp : (p : Int) ≤ L0.length := by omega
                have hlc : (L0.length : Int) ≤ cap := by omega
                have hL9 : Hid ((SL.drop p).length = L0.length - p) := by have := hSl.out; simp [Hid]; omega
                clear HI OE hHeld HJ hj2 hT cx
                have hlcN : ¬ cap < L0.length := by omega
                by_cases hcp : cap = p
                · have hLp : L0.length = p := by omega
                  have hD := hD0.2 hcp
                  clear hD0
                  go_wp2_with (at_builtin; go_must (refine wpList_appS rfl _ (.tmp 52) 49 rfl w0.heap.size i9 Tryz.underlying49 h9 hz90 hz91 hz92 _ _ (p + 1) (SL.take p ++ [x.nm.data.toList]) (SL.drop p) rfl OE2 rfl (hD _) hql hN0 ?next))
                  case next =>
                    intro u wz ho3 hB3 _
                    have B3 := BW.trans (hB3.mono B.size)
                    have ho4 : wz.ownsRow w.heap.size 9 1 u (namesL (es.take (k + 1))).length ((sortL (namesL (es.take (k + 1)))).map encStr) := by
                      have e1 : (namesL (es.take (k + 1))).length = p + 1 + (SL.drop p).length := by
                        rw [HT2.out, hL9.out]; simp; omega
                      rw [HI'.out, e1]
                      have ho5 := own_mono1 ho3 B.size
                      simpa using ho5
                    clear ho3 hB3 hD OE2
                    go_wp2_with fail
                    go_roundw
                    case rel => exact ⟨k + 1, by omega, by go_num, B3, ho4⟩
                    case measure => simp [intOf]; omega
                · skip
                  have hD := hD0.1 (by omega)
                  clear hD0
                  go_wp2_with (at_builtin; go_must (refine wpList_appS rfl _ (.tmp 52) 49 rfl w0.heap.size i9 Tryz.underlying49 h9 hz90 hz91 hz92 _ _ (p + 1) (SL.take p ++ [x.nm.data.toList]) (SL.drop p) rfl OE2 rfl hD hql hN0 ?next))
                  case next =>
                    intro u wz ho3 hB3 _
                    have B3 := BW.trans (hB3.mono B.size)
                    have ho4 : wz.ownsRow w.heap.size 9 1 u (namesL (es.take (k + 1))).length ((sortL (namesL (es.take (k + 1)))).map encStr) := by
                      have e1 : (namesL (es.take (k + 1))).length = p + 1 + (SL.drop p).length := by
                        rw [HT2.out, hL9.out]; simp; omega
                      rw [HI'.out, e1]
                      have ho5 := own_mono1 ho3 B.size
                      simpa using ho5
                    clear ho3 hB3 hD OE2
                    go_wp2_with fail
                    go_roundw
                    case rel => exact ⟨k + 1, by omega, by go_num, B3, ho4⟩
                    case measure => simp [intOf]; omega
    · have q1 : ¬ (k : Int) < es.length := by omega
      have e8 : es.take k = es := List.take_of_length_le (by omega)
      rw [e8] at ho
      go_wp2_with fail
      go_ret
      exact ⟨_, rfl, ho, B⟩
end Go.Proofs.YtlnjnimenihhnaaGreatDoor

/-
  DirBytes.
-/
import Derived.Test.YtbhfmceapffhnaaDoorDRefRead
import Derived.Test.YtbhfmceapffhnaaDoorDSame
import Derived.Test.YtbhfmceapffhnaaDoorDKnown
namespace Go.Proofs.YtbhfmceapffhnaaDoor
open Go.RowKit

theorem tab_under {w w' : World} (h : Tab w) (hb : Below w.heap.size w w') : Tab w' := fun j hj => (Chg.ofBelowC hb).cell (h j hj) (fun h => h)
set_option maxHeartbeats 6400000 in
set_option maxRecDepth 100000 in
theorem law_bytes (x : En) (v1 v2 : Value) (b1 b2 : List Int) (w : World) (hT : Tab w) (h1 : Bs w v1 b1) (hB1 : IsB b1) (h2 : Bs w v2 b2) (hB2 : IsB b2) :
    Calls Tryd.prog 4 #[x.v, v1, v2] w fun e w' => e = .returned (.bool true) ∧ Chg (fun _ => False) w w' := by
  obtain ⟨a1, c1, rfl, _⟩ := h1.formC
  obtain ⟨a2, c2, rfl, _⟩ := h2.formC
  have fin : ∀ w', Below w.heap.size w w' → Hid (Chg (fun _ => False) w w') := fun w' h => Chg.ofBelowC h
  have B0 : Below w.heap.size w (w.alloc (.cells #[.string x.nm, .int .i64 x.ino] 57)) := (Below.refl _ _).alloc (Nat.le_refl _) _
  have E0 : EnB (w.alloc (.cells #[.string x.nm, .int .i64 x.ino] 57)) w.heap.size x := heap_alloc_new w _
  go_enter Tryd.func4, Tryd.ntmps4
  go_wp2_with fail
  generalize w.alloc (.cells #[.string x.nm, .int .i64 x.ino] 57) = w0 at *
  refine (known_any _).mono ?_
  rintro e w1 ⟨rfl, C1⟩
  have B1 := B0.trans (C1.mono B0.size)
  have E1 := E0.kept (Chg.ofBelowC C1) (fun h => h)
  have x0 := E1.c0
  have x1 := E1.c1
  clear C1 E0 B0
  by_cases g1 : 300 < x.nm.size
  · have k1 : 300 < (x.nm.size : Int) := by omega
    have H := fin _ B1
    go_wp2_with fail
    go_ret
    exact ⟨rfl, H.out⟩
  have k1 : ¬ (300 < (x.nm.size : Int)) := by omega
  by_cases g2 : 200 < b1.length
  · have k2 : 200 < (b1.length : Int) := by omega
    have H := fin _ B1
    go_wp2_with fail
    go_ret
    exact ⟨rfl, H.out⟩
  have k2 : ¬ (200 < (b1.length : Int)) := by omega
  by_cases g3 : 4096 < b2.length
  · have k3 : 4096 < (b2.length : Int) := by omega
    have H := fin _ B1
    go_wp2_with fail
    go_ret
    exact ⟨rfl, H.out⟩
  have k3 : ¬ (4096 < (b2.length : Int)) := by omega
  obtain ⟨nb, hnb⟩ : ∃ nb, Hid (nameB x.nm = nb) := ⟨_, rfl⟩
  have D0 : w1.drew.cell? ⟨w.heap.size, 0, none⟩ = some (.string x.nm) := x0
  have D1 : w1.drew.cell? ⟨w.heap.size, 1, none⟩ = some (.int .i64 x.ino) := x1
  have Bd := below_dr B1
  have Ed : EnB w1.drew w.heap.size x := E1
  obtain ⟨T, ENC, REN⟩ : ∃ T : ByteArray, Hid (∀ wb, Below w.heap.size w wb → Calls Tryd.prog 29 #[x.v] wb fun e w' => ∃ y, e = .returned y ∧ Hid (∀ w'', Below w'.heap.size w' w'' → (convert 52 9 y).run Tryd.prog w'' = .ok (.string T) w'') ∧ Below wb.heap.size wb w') ∧
      Hid (∀ wb, Below w.heap.size w wb → Calls Tryd.prog 30 #[x.v] wb fun e w' => ∃ y, e = .returned y ∧ Hid (∀ w'', Below w'.heap.size w' w'' → (convert 52 9 y).run Tryd.prog w'' = .ok (.string T) w'') ∧ Below wb.heap.size wb w') := by
    refine ⟨strC (encB x), fun wb hb => ?_, fun wb hb => ?_⟩
    · refine (encode_any x wb.heap.size wb (tab_under hT hb) (Nat.le_refl _) (by omega)).mono ?_
      rintro e w' ⟨y, rfl, hy⟩
      exact ⟨y, rfl, fun w'' h'' => run_strC ((Bs.ofOwns hy.1).under h''), hy.2.1.below (Nat.le_refl _) (fun _ h => h.elim)⟩
    · refine (rencode_any x wb.heap.size wb (Nat.le_refl _) (by omega)).mono ?_
      rintro e w' ⟨y, rfl, hy⟩
      exact ⟨y, rfl, fun w'' h'' => run_strC ((Bs.ofOwns hy.1).under h''), hy.2.1.below (Nat.le_refl _) (fun _ h => h.elim)⟩
  have SK : Hid (∀ w', Below w.heap.size w w' → Below w1.drew.heap.size w1.drew w' → w'.cell? ⟨w.heap.size, 0, none⟩ = some (.string x.nm) ∧ w'.cell? ⟨w.heap.size, 1, none⟩ = some (.int .i64 x.ino)) := fun w' _ h => ⟨(Chg.ofBelowC h).cell D0 (fun h => h), (Chg.ofBelowC h).cell D1 (fun h => h)⟩
  go_wp2_with fail
  refine wp_region_held_drew (S := (fun w' => w'.cell? ⟨w.heap.size, 0, none⟩ = some (.string x.nm) ∧ w'.cell? ⟨w.heap.size, 1, none⟩ = some (.int .i64 x.ino))) (by kernel_rfl) ⟨D0, D1⟩ (fun hHeld => ?_)
  refine wpAnyH_take (i := 0) (v := ?_) rfl (by kernel_rfl) (by kernel_rfl) (by kernel_rfl) (fun _ _ _ h => h) (Or.inl ⟨by rfl, ?_⟩) hHeld ?_
  rotate_left
  · (intro w hSw; (try dsimp only at hSw); go_simp; try with_reducible rfl)
  simp only [List.getElem_toArray, List.getElem_cons_zero, Act.put, List.setIfInBounds_toArray, List.set_cons_zero, List.set_cons_succ]
  refine wpAnyH_take (i := 1) (v := ?_) rfl (by kernel_rfl) (by kernel_rfl) (by kernel_rfl) (fun _ _ _ h => h) (Or.inl ⟨by rfl, ?_⟩) hHeld ?_
  rotate_left
  · (intro w hSw; (try dsimp only at hSw); go_simp; try with_reducible rfl)
  simp only [List.getElem_toArray, List.getElem_cons_succ, List.getElem_cons_zero, Act.put, List.setIfInBounds_toArray, List.set_cons_zero, List.set_cons_succ]
  refine wpAnyH_take (i := 3) (v := ?_) rfl (by kernel_rfl) (by kernel_rfl) (by kernel_rfl) (fun _ _ _ h => h) (Or.inl ⟨by rfl, ?_⟩) hHeld ?_
  rotate_left
  · (intro w hSw; (try dsimp only at hSw); go_simp; try with_reducible rfl)
  simp only [List.getElem_toArray, List.getElem_cons_succ, List.getElem_cons_zero, Act.put, List.setIfInBounds_toArray, List.set_cons_zero, List.set_cons_succ]
  refine wpAnyH_take (i := 4) (v := ?_) rfl (by kernel_rfl) (by kernel_rfl) (by kernel_rfl) (fun _ _ _ h => h) (Or.inl ⟨by rfl, ?_⟩) hHeld ?_
  rotate_left
  · (intro w hSw; (try dsimp only at hSw); go_simp; try with_reducible rfl)
  simp only [List.getElem_toArray, List.getElem_cons_succ, List.getElem_cons_zero, Act.put, List.setIfInBounds_toArray, List.set_cons_zero, List.set_cons_succ]
  refine wpAnyH_ready (rs := [2]) (by kernel_rfl) (by simp) ?_
  refine AllReadyH.cons rfl (fun K hK => ?_) AllReadyH.nil
  go_simp
  go_wp2_with (go_at_call 27; refine (name_any x.nm nb _ hnb).mono ?_; rintro e w10 ⟨rfl, rfl⟩)
  refine hK.out _ _ ⟨D0, D1⟩ (fun hHeld => ?_)
  clear hK K
  refine wpAnyH_ready (rs := [5]) (by kernel_rfl) (by simp) ?_
  refine AllReadyH.cons rfl (fun K hK => ?_) AllReadyH.nil
  go_simp
  go_wp2_with (go_at_call 28; refine (rname_any x.nm nb _ hnb).mono ?_; rintro e w10 ⟨rfl, rfl⟩)
  refine hK.out _ _ ⟨D0, D1⟩ (fun hHeld => ?_)
  clear hK K
  refine wpAnyH_take (i := 6) (v := ?_) rfl (by kernel_rfl) (by kernel_rfl) (by kernel_rfl) (fun _ _ _ h => h) (Or.inl ⟨by rfl, ?_⟩) hHeld ?_
  rotate_left
  · (intro w hSw; (try dsimp only at hSw); go_simp; try with_reducible rfl)
  simp only [List.getElem_toArray, List.getElem_cons_succ, List.getElem_cons_zero, Act.put, List.setIfInBounds_toArray, List.set_cons_zero, List.set_cons_succ]
  refine wpAnyH_take (i := 7) (v := ?_) rfl (by kernel_rfl) (by kernel_rfl) (by kernel_rfl) (fun _ _ _ h => h) (Or.inl ⟨by rfl, ?_⟩) hHeld ?_
  rotate_left
  · (intro w hSw; (try dsimp only at hSw); go_simp; try with_reducible rfl)
  simp only [List.getElem_toArray, List.getElem_cons_succ, List.getElem_cons_zero, Act.put, List.setIfInBounds_toArray, List.set_cons_zero, List.set_cons_succ]
  refine wpAnyH_take (i := 8) (v := ?_) rfl (by kernel_rfl) (by kernel_rfl) (by kernel_rfl) (fun _ _ _ h => h) (Or.inl ⟨by rfl, ?_⟩) hHeld ?_
  rotate_left
  · (intro w hSw; (try dsimp only at hSw); go_simp; try with_reducible rfl)
  simp only [List.getElem_toArray, List.getElem_cons_succ, List.getElem_cons_zero, Act.put, List.setIfInBounds_toArray, List.set_cons_zero, List.set_cons_succ]
  refine wpAnyH_take (i := 11) (v := ?_) rfl (by kernel_rfl) (by kernel_rfl) (by kernel_rfl) (fun _ _ _ h => h) (Or.inl ⟨by rfl, ?_⟩) hHeld ?_
  rotate_left
  · (intro w hSw; (try dsimp only at hSw); go_simp; try with_reducible rfl)
  simp only [List.getElem_toArray, List.getElem_cons_succ, List.getElem_cons_zero, Act.put, List.setIfInBounds_toArray, List.set_cons_zero, List.set_cons_succ]
  have bb0 : Below w1.drew.heap.size w1.drew w1.drew := Below.refl _ _
  refine wpAnyH_ready (rs := [9]) (by kernel_rfl) (by simp) ?_
  refine AllReadyH.cons rfl (fun K hK => ?_) AllReadyH.nil
  go_simp
  go_wp2_with (go_at_call 29; refine (ENC.out _ (Bd.trans (bb0.mono Bd.size))).mono ?_; rintro e v1 ⟨yA, rfl, RA, C1⟩)
  have bb1 : Below w1.drew.heap.size w1.drew v1 := bb0.trans (C1.mono bb0.size)
  refine hK.out _ _ (SK.out v1 (Bd.trans (bb1.mono Bd.size)) bb1) (fun hHeld => ?_)
  clear hK K
  refine wpAnyH_ready (rs := [10, 12]) (by kernel_rfl) (by simp) ?_
  refine AllReadyH.cons rfl (fun K hK => ?_) (AllReadyH.cons rfl (fun K hK => ?_) AllReadyH.nil)
  · go_simp
    rw [RA.out v1 (Below.refl _ _)]
    go_simp
    refine hK.out _ _ (SK.out v1 (Bd.trans (bb1.mono Bd.size)) bb1) (fun hHeld => ?_)
    clear hK K
    refine wpAnyH_ready (rs := [12]) (by kernel_rfl) (by simp) ?_
    refine AllReadyH.cons rfl (fun K hK => ?_) AllReadyH.nil
    go_simp
    go_wp2_with (go_at_call 30; refine (REN.out _ (Bd.trans (bb1.mono Bd.size))).mono ?_; rintro e v2 ⟨yB, rfl, RB, C2⟩)
    have bb2 : Below w1.drew.heap.size w1.drew v2 := bb1.trans (C2.mono bb1.size)
    refine hK.out _ _ (SK.out v2 (Bd.trans (bb2.mono Bd.size)) bb2) (fun hHeld => ?_)
    clear hK K
    refine wpAnyH_ready (rs := [13]) (by kernel_rfl) (by simp) ?_
    refine AllReadyH.cons rfl (fun K hK => ?_) AllReadyH.nil
    go_simp
    rw [RB.out v2 (Below.refl _ _)]
    go_simp
    refine hK.out _ _ (SK.out v2 (Bd.trans (bb2.mono Bd.size)) bb2) (fun hHeld => ?_)
    clear hK K
    refine wpAnyH_take (i := 14) (v := ?_) rfl (by kernel_rfl) (by kernel_rfl) (by kernel_rfl) (fun _ _ _ h => h) (Or.inl ⟨by rfl, ?_⟩) hHeld ?_
    rotate_left
    · (intro w hSw; (try dsimp only at hSw); go_simp; try with_reducible rfl)
    simp only [List.getElem_toArray, List.getElem_cons_succ, List.getElem_cons_zero, Act.put, List.setIfInBounds_toArray, List.set_cons_zero, List.set_cons_succ]
    refine wpAnyH_take (i := 15) (v := ?_) rfl (by kernel_rfl) (by kernel_rfl) (by kernel_rfl) (fun _ _ _ h => h) (Or.inl ⟨by rfl, ?_⟩) hHeld ?_
    rotate_left
    · (intro w hSw; (try dsimp only at hSw); go_simp; try with_reducible rfl)
    simp only [List.getElem_toArray, List.getElem_cons_succ, List.getElem_cons_zero, Act.put, List.setIfInBounds_toArray, List.set_cons_zero, List.set_cons_succ]
    refine wpAnyH_done (by kernel_rfl) ?_ _
    have BW : Below w.heap.size w v2 := Bd.trans (bb2.mono Bd.size)
    generalize v2 = w20 at *
    clear hHeld
    have d1 := h1.under BW
    have t20 := tab_under hT BW
    go_wp2_with fail
    refine (decode_any _ b1 _ t20 d1 hB1 (by omega)).mono ?_
    rintro e w21 ⟨rfl, C21⟩
    have B21 := BW.trans (C21.mono BW.size)
    obtain ⟨dv, hdv⟩ : ∃ dv, Hid (decV b1 = dv) := ⟨_, rfl⟩
    obtain ⟨de, hde⟩ : ∃ de, Hid (decE b1 = de) := ⟨_, rfl⟩
    rw [hdv.out, hde.out]
    have B22 := B21.alloc B21.size (.cells #[.string dv.nm, .int .i64 dv.ino] 57)
    have E22 : EnB (w21.alloc (.cells #[.string dv.nm, .int .i64 dv.ino] 57)) w21.heap.size dv := heap_alloc_new w21 _
    clear C21 B21 d1 t20 BW
    go_wp2_with fail
    generalize w21.alloc (.cells #[.string dv.nm, .int .i64 dv.ino] 57) = w22 at *
    generalize w21.heap.size = r1 at *
    refine (rdecode_any _ b1 _ (h1.under B22) hB1 (by omega)).mono ?_
    rintro e w23 ⟨rfl, C23⟩
    rw [hdv.out, hde.out]
    have B23 := B22.trans (C23.mono B22.size)
    have E23 := E22.kept (Chg.ofBelowC C23) (fun h => h)
    have B24 := B23.alloc B23.size (.cells #[.string dv.nm, .int .i64 dv.ino] 47)
    have E24 := E23.kept (Chg.alloc (fun _ => False) w23 (.cells #[.string dv.nm, .int .i64 dv.ino] 47)) (fun h => h)
    have F24 : EnR (w23.alloc (.cells #[.string dv.nm, .int .i64 dv.ino] 47)) w23.heap.size dv := heap_alloc_new w23 _
    clear C23 B23 E23 E22 B22
    go_wp2_with fail
    generalize w23.alloc (.cells #[.string dv.nm, .int .i64 dv.ino] 47) = w24 at *
    generalize w23.heap.size = r2 at *
    refine (read_any _ b2 _ (tab_under hT B24) (h2.under B24) hB2 (by omega)).mono ?_
    rintro e w25 ⟨s5, rfl, X5, C25⟩
    obtain ⟨re, hre⟩ : ∃ re, Hid (readE b2 = re) := ⟨_, rfl⟩
    rw [hre.out]
    have B25 := B24.trans (C25.mono B24.size)
    have E25 := E24.kept (Chg.ofBelowC C25) (fun h => h)
    have F25 := F24.kept (Chg.ofBelowC C25) (fun h => h)
    clear C25 B24 E24 F24
    go_wp2_with fail
    refine (rread_any _ b2 _ (h2.under B25) hB2 (by omega)).mono ?_
    rintro e w26 ⟨s6, rfl, X6, C26⟩
    rw [hre.out]
    have B26 := B25.trans (C26.mono B25.size)
    have E26 := E25.kept (Chg.ofBelowC C26) (fun h => h)
    have F26 := F25.kept (Chg.ofBelowC C26) (fun h => h)
    have X7 := X5.below C26
    have e0 := E26.c0
    have e1 := E26.c1
    have f0 := F26.c0
    have f1 := F26.c1
    have hq := fun w => eqlE dv w
    have hrl : (readV b2).length ≤ 1000000 := by
      unfold readV
      split
      · rw [rowsK_len]; omega
      · simp
    clear C26 B25 E25 F25 X5
    go_wp2_with fail
    refine (same_yes _ _ (readV b2) _ X7 X6 hrl).mono ?_
    rintro e w27 ⟨rfl, C27⟩
    have H := fin _ (B26.trans (C27.mono B26.size))
    clear C27
    go_wp2_with fail
    go_ret
    exact ⟨rfl, H.out⟩
  · go_simp
    go_wp2_with (go_at_call 30; refine (REN.out _ (Bd.trans (bb1.mono Bd.size))).mono ?_; rintro e v2 ⟨yB, rfl, RB, C2⟩)
    have bb2 : Below w1.drew.heap.size w1.drew v2 := bb1.trans (C2.mono bb1.size)
    have RA : Hid (∀ w'', Below v2.heap.size v2 w'' → (convert 52 9 yA).run Tryd.prog w'' = .ok (.string T) w'') := fun w'' h => RA.out w'' (C2.trans (h.mono C2.size))
    refine hK.out _ _ (SK.out v2 (Bd.trans (bb2.mono Bd.size)) bb2) (fun hHeld => ?_)
    clear hK K
    refine wpAnyH_ready (rs := [10, 13]) (by kernel_rfl) (by simp) ?_
    refine AllReadyH.cons rfl (fun K hK => ?_) (AllReadyH.cons rfl (fun K hK => ?_) AllReadyH.nil)
    · go_simp
      rw [RA.out v2 (Below.refl _ _)]
      go_simp
      refine hK.out _ _ (SK.out v2 (Bd.trans (bb2.mono Bd.size)) bb2) (fun hHeld => ?_)
      clear hK K
      refine wpAnyH_ready (rs := [13]) (by kernel_rfl) (by simp) ?_
      refine AllReadyH.cons rfl (fun K hK => ?_) AllReadyH.nil
      go_simp
      rw [RB.out v2 (Below.refl _ _)]
      go_simp
      refine hK.out _ _ (SK.out v2 (Bd.trans (bb2.mono Bd.size)) bb2) (fun hHeld => ?_)
      clear hK K
      refine wpAnyH_take (i := 14) (v := ?_) rfl (by kernel_rfl) (by kernel_rfl) (by kernel_rfl) (fun _ _ _ h => h) (Or.inl ⟨by rfl, ?_⟩) hHeld ?_
      rotate_left
      · (intro w hSw; (try dsimp only at hSw); go_simp; try with_reducible rfl)
      simp only [List.getElem_toArray, List.getElem_cons_succ, List.getElem_cons_zero, Act.put, List.setIfInBounds_toArray, List.set_cons_zero, List.set_cons_succ]
      refine wpAnyH_take (i := 15) (v := ?_) rfl (by kernel_rfl) (by kernel_rfl) (by kernel_rfl) (fun _ _ _ h => h) (Or.inl ⟨by rfl, ?_⟩) hHeld ?_
      rotate_left
      · (intro w hSw; (try dsimp only at hSw); go_simp; try with_reducible rfl)
      simp only [List.getElem_toArray, List.getElem_cons_succ, List.getElem_cons_zero, Act.put, List.setIfInBounds_toArray, List.set_cons_zero, List.set_cons_succ]
      refine wpAnyH_done (by kernel_rfl) ?_ _
      have BW : Below w.heap.size w v2 := Bd.trans (bb2.mono Bd.size)
      generalize v2 = w20 at *
      clear hHeld
      have d1 := h1.under BW
      have t20 := tab_under hT BW
      go_wp2_with fail
      refine (decode_any _ b1 _ t20 d1 hB1 (by omega)).mono ?_
      rintro e w21 ⟨rfl, C21⟩
      have B21 := BW.trans (C21.mono BW.size)
      obtain ⟨dv, hdv⟩ : ∃ dv, Hid (decV b1 = dv) := ⟨_, rfl⟩
      obtain ⟨de, hde⟩ : ∃ de, Hid (decE b1 = de) := ⟨_, rfl⟩
      rw [hdv.out, hde.out]
      have B22 := B21.alloc B21.size (.cells #[.string dv.nm, .int .i64 dv.ino] 57)
      have E22 : EnB (w21.alloc (.cells #[.string dv.nm, .int .i64 dv.ino] 57)) w21.heap.size dv := heap_alloc_new w21 _
      clear C21 B21 d1 t20 BW
      go_wp2_with fail
      generalize w21.alloc (.cells #[.string dv.nm, .int .i64 dv.ino] 57) = w22 at *
      generalize w21.heap.size = r1 at *
      refine (rdecode_any _ b1 _ (h1.under B22) hB1 (by omega)).mono ?_
      rintro e w23 ⟨rfl, C23⟩
      rw [hdv.out, hde.out]
      have B23 := B22.trans (C23.mono B22.size)
      have E23 := E22.kept (Chg.ofBelowC C23) (fun h => h)
      have B24 := B23.alloc B23.size (.cells #[.string dv.nm, .int .i64 dv.ino] 47)
      have E24 := E23.kept (Chg.alloc (fun _ => False) w23 (.cells #[.string dv.nm, .int .i64 dv.ino] 47)) (fun h => h)
      have F24 : EnR (w23.alloc (.cells #[.string dv.nm, .int .i64 dv.ino] 47)) w23.heap.size dv := heap_alloc_new w23 _
      clear C23 B23 E23 E22 B22
      go_wp2_with fail
      generalize w23.alloc (.cells #[.string dv.nm, .int .i64 dv.ino] 47) = w24 at *
      generalize w23.heap.size = r2 at *
      refine (read_any _ b2 _ (tab_under hT B24) (h2.under B24) hB2 (by omega)).mono ?_
      rintro e w25 ⟨s5, rfl, X5, C25⟩
      obtain ⟨re, hre⟩ : ∃ re, Hid (readE b2 = re) := ⟨_, rfl⟩
      rw [hre.out]
      have B25 := B24.trans (C25.mono B24.size)
      have E25 := E24.kept (Chg.ofBelowC C25) (fun h => h)
      have F25 := F24.kept (Chg.ofBelowC C25) (fun h => h)
      clear C25 B24 E24 F24
      go_wp2_with fail
      refine (rread_any _ b2 _ (h2.under B25) hB2 (by omega)).mono ?_
      rintro e w26 ⟨s6, rfl, X6, C26⟩
      rw [hre.out]
      have B26 := B25.trans (C26.mono B25.size)
      have E26 := E25.kept (Chg.ofBelowC C26) (fun h => h)
      have F26 := F25.kept (Chg.ofBelowC C26) (fun h => h)
      have X7 := X5.below C26
      have e0 := E26.c0
      have e1 := E26.c1
      have f0 := F26.c0
      have f1 := F26.c1
      have hq := fun w => eqlE dv w
      have hrl : (readV b2).length ≤ 1000000 := by
        unfold readV
        split
        · rw [rowsK_len]; omega
        · simp
      clear C26 B25 E25 F25 X5
      go_wp2_with fail
      refine (same_yes _ _ (readV b2) _ X7 X6 hrl).mono ?_
      rintro e w27 ⟨rfl, C27⟩
      have H := fin _ (B26.trans (C27.mono B26.size))
      clear C27
      go_wp2_with fail
      go_ret
      exact ⟨rfl, H.out⟩
    · go_simp
      rw [RB.out v2 (Below.refl _ _)]
      go_simp
      refine hK.out _ _ (SK.out v2 (Bd.trans (bb2.mono Bd.size)) bb2) (fun hHeld => ?_)
      clear hK K
      refine wpAnyH_ready (rs := [10]) (by kernel_rfl) (by simp) ?_
      refine AllReadyH.cons rfl (fun K hK => ?_) AllReadyH.nil
      go_simp
      rw [RA.out v2 (Below.refl _ _)]
      go_simp
      refine hK.out _ _ (SK.out v2 (Bd.trans (bb2.mono Bd.size)) bb2) (fun hHeld => ?_)
      clear hK K
      refine wpAnyH_take (i := 14) (v := ?_) rfl (by kernel_rfl) (by kernel_rfl) (by kernel_rfl) (fun _ _ _ h => h) (Or.inl ⟨by rfl, ?_⟩) hHeld ?_
      rotate_left
      · (intro w hSw; (try dsimp only at hSw); go_simp; try with_reducible rfl)
      simp only [List.getElem_toArray, List.getElem_cons_succ, List.getElem_cons_zero, Act.put, List.setIfInBounds_toArray, List.set_cons_zero, List.set_cons_succ]
      refine wpAnyH_take (i := 15) (v := ?_) rfl (by kernel_rfl) (by kernel_rfl) (by kernel_rfl) (fun _ _ _ h => h) (Or.inl ⟨by rfl, ?_⟩) hHeld ?_
      rotate_left
      · (intro w hSw; (try dsimp only at hSw); go_simp; try with_reducible rfl)
      simp only [List.getElem_toArray, List.getElem_cons_succ, List.getElem_cons_zero, Act.put, List.setIfInBounds_toArray, List.set_cons_zero, List.set_cons_succ]
      refine wpAnyH_done (by kernel_rfl) ?_ _
      have BW : Below w.heap.size w v2 := Bd.trans (bb2.mono Bd.size)
      generalize v2 = w20 at *
      clear hHeld
      have d1 := h1.under BW
      have t20 := tab_under hT BW
      go_wp2_with fail
      refine (decode_any _ b1 _ t20 d1 hB1 (by omega)).mono ?_
      rintro e w21 ⟨rfl, C21⟩
      have B21 := BW.trans (C21.mono BW.size)
      obtain ⟨dv, hdv⟩ : ∃ dv, Hid (decV b1 = dv) := ⟨_, rfl⟩
      obtain ⟨de, hde⟩ : ∃ de, Hid (decE b1 = de) := ⟨_, rfl⟩
      rw [hdv.out, hde.out]
      have B22 := B21.alloc B21.size (.cells #[.string dv.nm, .int .i64 dv.ino] 57)
      have E22 : EnB (w21.alloc (.cells #[.string dv.nm, .int .i64 dv.ino] 57)) w21.heap.size dv := heap_alloc_new w21 _
      clear C21 B21 d1 t20 BW
      go_wp2_with fail
      generalize w21.alloc (.cells #[.string dv.nm, .int .i64 dv.ino] 57) = w22 at *
      generalize w21.heap.size = r1 at *
      refine (rdecode_any _ b1 _ (h1.under B22) hB1 (by omega)).mono ?_
      rintro e w23 ⟨rfl, C23⟩
      rw [hdv.out, hde.out]
      have B23 := B22.trans (C23.mono B22.size)
      have E23 := E22.kept (Chg.ofBelowC C23) (fun h => h)
      have B24 := B23.alloc B23.size (.cells #[.string dv.nm, .int .i64 dv.ino] 47)
      have E24 := E23.kept (Chg.alloc (fun _ => False) w23 (.cells #[.string dv.nm, .int .i64 dv.ino] 47)) (fun h => h)
      have F24 : EnR (w23.alloc (.cells #[.string dv.nm, .int .i64 dv.ino] 47)) w23.heap.size dv := heap_alloc_new w23 _
      clear C23 B23 E23 E22 B22
      go_wp2_with fail
      generalize w23.alloc (.cells #[.string dv.nm, .int .i64 dv.ino] 47) = w24 at *
      generalize w23.heap.size = r2 at *
      refine (read_any _ b2 _ (tab_under hT B24) (h2.under B24) hB2 (by omega)).mono ?_
      rintro e w25 ⟨s5, rfl, X5, C25⟩
      obtain ⟨re, hre⟩ : ∃ re, Hid (readE b2 = re) := ⟨_, rfl⟩
      rw [hre.out]
      have B25 := B24.trans (C25.mono B24.size)
      have E25 := E24.kept (Chg.ofBelowC C25) (fun h => h)
      have F25 := F24.kept (Chg.ofBelowC C25) (fun h => h)
      clear C25 B24 E24 F24
      go_wp2_with fail
      refine (rread_any _ b2 _ (h2.under B25) hB2 (by omega)).mono ?_
      rintro e w26 ⟨s6, rfl, X6, C26⟩
      rw [hre.out]
      have B26 := B25.trans (C26.mono B25.size)
      have E26 := E25.kept (Chg.ofBelowC C26) (fun h => h)
      have F26 := F25.kept (Chg.ofBelowC C26) (fun h => h)
      have X7 := X5.below C26
      have e0 := E26.c0
      have e1 := E26.c1
      have f0 := F26.c0
      have f1 := F26.c1
      have hq := fun w => eqlE dv w
      have hrl : (readV b2).length ≤ 1000000 := by
        unfold readV
        split
        · rw [rowsK_len]; omega
        · simp
      clear C26 B25 E25 F25 X5
      go_wp2_with fail
      refine (same_yes _ _ (readV b2) _ X7 X6 hrl).mono ?_
      rintro e w27 ⟨rfl, C27⟩
      have H := fin _ (B26.trans (C27.mono B26.size))
      clear C27
      go_wp2_with fail
      go_ret
      exact ⟨rfl, H.out⟩
end Go.Proofs.YtbhfmceapffhnaaDoor

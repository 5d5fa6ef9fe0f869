/-
  DirPlays.
-/
import Derived.Test.YtbhfmceapffhnaaDoorDPlay
import Derived.Test.YtbhfmceapffhnaaDoorDActs
import Derived.Test.YtbhfmceapffhnaaDoorDRefNames
import Derived.Test.YtbhfmceapffhnaaDoorDRefBytes
import Derived.Test.YtbhfmceapffhnaaDoorDRefRead
import Derived.Test.YtbhfmceapffhnaaDoorDRead
import Derived.Test.YtbhfmceapffhnaaDoorDSame
import Derived.Test.YtbhfmceapffhnaaDoorDKnown
import Derived.Deep.CutBlock
import Derived.Deep.DeepCutAuto
namespace Go.Proofs.YtbhfmceapffhnaaDoor
open Go.RowKit Go.Sort

theorem bytesL_isB (es : List En) : IsB (bytesL es) := by
  unfold bytesL
  refine isB_app ?_ (fun x hx => ?_)
  · intro x hx
    obtain ⟨e, _, hx⟩ := List.mem_flatMap.1 hx
    unfold slotB at hx
    split at hx
    · exact encB_isB e x hx
    · rw [List.eq_of_mem_replicate hx]; omega
  · rw [List.eq_of_mem_replicate hx]; omega
theorem readV_le (bs : List Int) (h : bs.length ≤ 1000000) : (readV bs).length ≤ 1000000 := by
  unfold readV
  split
  · rw [rowsK_len]; omega
  · simp
theorem tab_under9 {w w' : World} (h : Tab w) (hb : RowKit.Below w.heap.size w w') : Tab w' := fun j hj => (Chg.ofBelowC hb).cell (h j hj) (fun h => h)
theorem bx_cell {w : World} {g T : Nat} {cs : Array Value} (h : w.heap[g]? = some (.cells cs T)) (i : Nat) (u : Value) (hu : cs[i]? = some u) : w.cell? ⟨g, i, none⟩ = some u := by
  rw [cell_of_row w g i _ _ _ h]; exact hu
set_option maxHeartbeats 6400000 in
set_option maxRecDepth 100000 in
theorem law_plays (v : Value) (l : List DAct) (w : World) (hT : Tab w) (hv : DActs w v l) :
    Calls Tryd.prog 3 #[v] w fun e w' => e = .returned (.bool true) ∧ Chg (fun _ => False) w w' := by
  obtain ⟨va, vc, rfl⟩ := hv.form
  obtain ⟨i0, hi0, hz0, hz1, hz2⟩ := info_parts infoE
  have fin : ∀ w', RowKit.Below w.heap.size w w' → Hid (Chg (fun _ => False) w w') := fun w' h => Chg.ofBelowC h
  go_enter Tryd.func3, Tryd.ntmps3
  go_wp2_with fail
  refine (known_any _).mono ?_
  rintro e w1 ⟨rfl, B1⟩
  go_wp2_with fail
  refine (few_any _ l w1 (hv.below B1)).mono ?_
  rintro e w2 ⟨e2, h2⟩
  obtain rfl := e2.out
  rcases h2 with rfl | ⟨rfl, HF⟩
  · have H := fin _ B1
    go_wp2_with fail
    go_ret
    exact ⟨rfl, H.out⟩
  have hl0 : l.length ≤ 120 := HF.out.1
  go_wp2_with fail
  go_loopw [3, 4, 5] (fun s r i wr => ∃ (k : Nat) (es : List En), k ≤ l.length ∧ i = .int .i64 k ∧ es.length ≤ k ∧ Hid (NmL es) ∧ Es wr s es ∧ Es wr r es ∧ RowKit.Below w.heap.size w wr) (fun _ _ i _ => l.length - (intOf i).toNat)
  case atStart => exact ⟨0, [], Nat.zero_le _, rfl, Nat.le_refl _, nmL_nil, Es.nil _, Es.nil _, B1⟩
  case round =>
    obtain ⟨k, es, hk, rfl, hle, HL, hs, hr, B⟩ := hrel
    by_cases hlt : k < l.length
    · have q1 : (k : Int) < l.length := by omega
      have hv' := hv.below B
      obtain ⟨b, off, rfl, hc⟩ := hv'.nth hlt
      obtain ⟨c0, c1, c2, c3⟩ := hc k hlt
      have hsz := HF.out.2 k hlt
      obtain ⟨x, hx⟩ : ∃ x, Hid (l.getD k DAct.z = x) := ⟨_, rfl⟩
      rw [hx.out] at c0 c1 c2 c3 hsz
      obtain ⟨op, xn, xa, xb⟩ := x
      clear hc hv' hx
      dsimp only at c0 c1 c2 c3 hsz
      obtain ⟨w0, hw0⟩ : ∃ w0, w0 = wr := ⟨_, rfl⟩
      subst hw0
      have D1 : RowKit.Below w0.heap.size w0 (w0.alloc (.cells #[.int .i64 op, .int .i64 xn, .string xa, .string xb] 29)) := (Below.refl _ _).alloc (Nat.le_refl _) _
      have bx : (w0.alloc (.cells #[.int .i64 op, .int .i64 xn, .string xa, .string xb] 29)).heap[w0.heap.size]? = some (.cells #[.int .i64 op, .int .i64 xn, .string xa, .string xb] 29) := heap_alloc_new w0 _
      have hs3 := hs.below D1
      have hr3 := hr.below D1
      have B3 := B.trans (D1.mono B.size)
      go_upto_region 11 with fail
      clear hs hr D1 B c0 c1 c2 c3
      generalize w0.alloc (.cells #[.int .i64 op, .int .i64 xn, .string xa, .string xb] 29) = w3 at *
      generalize w0.heap.size = bn at *
      obtain ⟨sa, sc, rfl⟩ := hs3.form
      have D4 : RowKit.Below w3.heap.size w3 (w3.alloc (.cells #[] 57)) := (Below.refl _ _).alloc (Nat.le_refl _) _
      have hs4 := hs3.below D4
      have ho4 := lit_own2 w3 w3.heap.size 57 (Nat.le_refl _)
      have hN4 := D4.size
      go_wp2_with (at_builtin; go_must (refine wpList_app2 rfl _ (.tmp 50) 26 rfl w3.heap.size 57 i0 Tryd.underlying26 hi0 hz0 hz1 hz2 _ _ 0 [] _ rfl ho4 rfl hs4 ?c1 ?c2 ?next))
      case c1 => simp; omega
      case c2 => exact hN4
      case next =>
        intro wv w5 hown hB
        have D5 := D4.trans hB
        have hW5 : Es w5 wv es := by simpa using Es.ofOwns hown
        have hs5 := hs3.below D5
        have hr5 := hr3.below D5
        have B5 := B3.trans (D5.mono B3.size)
        have bx5 : w5.heap[bn]? = some (.cells #[.int .i64 op, .int .i64 xn, .string xa, .string xb] 29) := by rw [D5.block bn (lt_of_block bx)]; exact bx
        clear hown hB D4 hs4 ho4 hN4 hs3 hr3 B3 bx D5
        have b0 := bx_cell bx5 0 (.int .i64 op) rfl
        have b1 := bx_cell bx5 1 (.int .i64 xn) rfl
        have b2 := bx_cell bx5 2 (.string xa) rfl
        have b3 := bx_cell bx5 3 (.string xb) rfl
        go_upto_block 2 with fail
        go_cut [4, 8, 9, 10] (fun r t e f wc => ∃ (es' : List En) (g : Int), e = .int .i64 g ∧ f = .int .i64 g ∧ es'.length ≤ es.length + 1 ∧ Hid (NmL es') ∧ Es wc t es' ∧ Es wc r es' ∧ RowKit.Below w5.heap.size w5 wc)
        case first =>
          by_cases o1 : op = 1
          · subst o1
            as_aux_lemma =>
              obtain ⟨n, g, es', hl', HL', A1, A2⟩ := put_both es xa xn (by omega) HL.out hsz.1
              go_wp2_with fail
              refine (A1 _ _ hs5).mono ?_
              rintro e w6 ⟨u, rfl, h6, C6⟩
              have hr6 := hr5.below C6
              have d1 := (Chg.ofBelowC C6).cell b1 (fun h => h)
              have d2 := (Chg.ofBelowC C6).cell b2 (fun h => h)
              have d3 := (Chg.ofBelowC C6).cell b3 (fun h => h)
              go_wp2_with fail
              refine (A2 _ _ hr6).mono ?_
              rintro e w7 ⟨u', rfl, h7, C7⟩
              have D7 := C6.trans (C7.mono C6.size)
              by_cases g0 : g = 0
              · subst g0
                have E1 := (h6.out rfl).below C7
                have E2 := h7.out rfl
                clear h6 h7 A1 A2 hr6
                go_wp2_with fail
                go_meet
                exact ⟨es', 0, rfl, rfl, hl', HL', E1, E2, D7⟩
              · have E1 := hs5.below D7
                have E2 := hr5.below D7
                clear h6 h7 A1 A2 hr6
                go_wp2_with fail
                go_meet
                exact ⟨es, g, rfl, rfl, by omega, HL, E1, E2, D7⟩
          by_cases o2 : op = 2
          · subst o2
            as_aux_lemma =>
              obtain ⟨n, g, es', hl', HL', A1, A2⟩ := take_both es xa (by omega) HL.out
              go_wp2_with fail
              refine (A1 _ _ hs5).mono ?_
              rintro e w6 ⟨u, rfl, h6, C6⟩
              have hr6 := hr5.below C6
              have d1 := (Chg.ofBelowC C6).cell b1 (fun h => h)
              have d2 := (Chg.ofBelowC C6).cell b2 (fun h => h)
              have d3 := (Chg.ofBelowC C6).cell b3 (fun h => h)
              go_wp2_with fail
              refine (A2 _ _ hr6).mono ?_
              rintro e w7 ⟨u', rfl, h7, C7⟩
              have D7 := C6.trans (C7.mono C6.size)
              by_cases g0 : g = 0
              · subst g0
                have E1 := (h6.out rfl).below C7
                have E2 := h7.out rfl
                clear h6 h7 A1 A2 hr6
                go_wp2_with fail
                go_meet
                exact ⟨es', 0, rfl, rfl, hl', HL', E1, E2, D7⟩
              · have E1 := hs5.below D7
                have E2 := hr5.below D7
                clear h6 h7 A1 A2 hr6
                go_wp2_with fail
                go_meet
                exact ⟨es, g, rfl, rfl, by omega, HL, E1, E2, D7⟩
          by_cases o3 : op = 3
          · subst o3
            as_aux_lemma =>
              obtain ⟨g, es', hl', HL', A1, A2⟩ := move_both es xa xb (by omega) HL.out hsz.2
              go_wp2_with fail
              refine (A1 _ _ hs5).mono ?_
              rintro e w6 ⟨u, rfl, h6, C6⟩
              have hr6 := hr5.below C6
              have d1 := (Chg.ofBelowC C6).cell b1 (fun h => h)
              have d2 := (Chg.ofBelowC C6).cell b2 (fun h => h)
              have d3 := (Chg.ofBelowC C6).cell b3 (fun h => h)
              go_wp2_with fail
              refine (A2 _ _ hr6).mono ?_
              rintro e w7 ⟨u', rfl, h7, C7⟩
              have D7 := C6.trans (C7.mono C6.size)
              by_cases g0 : g = 0
              · subst g0
                have E1 := (h6.out rfl).below C7
                have E2 := h7.out rfl
                clear h6 h7 A1 A2 hr6
                go_wp2_with fail
                go_meet
                exact ⟨es', 0, rfl, rfl, hl', HL', E1, E2, D7⟩
              · have E1 := hs5.below D7
                have E2 := hr5.below D7
                clear h6 h7 A1 A2 hr6
                go_wp2_with fail
                go_meet
                exact ⟨es, g, rfl, rfl, by omega, HL, E1, E2, D7⟩
          go_wp2_with fail
          go_meet
          exact ⟨es, 0, rfl, rfl, by omega, HL, hs5, hr5, Below.refl _ _⟩
        case rest =>
          obtain ⟨es', g, rfl, rfl, hl', HL', hS, hR, B6⟩ := hcut
          have hW6 := hW5.below B6
          have hs6 := hs5.below B6
          have D6 := B5.trans (B6.mono B5.size)
          have b3 := (Chg.ofBelowC B6).cell b3 (fun h => h)
          clear b0 b1 b2 bx5 hW5 hs5 hr5 B5 B6
          have hle2 : es'.length ≤ 120 := by omega
          go_wp2_with fail
          refine (of_any _ es _ hW6 (by omega)).mono ?_
          rintro e w7 ⟨wo, rfl, hO7, C7⟩
          have hs7 := hs6.below C7
          have D7 := D6.trans (C7.mono D6.size)
          have hS7 := hS.below C7
          have hR7 := hR.below C7
          have b3 := (Chg.ofBelowC C7).cell b3 (fun h => h)
          clear hW6 hs6 hS hR C7 D6
          go_wp2_with fail
          refine (same_yes _ _ es _ hs7 hO7 (by omega)).mono ?_
          rintro e w8 ⟨rfl, C8⟩
          have D8 := D7.trans (C8.mono D7.size)
          have hS8 := hS7.below C8
          have hR8 := hR7.below C8
          have b3 := (Chg.ofBelowC C8).cell b3 (fun h => h)
          clear hs7 hO7 hS7 hR7 C8 D7
          go_wp2_with fail
          refine (same_yes _ _ es' _ hS8 hR8 (by omega)).mono ?_
          rintro e w9 ⟨rfl, C9⟩
          have D9 := D8.trans (C9.mono D8.size)
          have hS9 := hS8.below C9
          have hR9 := hR8.below C9
          have b3 := (Chg.ofBelowC C9).cell b3 (fun h => h)
          clear hS8 hR8 C9 D8
          go_wp2_with fail
          refine (find_any _ es' xb _ hS9 (by omega)).mono ?_
          rintro e w10 ⟨r, hr, C10, hfd⟩
          have D10 := D9.trans (C10.mono D9.size)
          have hS10 := hS9.below C10
          have hR10 := hR9.below C10
          have b3 := (Chg.ofBelowC C10).cell b3 (fun h => h)
          clear hS9 hR9 C10 D9
          rcases hfd with ⟨rfl, rfl⟩ | ⟨kk, rfl, hkk, rfl⟩
          · skip
            go_wp2_with fail
            refine (rat_any _ es' xb _ hR10 (by omega)).mono ?_
            rintro e w11 ⟨r', rfl, hr', rfl⟩
            obtain rfl := hr'.out.unique hr.out
            go_upto_region 49 with fail
            as_aux_lemma =>
              have Dd := below_dr9 D10
              have TT := tab_under9 hT Dd
              have eS : Es w11.drew u8 es' := hS10.below (below_dr9 (Below.refl _ _))
              have eR : Es w11.drew u4 es' := hR10.below (below_dr9 (Below.refl _ _))
              obtain ⟨SL, hSLn, NM, RN⟩ : ∃ SL : List (List UInt8), Hid (SL.length ≤ 120) ∧ Hid (∀ wb, RowKit.Below w11.drew.heap.size w11.drew wb → Calls Tryd.prog 21 #[u8] wb fun e w' => ∃ y, e = .returned y ∧ Hid (Ss w' y SL) ∧ RowKit.Below wb.heap.size wb w') ∧ Hid (∀ wb, RowKit.Below w11.drew.heap.size w11.drew wb → Calls Tryd.prog 22 #[u4] wb fun e w' => ∃ y, e = .returned y ∧ Hid (Ss w' y SL) ∧ RowKit.Below wb.heap.size wb w') := by
                refine ⟨sortL (namesL es'), ?_, fun wb hb => ?_, fun wb hb => ?_⟩
                · rw [Hid, sortL_len]; exact Nat.le_trans (namesL_le es') hle2
                · refine (names_any u8 es' wb (eS.below hb) (by omega)).mono ?_
                  rintro e w' ⟨y, rfl, hy, hB⟩
                  exact ⟨y, rfl, Ss.ofOwns hy, hB⟩
                · refine (rnames_any _ es' wb (eR.below hb) (by omega)).mono ?_
                  rintro e w' ⟨y, rfl, hy, hB⟩
                  exact ⟨y, rfl, Ss.ofOwns hy, hB⟩
              obtain ⟨T, DB, RB⟩ : ∃ T : ByteArray, Hid (∀ wb, RowKit.Below w11.drew.heap.size w11.drew wb → Calls Tryd.prog 23 #[u8] wb fun e w' => ∃ y, e = .returned y ∧ Hid (∀ w'', RowKit.Below w'.heap.size w' w'' → (convert 52 9 y).run Tryd.prog w'' = .ok (.string T) w'') ∧ RowKit.Below wb.heap.size wb w') ∧ Hid (∀ wb, RowKit.Below w11.drew.heap.size w11.drew wb → Calls Tryd.prog 24 #[u4] wb fun e w' => ∃ y, e = .returned y ∧ Hid (∀ w'', RowKit.Below w'.heap.size w' w'' → (convert 52 9 y).run Tryd.prog w'' = .ok (.string T) w'') ∧ RowKit.Below wb.heap.size wb w') := by
                refine ⟨strC (bytesL es'), fun wb hb => ?_, fun wb hb => ?_⟩
                · refine (dbytes_any u8 es' wb (tab_under9 TT hb) (eS.below hb) (by omega) HL'.out.at).mono ?_
                  rintro e w' ⟨g, rfl, hm, _, hB⟩
                  exact ⟨_, rfl, fun w'' h'' => run_strC (hm.bs.under h''), hB⟩
                · refine (rdbytes_any _ es' wb (eR.below hb) (by omega) HL'.out.at).mono ?_
                  rintro e w' ⟨y, rfl, hy, hB⟩
                  exact ⟨y, rfl, fun w'' h'' => run_strC (hy.under h''), hB⟩
              clear hr hr' b3
              refine wp_region_held_drew (S := (fun _ => True)) (by kernel_rfl) trivial (fun hHeld => ?_)
              refine wpAnyH_take (i := 0) (v := ?_) rfl (by kernel_rfl) (by kernel_rfl) (by kernel_rfl) (fun _ _ _ h => h) (Or.inl ⟨by rfl, ?_⟩) hHeld ?_
              rotate_left
              · (intro w hSw; (try dsimp only at hSw); go_simp; try with_reducible rfl)
              simp only [List.getElem_toArray, List.getElem_cons_zero, Act.put, List.setIfInBounds_toArray, List.set_cons_zero, List.set_cons_succ]
              refine wpAnyH_take (i := 1) (v := ?_) rfl (by kernel_rfl) (by kernel_rfl) (by kernel_rfl) (fun _ _ _ h => h) (Or.inl ⟨by rfl, ?_⟩) hHeld ?_
              rotate_left
              · (intro w hSw; (try dsimp only at hSw); go_simp; try with_reducible rfl)
              simp only [List.getElem_toArray, List.getElem_cons_succ, List.getElem_cons_zero, Act.put, List.setIfInBounds_toArray, List.set_cons_zero, List.set_cons_succ]
              refine wpAnyH_take (i := 2) (v := ?_) rfl (by kernel_rfl) (by kernel_rfl) (by kernel_rfl) (fun _ _ _ h => h) (Or.inl ⟨by rfl, ?_⟩) hHeld ?_
              rotate_left
              · (intro w hSw; (try dsimp only at hSw); go_simp; try with_reducible rfl)
              simp only [List.getElem_toArray, List.getElem_cons_succ, List.getElem_cons_zero, Act.put, List.setIfInBounds_toArray, List.set_cons_zero, List.set_cons_succ]
              refine wpAnyH_take (i := 3) (v := ?_) rfl (by kernel_rfl) (by kernel_rfl) (by kernel_rfl) (fun _ _ _ h => h) (Or.inl ⟨by rfl, ?_⟩) hHeld ?_
              rotate_left
              · (intro w hSw; (try dsimp only at hSw); go_simp; try with_reducible rfl)
              simp only [List.getElem_toArray, List.getElem_cons_succ, List.getElem_cons_zero, Act.put, List.setIfInBounds_toArray, List.set_cons_zero, List.set_cons_succ]
              refine wpAnyH_take (i := 4) (v := ?_) rfl (by kernel_rfl) (by kernel_rfl) (by kernel_rfl) (fun _ _ _ h => h) (Or.inl ⟨by rfl, ?_⟩) hHeld ?_
              rotate_left
              · (intro w hSw; (try dsimp only at hSw); go_simp; try with_reducible rfl)
              simp only [List.getElem_toArray, List.getElem_cons_succ, List.getElem_cons_zero, Act.put, List.setIfInBounds_toArray, List.set_cons_zero, List.set_cons_succ]
              refine wpAnyH_take (i := 5) (v := ?_) rfl (by kernel_rfl) (by kernel_rfl) (by kernel_rfl) (fun _ _ _ h => h) (Or.inl ⟨by rfl, ?_⟩) hHeld ?_
              rotate_left
              · (intro w hSw; (try dsimp only at hSw); go_simp; try with_reducible rfl)
              simp only [List.getElem_toArray, List.getElem_cons_succ, List.getElem_cons_zero, Act.put, List.setIfInBounds_toArray, List.set_cons_zero, List.set_cons_succ]
              refine wpAnyH_take (i := 6) (v := ?_) rfl (by kernel_rfl) (by kernel_rfl) (by kernel_rfl) (fun _ _ _ h => h) (Or.inl ⟨by rfl, ?_⟩) hHeld ?_
              rotate_left
              · (intro w hSw; (try dsimp only at hSw); go_simp; try with_reducible rfl)
              simp only [List.getElem_toArray, List.getElem_cons_succ, List.getElem_cons_zero, Act.put, List.setIfInBounds_toArray, List.set_cons_zero, List.set_cons_succ]
              refine wpAnyH_take (i := 7) (v := undef) rfl (by kernel_rfl) (by kernel_rfl) (by kernel_rfl) (fun _ _ _ h => h) (Or.inr ⟨by rfl, rfl⟩) hHeld ?_
              simp only [List.getElem_toArray, List.getElem_cons_succ, List.getElem_cons_zero, Act.put, List.setIfInBounds_toArray, List.set_cons_zero, List.set_cons_succ]
              refine wpAnyH_take (i := 8) (v := undef) rfl (by kernel_rfl) (by kernel_rfl) (by kernel_rfl) (fun _ _ _ h => h) (Or.inr ⟨by rfl, rfl⟩) hHeld ?_
              simp only [List.getElem_toArray, List.getElem_cons_succ, List.getElem_cons_zero, Act.put, List.setIfInBounds_toArray, List.set_cons_zero, List.set_cons_succ]
              refine wpAnyH_take (i := 9) (v := undef) rfl (by kernel_rfl) (by kernel_rfl) (by kernel_rfl) (fun _ _ _ h => h) (Or.inr ⟨by rfl, rfl⟩) hHeld ?_
              simp only [List.getElem_toArray, List.getElem_cons_succ, List.getElem_cons_zero, Act.put, List.setIfInBounds_toArray, List.set_cons_zero, List.set_cons_succ]
              refine wpAnyH_take (i := 10) (v := undef) rfl (by kernel_rfl) (by kernel_rfl) (by kernel_rfl) (fun _ _ _ h => h) (Or.inr ⟨by rfl, rfl⟩) hHeld ?_
              simp only [List.getElem_toArray, List.getElem_cons_succ, List.getElem_cons_zero, Act.put, List.setIfInBounds_toArray, List.set_cons_zero, List.set_cons_succ]
              refine wpAnyH_take (i := 11) (v := undef) rfl (by kernel_rfl) (by kernel_rfl) (by kernel_rfl) (fun _ _ _ h => h) (Or.inr ⟨by rfl, rfl⟩) hHeld ?_
              simp only [List.getElem_toArray, List.getElem_cons_succ, List.getElem_cons_zero, Act.put, List.setIfInBounds_toArray, List.set_cons_zero, List.set_cons_succ]
              refine wpAnyH_take (i := 12) (v := undef) rfl (by kernel_rfl) (by kernel_rfl) (by kernel_rfl) (fun _ _ _ h => h) (Or.inr ⟨by rfl, rfl⟩) hHeld ?_
              simp only [List.getElem_toArray, List.getElem_cons_succ, List.getElem_cons_zero, Act.put, List.setIfInBounds_toArray, List.set_cons_zero, List.set_cons_succ]
              refine wpAnyH_take (i := 13) (v := undef) rfl (by kernel_rfl) (by kernel_rfl) (by kernel_rfl) (fun _ _ _ h => h) (Or.inr ⟨by rfl, rfl⟩) hHeld ?_
              simp only [List.getElem_toArray, List.getElem_cons_succ, List.getElem_cons_zero, Act.put, List.setIfInBounds_toArray, List.set_cons_zero, List.set_cons_succ]
              refine wpAnyH_take (i := 14) (v := ?_) rfl (by kernel_rfl) (by kernel_rfl) (by kernel_rfl) (fun _ _ _ h => h) (Or.inl ⟨by rfl, ?_⟩) hHeld ?_
              rotate_left
              · (intro w hSw; (try dsimp only at hSw); go_simp; try with_reducible rfl)
              simp only [List.getElem_toArray, List.getElem_cons_succ, List.getElem_cons_zero, Act.put, List.setIfInBounds_toArray, List.set_cons_zero, List.set_cons_succ]
              refine wpAnyH_take (i := 15) (v := ?_) rfl (by kernel_rfl) (by kernel_rfl) (by kernel_rfl) (fun _ _ _ h => h) (Or.inl ⟨by rfl, ?_⟩) hHeld ?_
              rotate_left
              · (intro w hSw; (try dsimp only at hSw); go_simp; try with_reducible rfl)
              simp only [List.getElem_toArray, List.getElem_cons_succ, List.getElem_cons_zero, Act.put, List.setIfInBounds_toArray, List.set_cons_zero, List.set_cons_succ]
              refine wpAnyH_take (i := 16) (v := ?_) rfl (by kernel_rfl) (by kernel_rfl) (by kernel_rfl) (fun _ _ _ h => h) (Or.inl ⟨by rfl, ?_⟩) hHeld ?_
              rotate_left
              · (intro w hSw; (try dsimp only at hSw); go_simp; try with_reducible rfl)
              simp only [List.getElem_toArray, List.getElem_cons_succ, List.getElem_cons_zero, Act.put, List.setIfInBounds_toArray, List.set_cons_zero, List.set_cons_succ]
              refine wpAnyH_take (i := 17) (v := ?_) rfl (by kernel_rfl) (by kernel_rfl) (by kernel_rfl) (fun _ _ _ h => h) (Or.inl ⟨by rfl, ?_⟩) hHeld ?_
              rotate_left
              · (intro w hSw; (try dsimp only at hSw); go_simp; try with_reducible rfl)
              simp only [List.getElem_toArray, List.getElem_cons_succ, List.getElem_cons_zero, Act.put, List.setIfInBounds_toArray, List.set_cons_zero, List.set_cons_succ]
              refine wpAnyH_take (i := 18) (v := ?_) rfl (by kernel_rfl) (by kernel_rfl) (by kernel_rfl) (fun _ _ _ h => h) (Or.inl ⟨by rfl, ?_⟩) hHeld ?_
              rotate_left
              · (intro w hSw; (try dsimp only at hSw); go_simp; try with_reducible rfl)
              simp only [List.getElem_toArray, List.getElem_cons_succ, List.getElem_cons_zero, Act.put, List.setIfInBounds_toArray, List.set_cons_zero, List.set_cons_succ]
              refine wpAnyH_take (i := 19) (v := ?_) rfl (by kernel_rfl) (by kernel_rfl) (by kernel_rfl) (fun _ _ _ h => h) (Or.inl ⟨by rfl, ?_⟩) hHeld ?_
              rotate_left
              · (intro w hSw; (try dsimp only at hSw); go_simp; try with_reducible rfl)
              simp only [List.getElem_toArray, List.getElem_cons_succ, List.getElem_cons_zero, Act.put, List.setIfInBounds_toArray, List.set_cons_zero, List.set_cons_succ]
              refine wpAnyH_take (i := 20) (v := ?_) rfl (by kernel_rfl) (by kernel_rfl) (by kernel_rfl) (fun _ _ _ h => h) (Or.inl ⟨by rfl, ?_⟩) hHeld ?_
              rotate_left
              · (intro w hSw; (try dsimp only at hSw); go_simp; try with_reducible rfl)
              simp only [List.getElem_toArray, List.getElem_cons_succ, List.getElem_cons_zero, Act.put, List.setIfInBounds_toArray, List.set_cons_zero, List.set_cons_succ]
              refine wpAnyH_take (i := 21) (v := ?_) rfl (by kernel_rfl) (by kernel_rfl) (by kernel_rfl) (fun _ _ _ h => h) (Or.inl ⟨by rfl, ?_⟩) hHeld ?_
              rotate_left
              · (intro w hSw; (try dsimp only at hSw); go_simp; try with_reducible rfl)
              simp only [List.getElem_toArray, List.getElem_cons_succ, List.getElem_cons_zero, Act.put, List.setIfInBounds_toArray, List.set_cons_zero, List.set_cons_succ]
              refine wpAnyH_take (i := 22) (v := ?_) rfl (by kernel_rfl) (by kernel_rfl) (by kernel_rfl) (fun _ _ _ h => h) (Or.inl ⟨by rfl, ?_⟩) hHeld ?_
              rotate_left
              · (intro w hSw; (try dsimp only at hSw); go_simp; try with_reducible rfl)
              simp only [List.getElem_toArray, List.getElem_cons_succ, List.getElem_cons_zero, Act.put, List.setIfInBounds_toArray, List.set_cons_zero, List.set_cons_succ]
              refine wpAnyH_take (i := 23) (v := ?_) rfl (by kernel_rfl) (by kernel_rfl) (by kernel_rfl) (fun _ _ _ h => h) (Or.inl ⟨by rfl, ?_⟩) hHeld ?_
              rotate_left
              · (intro w hSw; (try dsimp only at hSw); go_simp; try with_reducible rfl)
              simp only [List.getElem_toArray, List.getElem_cons_succ, List.getElem_cons_zero, Act.put, List.setIfInBounds_toArray, List.set_cons_zero, List.set_cons_succ]
              refine wpAnyH_take (i := 24) (v := ?_) rfl (by kernel_rfl) (by kernel_rfl) (by kernel_rfl) (fun _ _ _ h => h) (Or.inl ⟨by rfl, ?_⟩) hHeld ?_
              rotate_left
              · (intro w hSw; (try dsimp only at hSw); go_simp; try with_reducible rfl)
              simp only [List.getElem_toArray, List.getElem_cons_succ, List.getElem_cons_zero, Act.put, List.setIfInBounds_toArray, List.set_cons_zero, List.set_cons_succ]
              refine wpAnyH_take (i := 25) (v := ?_) rfl (by kernel_rfl) (by kernel_rfl) (by kernel_rfl) (fun _ _ _ h => h) (Or.inl ⟨by rfl, ?_⟩) hHeld ?_
              rotate_left
              · (intro w hSw; (try dsimp only at hSw); go_simp; try with_reducible rfl)
              simp only [List.getElem_toArray, List.getElem_cons_succ, List.getElem_cons_zero, Act.put, List.setIfInBounds_toArray, List.set_cons_zero, List.set_cons_succ]
              refine wpAnyH_take (i := 27) (v := ?_) rfl (by kernel_rfl) (by kernel_rfl) (by kernel_rfl) (fun _ _ _ h => h) (Or.inl ⟨by rfl, ?_⟩) hHeld ?_
              rotate_left
              · (intro w hSw; (try dsimp only at hSw); go_simp; try with_reducible rfl)
              simp only [List.getElem_toArray, List.getElem_cons_succ, List.getElem_cons_zero, Act.put, List.setIfInBounds_toArray, List.set_cons_zero, List.set_cons_succ]
              have bb0 : RowKit.Below w11.drew.heap.size w11.drew w11.drew := Below.refl _ _
              refine wpAnyH_ready (rs := [26]) (by kernel_rfl) (by simp) ?_
              refine AllReadyH.cons rfl (fun K hK => ?_) AllReadyH.nil
              go_simp
              go_wp2_with (go_at_call 21; refine (NM.out _ bb0).mono ?_; rintro e v1 ⟨y1, rfl, Y1, C1⟩)
              have bb1 := bb0.trans (C1.mono bb0.size)
              refine hK.out _ _ trivial (fun hHeld => ?_)
              clear hK K
              refine wpAnyH_ready (rs := [28]) (by kernel_rfl) (by simp) ?_
              refine AllReadyH.cons rfl (fun K hK => ?_) AllReadyH.nil
              go_simp
              go_wp2_with (go_at_call 22; refine (RN.out _ bb1).mono ?_; rintro e v2 ⟨y2, rfl, Y2, C2⟩)
              have bb2 := bb1.trans (C2.mono bb1.size)
              have Y1 : Hid (Ss v2 y1 SL) := Y1.out.below C2
              refine hK.out _ _ trivial (fun hHeld => ?_)
              clear hK K
              refine wpAnyH_ready (rs := [29]) (by kernel_rfl) (by simp) ?_
              refine AllReadyH.cons rfl (fun K hK => ?_) AllReadyH.nil
              go_simp
              go_wp2_with (go_at_call 20; refine (texts_yes y1 y2 SL _ Y1.out Y2.out (by have := hSLn.out; omega)).mono ?_; rintro e v3 ⟨rfl, C3⟩)
              have bb3 := bb2.trans (C3.mono bb2.size)
              refine hK.out _ _ trivial (fun hHeld => ?_)
              clear hK K Y1 Y2 NM RN C1 C2 C3
              refine wpAnyH_take (i := 30) (v := ?_) rfl (by kernel_rfl) (by kernel_rfl) (by kernel_rfl) (fun _ _ _ h => h) (Or.inl ⟨by rfl, ?_⟩) hHeld ?_
              rotate_left
              · (intro w hSw; (try dsimp only at hSw); go_simp; try with_reducible rfl)
              simp only [List.getElem_toArray, List.getElem_cons_succ, List.getElem_cons_zero, Act.put, List.setIfInBounds_toArray, List.set_cons_zero, List.set_cons_succ]
              refine wpAnyH_take (i := 31) (v := ?_) rfl (by kernel_rfl) (by kernel_rfl) (by kernel_rfl) (fun _ _ _ h => h) (Or.inl ⟨by rfl, ?_⟩) hHeld ?_
              rotate_left
              · (intro w hSw; (try dsimp only at hSw); go_simp; try with_reducible rfl)
              simp only [List.getElem_toArray, List.getElem_cons_succ, List.getElem_cons_zero, Act.put, List.setIfInBounds_toArray, List.set_cons_zero, List.set_cons_succ]
              refine wpAnyH_take (i := 32) (v := ?_) rfl (by kernel_rfl) (by kernel_rfl) (by kernel_rfl) (fun _ _ _ h => h) (Or.inl ⟨by rfl, ?_⟩) hHeld ?_
              rotate_left
              · (intro w hSw; (try dsimp only at hSw); go_simp; try with_reducible rfl)
              simp only [List.getElem_toArray, List.getElem_cons_succ, List.getElem_cons_zero, Act.put, List.setIfInBounds_toArray, List.set_cons_zero, List.set_cons_succ]
              refine wpAnyH_take (i := 33) (v := ?_) rfl (by kernel_rfl) (by kernel_rfl) (by kernel_rfl) (fun _ _ _ h => h) (Or.inl ⟨by rfl, ?_⟩) hHeld ?_
              rotate_left
              · (intro w hSw; (try dsimp only at hSw); go_simp; try with_reducible rfl)
              simp only [List.getElem_toArray, List.getElem_cons_succ, List.getElem_cons_zero, Act.put, List.setIfInBounds_toArray, List.set_cons_zero, List.set_cons_succ]
              refine wpAnyH_take (i := 36) (v := ?_) rfl (by kernel_rfl) (by kernel_rfl) (by kernel_rfl) (fun _ _ _ h => h) (Or.inl ⟨by rfl, ?_⟩) hHeld ?_
              rotate_left
              · (intro w hSw; (try dsimp only at hSw); go_simp; try with_reducible rfl)
              simp only [List.getElem_toArray, List.getElem_cons_succ, List.getElem_cons_zero, Act.put, List.setIfInBounds_toArray, List.set_cons_zero, List.set_cons_succ]
              refine wpAnyH_ready (rs := [34]) (by kernel_rfl) (by simp) ?_
              refine AllReadyH.cons rfl (fun K hK => ?_) AllReadyH.nil
              go_simp
              go_wp2_with (go_at_call 23; refine (DB.out _ bb3).mono ?_; rintro e v4 ⟨yA, rfl, RA, C4⟩)
              have bb4 := bb3.trans (C4.mono bb3.size)
              refine hK.out _ _ trivial (fun hHeld => ?_)
              clear hK K
              refine wpAnyH_ready (rs := [35, 37]) (by kernel_rfl) (by simp) ?_
              refine AllReadyH.cons rfl (fun K hK => ?_) (AllReadyH.cons rfl (fun K hK => ?_) AllReadyH.nil)
              · go_simp
                rw [RA.out v4 (Below.refl _ _)]
                go_simp
                refine hK.out _ _ trivial (fun hHeld => ?_)
                clear hK K
                refine wpAnyH_ready (rs := [37]) (by kernel_rfl) (by simp) ?_
                refine AllReadyH.cons rfl (fun K hK => ?_) AllReadyH.nil
                go_simp
                go_wp2_with (go_at_call 24; refine (RB.out _ bb4).mono ?_; rintro e v5 ⟨yB, rfl, RB, C5⟩)
                have bb5 := bb4.trans (C5.mono bb4.size)
                refine hK.out _ _ trivial (fun hHeld => ?_)
                clear hK K
                refine wpAnyH_ready (rs := [38]) (by kernel_rfl) (by simp) ?_
                refine AllReadyH.cons rfl (fun K hK => ?_) AllReadyH.nil
                go_simp
                rw [RB.out v5 (Below.refl _ _)]
                go_simp
                refine hK.out _ _ trivial (fun hHeld => ?_)
                clear hK K
                refine wpAnyH_take (i := 39) (v := ?_) rfl (by kernel_rfl) (by kernel_rfl) (by kernel_rfl) (fun _ _ _ h => h) (Or.inl ⟨by rfl, ?_⟩) hHeld ?_
                rotate_left
                · (intro w hSw; (try dsimp only at hSw); go_simp; try with_reducible rfl)
                simp only [List.getElem_toArray, List.getElem_cons_succ, List.getElem_cons_zero, Act.put, List.setIfInBounds_toArray, List.set_cons_zero, List.set_cons_succ]
                refine wpAnyH_take (i := 40) (v := ?_) rfl (by kernel_rfl) (by kernel_rfl) (by kernel_rfl) (fun _ _ _ h => h) (Or.inl ⟨by rfl, ?_⟩) hHeld ?_
                rotate_left
                · (intro w hSw; (try dsimp only at hSw); go_simp; try with_reducible rfl)
                simp only [List.getElem_toArray, List.getElem_cons_succ, List.getElem_cons_zero, Act.put, List.setIfInBounds_toArray, List.set_cons_zero, List.set_cons_succ]
                refine wpAnyH_done (by kernel_rfl) ?_ _
                have BW := Dd.trans (bb5.mono Dd.size)
                have eS := eS.below bb5
                have eR := eR.below bb5
                clear hHeld
                as_aux_lemma =>
                  go_wp2_with fail
                  go_roundw
                  case rel => exact ⟨k + 1, es', by omega, by go_num, by omega, HL', eS, eR, BW⟩
                  case measure => simp [intOf]; omega
              · go_simp
                go_wp2_with (go_at_call 24; refine (RB.out _ bb4).mono ?_; rintro e v5 ⟨yB, rfl, RB, C5⟩)
                have bb5 := bb4.trans (C5.mono bb4.size)
                have RA : Hid (∀ w'', RowKit.Below v5.heap.size v5 w'' → (convert 52 9 yA).run Tryd.prog w'' = .ok (.string T) w'') := fun w'' h => RA.out w'' (C5.trans (h.mono C5.size))
                refine hK.out _ _ trivial (fun hHeld => ?_)
                clear hK K
                refine wpAnyH_ready (rs := [35, 38]) (by kernel_rfl) (by simp) ?_
                refine AllReadyH.cons rfl (fun K hK => ?_) (AllReadyH.cons rfl (fun K hK => ?_) AllReadyH.nil)
                · go_simp
                  rw [RA.out v5 (Below.refl _ _)]
                  go_simp
                  refine hK.out _ _ trivial (fun hHeld => ?_)
                  clear hK K
                  refine wpAnyH_ready (rs := [38]) (by kernel_rfl) (by simp) ?_
                  refine AllReadyH.cons rfl (fun K hK => ?_) AllReadyH.nil
                  go_simp
                  rw [RB.out v5 (Below.refl _ _)]
                  go_simp
                  refine hK.out _ _ trivial (fun hHeld => ?_)
                  clear hK K
                  refine wpAnyH_take (i := 39) (v := ?_) rfl (by kernel_rfl) (by kernel_rfl) (by kernel_rfl) (fun _ _ _ h => h) (Or.inl ⟨by rfl, ?_⟩) hHeld ?_
                  rotate_left
                  · (intro w hSw; (try dsimp only at hSw); go_simp; try with_reducible rfl)
                  simp only [List.getElem_toArray, List.getElem_cons_succ, List.getElem_cons_zero, Act.put, List.setIfInBounds_toArray, List.set_cons_zero, List.set_cons_succ]
                  refine wpAnyH_take (i := 40) (v := ?_) rfl (by kernel_rfl) (by kernel_rfl) (by kernel_rfl) (fun _ _ _ h => h) (Or.inl ⟨by rfl, ?_⟩) hHeld ?_
                  rotate_left
                  · (intro w hSw; (try dsimp only at hSw); go_simp; try with_reducible rfl)
                  simp only [List.getElem_toArray, List.getElem_cons_succ, List.getElem_cons_zero, Act.put, List.setIfInBounds_toArray, List.set_cons_zero, List.set_cons_succ]
                  refine wpAnyH_done (by kernel_rfl) ?_ _
                  have BW := Dd.trans (bb5.mono Dd.size)
                  have eS := eS.below bb5
                  have eR := eR.below bb5
                  clear hHeld
                  as_aux_lemma =>
                    go_wp2_with fail
                    go_roundw
                    case rel => exact ⟨k + 1, es', by omega, by go_num, by omega, HL', eS, eR, BW⟩
                    case measure => simp [intOf]; omega
                · go_simp
                  rw [RB.out v5 (Below.refl _ _)]
                  go_simp
                  refine hK.out _ _ trivial (fun hHeld => ?_)
                  clear hK K
                  refine wpAnyH_ready (rs := [35]) (by kernel_rfl) (by simp) ?_
                  refine AllReadyH.cons rfl (fun K hK => ?_) AllReadyH.nil
                  go_simp
                  rw [RA.out v5 (Below.refl _ _)]
                  go_simp
                  refine hK.out _ _ trivial (fun hHeld => ?_)
                  clear hK K
                  refine wpAnyH_take (i := 39) (v := ?_) rfl (by kernel_rfl) (by kernel_rfl) (by kernel_rfl) (fun _ _ _ h => h) (Or.inl ⟨by rfl, ?_⟩) hHeld ?_
                  rotate_left
                  · (intro w hSw; (try dsimp only at hSw); go_simp; try with_reducible rfl)
                  simp only [List.getElem_toArray, List.getElem_cons_succ, List.getElem_cons_zero, Act.put, List.setIfInBounds_toArray, List.set_cons_zero, List.set_cons_succ]
                  refine wpAnyH_take (i := 40) (v := ?_) rfl (by kernel_rfl) (by kernel_rfl) (by kernel_rfl) (fun _ _ _ h => h) (Or.inl ⟨by rfl, ?_⟩) hHeld ?_
                  rotate_left
                  · (intro w hSw; (try dsimp only at hSw); go_simp; try with_reducible rfl)
                  simp only [List.getElem_toArray, List.getElem_cons_succ, List.getElem_cons_zero, Act.put, List.setIfInBounds_toArray, List.set_cons_zero, List.set_cons_succ]
                  refine wpAnyH_done (by kernel_rfl) ?_ _
                  have BW := Dd.trans (bb5.mono Dd.size)
                  have eS := eS.below bb5
                  have eR := eR.below bb5
                  clear hHeld
                  as_aux_lemma =>
                    go_wp2_with fail
                    go_roundw
                    case rel => exact ⟨k + 1, es', by omega, by go_num, by omega, HL', eS, eR, BW⟩
                    case measure => simp [intOf]; omega
          · obtain ⟨en, hen⟩ : ∃ en, Hid (En.at es' kk = en) := ⟨_, rfl⟩
            rw [hen.out]
            go_wp2_with fail
            refine (rat_any _ es' xb _ hR10 (by omega)).mono ?_
            rintro e w11 ⟨r', rfl, hr', rfl⟩
            obtain rfl := hr'.out.unique hr.out
            go_upto_region 49 with fail
            as_aux_lemma =>
              obtain ⟨ra, rc, rfl⟩ := hR10.form
              obtain ⟨rb, ro, rfl, hcr⟩ := hR10.nth hkk
              have dd := (hcr kk hkk).2
              rw [show es'.getD kk En.fr = en from hen.out] at dd
              clear hcr
              have hk0 : (0 : Int) ≤ (kk : Int) := by omega
              have hk1 : ¬ ((kk : Int) < 0) := by omega
              have hk2 : (kk : Int) < (es'.length : Int) := by omega
              have Dd := below_dr9 D10
              have TT := tab_under9 hT Dd
              have eS : Es w11.drew u8 es' := hS10.below (below_dr9 (Below.refl _ _))
              have eR : Es w11.drew (.slice (some ⟨rb, ro, none⟩) es'.length rc) es' := hR10.below (below_dr9 (Below.refl _ _))
              obtain ⟨SL, hSLn, NM, RN⟩ : ∃ SL : List (List UInt8), Hid (SL.length ≤ 120) ∧ Hid (∀ wb, RowKit.Below w11.drew.heap.size w11.drew wb → Calls Tryd.prog 21 #[u8] wb fun e w' => ∃ y, e = .returned y ∧ Hid (Ss w' y SL) ∧ RowKit.Below wb.heap.size wb w') ∧ Hid (∀ wb, RowKit.Below w11.drew.heap.size w11.drew wb → Calls Tryd.prog 22 #[(.slice (some ⟨rb, ro, none⟩) es'.length rc)] wb fun e w' => ∃ y, e = .returned y ∧ Hid (Ss w' y SL) ∧ RowKit.Below wb.heap.size wb w') := by
                refine ⟨sortL (namesL es'), ?_, fun wb hb => ?_, fun wb hb => ?_⟩
                · rw [Hid, sortL_len]; exact Nat.le_trans (namesL_le es') hle2
                · refine (names_any u8 es' wb (eS.below hb) (by omega)).mono ?_
                  rintro e w' ⟨y, rfl, hy, hB⟩
                  exact ⟨y, rfl, Ss.ofOwns hy, hB⟩
                · refine (rnames_any _ es' wb (eR.below hb) (by omega)).mono ?_
                  rintro e w' ⟨y, rfl, hy, hB⟩
                  exact ⟨y, rfl, Ss.ofOwns hy, hB⟩
              obtain ⟨T, DB, RB⟩ : ∃ T : ByteArray, Hid (∀ wb, RowKit.Below w11.drew.heap.size w11.drew wb → Calls Tryd.prog 23 #[u8] wb fun e w' => ∃ y, e = .returned y ∧ Hid (∀ w'', RowKit.Below w'.heap.size w' w'' → (convert 52 9 y).run Tryd.prog w'' = .ok (.string T) w'') ∧ RowKit.Below wb.heap.size wb w') ∧ Hid (∀ wb, RowKit.Below w11.drew.heap.size w11.drew wb → Calls Tryd.prog 24 #[(.slice (some ⟨rb, ro, none⟩) es'.length rc)] wb fun e w' => ∃ y, e = .returned y ∧ Hid (∀ w'', RowKit.Below w'.heap.size w' w'' → (convert 52 9 y).run Tryd.prog w'' = .ok (.string T) w'') ∧ RowKit.Below wb.heap.size wb w') := by
                refine ⟨strC (bytesL es'), fun wb hb => ?_, fun wb hb => ?_⟩
                · refine (dbytes_any u8 es' wb (tab_under9 TT hb) (eS.below hb) (by omega) HL'.out.at).mono ?_
                  rintro e w' ⟨g, rfl, hm, _, hB⟩
                  exact ⟨_, rfl, fun w'' h'' => run_strC (hm.bs.under h''), hB⟩
                · refine (rdbytes_any _ es' wb (eR.below hb) (by omega) HL'.out.at).mono ?_
                  rintro e w' ⟨y, rfl, hy, hB⟩
                  exact ⟨y, rfl, fun w'' h'' => run_strC (hy.under h''), hB⟩
              clear hr hr' b3
              have SK : Hid (∀ w', RowKit.Below w11.drew.heap.size w11.drew w' → w'.cell? ⟨rb, ro + kk * 2 + 1, none⟩ = some (.int .i64 en.ino)) := fun w' h => (Chg.ofBelowC h).cell (show w11.drew.cell? ⟨rb, ro + kk * 2 + 1, none⟩ = some (.int .i64 en.ino) from dd) (fun h => h)
              refine wp_region_held_drew (S := (fun w' => w'.cell? ⟨rb, ro + kk * 2 + 1, none⟩ = some (.int .i64 en.ino))) (by kernel_rfl) (SK.out _ (Below.refl _ _)) (fun hHeld => ?_)
              refine wpAnyH_take (i := 0) (v := ?_) rfl (by kernel_rfl) (by kernel_rfl) (by kernel_rfl) (fun _ _ _ h => h) (Or.inl ⟨by rfl, ?_⟩) hHeld ?_
              rotate_left
              · (intro w hSw; (try dsimp only at hSw); go_simp; try with_reducible rfl)
              simp only [List.getElem_toArray, List.getElem_cons_zero, Act.put, List.setIfInBounds_toArray, List.set_cons_zero, List.set_cons_succ]
              refine wpAnyH_take (i := 1) (v := ?_) rfl (by kernel_rfl) (by kernel_rfl) (by kernel_rfl) (fun _ _ _ h => h) (Or.inl ⟨by rfl, ?_⟩) hHeld ?_
              rotate_left
              · (intro w hSw; (try dsimp only at hSw); go_simp; try with_reducible rfl)
              simp only [List.getElem_toArray, List.getElem_cons_succ, List.getElem_cons_zero, Act.put, List.setIfInBounds_toArray, List.set_cons_zero, List.set_cons_succ]
              refine wpAnyH_take (i := 2) (v := ?_) rfl (by kernel_rfl) (by kernel_rfl) (by kernel_rfl) (fun _ _ _ h => h) (Or.inl ⟨by rfl, ?_⟩) hHeld ?_
              rotate_left
              · (intro w hSw; (try dsimp only at hSw); go_simp; try with_reducible rfl)
              simp only [List.getElem_toArray, List.getElem_cons_succ, List.getElem_cons_zero, Act.put, List.setIfInBounds_toArray, List.set_cons_zero, List.set_cons_succ]
              refine wpAnyH_take (i := 3) (v := ?_) rfl (by kernel_rfl) (by kernel_rfl) (by kernel_rfl) (fun _ _ _ h => h) (Or.inl ⟨by rfl, ?_⟩) hHeld ?_
              rotate_left
              · (intro w hSw; (try dsimp only at hSw); go_simp; try with_reducible rfl)
              simp only [List.getElem_toArray, List.getElem_cons_succ, List.getElem_cons_zero, Act.put, List.setIfInBounds_toArray, List.set_cons_zero, List.set_cons_succ]
              refine wpAnyH_take (i := 4) (v := ?_) rfl (by kernel_rfl) (by kernel_rfl) (by kernel_rfl) (fun _ _ _ h => h) (Or.inl ⟨by rfl, ?_⟩) hHeld ?_
              rotate_left
              · (intro w hSw; (try dsimp only at hSw); go_simp; try with_reducible rfl)
              simp only [List.getElem_toArray, List.getElem_cons_succ, List.getElem_cons_zero, Act.put, List.setIfInBounds_toArray, List.set_cons_zero, List.set_cons_succ]
              refine wpAnyH_take (i := 5) (v := ?_) rfl (by kernel_rfl) (by kernel_rfl) (by kernel_rfl) (fun _ _ _ h => h) (Or.inl ⟨by rfl, ?_⟩) hHeld ?_
              rotate_left
              · (intro w hSw; (try dsimp only at hSw); go_simp; try with_reducible rfl)
              simp only [List.getElem_toArray, List.getElem_cons_succ, List.getElem_cons_zero, Act.put, List.setIfInBounds_toArray, List.set_cons_zero, List.set_cons_succ]
              refine wpAnyH_take (i := 6) (v := ?_) rfl (by kernel_rfl) (by kernel_rfl) (by kernel_rfl) (fun _ _ _ h => h) (Or.inl ⟨by rfl, ?_⟩) hHeld ?_
              rotate_left
              · (intro w hSw; (try dsimp only at hSw); go_simp; try with_reducible rfl)
              simp only [List.getElem_toArray, List.getElem_cons_succ, List.getElem_cons_zero, Act.put, List.setIfInBounds_toArray, List.set_cons_zero, List.set_cons_succ]
              refine wpAnyH_take (i := 7) (v := ?_) rfl (by kernel_rfl) (by kernel_rfl) (by kernel_rfl) (fun _ _ _ h => h) (Or.inl ⟨by rfl, ?_⟩) hHeld ?_
              rotate_left
              · (intro w hSw; (try dsimp only at hSw); go_simp; try with_reducible rfl)
              simp only [List.getElem_toArray, List.getElem_cons_succ, List.getElem_cons_zero, Act.put, List.setIfInBounds_toArray, List.set_cons_zero, List.set_cons_succ]
              refine wpAnyH_take (i := 8) (v := ?_) rfl (by kernel_rfl) (by kernel_rfl) (by kernel_rfl) (fun _ _ _ h => h) (Or.inl ⟨by rfl, ?_⟩) hHeld ?_
              rotate_left
              · (intro w hSw; (try dsimp only at hSw); go_simp; try with_reducible rfl)
              simp only [List.getElem_toArray, List.getElem_cons_succ, List.getElem_cons_zero, Act.put, List.setIfInBounds_toArray, List.set_cons_zero, List.set_cons_succ]
              refine wpAnyH_take (i := 9) (v := ?_) rfl (by kernel_rfl) (by kernel_rfl) (by kernel_rfl) (fun _ _ _ h => h) (Or.inl ⟨by rfl, ?_⟩) hHeld ?_
              rotate_left
              · (intro w hSw; (try dsimp only at hSw); go_simp; try with_reducible rfl)
              simp only [List.getElem_toArray, List.getElem_cons_succ, List.getElem_cons_zero, Act.put, List.setIfInBounds_toArray, List.set_cons_zero, List.set_cons_succ]
              refine wpAnyH_take (i := 10) (v := ?_) rfl (by kernel_rfl) (by kernel_rfl) (by kernel_rfl) (fun _ _ _ h => h) (Or.inl ⟨by rfl, ?_⟩) hHeld ?_
              rotate_left
              · (intro w hSw; (try dsimp only at hSw); go_simp; try with_reducible rfl)
              simp only [List.getElem_toArray, List.getElem_cons_succ, List.getElem_cons_zero, Act.put, List.setIfInBounds_toArray, List.set_cons_zero, List.set_cons_succ]
              refine wpAnyH_take (i := 11) (v := ?_) rfl (by kernel_rfl) (by kernel_rfl) (by kernel_rfl) (fun _ _ _ h => h) (Or.inl ⟨by rfl, ?_⟩) hHeld ?_
              rotate_left
              · (intro w hSw; (try dsimp only at hSw); go_simp; try with_reducible rfl)
              simp only [List.getElem_toArray, List.getElem_cons_succ, List.getElem_cons_zero, Act.put, List.setIfInBounds_toArray, List.set_cons_zero, List.set_cons_succ]
              refine wpAnyH_take (i := 12) (v := ?_) rfl (by kernel_rfl) (by kernel_rfl) (by kernel_rfl) (fun _ _ _ h => h) (Or.inl ⟨by rfl, ?_⟩) hHeld ?_
              rotate_left
              · (intro w hSw; (try dsimp only at hSw); go_simp; try with_reducible rfl)
              simp only [List.getElem_toArray, List.getElem_cons_succ, List.getElem_cons_zero, Act.put, List.setIfInBounds_toArray, List.set_cons_zero, List.set_cons_succ]
              refine wpAnyH_take (i := 13) (v := ?_) rfl (by kernel_rfl) (by kernel_rfl) (by kernel_rfl) (fun _ _ _ h => h) (Or.inl ⟨by rfl, ?_⟩) hHeld ?_
              rotate_left
              · (intro w hSw; (try dsimp only at hSw); go_simp; try with_reducible rfl)
              simp only [List.getElem_toArray, List.getElem_cons_succ, List.getElem_cons_zero, Act.put, List.setIfInBounds_toArray, List.set_cons_zero, List.set_cons_succ]
              refine wpAnyH_take (i := 14) (v := ?_) rfl (by kernel_rfl) (by kernel_rfl) (by kernel_rfl) (fun _ _ _ h => h) (Or.inl ⟨by rfl, ?_⟩) hHeld ?_
              rotate_left
              · (intro w hSw; (try dsimp only at hSw); go_simp; try with_reducible rfl)
              simp only [List.getElem_toArray, List.getElem_cons_succ, List.getElem_cons_zero, Act.put, List.setIfInBounds_toArray, List.set_cons_zero, List.set_cons_succ]
              refine wpAnyH_take (i := 15) (v := ?_) rfl (by kernel_rfl) (by kernel_rfl) (by kernel_rfl) (fun _ _ _ h => h) (Or.inl ⟨by rfl, ?_⟩) hHeld ?_
              rotate_left
              · (intro w hSw; (try dsimp only at hSw); go_simp; try with_reducible rfl)
              simp only [List.getElem_toArray, List.getElem_cons_succ, List.getElem_cons_zero, Act.put, List.setIfInBounds_toArray, List.set_cons_zero, List.set_cons_succ]
              refine wpAnyH_take (i := 16) (v := ?_) rfl (by kernel_rfl) (by kernel_rfl) (by kernel_rfl) (fun _ _ _ h => h) (Or.inl ⟨by rfl, ?_⟩) hHeld ?_
              rotate_left
              · (intro w hSw; (try dsimp only at hSw); go_simp; try with_reducible rfl)
              simp only [List.getElem_toArray, List.getElem_cons_succ, List.getElem_cons_zero, Act.put, List.setIfInBounds_toArray, List.set_cons_zero, List.set_cons_succ]
              refine wpAnyH_take (i := 17) (v := ?_) rfl (by kernel_rfl) (by kernel_rfl) (by kernel_rfl) (fun _ _ _ h => h) (Or.inl ⟨by rfl, ?_⟩) hHeld ?_
              rotate_left
              · (intro w hSw; (try dsimp only at hSw); go_simp; try with_reducible rfl)
              simp only [List.getElem_toArray, List.getElem_cons_succ, List.getElem_cons_zero, Act.put, List.setIfInBounds_toArray, List.set_cons_zero, List.set_cons_succ]
              refine wpAnyH_take (i := 18) (v := ?_) rfl (by kernel_rfl) (by kernel_rfl) (by kernel_rfl) (fun _ _ _ h => h) (Or.inl ⟨by rfl, ?_⟩) hHeld ?_
              rotate_left
              · (intro w hSw; (try dsimp only at hSw); go_simp; try with_reducible rfl)
              simp only [List.getElem_toArray, List.getElem_cons_succ, List.getElem_cons_zero, Act.put, List.setIfInBounds_toArray, List.set_cons_zero, List.set_cons_succ]
              refine wpAnyH_take (i := 19) (v := ?_) rfl (by kernel_rfl) (by kernel_rfl) (by kernel_rfl) (fun _ _ _ h => h) (Or.inl ⟨by rfl, ?_⟩) hHeld ?_
              rotate_left
              · (intro w hSw; (try dsimp only at hSw); go_simp; try with_reducible rfl)
              simp only [List.getElem_toArray, List.getElem_cons_succ, List.getElem_cons_zero, Act.put, List.setIfInBounds_toArray, List.set_cons_zero, List.set_cons_succ]
              refine wpAnyH_take (i := 20) (v := undef) rfl (by kernel_rfl) (by kernel_rfl) (by kernel_rfl) (fun _ _ _ h => h) (Or.inr ⟨by rfl, rfl⟩) hHeld ?_
              simp only [List.getElem_toArray, List.getElem_cons_succ, List.getElem_cons_zero, Act.put, List.setIfInBounds_toArray, List.set_cons_zero, List.set_cons_succ]
              refine wpAnyH_take (i := 21) (v := undef) rfl (by kernel_rfl) (by kernel_rfl) (by kernel_rfl) (fun _ _ _ h => h) (Or.inr ⟨by rfl, rfl⟩) hHeld ?_
              simp only [List.getElem_toArray, List.getElem_cons_succ, List.getElem_cons_zero, Act.put, List.setIfInBounds_toArray, List.set_cons_zero, List.set_cons_succ]
              refine wpAnyH_take (i := 22) (v := ?_) rfl (by kernel_rfl) (by kernel_rfl) (by kernel_rfl) (fun _ _ _ h => h) (Or.inl ⟨by rfl, ?_⟩) hHeld ?_
              rotate_left
              · (intro w hSw; (try dsimp only at hSw); go_simp; try with_reducible rfl)
              simp only [List.getElem_toArray, List.getElem_cons_succ, List.getElem_cons_zero, Act.put, List.setIfInBounds_toArray, List.set_cons_zero, List.set_cons_succ]
              refine wpAnyH_take (i := 23) (v := ?_) rfl (by kernel_rfl) (by kernel_rfl) (by kernel_rfl) (fun _ _ _ h => h) (Or.inl ⟨by rfl, ?_⟩) hHeld ?_
              rotate_left
              · (intro w hSw; (try dsimp only at hSw); go_simp; try with_reducible rfl)
              simp only [List.getElem_toArray, List.getElem_cons_succ, List.getElem_cons_zero, Act.put, List.setIfInBounds_toArray, List.set_cons_zero, List.set_cons_succ]
              refine wpAnyH_take (i := 24) (v := ?_) rfl (by kernel_rfl) (by kernel_rfl) (by kernel_rfl) (fun _ _ _ h => h) (Or.inl ⟨by rfl, ?_⟩) hHeld ?_
              rotate_left
              · (intro w hSw; (try dsimp only at hSw); go_simp; try with_reducible rfl)
              simp only [List.getElem_toArray, List.getElem_cons_succ, List.getElem_cons_zero, Act.put, List.setIfInBounds_toArray, List.set_cons_zero, List.set_cons_succ]
              refine wpAnyH_take (i := 25) (v := ?_) rfl (by kernel_rfl) (by kernel_rfl) (by kernel_rfl) (fun _ _ _ h => h) (Or.inl ⟨by rfl, ?_⟩) hHeld ?_
              rotate_left
              · (intro w hSw; (try dsimp only at hSw); go_simp; try with_reducible rfl)
              simp only [List.getElem_toArray, List.getElem_cons_succ, List.getElem_cons_zero, Act.put, List.setIfInBounds_toArray, List.set_cons_zero, List.set_cons_succ]
              refine wpAnyH_take (i := 27) (v := ?_) rfl (by kernel_rfl) (by kernel_rfl) (by kernel_rfl) (fun _ _ _ h => h) (Or.inl ⟨by rfl, ?_⟩) hHeld ?_
              rotate_left
              · (intro w hSw; (try dsimp only at hSw); go_simp; try with_reducible rfl)
              simp only [List.getElem_toArray, List.getElem_cons_succ, List.getElem_cons_zero, Act.put, List.setIfInBounds_toArray, List.set_cons_zero, List.set_cons_succ]
              have bb0 : RowKit.Below w11.drew.heap.size w11.drew w11.drew := Below.refl _ _
              refine wpAnyH_ready (rs := [26]) (by kernel_rfl) (by simp) ?_
              refine AllReadyH.cons rfl (fun K hK => ?_) AllReadyH.nil
              go_simp
              go_wp2_with (go_at_call 21; refine (NM.out _ bb0).mono ?_; rintro e v1 ⟨y1, rfl, Y1, C1⟩)
              have bb1 := bb0.trans (C1.mono bb0.size)
              refine hK.out _ _ (SK.out _ bb1) (fun hHeld => ?_)
              clear hK K
              refine wpAnyH_ready (rs := [28]) (by kernel_rfl) (by simp) ?_
              refine AllReadyH.cons rfl (fun K hK => ?_) AllReadyH.nil
              go_simp
              go_wp2_with (go_at_call 22; refine (RN.out _ bb1).mono ?_; rintro e v2 ⟨y2, rfl, Y2, C2⟩)
              have bb2 := bb1.trans (C2.mono bb1.size)
              have Y1 : Hid (Ss v2 y1 SL) := Y1.out.below C2
              refine hK.out _ _ (SK.out _ bb2) (fun hHeld => ?_)
              clear hK K
              refine wpAnyH_ready (rs := [29]) (by kernel_rfl) (by simp) ?_
              refine AllReadyH.cons rfl (fun K hK => ?_) AllReadyH.nil
              go_simp
              go_wp2_with (go_at_call 20; refine (texts_yes y1 y2 SL _ Y1.out Y2.out (by have := hSLn.out; omega)).mono ?_; rintro e v3 ⟨rfl, C3⟩)
              have bb3 := bb2.trans (C3.mono bb2.size)
              refine hK.out _ _ (SK.out _ bb3) (fun hHeld => ?_)
              clear hK K Y1 Y2 NM RN C1 C2 C3
              refine wpAnyH_take (i := 30) (v := ?_) rfl (by kernel_rfl) (by kernel_rfl) (by kernel_rfl) (fun _ _ _ h => h) (Or.inl ⟨by rfl, ?_⟩) hHeld ?_
              rotate_left
              · (intro w hSw; (try dsimp only at hSw); go_simp; try with_reducible rfl)
              simp only [List.getElem_toArray, List.getElem_cons_succ, List.getElem_cons_zero, Act.put, List.setIfInBounds_toArray, List.set_cons_zero, List.set_cons_succ]
              refine wpAnyH_take (i := 31) (v := ?_) rfl (by kernel_rfl) (by kernel_rfl) (by kernel_rfl) (fun _ _ _ h => h) (Or.inl ⟨by rfl, ?_⟩) hHeld ?_
              rotate_left
              · (intro w hSw; (try dsimp only at hSw); go_simp; try with_reducible rfl)
              simp only [List.getElem_toArray, List.getElem_cons_succ, List.getElem_cons_zero, Act.put, List.setIfInBounds_toArray, List.set_cons_zero, List.set_cons_succ]
              refine wpAnyH_take (i := 32) (v := ?_) rfl (by kernel_rfl) (by kernel_rfl) (by kernel_rfl) (fun _ _ _ h => h) (Or.inl ⟨by rfl, ?_⟩) hHeld ?_
              rotate_left
              · (intro w hSw; (try dsimp only at hSw); go_simp; try with_reducible rfl)
              simp only [List.getElem_toArray, List.getElem_cons_succ, List.getElem_cons_zero, Act.put, List.setIfInBounds_toArray, List.set_cons_zero, List.set_cons_succ]
              refine wpAnyH_take (i := 33) (v := ?_) rfl (by kernel_rfl) (by kernel_rfl) (by kernel_rfl) (fun _ _ _ h => h) (Or.inl ⟨by rfl, ?_⟩) hHeld ?_
              rotate_left
              · (intro w hSw; (try dsimp only at hSw); go_simp; try with_reducible rfl)
              simp only [List.getElem_toArray, List.getElem_cons_succ, List.getElem_cons_zero, Act.put, List.setIfInBounds_toArray, List.set_cons_zero, List.set_cons_succ]
              refine wpAnyH_take (i := 36) (v := ?_) rfl (by kernel_rfl) (by kernel_rfl) (by kernel_rfl) (fun _ _ _ h => h) (Or.inl ⟨by rfl, ?_⟩) hHeld ?_
              rotate_left
              · (intro w hSw; (try dsimp only at hSw); go_simp; try with_reducible rfl)
              simp only [List.getElem_toArray, List.getElem_cons_succ, List.getElem_cons_zero, Act.put, List.setIfInBounds_toArray, List.set_cons_zero, List.set_cons_succ]
              refine wpAnyH_ready (rs := [34]) (by kernel_rfl) (by simp) ?_
              refine AllReadyH.cons rfl (fun K hK => ?_) AllReadyH.nil
              go_simp
              go_wp2_with (go_at_call 23; refine (DB.out _ bb3).mono ?_; rintro e v4 ⟨yA, rfl, RA, C4⟩)
              have bb4 := bb3.trans (C4.mono bb3.size)
              refine hK.out _ _ (SK.out _ bb4) (fun hHeld => ?_)
              clear hK K
              refine wpAnyH_ready (rs := [35, 37]) (by kernel_rfl) (by simp) ?_
              refine AllReadyH.cons rfl (fun K hK => ?_) (AllReadyH.cons rfl (fun K hK => ?_) AllReadyH.nil)
              · go_simp
                rw [RA.out v4 (Below.refl _ _)]
                go_simp
                refine hK.out _ _ (SK.out _ bb4) (fun hHeld => ?_)
                clear hK K
                refine wpAnyH_ready (rs := [37]) (by kernel_rfl) (by simp) ?_
                refine AllReadyH.cons rfl (fun K hK => ?_) AllReadyH.nil
                go_simp
                go_wp2_with (go_at_call 24; refine (RB.out _ bb4).mono ?_; rintro e v5 ⟨yB, rfl, RB, C5⟩)
                have bb5 := bb4.trans (C5.mono bb4.size)
                refine hK.out _ _ (SK.out _ bb5) (fun hHeld => ?_)
                clear hK K
                refine wpAnyH_ready (rs := [38]) (by kernel_rfl) (by simp) ?_
                refine AllReadyH.cons rfl (fun K hK => ?_) AllReadyH.nil
                go_simp
                rw [RB.out v5 (Below.refl _ _)]
                go_simp
                refine hK.out _ _ (SK.out _ bb5) (fun hHeld => ?_)
                clear hK K
                refine wpAnyH_take (i := 39) (v := ?_) rfl (by kernel_rfl) (by kernel_rfl) (by kernel_rfl) (fun _ _ _ h => h) (Or.inl ⟨by rfl, ?_⟩) hHeld ?_
                rotate_left
                · (intro w hSw; (try dsimp only at hSw); go_simp; try with_reducible rfl)
                simp only [List.getElem_toArray, List.getElem_cons_succ, List.getElem_cons_zero, Act.put, List.setIfInBounds_toArray, List.set_cons_zero, List.set_cons_succ]
                refine wpAnyH_take (i := 40) (v := ?_) rfl (by kernel_rfl) (by kernel_rfl) (by kernel_rfl) (fun _ _ _ h => h) (Or.inl ⟨by rfl, ?_⟩) hHeld ?_
                rotate_left
                · (intro w hSw; (try dsimp only at hSw); go_simp; try with_reducible rfl)
                simp only [List.getElem_toArray, List.getElem_cons_succ, List.getElem_cons_zero, Act.put, List.setIfInBounds_toArray, List.set_cons_zero, List.set_cons_succ]
                refine wpAnyH_done (by kernel_rfl) ?_ _
                have BW := Dd.trans (bb5.mono Dd.size)
                have eS := eS.below bb5
                have eR := eR.below bb5
                clear hHeld
                as_aux_lemma =>
                  go_wp2_with fail
                  go_roundw
                  case rel => exact ⟨k + 1, es', by omega, by go_num, by omega, HL', eS, eR, BW⟩
                  case measure => simp [intOf]; omega
              · go_simp
                go_wp2_with (go_at_call 24; refine (RB.out _ bb4).mono ?_; rintro e v5 ⟨yB, rfl, RB, C5⟩)
                have bb5 := bb4.trans (C5.mono bb4.size)
                have RA : Hid (∀ w'', RowKit.Below v5.heap.size v5 w'' → (convert 52 9 yA).run Tryd.prog w'' = .ok (.string T) w'') := fun w'' h => RA.out w'' (C5.trans (h.mono C5.size))
                refine hK.out _ _ (SK.out _ bb5) (fun hHeld => ?_)
                clear hK K
                refine wpAnyH_ready (rs := [35, 38]) (by kernel_rfl) (by simp) ?_
                refine AllReadyH.cons rfl (fun K hK => ?_) (AllReadyH.cons rfl (fun K hK => ?_) AllReadyH.nil)
                · go_simp
                  rw [RA.out v5 (Below.refl _ _)]
                  go_simp
                  refine hK.out _ _ (SK.out _ bb5) (fun hHeld => ?_)
                  clear hK K
                  refine wpAnyH_ready (rs := [38]) (by kernel_rfl) (by simp) ?_
                  refine AllReadyH.cons rfl (fun K hK => ?_) AllReadyH.nil
                  go_simp
                  rw [RB.out v5 (Below.refl _ _)]
                  go_simp
                  refine hK.out _ _ (SK.out _ bb5) (fun hHeld => ?_)
                  clear hK K
                  refine wpAnyH_take (i := 39) (v := ?_) rfl (by kernel_rfl) (by kernel_rfl) (by kernel_rfl) (fun _ _ _ h => h) (Or.inl ⟨by rfl, ?_⟩) hHeld ?_
                  rotate_left
                  · (intro w hSw; (try dsimp only at hSw); go_simp; try with_reducible rfl)
                  simp only [List.getElem_toArray, List.getElem_cons_succ, List.getElem_cons_zero, Act.put, List.setIfInBounds_toArray, List.set_cons_zero, List.set_cons_succ]
                  refine wpAnyH_take (i := 40) (v := ?_) rfl (by kernel_rfl) (by kernel_rfl) (by kernel_rfl) (fun _ _ _ h => h) (Or.inl ⟨by rfl, ?_⟩) hHeld ?_
                  rotate_left
                  · (intro w hSw; (try dsimp only at hSw); go_simp; try with_reducible rfl)
                  simp only [List.getElem_toArray, List.getElem_cons_succ, List.getElem_cons_zero, Act.put, List.setIfInBounds_toArray, List.set_cons_zero, List.set_cons_succ]
                  refine wpAnyH_done (by kernel_rfl) ?_ _
                  have BW := Dd.trans (bb5.mono Dd.size)
                  have eS := eS.below bb5
                  have eR := eR.below bb5
                  clear hHeld
                  as_aux_lemma =>
                    go_wp2_with fail
                    go_roundw
                    case rel => exact ⟨k + 1, es', by omega, by go_num, by omega, HL', eS, eR, BW⟩
                    case measure => simp [intOf]; omega
                · go_simp
                  rw [RB.out v5 (Below.refl _ _)]
                  go_simp
                  refine hK.out _ _ (SK.out _ bb5) (fun hHeld => ?_)
                  clear hK K
                  refine wpAnyH_ready (rs := [35]) (by kernel_rfl) (by simp) ?_
                  refine AllReadyH.cons rfl (fun K hK => ?_) AllReadyH.nil
                  go_simp
                  rw [RA.out v5 (Below.refl _ _)]
                  go_simp
                  refine hK.out _ _ (SK.out _ bb5) (fun hHeld => ?_)
                  clear hK K
                  refine wpAnyH_take (i := 39) (v := ?_) rfl (by kernel_rfl) (by kernel_rfl) (by kernel_rfl) (fun _ _ _ h => h) (Or.inl ⟨by rfl, ?_⟩) hHeld ?_
                  rotate_left
                  · (intro w hSw; (try dsimp only at hSw); go_simp; try with_reducible rfl)
                  simp only [List.getElem_toArray, List.getElem_cons_succ, List.getElem_cons_zero, Act.put, List.setIfInBounds_toArray, List.set_cons_zero, List.set_cons_succ]
                  refine wpAnyH_take (i := 40) (v := ?_) rfl (by kernel_rfl) (by kernel_rfl) (by kernel_rfl) (fun _ _ _ h => h) (Or.inl ⟨by rfl, ?_⟩) hHeld ?_
                  rotate_left
                  · (intro w hSw; (try dsimp only at hSw); go_simp; try with_reducible rfl)
                  simp only [List.getElem_toArray, List.getElem_cons_succ, List.getElem_cons_zero, Act.put, List.setIfInBounds_toArray, List.set_cons_zero, List.set_cons_succ]
                  refine wpAnyH_done (by kernel_rfl) ?_ _
                  have BW := Dd.trans (bb5.mono Dd.size)
                  have eS := eS.below bb5
                  have eR := eR.below bb5
                  clear hHeld
                  as_aux_lemma =>
                    go_wp2_with fail
                    go_roundw
                    case rel => exact ⟨k + 1, es', by omega, by go_num, by omega, HL', eS, eR, BW⟩
                    case measure => simp [intOf]; omega
    · as_aux_lemma =>
        have q1 : ¬ (k : Int) < l.length := by omega
        have hZ0 : (bytesL es).length ≤ 1000000 := by rw [bytesL_len]; unfold sizeS; omega
        have hZB := bytesL_isB es
        have TT := tab_under9 hT B
        have DBy := dbytes_any _ es _ TT hs (by omega) HL.out.at
        have RBy : Hid (∀ wb, RowKit.Below wr.heap.size wr wb → Calls Tryd.prog 24 #[u4] wb fun e w' => ∃ u, e = .returned u ∧ Bs w' u (bytesL es) ∧ RowKit.Below wb.heap.size wb w') := fun wb hb => rdbytes_any u4 es wb (hr.below hb) (by omega) HL.out.at
        generalize bytesL es = bl at *
        generalize sizeS es.length = Z at *
        go_wp2_with fail
        refine DBy.mono ?_
        rintro e w6 ⟨g, rfl, hm, _, C6⟩
        have hb6 := hm.bs
        have B6 := B.trans (C6.mono B.size)
        have T6 := tab_under9 hT B6
        clear hm DBy
        go_wp2_with fail
        refine (read_any _ bl _ T6 hb6 hZB hZ0).mono ?_
        rintro e w7 ⟨ux, rfl, hX, C7⟩
        have C67 := C6.trans (C7.mono C6.size)
        have RD := RBy.out _ C67
        clear hb6 T6 RBy
        go_wp2_with fail
        refine RD.mono ?_
        rintro e w8 ⟨uy, rfl, hY, C8⟩
        have hX8 := hX.below C8
        have C68 := C67.trans (C8.mono C67.size)
        clear RD hX
        go_wp2_with fail
        refine (rread_any _ bl _ hY hZB hZ0).mono ?_
        rintro e w9 ⟨uz, rfl, hR9, C9⟩
        have hX9 := hX8.below C9
        have C69 := C68.trans (C9.mono C68.size)
        have B9 := B.trans (C69.mono B.size)
        have hrl : (readV bl).length ≤ 1000000 := readV_le bl hZ0
        generalize readV bl = rv at *
        generalize readE bl = re at *
        clear hX8 hY C6 C7 C8 C9 C67 C68 C69
        go_wp2_with fail
        refine (same_yes _ _ rv _ hX9 hR9 hrl).mono ?_
        rintro e wz ⟨rfl, Cz⟩
        have H := fin _ (B9.trans (Cz.mono B9.size))
        go_wp2_with fail
        go_ret
        exact ⟨rfl, H.out⟩
end Go.Proofs.YtbhfmceapffhnaaDoor

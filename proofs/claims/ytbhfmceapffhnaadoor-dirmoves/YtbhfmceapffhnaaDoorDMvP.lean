/-
  DirMoves.
-/
import Derived.Test.YtbhfmceapffhnaaDoorDLawGrows
import Derived.BigQuiet
import Derived.Deep.RegionHeld
namespace Go.Proofs.YtbhfmceapffhnaaDoor
open Go.RowKit

/-- Moved there and back. -/
theorem mv_back (es : List En) (k : Nat) (nm : ByteArray) (hk : k < es.length) : mvL (mvL es k nm) k (En.at es k).nm = es := by
  unfold mvL
  rw [at_set es k k _ hk, if_pos rfl, List.set_set]
  refine set_same ?_
  simp [En.at, List.getD, hk]
theorem toList_inj {a b : ByteArray} (h : (a.toList == b.toList) = true) : a = b := by
  have := beq_iff_eq.1 h
  rw [ByteArray.toList_eq, ByteArray.toList_eq] at this
  exact ByteArray.ext (Array.toList_inj.1 this)
/-- The name k of n moved to nm: where nm is found then, and where the elder name. -/
theorem seq_moved {n k : Nat} {nm : ByteArray} (hk : k < n) (hn : n ≤ 40) (h1 : 1 ≤ nm.size) (hm : MvOk (seqE n) (nmI k) nm) :
    IdxN (mvL (seqE n) k nm) nm (k : Int) ∧ En.at (mvL (seqE n) k nm) k = ⟨nm, ((k + 1 : Nat) : Int)⟩ ∧ (mvL (seqE n) k nm).length = n ∧
      (((nm.toList == (nmI k).toList) = true ∧ IdxN (mvL (seqE n) k nm) (nmI k) (k : Int)) ∨ ((nm.toList == (nmI k).toList) = false ∧ IdxN (mvL (seqE n) k nm) (nmI k) (-1))) := by
  have hl : k < (seqE n).length := by rw [seqE_len]; exact hk
  have hat : ∀ j, En.at (mvL (seqE n) k nm) j = if j = k then ⟨nm, ((k + 1 : Nat) : Int)⟩ else En.at (seqE n) j := by
    intro j
    unfold mvL
    rw [at_set _ k j _ hl, seqE_at n k hk]
  have hlen : (mvL (seqE n) k nm).length = n := by unfold mvL; rw [List.length_set, seqE_len]
  have other : ∀ j, j < n → j ≠ k → ((En.at (mvL (seqE n) k nm) j).nm.toList == nm.toList) = false := by
    intro j hj hne
    rw [hat j, if_neg hne]
    rcases hm with h | ⟨_, ⟨h, _⟩ | ⟨_, h⟩⟩
    · rw [toList_inj h, seqE_at n j hj]
      exact nmI_ne j k (by omega) (by omega) hne
    · omega
    · rcases h with ⟨_, h⟩ | ⟨i, h, _⟩
      · exact h j (by rw [seqE_len]; exact hj)
      · omega
  refine ⟨.inr ⟨h1, .inr ⟨k, rfl, by rw [hlen]; exact hk, by rw [hat k, if_pos rfl]; simp, fun j hj => other j (by omega) (by omega)⟩⟩, by rw [hat k, if_pos rfl], hlen, ?_⟩
  cases he : (nm.toList == (nmI k).toList) with
  | true =>
    left
    have e := toList_inj he
    subst e
    exact ⟨rfl, .inr ⟨h1, .inr ⟨k, rfl, by rw [hlen]; exact hk, by rw [hat k, if_pos rfl]; simp, fun j hj => other j (by omega) (by omega)⟩⟩⟩
  | false =>
    right
    refine ⟨rfl, .inr ⟨by rw [nmI_size]; omega, .inl ⟨rfl, fun j hj => ?_⟩⟩⟩
    rw [hlen] at hj
    rw [hat j]
    by_cases e : j = k
    · rw [if_pos e]; exact he
    · rw [if_neg e, seqE_at n j hj]
      exact nmI_ne j k (by omega) (by omega) e

theorem tmod_bd (x : Int) (k : Nat) (hk : 1 ≤ k) : -(k : Int) < x.tmod (k : Int) ∧ x.tmod (k : Int) < (k : Int) := by
  have hp : (0 : Int) < k := by omega
  refine ⟨?_, Int.tmod_lt_of_pos x hp⟩
  by_cases h : 0 ≤ x
  · have := Int.tmod_nonneg (k : Int) h; omega
  · have h1 := Int.tmod_lt_of_pos (-x) hp
    rw [Int.neg_tmod] at h1
    omega
theorem below_drew {N : Nat} {w w' : World} (h : Below N w w') : Below N w w'.drew := ⟨h.os, h.tape, h.output, h.size, h.block⟩
theorem below_undrew {w w' : World} (h : Below w.drew.heap.size w.drew w') : Below w.heap.size w w' := ⟨h.os, h.tape, h.output, h.size, h.block⟩
theorem es_drew {w : World} {v : Value} {es : List En} (h : Es w v es) : Es w.drew v es := h
set_option maxHeartbeats 6400000 in
set_option maxRecDepth 100000 in
theorem law_moves_p (n x : Int) (nm : ByteArray) (w : World) (hT : Tab w) (_hx : -9223372036854775808 ≤ x ∧ x ≤ 9223372036854775807) (hsg0 : ¬ x.tmod n < 0) :
    Calls Tryd.prog 6 #[.int .i64 n, .int .i64 x, .string nm] w fun e w' => e = .returned (.bool true) ∧ Chg (fun _ => False) w w' := by
  have HSG : Hid (¬ x.tmod n < 0) := hsg0
  clear hsg0
  go_enter Tryd.func6, Tryd.ntmps6
  go_wp2_with fail
  refine (known_any _).mono ?_
  rintro e w1 ⟨rfl, B1⟩
  have fin : ∀ w', Below w.heap.size w w' → Hid (Chg (fun _ => False) w w') := fun w' h => Chg.ofBelowC h
  by_cases h1 : n < 1
  · have H := fin _ B1
    go_wp2_with fail
    go_ret
    exact ⟨rfl, H.out⟩
  by_cases h2 : 40 < n
  · have H := fin _ B1
    go_wp2_with fail
    go_ret
    exact ⟨rfl, H.out⟩
  obtain ⟨N, rfl⟩ : ∃ N : Nat, n = (N : Int) := ⟨n.toNat, by omega⟩
  have hN : N ≤ 40 := by omega
  have hN0 : 1 ≤ N := by omega
  by_cases h3 : 100 < nm.size
  · have H := fin _ B1
    have g3 : 100 < (nm.size : Int) := by omega
    go_wp2_with fail
    go_ret
    exact ⟨rfl, H.out⟩
  have g3 : ¬ (100 < (nm.size : Int)) := by omega
  go_wp2_with fail
  go_loopw [7, 8] (fun s i wr => ∃ k : Nat, k ≤ N ∧ i = .int .i64 k ∧ Below w.heap.size w wr ∧ Es wr s (seqE k)) (fun _ i _ => N - (intOf i).toNat)
  case atStart => exact ⟨0, Nat.zero_le _, rfl, B1, Es.nil _⟩
  case round =>
    clear B1
    obtain ⟨k, hk, rfl, B, E⟩ := hrel
    by_cases hlt : k < N
    · have q1 : (k : Int) < N := by omega
      go_wp2_with fail
      refine (nm_any k _ (by omega)).mono ?_
      rintro e w2 ⟨rfl, B2⟩
      have Bn2 := B.trans (B2.mono B.size)
      have E2 := E.below B2
      go_wp2_with fail
      refine (put_more _ (seqE k) (nmI k) ((k + 1 : Nat) : Int) _ E2 (by rw [seqE_len]; omega) (nmI_name k (by omega)) (inFits k (by omega)) (seqE_new k k (Nat.le_refl _) (by omega)) (seqE_free k)).mono ?_
      rintro e w3 ⟨u, rfl, E3, B3⟩
      have Bn3 := Bn2.trans (B3.mono Bn2.size)
      rw [← seqE_succ] at E3
      clear B2 B3 Bn2 E2 E B
      go_wp2_with fail
      go_roundw
      case rel => exact ⟨k + 1, by omega, by go_num, Bn3, E3⟩
      case measure => simp [intOf]; omega
    · obtain rfl : k = N := by omega
      have q1 : ¬ (k : Int) < k := by omega
      have hk0 : ¬ ((k : Int) = 0) := by omega
      obtain ⟨t, ht, ht2⟩ : ∃ t : Int, x.tmod (k : Int) = t ∧ (-(k : Int) < t ∧ t < k) := ⟨_, rfl, tmod_bd x k hN0⟩
      have hsg := HSG.out
      rw [ht] at hsg
      clear HSG
      have hneg : ¬ t < 0 := by omega
      obtain ⟨y, hy, hyt⟩ : ∃ y : Nat, y < k ∧ t = (y : Int) := ⟨t.natAbs, by omega, by omega⟩
      subst hyt
      have HI : Hid (IdxN (seqE k) (nmI y) (y : Int)) := seqE_is k y hy (by omega)
      have hsl := seqE_len k
      go_wp2_with fail
      refine (nm_any y _ (by omega)).mono ?_
      rintro e w2 ⟨rfl, B2⟩
      have Bn2 := B.trans (B2.mono B.size)
      have E2 := E.below B2
      clear B2
      cases hnb : nameB nm with
      | false =>
        have HN : Hid (nameB nm = false) := hnb
        clear hnb
        go_wp2_with fail
        refine (move_name _ (seqE k) (nmI y) nm y _ E2 (by omega) HI HN).mono ?_
        rintro e w3 ⟨rfl, B3⟩
        have Bn3 := Bn2.trans (B3.mono Bn2.size)
        have E3 := E2.below B3
        clear B3
        go_wp2_with fail
        refine (find_any _ (seqE k) nm _ E3 (by omega)).mono ?_
        rintro e w4 ⟨r, hr, B4, hxx⟩
        have H := fin _ (Bn3.trans (B4.mono Bn3.size))
        obtain ⟨f1, f2, rfl⟩ : ∃ f1 f2, e = .returned (.tuple #[.int .i64 f1, .bool f2]) := by
          rcases hxx with ⟨_, h⟩ | ⟨_, _, _, h⟩
          · exact ⟨_, _, h⟩
          · exact ⟨_, _, h⟩
        clear hxx B4 hr
        go_wp2_with fail
        refine (name_any nm false _ HN).mono ?_
        rintro e w5 ⟨rfl, rfl⟩
        go_wp2_with fail
        go_ret
        exact ⟨rfl, H.out⟩
      | true =>
        have HN : Hid (nameB nm = true) := hnb
        have hn1 : 1 ≤ nm.size := (nameB_parts hnb).1
        clear hnb
        have cs : Hid (MvOk (seqE k) (nmI y) nm) ∨ ((nm.toList == (nmI y).toList) = false ∧ ∃ j : Nat, Hid (IdxN (seqE k) nm (j : Int)) ∧ j < k) := by
          cases he : (nm.toList == (nmI y).toList) with
          | true => exact .inl (.inl he)
          | false =>
            obtain ⟨r, hr⟩ := Idx.ex (seqE k) nm
            rcases hr with ⟨rfl, h⟩ | ⟨j, rfl, h1, h2⟩
            · exact .inl (.inr ⟨he, .inr ⟨hn1, .inl ⟨rfl, h⟩⟩⟩)
            · exact .inr ⟨rfl, j, .inr ⟨hn1, .inr ⟨j, rfl, h1, h2⟩⟩, by omega⟩
        rcases cs with HM | ⟨hne, j, HJ, hj⟩
        · obtain ⟨s1, s2, s3, s4⟩ := seq_moved hy (by omega) hn1 HM.out
          have HB : Hid (mvL (mvL (seqE k) y nm) y (nmI y) = seqE k) := by
            have := mv_back (seqE k) y nm (by omega)
            rw [seqE_at k y hy] at this
            exact this
          have S1 : Hid (IdxN (mvL (seqE k) y nm) nm (y : Int)) := s1
          go_wp2_with fail
          refine (move_ok _ (seqE k) (nmI y) nm y _ E2 (by omega) HI HN HM).mono ?_
          rintro e w3 ⟨u3, rfl, E3, B3⟩
          have Bn3 := Bn2.trans (B3.mono Bn2.size)
          have F3 := E2.below B3
          clear B3 E2 Bn2 s1
          generalize mvL (seqE k) y nm = es at *
          go_wp2_with fail
          refine (find_any _ es nm _ E3 (by omega)).mono ?_
          rintro e w4 ⟨r, hr, B4, hxx⟩
          obtain rfl := hr.out.unique S1.out
          obtain rfl : e = .returned (.tuple #[.int .i64 ((y + 1 : Nat) : Int), .bool true]) := by
            rcases hxx with ⟨h, _⟩ | ⟨q, hq, _, h⟩
            · omega
            · obtain rfl : q = y := by omega
              rw [h, s2]
          have Bn4 := Bn3.trans (B4.mono Bn3.size)
          have E4 := E3.below B4
          have F4 := F3.below B4
          clear B4 E3 F3 Bn3 hr hxx
          go_wp2_with fail
          refine (nm_any y _ (by omega)).mono ?_
          rintro e w5 ⟨rfl, B5⟩
          have Bn5 := Bn4.trans (B5.mono Bn4.size)
          have E5 := E4.below B5
          have F5 := F4.below B5
          clear B5 E4 F4 Bn4
          go_wp2_with fail
          refine (find_any _ es (nmI y) _ E5 (by omega)).mono ?_
          rintro e w6 ⟨r, hr, B6, hxx⟩
          have Bn6 := Bn5.trans (B6.mono Bn5.size)
          have E6 := E5.below B6
          have F6 := F5.below B6
          clear B6 E5 F5 Bn5
          have ME : Hid (MvOk es nm (nmI y)) := by
            rcases s4 with ⟨h, _⟩ | ⟨h, h2⟩
            · exact .inl (by rw [Bool.beq_comm]; exact h)
            · exact .inr ⟨by rw [Bool.beq_comm]; exact h, h2⟩
          obtain ⟨Z, T, BY⟩ : ∃ (Z : Nat) (T : ByteArray), Hid (∀ wb u, Below w6.heap.size w6 wb → Es wb u (seqE k) → Calls Tryd.prog 23 #[u] wb fun e w' => ∃ g, e = .returned (.slice (some ⟨g, 0, none⟩) Z Z) ∧ Hid (∀ w'', Below w'.heap.size w' w'' → (convert 52 9 (.slice (some ⟨g, 0, none⟩) Z Z)).run Tryd.prog w'' = .ok (.string T) w'') ∧ Below wb.heap.size wb w') := by
            refine ⟨sizeS k, strC (bytesL (seqE k)), fun wb u hb hu => ?_⟩
            have hB6 := Bn6.trans (hb.mono Bn6.size)
            have HH := dbytes_any _ (seqE k) wb (tab_below hT hB6) hu (by omega) (fun j hj => by
              rw [seqE_len] at hj
              have := seqE_at k j hj
              rw [En.at] at this
              rw [this, nmI_size]; omega)
            rw [seqE_len] at HH
            refine HH.mono ?_
            rintro e w' ⟨g, rfl, M, _, B'⟩
            exact ⟨g, rfl, fun w'' hb'' => run_strC (M.bs.under hb''), B'⟩
          rcases s4 with ⟨h5, h6⟩ | ⟨h5, h6⟩
          · obtain rfl := hr.out.unique h6
            obtain rfl : e = .returned (.tuple #[.int .i64 ((y + 1 : Nat) : Int), .bool true]) := by
              rcases hxx with ⟨h, _⟩ | ⟨q, hq, _, h⟩
              · omega
              · obtain rfl : q = y := by omega
                rw [h, s2]
            clear hr hxx h6
            go_wp2_with fail
            refine (nm_any y _ (by omega)).mono ?_
            rintro e w7 ⟨rfl, B7⟩
            go_wp2_with fail
            refine (move_ok _ es nm (nmI y) y _ (E6.below B7) (by omega) S1 (nmI_name y (by omega)) ME).mono ?_
            rintro e w8 ⟨u8, rfl, E8, B8⟩
            rw [HB.out] at E8
            have b68 := B7.trans (B8.mono B7.size)
            have F8 := F6.below b68
            have Bn8 := Bn6.trans (b68.mono Bn6.size)
            clear B7 B8 E6 F6 HB ME S1 s2 E B
            go_wp2_with fail
            have qw : IntKind.i64.wrap ((y : Int) + 1) = (y : Int) + 1 := by rw [IntKind.wrap_i64]; omega
            refine wp_region_held_drew (S := (fun _ => True)) (by kernel_rfl) trivial (fun hHeld => ?_)
            refine wpAnyH_take (i := 0) (v := ?_) rfl (by kernel_rfl) (by kernel_rfl) (by kernel_rfl) (fun _ _ _ h => h) (Or.inl ⟨by rfl, ?_⟩) hHeld ?_
            rotate_left
            · (intro w hSw; (try dsimp only at hSw); go_simp; try with_reducible rfl)
            simp only [List.getElem_toArray, List.getElem_cons_zero, Act.put, List.setIfInBounds_toArray, List.set_cons_zero, List.set_cons_succ]
            refine wpAnyH_take (i := 1) (v := ?_) rfl (by kernel_rfl) (by kernel_rfl) (by kernel_rfl) (fun _ _ _ h => h) (Or.inl ⟨by rfl, ?_⟩) hHeld ?_
            rotate_left
            · (intro w hSw; (try dsimp only at hSw); go_simp; try with_reducible rfl)
            simp only [List.getElem_toArray, List.getElem_cons_succ, List.getElem_cons_zero, Act.put, List.setIfInBounds_toArray, List.set_cons_zero, List.set_cons_succ]
            refine wpAnyH_take (i := 2) (v := ?_) rfl (by kernel_rfl) (by kernel_rfl) (by kernel_rfl) (fun _ _ _ h => h) (Or.inl ⟨by rfl, ?_⟩) hHeld ?_
            rotate_left
            · (intro w hSw; (try dsimp only at hSw); go_simp; try with_reducible rfl)
            simp only [List.getElem_toArray, List.getElem_cons_succ, List.getElem_cons_zero, Act.put, List.setIfInBounds_toArray, List.set_cons_zero, List.set_cons_succ]
            refine wpAnyH_take (i := 3) (v := ?_) rfl (by kernel_rfl) (by kernel_rfl) (by kernel_rfl) (fun _ _ _ h => h) (Or.inl ⟨by rfl, ?_⟩) hHeld ?_
            rotate_left
            · (intro w hSw; (try dsimp only at hSw); go_simp; try with_reducible rfl)
            simp only [List.getElem_toArray, List.getElem_cons_succ, List.getElem_cons_zero, Act.put, List.setIfInBounds_toArray, List.set_cons_zero, List.set_cons_succ]
            refine wpAnyH_take (i := 4) (v := ?_) rfl (by kernel_rfl) (by kernel_rfl) (by kernel_rfl) (fun _ _ _ h => h) (Or.inl ⟨by rfl, ?_⟩) hHeld ?_
            rotate_left
            · (intro w hSw; (try dsimp only at hSw); go_simp; try with_reducible rfl)
            simp only [List.getElem_toArray, List.getElem_cons_succ, List.getElem_cons_zero, Act.put, List.setIfInBounds_toArray, List.set_cons_zero, List.set_cons_succ]
            refine wpAnyH_take (i := 5) (v := ?_) rfl (by kernel_rfl) (by kernel_rfl) (by kernel_rfl) (fun _ _ _ h => h) (Or.inl ⟨by rfl, ?_⟩) hHeld ?_
            rotate_left
            · (intro w hSw; (try dsimp only at hSw); go_simp; try with_reducible rfl)
            simp only [List.getElem_toArray, List.getElem_cons_succ, List.getElem_cons_zero, Act.put, List.setIfInBounds_toArray, List.set_cons_zero, List.set_cons_succ]
            refine wpAnyH_take (i := 6) (v := ?_) rfl (by kernel_rfl) (by kernel_rfl) (by kernel_rfl) (fun _ _ _ h => h) (Or.inl ⟨by rfl, ?_⟩) hHeld ?_
            rotate_left
            · (intro w hSw; (try dsimp only at hSw); go_simp; try with_reducible rfl)
            simp only [List.getElem_toArray, List.getElem_cons_succ, List.getElem_cons_zero, Act.put, List.setIfInBounds_toArray, List.set_cons_zero, List.set_cons_succ]
            refine wpAnyH_take (i := 7) (v := ?_) rfl (by kernel_rfl) (by kernel_rfl) (by kernel_rfl) (fun _ _ _ h => h) (Or.inl ⟨by rfl, ?_⟩) hHeld ?_
            rotate_left
            · (intro w hSw; (try dsimp only at hSw); go_simp; try with_reducible rfl)
            simp only [List.getElem_toArray, List.getElem_cons_succ, List.getElem_cons_zero, Act.put, List.setIfInBounds_toArray, List.set_cons_zero, List.set_cons_succ]
            refine wpAnyH_take (i := 8) (v := ?_) rfl (by kernel_rfl) (by kernel_rfl) (by kernel_rfl) (fun _ _ _ h => h) (Or.inl ⟨by rfl, ?_⟩) hHeld ?_
            rotate_left
            · (intro w hSw; (try dsimp only at hSw); go_simp; try with_reducible rfl)
            simp only [List.getElem_toArray, List.getElem_cons_succ, List.getElem_cons_zero, Act.put, List.setIfInBounds_toArray, List.set_cons_zero, List.set_cons_succ]
            refine wpAnyH_take (i := 9) (v := ?_) rfl (by kernel_rfl) (by kernel_rfl) (by kernel_rfl) (fun _ _ _ h => h) (Or.inl ⟨by rfl, ?_⟩) hHeld ?_
            rotate_left
            · (intro w hSw; (try dsimp only at hSw); go_simp; try with_reducible rfl)
            simp only [List.getElem_toArray, List.getElem_cons_succ, List.getElem_cons_zero, Act.put, List.setIfInBounds_toArray, List.set_cons_zero, List.set_cons_succ]
            refine wpAnyH_take (i := 10) (v := ?_) rfl (by kernel_rfl) (by kernel_rfl) (by kernel_rfl) (fun _ _ _ h => h) (Or.inl ⟨by rfl, ?_⟩) hHeld ?_
            rotate_left
            · (intro w hSw; (try dsimp only at hSw); go_simp; try with_reducible rfl)
            simp only [List.getElem_toArray, List.getElem_cons_succ, List.getElem_cons_zero, Act.put, List.setIfInBounds_toArray, List.set_cons_zero, List.set_cons_succ]
            refine wpAnyH_take (i := 11) (v := ?_) rfl (by kernel_rfl) (by kernel_rfl) (by kernel_rfl) (fun _ _ _ h => h) (Or.inl ⟨by rfl, ?_⟩) hHeld ?_
            rotate_left
            · (intro w hSw; (try dsimp only at hSw); go_simp; try with_reducible rfl)
            simp only [List.getElem_toArray, List.getElem_cons_succ, List.getElem_cons_zero, Act.put, List.setIfInBounds_toArray, List.set_cons_zero, List.set_cons_succ]
            refine wpAnyH_take (i := 12) (v := ?_) rfl (by kernel_rfl) (by kernel_rfl) (by kernel_rfl) (fun _ _ _ h => h) (Or.inl ⟨by rfl, ?_⟩) hHeld ?_
            rotate_left
            · (intro w hSw; (try dsimp only at hSw); go_simp; try with_reducible rfl)
            simp only [List.getElem_toArray, List.getElem_cons_succ, List.getElem_cons_zero, Act.put, List.setIfInBounds_toArray, List.set_cons_zero, List.set_cons_succ]
            refine wpAnyH_ready (rs := [13]) (by kernel_rfl) (by simp) ?_
            refine AllReadyH.cons rfl (fun K hK => ?_) AllReadyH.nil
            go_simp
            go_wp2_with (go_at_call 33; refine (nm_any y _ (by omega)).mono ?_; rintro e w9 ⟨rfl, B9⟩)
            refine hK.out _ _ trivial (fun hHeld => ?_)
            clear hK K
            refine wpAnyH_take (i := 14) (v := ?_) rfl (by kernel_rfl) (by kernel_rfl) (by kernel_rfl) (fun _ _ _ h => h) (Or.inl ⟨by rfl, ?_⟩) hHeld ?_
            rotate_left
            · (intro w hSw; (try dsimp only at hSw); go_simp; try with_reducible rfl)
            simp only [List.getElem_toArray, List.getElem_cons_succ, List.getElem_cons_zero, Act.put, List.setIfInBounds_toArray, List.set_cons_zero, List.set_cons_succ]
            refine wpAnyH_take (i := 15) (v := ?_) rfl (by kernel_rfl) (by kernel_rfl) (by kernel_rfl) (fun _ _ _ h => h) (Or.inl ⟨by rfl, ?_⟩) hHeld ?_
            rotate_left
            · (intro w hSw; (try dsimp only at hSw); go_simp; try with_reducible rfl)
            simp only [List.getElem_toArray, List.getElem_cons_succ, List.getElem_cons_zero, Act.put, List.setIfInBounds_toArray, List.set_cons_zero, List.set_cons_succ]
            refine wpAnyH_take (i := 16) (v := ?_) rfl (by kernel_rfl) (by kernel_rfl) (by kernel_rfl) (fun _ _ _ h => h) (Or.inl ⟨by rfl, ?_⟩) hHeld ?_
            rotate_left
            · (intro w hSw; (try dsimp only at hSw); go_simp; try with_reducible rfl)
            simp only [List.getElem_toArray, List.getElem_cons_succ, List.getElem_cons_zero, Act.put, List.setIfInBounds_toArray, List.set_cons_zero, List.set_cons_succ]
            refine wpAnyH_take (i := 17) (v := ?_) rfl (by kernel_rfl) (by kernel_rfl) (by kernel_rfl) (fun _ _ _ h => h) (Or.inl ⟨by rfl, ?_⟩) hHeld ?_
            rotate_left
            · (intro w hSw; (try dsimp only at hSw); go_simp; try with_reducible rfl)
            simp only [List.getElem_toArray, List.getElem_cons_succ, List.getElem_cons_zero, Act.put, List.setIfInBounds_toArray, List.set_cons_zero, List.set_cons_succ]
            refine wpAnyH_take (i := 18) (v := ?_) rfl (by kernel_rfl) (by kernel_rfl) (by kernel_rfl) (fun _ _ _ h => h) (Or.inl ⟨by rfl, ?_⟩) hHeld ?_
            rotate_left
            · (intro w hSw; (try dsimp only at hSw); go_simp; try with_reducible rfl)
            simp only [List.getElem_toArray, List.getElem_cons_succ, List.getElem_cons_zero, Act.put, List.setIfInBounds_toArray, List.set_cons_zero, List.set_cons_succ]
            refine wpAnyH_take (i := 19) (v := ?_) rfl (by kernel_rfl) (by kernel_rfl) (by kernel_rfl) (fun _ _ _ h => h) (Or.inl ⟨by rfl, ?_⟩) hHeld ?_
            rotate_left
            · (intro w hSw; (try dsimp only at hSw); go_simp; try with_reducible rfl)
            simp only [List.getElem_toArray, List.getElem_cons_succ, List.getElem_cons_zero, Act.put, List.setIfInBounds_toArray, List.set_cons_zero, List.set_cons_succ]
            refine wpAnyH_take (i := 20) (v := ?_) rfl (by kernel_rfl) (by kernel_rfl) (by kernel_rfl) (fun _ _ _ h => h) (Or.inl ⟨by rfl, ?_⟩) hHeld ?_
            rotate_left
            · (intro w hSw; (try dsimp only at hSw); go_simp; try with_reducible rfl)
            simp only [List.getElem_toArray, List.getElem_cons_succ, List.getElem_cons_zero, Act.put, List.setIfInBounds_toArray, List.set_cons_zero, List.set_cons_succ]
            refine wpAnyH_take (i := 21) (v := ?_) rfl (by kernel_rfl) (by kernel_rfl) (by kernel_rfl) (fun _ _ _ h => h) (Or.inl ⟨by rfl, ?_⟩) hHeld ?_
            rotate_left
            · (intro w hSw; (try dsimp only at hSw); go_simp; try with_reducible rfl)
            simp only [List.getElem_toArray, List.getElem_cons_succ, List.getElem_cons_zero, Act.put, List.setIfInBounds_toArray, List.set_cons_zero, List.set_cons_succ]
            refine wpAnyH_take (i := 22) (v := ?_) rfl (by kernel_rfl) (by kernel_rfl) (by kernel_rfl) (fun _ _ _ h => h) (Or.inl ⟨by rfl, ?_⟩) hHeld ?_
            rotate_left
            · (intro w hSw; (try dsimp only at hSw); go_simp; try with_reducible rfl)
            simp only [List.getElem_toArray, List.getElem_cons_succ, List.getElem_cons_zero, Act.put, List.setIfInBounds_toArray, List.set_cons_zero, List.set_cons_succ]
            refine wpAnyH_take (i := 25) (v := ?_) rfl (by kernel_rfl) (by kernel_rfl) (by kernel_rfl) (fun _ _ _ h => h) (Or.inl ⟨by rfl, ?_⟩) hHeld ?_
            rotate_left
            · (intro w hSw; (try dsimp only at hSw); go_simp; try with_reducible rfl)
            simp only [List.getElem_toArray, List.getElem_cons_succ, List.getElem_cons_zero, Act.put, List.setIfInBounds_toArray, List.set_cons_zero, List.set_cons_succ]
            have bc0 : Below w8.heap.size w8 w9 := (below_drew (Below.refl _ _)).trans B9
            have eA0 := E8.below bc0
            have eB0 := F8.below bc0
            have bb0 := b68.trans (bc0.mono b68.size)
            clear bc0
            refine wpAnyH_ready (rs := [23]) (by kernel_rfl) (by simp) ?_
            refine AllReadyH.cons rfl (fun K hK => ?_) AllReadyH.nil
            · go_simp
              go_wp2_with (go_at_call 23; refine (BY.out _ _ (by first | exact bb0 | exact below_drew bb0) (by first | exact eA0 | exact es_drew eA0)).mono ?_; rintro e v1 ⟨gA, rfl, RA, C1⟩)
              have bb1 : Below w6.heap.size w6 v1 := bb0.trans ((by first | exact C1 | exact below_undrew C1 : Below w9.heap.size w9 v1).mono bb0.size)
              have eA1 := eA0.below (by first | exact C1 | exact below_undrew C1)
              have eB1 := eB0.below (by first | exact C1 | exact below_undrew C1)
              refine hK.out _ _ trivial (fun hHeld => ?_)
              clear hK K
              refine wpAnyH_ready (rs := [24, 26]) (by kernel_rfl) (by simp) ?_
              refine AllReadyH.cons rfl (fun K hK => ?_) (AllReadyH.cons rfl (fun K hK => ?_) AllReadyH.nil)
              · go_simp
                have r0 := RA.out v1 (Below.refl _ _)
                have r1 := RA.out v1.drew (below_drew (Below.refl _ _))
                first | rw [r0] | rw [r1]
                clear r0 r1
                go_simp
                refine hK.out _ _ trivial (fun hHeld => ?_)
                clear hK K
                refine wpAnyH_ready (rs := [26]) (by kernel_rfl) (by simp) ?_
                refine AllReadyH.cons rfl (fun K hK => ?_) AllReadyH.nil
                · go_simp
                  go_wp2_with (go_at_call 23; refine (BY.out _ _ (by first | exact bb1 | exact below_drew bb1) (by first | exact eB1 | exact es_drew eB1)).mono ?_; rintro e v2 ⟨gB, rfl, RB, C2⟩)
                  have bb2 : Below w6.heap.size w6 v2 := bb1.trans ((by first | exact C2 | exact below_undrew C2 : Below v1.heap.size v1 v2).mono bb1.size)
                  have eA2 := eA1.below (by first | exact C2 | exact below_undrew C2)
                  have eB2 := eB1.below (by first | exact C2 | exact below_undrew C2)
                  refine hK.out _ _ trivial (fun hHeld => ?_)
                  clear hK K
                  refine wpAnyH_ready (rs := [27]) (by kernel_rfl) (by simp) ?_
                  refine AllReadyH.cons rfl (fun K hK => ?_) AllReadyH.nil
                  · go_simp
                    have r0 := RB.out v2 (Below.refl _ _)
                    have r1 := RB.out v2.drew (below_drew (Below.refl _ _))
                    first | rw [r0] | rw [r1]
                    clear r0 r1
                    go_simp
                    refine hK.out _ _ trivial (fun hHeld => ?_)
                    clear hK K
                    refine wpAnyH_take (i := 28) (v := ?_) rfl (by kernel_rfl) (by kernel_rfl) (by kernel_rfl) (fun _ _ _ h => h) (Or.inl ⟨by rfl, ?_⟩) hHeld ?_
                    rotate_left
                    · (intro w hSw; (try dsimp only at hSw); go_simp; try with_reducible rfl)
                    simp only [List.getElem_toArray, List.getElem_cons_succ, List.getElem_cons_zero, Act.put, List.setIfInBounds_toArray, List.set_cons_zero, List.set_cons_succ]
                    refine wpAnyH_take (i := 29) (v := ?_) rfl (by kernel_rfl) (by kernel_rfl) (by kernel_rfl) (fun _ _ _ h => h) (Or.inl ⟨by rfl, ?_⟩) hHeld ?_
                    rotate_left
                    · (intro w hSw; (try dsimp only at hSw); go_simp; try with_reducible rfl)
                    simp only [List.getElem_toArray, List.getElem_cons_succ, List.getElem_cons_zero, Act.put, List.setIfInBounds_toArray, List.set_cons_zero, List.set_cons_succ]
                    refine wpAnyH_take (i := 30) (v := ?_) rfl (by kernel_rfl) (by kernel_rfl) (by kernel_rfl) (fun _ _ _ h => h) (Or.inl ⟨by rfl, ?_⟩) hHeld ?_
                    rotate_left
                    · (intro w hSw; (try dsimp only at hSw); go_simp; try with_reducible rfl)
                    simp only [List.getElem_toArray, List.getElem_cons_succ, List.getElem_cons_zero, Act.put, List.setIfInBounds_toArray, List.set_cons_zero, List.set_cons_succ]
                    refine wpAnyH_done (by kernel_rfl) ?_ _
                    have H := fin _ (Bn6.trans (bb2.mono Bn6.size))
                    go_wp2_with fail
                    go_ret
                    exact ⟨rfl, H.out⟩
              · go_simp
                go_wp2_with (go_at_call 23; refine (BY.out _ _ (by first | exact bb1 | exact below_drew bb1) (by first | exact eB1 | exact es_drew eB1)).mono ?_; rintro e v2 ⟨gB, rfl, RB, C2⟩)
                have bb2 : Below w6.heap.size w6 v2 := bb1.trans ((by first | exact C2 | exact below_undrew C2 : Below v1.heap.size v1 v2).mono bb1.size)
                have eA2 := eA1.below (by first | exact C2 | exact below_undrew C2)
                have eB2 := eB1.below (by first | exact C2 | exact below_undrew C2)
                have RA : Hid (∀ w'', Below v2.heap.size v2 w'' → (convert 52 9 (.slice (some ⟨gA, 0, none⟩) Z Z)).run Tryd.prog w'' = .ok (.string T) w'') := fun w'' h => RA.out w'' ((by first | exact C2 | exact below_undrew C2 : Below v1.heap.size v1 v2).trans (h.mono C2.size))
                refine hK.out _ _ trivial (fun hHeld => ?_)
                clear hK K
                refine wpAnyH_ready (rs := [24, 27]) (by kernel_rfl) (by simp) ?_
                refine AllReadyH.cons rfl (fun K hK => ?_) (AllReadyH.cons rfl (fun K hK => ?_) AllReadyH.nil)
                · go_simp
                  have r0 := RA.out v2 (Below.refl _ _)
                  have r1 := RA.out v2.drew (below_drew (Below.refl _ _))
                  first | rw [r0] | rw [r1]
                  clear r0 r1
                  go_simp
                  refine hK.out _ _ trivial (fun hHeld => ?_)
                  clear hK K
                  refine wpAnyH_ready (rs := [27]) (by kernel_rfl) (by simp) ?_
                  refine AllReadyH.cons rfl (fun K hK => ?_) AllReadyH.nil
                  · go_simp
                    have r0 := RB.out v2 (Below.refl _ _)
                    have r1 := RB.out v2.drew (below_drew (Below.refl _ _))
                    first | rw [r0] | rw [r1]
                    clear r0 r1
                    go_simp
                    refine hK.out _ _ trivial (fun hHeld => ?_)
                    clear hK K
                    refine wpAnyH_take (i := 28) (v := ?_) rfl (by kernel_rfl) (by kernel_rfl) (by kernel_rfl) (fun _ _ _ h => h) (Or.inl ⟨by rfl, ?_⟩) hHeld ?_
                    rotate_left
                    · (intro w hSw; (try dsimp only at hSw); go_simp; try with_reducible rfl)
                    simp only [List.getElem_toArray, List.getElem_cons_succ, List.getElem_cons_zero, Act.put, List.setIfInBounds_toArray, List.set_cons_zero, List.set_cons_succ]
                    refine wpAnyH_take (i := 29) (v := ?_) rfl (by kernel_rfl) (by kernel_rfl) (by kernel_rfl) (fun _ _ _ h => h) (Or.inl ⟨by rfl, ?_⟩) hHeld ?_
                    rotate_left
                    · (intro w hSw; (try dsimp only at hSw); go_simp; try with_reducible rfl)
                    simp only [List.getElem_toArray, List.getElem_cons_succ, List.getElem_cons_zero, Act.put, List.setIfInBounds_toArray, List.set_cons_zero, List.set_cons_succ]
                    refine wpAnyH_take (i := 30) (v := ?_) rfl (by kernel_rfl) (by kernel_rfl) (by kernel_rfl) (fun _ _ _ h => h) (Or.inl ⟨by rfl, ?_⟩) hHeld ?_
                    rotate_left
                    · (intro w hSw; (try dsimp only at hSw); go_simp; try with_reducible rfl)
                    simp only [List.getElem_toArray, List.getElem_cons_succ, List.getElem_cons_zero, Act.put, List.setIfInBounds_toArray, List.set_cons_zero, List.set_cons_succ]
                    refine wpAnyH_done (by kernel_rfl) ?_ _
                    have H := fin _ (Bn6.trans (bb2.mono Bn6.size))
                    go_wp2_with fail
                    go_ret
                    exact ⟨rfl, H.out⟩
                · go_simp
                  have r0 := RB.out v2 (Below.refl _ _)
                  have r1 := RB.out v2.drew (below_drew (Below.refl _ _))
                  first | rw [r0] | rw [r1]
                  clear r0 r1
                  go_simp
                  refine hK.out _ _ trivial (fun hHeld => ?_)
                  clear hK K
                  refine wpAnyH_ready (rs := [24]) (by kernel_rfl) (by simp) ?_
                  refine AllReadyH.cons rfl (fun K hK => ?_) AllReadyH.nil
                  · go_simp
                    have r0 := RA.out v2 (Below.refl _ _)
                    have r1 := RA.out v2.drew (below_drew (Below.refl _ _))
                    first | rw [r0] | rw [r1]
                    clear r0 r1
                    go_simp
                    refine hK.out _ _ trivial (fun hHeld => ?_)
                    clear hK K
                    refine wpAnyH_take (i := 28) (v := ?_) rfl (by kernel_rfl) (by kernel_rfl) (by kernel_rfl) (fun _ _ _ h => h) (Or.inl ⟨by rfl, ?_⟩) hHeld ?_
                    rotate_left
                    · (intro w hSw; (try dsimp only at hSw); go_simp; try with_reducible rfl)
                    simp only [List.getElem_toArray, List.getElem_cons_succ, List.getElem_cons_zero, Act.put, List.setIfInBounds_toArray, List.set_cons_zero, List.set_cons_succ]
                    refine wpAnyH_take (i := 29) (v := ?_) rfl (by kernel_rfl) (by kernel_rfl) (by kernel_rfl) (fun _ _ _ h => h) (Or.inl ⟨by rfl, ?_⟩) hHeld ?_
                    rotate_left
                    · (intro w hSw; (try dsimp only at hSw); go_simp; try with_reducible rfl)
                    simp only [List.getElem_toArray, List.getElem_cons_succ, List.getElem_cons_zero, Act.put, List.setIfInBounds_toArray, List.set_cons_zero, List.set_cons_succ]
                    refine wpAnyH_take (i := 30) (v := ?_) rfl (by kernel_rfl) (by kernel_rfl) (by kernel_rfl) (fun _ _ _ h => h) (Or.inl ⟨by rfl, ?_⟩) hHeld ?_
                    rotate_left
                    · (intro w hSw; (try dsimp only at hSw); go_simp; try with_reducible rfl)
                    simp only [List.getElem_toArray, List.getElem_cons_succ, List.getElem_cons_zero, Act.put, List.setIfInBounds_toArray, List.set_cons_zero, List.set_cons_succ]
                    refine wpAnyH_done (by kernel_rfl) ?_ _
                    have H := fin _ (Bn6.trans (bb2.mono Bn6.size))
                    go_wp2_with fail
                    go_ret
                    exact ⟨rfl, H.out⟩
          · obtain rfl := hr.out.unique h6
            obtain rfl : e = .returned (.tuple #[.int .i64 0, .bool false]) := by
              rcases hxx with ⟨_, h⟩ | ⟨q, hq, _, h⟩
              · exact h
              · omega
            clear hr hxx h6
            go_wp2_with fail
            refine (nm_any y _ (by omega)).mono ?_
            rintro e w7 ⟨rfl, B7⟩
            go_wp2_with fail
            refine (move_ok _ es nm (nmI y) y _ (E6.below B7) (by omega) S1 (nmI_name y (by omega)) ME).mono ?_
            rintro e w8 ⟨u8, rfl, E8, B8⟩
            rw [HB.out] at E8
            have b68 := B7.trans (B8.mono B7.size)
            have F8 := F6.below b68
            have Bn8 := Bn6.trans (b68.mono Bn6.size)
            clear B7 B8 E6 F6 HB ME S1 s2 E B
            go_wp2_with fail
            have qw : IntKind.i64.wrap ((y : Int) + 1) = (y : Int) + 1 := by rw [IntKind.wrap_i64]; omega
            refine wp_region_held_drew (S := (fun _ => True)) (by kernel_rfl) trivial (fun hHeld => ?_)
            refine wpAnyH_take (i := 0) (v := ?_) rfl (by kernel_rfl) (by kernel_rfl) (by kernel_rfl) (fun _ _ _ h => h) (Or.inl ⟨by rfl, ?_⟩) hHeld ?_
            rotate_left
            · (intro w hSw; (try dsimp only at hSw); go_simp; try with_reducible rfl)
            simp only [List.getElem_toArray, List.getElem_cons_zero, Act.put, List.setIfInBounds_toArray, List.set_cons_zero, List.set_cons_succ]
            refine wpAnyH_take (i := 1) (v := ?_) rfl (by kernel_rfl) (by kernel_rfl) (by kernel_rfl) (fun _ _ _ h => h) (Or.inl ⟨by rfl, ?_⟩) hHeld ?_
            rotate_left
            · (intro w hSw; (try dsimp only at hSw); go_simp; try with_reducible rfl)
            simp only [List.getElem_toArray, List.getElem_cons_succ, List.getElem_cons_zero, Act.put, List.setIfInBounds_toArray, List.set_cons_zero, List.set_cons_succ]
            refine wpAnyH_take (i := 2) (v := ?_) rfl (by kernel_rfl) (by kernel_rfl) (by kernel_rfl) (fun _ _ _ h => h) (Or.inl ⟨by rfl, ?_⟩) hHeld ?_
            rotate_left
            · (intro w hSw; (try dsimp only at hSw); go_simp; try with_reducible rfl)
            simp only [List.getElem_toArray, List.getElem_cons_succ, List.getElem_cons_zero, Act.put, List.setIfInBounds_toArray, List.set_cons_zero, List.set_cons_succ]
            refine wpAnyH_take (i := 3) (v := ?_) rfl (by kernel_rfl) (by kernel_rfl) (by kernel_rfl) (fun _ _ _ h => h) (Or.inl ⟨by rfl, ?_⟩) hHeld ?_
            rotate_left
            · (intro w hSw; (try dsimp only at hSw); go_simp; try with_reducible rfl)
            simp only [List.getElem_toArray, List.getElem_cons_succ, List.getElem_cons_zero, Act.put, List.setIfInBounds_toArray, List.set_cons_zero, List.set_cons_succ]
            refine wpAnyH_take (i := 4) (v := ?_) rfl (by kernel_rfl) (by kernel_rfl) (by kernel_rfl) (fun _ _ _ h => h) (Or.inl ⟨by rfl, ?_⟩) hHeld ?_
            rotate_left
            · (intro w hSw; (try dsimp only at hSw); go_simp; try with_reducible rfl)
            simp only [List.getElem_toArray, List.getElem_cons_succ, List.getElem_cons_zero, Act.put, List.setIfInBounds_toArray, List.set_cons_zero, List.set_cons_succ]
            refine wpAnyH_take (i := 5) (v := ?_) rfl (by kernel_rfl) (by kernel_rfl) (by kernel_rfl) (fun _ _ _ h => h) (Or.inl ⟨by rfl, ?_⟩) hHeld ?_
            rotate_left
            · (intro w hSw; (try dsimp only at hSw); go_simp; try with_reducible rfl)
            simp only [List.getElem_toArray, List.getElem_cons_succ, List.getElem_cons_zero, Act.put, List.setIfInBounds_toArray, List.set_cons_zero, List.set_cons_succ]
            refine wpAnyH_take (i := 6) (v := ?_) rfl (by kernel_rfl) (by kernel_rfl) (by kernel_rfl) (fun _ _ _ h => h) (Or.inl ⟨by rfl, ?_⟩) hHeld ?_
            rotate_left
            · (intro w hSw; (try dsimp only at hSw); go_simp; try with_reducible rfl)
            simp only [List.getElem_toArray, List.getElem_cons_succ, List.getElem_cons_zero, Act.put, List.setIfInBounds_toArray, List.set_cons_zero, List.set_cons_succ]
            refine wpAnyH_take (i := 7) (v := ?_) rfl (by kernel_rfl) (by kernel_rfl) (by kernel_rfl) (fun _ _ _ h => h) (Or.inl ⟨by rfl, ?_⟩) hHeld ?_
            rotate_left
            · (intro w hSw; (try dsimp only at hSw); go_simp; try with_reducible rfl)
            simp only [List.getElem_toArray, List.getElem_cons_succ, List.getElem_cons_zero, Act.put, List.setIfInBounds_toArray, List.set_cons_zero, List.set_cons_succ]
            refine wpAnyH_take (i := 8) (v := ?_) rfl (by kernel_rfl) (by kernel_rfl) (by kernel_rfl) (fun _ _ _ h => h) (Or.inl ⟨by rfl, ?_⟩) hHeld ?_
            rotate_left
            · (intro w hSw; (try dsimp only at hSw); go_simp; try with_reducible rfl)
            simp only [List.getElem_toArray, List.getElem_cons_succ, List.getElem_cons_zero, Act.put, List.setIfInBounds_toArray, List.set_cons_zero, List.set_cons_succ]
            refine wpAnyH_take (i := 9) (v := ?_) rfl (by kernel_rfl) (by kernel_rfl) (by kernel_rfl) (fun _ _ _ h => h) (Or.inl ⟨by rfl, ?_⟩) hHeld ?_
            rotate_left
            · (intro w hSw; (try dsimp only at hSw); go_simp; try with_reducible rfl)
            simp only [List.getElem_toArray, List.getElem_cons_succ, List.getElem_cons_zero, Act.put, List.setIfInBounds_toArray, List.set_cons_zero, List.set_cons_succ]
            refine wpAnyH_take (i := 10) (v := ?_) rfl (by kernel_rfl) (by kernel_rfl) (by kernel_rfl) (fun _ _ _ h => h) (Or.inl ⟨by rfl, ?_⟩) hHeld ?_
            rotate_left
            · (intro w hSw; (try dsimp only at hSw); go_simp; try with_reducible rfl)
            simp only [List.getElem_toArray, List.getElem_cons_succ, List.getElem_cons_zero, Act.put, List.setIfInBounds_toArray, List.set_cons_zero, List.set_cons_succ]
            refine wpAnyH_take (i := 11) (v := undef) rfl (by kernel_rfl) (by kernel_rfl) (by kernel_rfl) (fun _ _ _ h => h) (Or.inr ⟨by rfl, rfl⟩) hHeld ?_
            simp only [List.getElem_toArray, List.getElem_cons_succ, List.getElem_cons_zero, Act.put, List.setIfInBounds_toArray, List.set_cons_zero, List.set_cons_succ]
            refine wpAnyH_take (i := 12) (v := undef) rfl (by kernel_rfl) (by kernel_rfl) (by kernel_rfl) (fun _ _ _ h => h) (Or.inr ⟨by rfl, rfl⟩) hHeld ?_
            simp only [List.getElem_toArray, List.getElem_cons_succ, List.getElem_cons_zero, Act.put, List.setIfInBounds_toArray, List.set_cons_zero, List.set_cons_succ]
            refine wpAnyH_take (i := 13) (v := undef) rfl (by kernel_rfl) (by kernel_rfl) (by kernel_rfl) (fun _ _ _ h => h) (Or.inr ⟨by rfl, rfl⟩) hHeld ?_
            simp only [List.getElem_toArray, List.getElem_cons_succ, List.getElem_cons_zero, Act.put, List.setIfInBounds_toArray, List.set_cons_zero, List.set_cons_succ]
            refine wpAnyH_take (i := 14) (v := undef) rfl (by kernel_rfl) (by kernel_rfl) (by kernel_rfl) (fun _ _ _ h => h) (Or.inr ⟨by rfl, rfl⟩) hHeld ?_
            simp only [List.getElem_toArray, List.getElem_cons_succ, List.getElem_cons_zero, Act.put, List.setIfInBounds_toArray, List.set_cons_zero, List.set_cons_succ]
            refine wpAnyH_take (i := 15) (v := ?_) rfl (by kernel_rfl) (by kernel_rfl) (by kernel_rfl) (fun _ _ _ h => h) (Or.inl ⟨by rfl, ?_⟩) hHeld ?_
            rotate_left
            · (intro w hSw; (try dsimp only at hSw); go_simp; try with_reducible rfl)
            simp only [List.getElem_toArray, List.getElem_cons_succ, List.getElem_cons_zero, Act.put, List.setIfInBounds_toArray, List.set_cons_zero, List.set_cons_succ]
            refine wpAnyH_take (i := 16) (v := ?_) rfl (by kernel_rfl) (by kernel_rfl) (by kernel_rfl) (fun _ _ _ h => h) (Or.inl ⟨by rfl, ?_⟩) hHeld ?_
            rotate_left
            · (intro w hSw; (try dsimp only at hSw); go_simp; try with_reducible rfl)
            simp only [List.getElem_toArray, List.getElem_cons_succ, List.getElem_cons_zero, Act.put, List.setIfInBounds_toArray, List.set_cons_zero, List.set_cons_succ]
            refine wpAnyH_take (i := 17) (v := ?_) rfl (by kernel_rfl) (by kernel_rfl) (by kernel_rfl) (fun _ _ _ h => h) (Or.inl ⟨by rfl, ?_⟩) hHeld ?_
            rotate_left
            · (intro w hSw; (try dsimp only at hSw); go_simp; try with_reducible rfl)
            simp only [List.getElem_toArray, List.getElem_cons_succ, List.getElem_cons_zero, Act.put, List.setIfInBounds_toArray, List.set_cons_zero, List.set_cons_succ]
            refine wpAnyH_take (i := 18) (v := ?_) rfl (by kernel_rfl) (by kernel_rfl) (by kernel_rfl) (fun _ _ _ h => h) (Or.inl ⟨by rfl, ?_⟩) hHeld ?_
            rotate_left
            · (intro w hSw; (try dsimp only at hSw); go_simp; try with_reducible rfl)
            simp only [List.getElem_toArray, List.getElem_cons_succ, List.getElem_cons_zero, Act.put, List.setIfInBounds_toArray, List.set_cons_zero, List.set_cons_succ]
            refine wpAnyH_take (i := 19) (v := ?_) rfl (by kernel_rfl) (by kernel_rfl) (by kernel_rfl) (fun _ _ _ h => h) (Or.inl ⟨by rfl, ?_⟩) hHeld ?_
            rotate_left
            · (intro w hSw; (try dsimp only at hSw); go_simp; try with_reducible rfl)
            simp only [List.getElem_toArray, List.getElem_cons_succ, List.getElem_cons_zero, Act.put, List.setIfInBounds_toArray, List.set_cons_zero, List.set_cons_succ]
            refine wpAnyH_take (i := 20) (v := ?_) rfl (by kernel_rfl) (by kernel_rfl) (by kernel_rfl) (fun _ _ _ h => h) (Or.inl ⟨by rfl, ?_⟩) hHeld ?_
            rotate_left
            · (intro w hSw; (try dsimp only at hSw); go_simp; try with_reducible rfl)
            simp only [List.getElem_toArray, List.getElem_cons_succ, List.getElem_cons_zero, Act.put, List.setIfInBounds_toArray, List.set_cons_zero, List.set_cons_succ]
            refine wpAnyH_take (i := 21) (v := ?_) rfl (by kernel_rfl) (by kernel_rfl) (by kernel_rfl) (fun _ _ _ h => h) (Or.inl ⟨by rfl, ?_⟩) hHeld ?_
            rotate_left
            · (intro w hSw; (try dsimp only at hSw); go_simp; try with_reducible rfl)
            simp only [List.getElem_toArray, List.getElem_cons_succ, List.getElem_cons_zero, Act.put, List.setIfInBounds_toArray, List.set_cons_zero, List.set_cons_succ]
            refine wpAnyH_take (i := 22) (v := ?_) rfl (by kernel_rfl) (by kernel_rfl) (by kernel_rfl) (fun _ _ _ h => h) (Or.inl ⟨by rfl, ?_⟩) hHeld ?_
            rotate_left
            · (intro w hSw; (try dsimp only at hSw); go_simp; try with_reducible rfl)
            simp only [List.getElem_toArray, List.getElem_cons_succ, List.getElem_cons_zero, Act.put, List.setIfInBounds_toArray, List.set_cons_zero, List.set_cons_succ]
            refine wpAnyH_take (i := 25) (v := ?_) rfl (by kernel_rfl) (by kernel_rfl) (by kernel_rfl) (fun _ _ _ h => h) (Or.inl ⟨by rfl, ?_⟩) hHeld ?_
            rotate_left
            · (intro w hSw; (try dsimp only at hSw); go_simp; try with_reducible rfl)
            simp only [List.getElem_toArray, List.getElem_cons_succ, List.getElem_cons_zero, Act.put, List.setIfInBounds_toArray, List.set_cons_zero, List.set_cons_succ]
            have bc0 : Below w8.heap.size w8 w8.drew := below_drew (Below.refl _ _)
            have eA0 := E8.below bc0
            have eB0 := F8.below bc0
            have bb0 := b68.trans (bc0.mono b68.size)
            clear bc0
            refine wpAnyH_ready (rs := [23]) (by kernel_rfl) (by simp) ?_
            refine AllReadyH.cons rfl (fun K hK => ?_) AllReadyH.nil
            · go_simp
              go_wp2_with (go_at_call 23; refine (BY.out _ _ (by first | exact bb0 | exact below_drew bb0) (by first | exact eA0 | exact es_drew eA0)).mono ?_; rintro e v1 ⟨gA, rfl, RA, C1⟩)
              have bb1 : Below w6.heap.size w6 v1 := bb0.trans ((by first | exact C1 | exact below_undrew C1 : Below w8.drew.heap.size w8.drew v1).mono bb0.size)
              have eA1 := eA0.below (by first | exact C1 | exact below_undrew C1)
              have eB1 := eB0.below (by first | exact C1 | exact below_undrew C1)
              refine hK.out _ _ trivial (fun hHeld => ?_)
              clear hK K
              refine wpAnyH_ready (rs := [24, 26]) (by kernel_rfl) (by simp) ?_
              refine AllReadyH.cons rfl (fun K hK => ?_) (AllReadyH.cons rfl (fun K hK => ?_) AllReadyH.nil)
              · go_simp
                have r0 := RA.out v1 (Below.refl _ _)
                have r1 := RA.out v1.drew (below_drew (Below.refl _ _))
                first | rw [r0] | rw [r1]
                clear r0 r1
                go_simp
                refine hK.out _ _ trivial (fun hHeld => ?_)
                clear hK K
                refine wpAnyH_ready (rs := [26]) (by kernel_rfl) (by simp) ?_
                refine AllReadyH.cons rfl (fun K hK => ?_) AllReadyH.nil
                · go_simp
                  go_wp2_with (go_at_call 23; refine (BY.out _ _ (by first | exact bb1 | exact below_drew bb1) (by first | exact eB1 | exact es_drew eB1)).mono ?_; rintro e v2 ⟨gB, rfl, RB, C2⟩)
                  have bb2 : Below w6.heap.size w6 v2 := bb1.trans ((by first | exact C2 | exact below_undrew C2 : Below v1.heap.size v1 v2).mono bb1.size)
                  have eA2 := eA1.below (by first | exact C2 | exact below_undrew C2)
                  have eB2 := eB1.below (by first | exact C2 | exact below_undrew C2)
                  refine hK.out _ _ trivial (fun hHeld => ?_)
                  clear hK K
                  refine wpAnyH_ready (rs := [27]) (by kernel_rfl) (by simp) ?_
                  refine AllReadyH.cons rfl (fun K hK => ?_) AllReadyH.nil
                  · go_simp
                    have r0 := RB.out v2 (Below.refl _ _)
                    have r1 := RB.out v2.drew (below_drew (Below.refl _ _))
                    first | rw [r0] | rw [r1]
                    clear r0 r1
                    go_simp
                    refine hK.out _ _ trivial (fun hHeld => ?_)
                    clear hK K
                    refine wpAnyH_take (i := 28) (v := ?_) rfl (by kernel_rfl) (by kernel_rfl) (by kernel_rfl) (fun _ _ _ h => h) (Or.inl ⟨by rfl, ?_⟩) hHeld ?_
                    rotate_left
                    · (intro w hSw; (try dsimp only at hSw); go_simp; try with_reducible rfl)
                    simp only [List.getElem_toArray, List.getElem_cons_succ, List.getElem_cons_zero, Act.put, List.setIfInBounds_toArray, List.set_cons_zero, List.set_cons_succ]
                    refine wpAnyH_take (i := 29) (v := ?_) rfl (by kernel_rfl) (by kernel_rfl) (by kernel_rfl) (fun _ _ _ h => h) (Or.inl ⟨by rfl, ?_⟩) hHeld ?_
                    rotate_left
                    · (intro w hSw; (try dsimp only at hSw); go_simp; try with_reducible rfl)
                    simp only [List.getElem_toArray, List.getElem_cons_succ, List.getElem_cons_zero, Act.put, List.setIfInBounds_toArray, List.set_cons_zero, List.set_cons_succ]
                    refine wpAnyH_take (i := 30) (v := ?_) rfl (by kernel_rfl) (by kernel_rfl) (by kernel_rfl) (fun _ _ _ h => h) (Or.inl ⟨by rfl, ?_⟩) hHeld ?_
                    rotate_left
                    · (intro w hSw; (try dsimp only at hSw); go_simp; try with_reducible rfl)
                    simp only [List.getElem_toArray, List.getElem_cons_succ, List.getElem_cons_zero, Act.put, List.setIfInBounds_toArray, List.set_cons_zero, List.set_cons_succ]
                    refine wpAnyH_done (by kernel_rfl) ?_ _
                    have H := fin _ (Bn6.trans (bb2.mono Bn6.size))
                    go_wp2_with fail
                    go_ret
                    exact ⟨rfl, H.out⟩
              · go_simp
                go_wp2_with (go_at_call 23; refine (BY.out _ _ (by first | exact bb1 | exact below_drew bb1) (by first | exact eB1 | exact es_drew eB1)).mono ?_; rintro e v2 ⟨gB, rfl, RB, C2⟩)
                have bb2 : Below w6.heap.size w6 v2 := bb1.trans ((by first | exact C2 | exact below_undrew C2 : Below v1.heap.size v1 v2).mono bb1.size)
                have eA2 := eA1.below (by first | exact C2 | exact below_undrew C2)
                have eB2 := eB1.below (by first | exact C2 | exact below_undrew C2)
                have RA : Hid (∀ w'', Below v2.heap.size v2 w'' → (convert 52 9 (.slice (some ⟨gA, 0, none⟩) Z Z)).run Tryd.prog w'' = .ok (.string T) w'') := fun w'' h => RA.out w'' ((by first | exact C2 | exact below_undrew C2 : Below v1.heap.size v1 v2).trans (h.mono C2.size))
                refine hK.out _ _ trivial (fun hHeld => ?_)
                clear hK K
                refine wpAnyH_ready (rs := [24, 27]) (by kernel_rfl) (by simp) ?_
                refine AllReadyH.cons rfl (fun K hK => ?_) (AllReadyH.cons rfl (fun K hK => ?_) AllReadyH.nil)
                · go_simp
                  have r0 := RA.out v2 (Below.refl _ _)
                  have r1 := RA.out v2.drew (below_drew (Below.refl _ _))
                  first | rw [r0] | rw [r1]
                  clear r0 r1
                  go_simp
                  refine hK.out _ _ trivial (fun hHeld => ?_)
                  clear hK K
                  refine wpAnyH_ready (rs := [27]) (by kernel_rfl) (by simp) ?_
                  refine AllReadyH.cons rfl (fun K hK => ?_) AllReadyH.nil
                  · go_simp
                    have r0 := RB.out v2 (Below.refl _ _)
                    have r1 := RB.out v2.drew (below_drew (Below.refl _ _))
                    first | rw [r0] | rw [r1]
                    clear r0 r1
                    go_simp
                    refine hK.out _ _ trivial (fun hHeld => ?_)
                    clear hK K
                    refine wpAnyH_take (i := 28) (v := ?_) rfl (by kernel_rfl) (by kernel_rfl) (by kernel_rfl) (fun _ _ _ h => h) (Or.inl ⟨by rfl, ?_⟩) hHeld ?_
                    rotate_left
                    · (intro w hSw; (try dsimp only at hSw); go_simp; try with_reducible rfl)
                    simp only [List.getElem_toArray, List.getElem_cons_succ, List.getElem_cons_zero, Act.put, List.setIfInBounds_toArray, List.set_cons_zero, List.set_cons_succ]
                    refine wpAnyH_take (i := 29) (v := ?_) rfl (by kernel_rfl) (by kernel_rfl) (by kernel_rfl) (fun _ _ _ h => h) (Or.inl ⟨by rfl, ?_⟩) hHeld ?_
                    rotate_left
                    · (intro w hSw; (try dsimp only at hSw); go_simp; try with_reducible rfl)
                    simp only [List.getElem_toArray, List.getElem_cons_succ, List.getElem_cons_zero, Act.put, List.setIfInBounds_toArray, List.set_cons_zero, List.set_cons_succ]
                    refine wpAnyH_take (i := 30) (v := ?_) rfl (by kernel_rfl) (by kernel_rfl) (by kernel_rfl) (fun _ _ _ h => h) (Or.inl ⟨by rfl, ?_⟩) hHeld ?_
                    rotate_left
                    · (intro w hSw; (try dsimp only at hSw); go_simp; try with_reducible rfl)
                    simp only [List.getElem_toArray, List.getElem_cons_succ, List.getElem_cons_zero, Act.put, List.setIfInBounds_toArray, List.set_cons_zero, List.set_cons_succ]
                    refine wpAnyH_done (by kernel_rfl) ?_ _
                    have H := fin _ (Bn6.trans (bb2.mono Bn6.size))
                    go_wp2_with fail
                    go_ret
                    exact ⟨rfl, H.out⟩
                · go_simp
                  have r0 := RB.out v2 (Below.refl _ _)
                  have r1 := RB.out v2.drew (below_drew (Below.refl _ _))
                  first | rw [r0] | rw [r1]
                  clear r0 r1
                  go_simp
                  refine hK.out _ _ trivial (fun hHeld => ?_)
                  clear hK K
                  refine wpAnyH_ready (rs := [24]) (by kernel_rfl) (by simp) ?_
                  refine AllReadyH.cons rfl (fun K hK => ?_) AllReadyH.nil
                  · go_simp
                    have r0 := RA.out v2 (Below.refl _ _)
                    have r1 := RA.out v2.drew (below_drew (Below.refl _ _))
                    first | rw [r0] | rw [r1]
                    clear r0 r1
                    go_simp
                    refine hK.out _ _ trivial (fun hHeld => ?_)
                    clear hK K
                    refine wpAnyH_take (i := 28) (v := ?_) rfl (by kernel_rfl) (by kernel_rfl) (by kernel_rfl) (fun _ _ _ h => h) (Or.inl ⟨by rfl, ?_⟩) hHeld ?_
                    rotate_left
                    · (intro w hSw; (try dsimp only at hSw); go_simp; try with_reducible rfl)
                    simp only [List.getElem_toArray, List.getElem_cons_succ, List.getElem_cons_zero, Act.put, List.setIfInBounds_toArray, List.set_cons_zero, List.set_cons_succ]
                    refine wpAnyH_take (i := 29) (v := ?_) rfl (by kernel_rfl) (by kernel_rfl) (by kernel_rfl) (fun _ _ _ h => h) (Or.inl ⟨by rfl, ?_⟩) hHeld ?_
                    rotate_left
                    · (intro w hSw; (try dsimp only at hSw); go_simp; try with_reducible rfl)
                    simp only [List.getElem_toArray, List.getElem_cons_succ, List.getElem_cons_zero, Act.put, List.setIfInBounds_toArray, List.set_cons_zero, List.set_cons_succ]
                    refine wpAnyH_take (i := 30) (v := ?_) rfl (by kernel_rfl) (by kernel_rfl) (by kernel_rfl) (fun _ _ _ h => h) (Or.inl ⟨by rfl, ?_⟩) hHeld ?_
                    rotate_left
                    · (intro w hSw; (try dsimp only at hSw); go_simp; try with_reducible rfl)
                    simp only [List.getElem_toArray, List.getElem_cons_succ, List.getElem_cons_zero, Act.put, List.setIfInBounds_toArray, List.set_cons_zero, List.set_cons_succ]
                    refine wpAnyH_done (by kernel_rfl) ?_ _
                    have H := fin _ (Bn6.trans (bb2.mono Bn6.size))
                    go_wp2_with fail
                    go_ret
                    exact ⟨rfl, H.out⟩
        · go_wp2_with fail
          refine (move_is _ (seqE k) (nmI y) nm y j _ E2 (by omega) HI HN hne HJ).mono ?_
          rintro e w3 ⟨rfl, B3⟩
          have Bn3 := Bn2.trans (B3.mono Bn2.size)
          have E3 := E2.below B3
          clear B3
          go_wp2_with fail
          refine (find_any _ (seqE k) nm _ E3 (by omega)).mono ?_
          rintro e w4 ⟨r, hr, B4, hxx⟩
          obtain rfl := hr.out.unique HJ.out
          have H := fin _ (Bn3.trans (B4.mono Bn3.size))
          obtain ⟨f1, rfl⟩ : ∃ f1, e = .returned (.tuple #[.int .i64 f1, .bool true]) := by
            rcases hxx with ⟨h, _⟩ | ⟨_, _, _, h⟩
            · omega
            · exact ⟨_, h⟩
          clear hxx B4 hr
          go_wp2_with fail
          refine (name_any nm true _ HN).mono ?_
          rintro e w5 ⟨rfl, rfl⟩
          go_wp2_with fail
          go_ret
          exact ⟨rfl, H.out⟩
end Go.Proofs.YtbhfmceapffhnaaDoor

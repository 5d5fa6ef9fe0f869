/-
  DirGrows.
-/
import Derived.Test.YtbhfmceapffhnaaDoorDSeq
namespace Go.Proofs.YtbhfmceapffhnaaDoor
open Go.RowKit

theorem ag_add (p : Nat) : (⟨#[97, 103, 97, 105, 110]⟩ : ByteArray) ++ nmI p = agI p := by
  rfl
theorem tab_below {w w' : World} (h : Tab w) (hb : Below w.heap.size w w') : Tab w' := fun j hj => (Chg.ofBelowC hb).cell (h j hj) (fun h => h)
set_option maxHeartbeats 6400000 in
set_option maxRecDepth 100000 in
theorem law_grows (n : Int) (v : Value) (l : List Int) (w : World) (hT : Tab w) (hv : Is w v l) :
    Calls Tryd.prog 5 #[.int .i64 n, v] w fun e w' => e = .returned (.bool true) ∧ Chg (fun _ => False) w w' := by
  obtain ⟨va, vc, rfl⟩ := hv.form
  go_enter Tryd.func5, Tryd.ntmps5
  go_wp2_with fail
  refine (known_any _).mono ?_
  rintro e w1 ⟨rfl, B1⟩
  have fin : ∀ w', Below w.heap.size w w' → Hid (Chg (fun _ => False) w w') := fun w' h => Chg.ofBelowC h
  by_cases h1 : n < 0
  · have H := fin _ B1
    go_wp2_with fail
    go_ret
    exact ⟨rfl, H.out⟩
  by_cases h2 : 60 < n
  · have H := fin _ B1
    go_wp2_with fail
    go_ret
    exact ⟨rfl, H.out⟩
  obtain ⟨N, rfl⟩ : ∃ N : Nat, n = (N : Int) := ⟨n.toNat, by omega⟩
  have hN : N ≤ 60 := by omega
  by_cases h3 : 60 < l.length
  · have H := fin _ B1
    have g1 : ¬ ((N : Int) < 0) := h1
    have g2 : ¬ (60 < (N : Int)) := h2
    have g3 : 60 < (l.length : Int) := by omega
    go_wp2_with fail
    go_ret
    exact ⟨rfl, H.out⟩
  have g3 : ¬ (60 < (l.length : Int)) := by omega
  clear h3
  go_wp2_with fail
  go_loopw [5, 6, 7] (fun s sum i wr => ∃ k : Nat, k ≤ N ∧ i = .int .i64 k ∧ sum = .int .i64 (sizeS k : Nat) ∧ Below w.heap.size w wr ∧ Es wr s (seqE k)) (fun _ _ i _ => N - (intOf i).toNat)
  case atStart => exact ⟨0, Nat.zero_le _, rfl, rfl, B1, Es.nil _⟩
  case round =>
    clear B1
    obtain ⟨k, hk, rfl, rfl, B, E⟩ := hrel
    by_cases hlt : k < N
    · have q1 : (k : Int) < N := by omega
      have hsz : sizeS k + (sizeS (k + 1) - sizeS k) = sizeS (k + 1) := by unfold sizeS; omega
      have hsz1 : sizeS k ≤ 100000 := by unfold sizeS; omega
      have hsz2 : sizeS (k + 1) - sizeS k ≤ 100000 := by unfold sizeS; omega
      go_wp2_with fail
      refine (nm_any k _ (by omega)).mono ?_
      rintro e w2 ⟨rfl, B2⟩
      have Bn2 := B.trans (B2.mono B.size)
      have E2 := E.below B2
      go_wp2_with fail
      refine (put_more _ (seqE k) (nmI k) ((k + 1 : Nat) : Int) _ E2 (by rw [seqE_len]; omega) (nmI_name k (by omega)) (inFits k (by omega)) (seqE_new k k (Nat.le_refl _) (by omega)) (seqE_free k)).mono ?_
      rintro e w3 ⟨u, rfl, E3, B3⟩
      have Bn3 := Bn2.trans (B3.mono Bn2.size)
      rw [← seqE_succ] at E3
      rw [seqE_len]
      clear B2 B3 Bn2 E2 E B
      generalize sizeS (k + 1) - sizeS k = D at *
      have HS : Hid (sizeS k + D = sizeS (k + 1)) := hsz
      clear hsz
      generalize sizeS k = Y at *
      go_wp2_with fail
      go_roundw
      case rel =>
        refine ⟨k + 1, by omega, by go_num, ?_, Bn3, E3⟩
        rw [← HS.out]
        go_num
      case measure => simp [intOf]; omega
    · obtain rfl : k = N := by omega
      have q1 : ¬ (k : Int) < k := by omega
      obtain ⟨sa, sc, rfl⟩ := E.form
      have BY := dbytes_any _ (seqE k) wr (tab_below hT B) E (by rw [seqE_len]; omega) (fun j hj => by
        rw [seqE_len] at hj
        have := seqE_at k j hj
        rw [En.at] at this
        rw [this, nmI_size]; omega)
      rw [seqE_len] at E BY ⊢
      obtain ⟨Z, hZ, hZ1⟩ : ∃ Z, Hid (sizeS k = Z) ∧ Z ≤ 100000 := ⟨_, rfl, by unfold sizeS; omega⟩
      have zz : ((k : Int) + 7) / 8 * 512 = (Z : Int) := by rw [← hZ.out]; unfold sizeS; omega
      rw [hZ.out] at BY ⊢
      clear hZ
      go_wp2_with fail
      refine BY.mono ?_
      rintro e w2 ⟨g, rfl, _, _, B2⟩
      have Bn2 := B.trans (B2.mono B.size)
      have E2 := E.below B2
      clear BY B2 E B
      go_wp2_with fail
      go_loopw [5, 11, 12] (fun s t i wr => ∃ (m : Nat) (es : List En), m ≤ l.length ∧ i = .int .i64 m ∧ t = .int .i64 (freeN es : Nat) ∧ Below w.heap.size w wr ∧ Es wr s es ∧ Hid (Old k es ∧ freeN es ≤ k)) (fun _ _ i _ => l.length - (intOf i).toNat)
      case atStart => exact ⟨0, seqE k, Nat.zero_le _, rfl, by rw [seqE_freeN]; rfl, Bn2, E2, old_seq k, by rw [seqE_freeN]; omega⟩
      case round =>
        clear Bn2 E2
        obtain ⟨m, es, hm, rfl, rfl, B, E, HO⟩ := hrel
        have hO := HO.out.1
        have hO2 := HO.out.2
        have hel := hO.1
        clear HO
        have HO : Hid (Old k es) := hO
        clear hO
        by_cases hlt : m < l.length
        · have q1 : (m : Int) < l.length := by omega
          have hv' := hv.below B
          obtain ⟨b, off, rfl, hc⟩ := hv'.nth hlt
          have c1 := hc m hlt
          clear hc hv'
          obtain ⟨x, hx⟩ : ∃ x, Hid (l.getD m 0 = x) := ⟨_, rfl⟩
          rw [hx.out] at c1
          obtain ⟨t, ht, ht2⟩ : ∃ t : Nat, bits .and .i64 x 63 = (t : Int) ∧ t < 64 := ⟨(x % 64).toNat, by rw [and63]; omega, by omega⟩
          generalize hF : freeN es = F at *
          go_wp2_with fail
          refine (nm_any t _ ht2).mono ?_
          rintro e w3 ⟨rfl, B3⟩
          have Bn3 := B.trans (B3.mono B.size)
          have E3 := E.below B3
          clear B3 E
          rcases HO.out.find hN ht2 with hi | ⟨hi, htk, hat⟩
          · go_wp2_with fail
            refine (take_none _ es (nmI t) _ E3 (by omega) hi).mono ?_
            rintro e w4 ⟨rfl, B4⟩
            have Bn4 := Bn3.trans (B4.mono Bn3.size)
            have E4 := E3.below B4
            clear B4 E3 Bn3
            go_wp2_with fail
            go_roundw
            case rel => exact ⟨m + 1, es, by omega, by go_num, by rw [hF], Bn4, E4, HO.out, by omega⟩
            case measure => simp [intOf]; omega
          · have HF2 : Hid (freeN (es.set t En.fr) = F + 1) := by rw [Hid, freeN_take es t (by omega) (by rw [hat]; show 1 ≤ (nmI t).size; rw [nmI_size]; omega), hF]
            have HO2 : Hid (Old k (es.set t En.fr)) := HO.out.take htk
            have hF3 : F + 1 ≤ k := by
              have h1 := free_names (es.set t En.fr)
              rw [HF2.out, List.length_set] at h1
              omega
            go_wp2_with fail
            refine (take_ok _ es (nmI t) t _ E3 (by omega) hi).mono ?_
            rintro e w4 ⟨u, rfl, E4, B4⟩
            rw [hat]
            have Bn4 := Bn3.trans (B4.mono Bn3.size)
            clear B4 E3 Bn3
            go_wp2_with fail
            go_roundw
            case rel => exact ⟨m + 1, _, by omega, by go_num, by rw [HF2.out]; go_num, Bn4, E4, HO2.out, by rw [HF2.out]; exact hF3⟩
            case measure => simp [intOf]; omega
        · have q1 : ¬ (m : Int) < l.length := by omega
          generalize hF : freeN es = F at *
          go_wp2_with fail
          go_loopw [5, 17] (fun s i wr => ∃ (p : Nat) (fs : List En), p ≤ F ∧ i = .int .i64 p ∧ Below w.heap.size w wr ∧ Es wr s fs ∧ Hid (New k p fs ∧ freeN fs + p = F)) (fun _ i _ => F - (intOf i).toNat)
          case atStart => exact ⟨0, es, Nat.zero_le _, rfl, B, E, HO.out.new, hF⟩
          case round =>
            clear B E
            obtain ⟨p, fs, hp, rfl, B, E, HN⟩ := hrel
            have hfl := HN.out.1.1
            by_cases hlt2 : p < F
            · have q2 : (p : Int) < F := by omega
              obtain ⟨f, hf1, hf2, hf3⟩ := free_ex fs (by have := HN.out.2; omega)
              have HN2 : Hid (New k (p + 1) (fs.set f ⟨agI p, 9⟩) ∧ freeN (fs.set f ⟨agI p, 9⟩) + (p + 1) = F) := ⟨HN.out.1.put (by omega), by
                have h1 := freeN_put fs f ⟨agI p, 9⟩ hf2 hf3 (by show 1 ≤ (agI p).size; rw [agI_size]; omega)
                have h2 := HN.out.2
                omega⟩
              have hno : Hid (IdxN fs (agI p) (-1)) := HN.out.1.none (by omega)
              clear HN hf3
              go_wp2_with fail
              refine (nm_any p _ (by omega)).mono ?_
              rintro e w3 ⟨rfl, B3⟩
              have Bn3 := B.trans (B3.mono B.size)
              have E3 := E.below B3
              clear B3 E
              have eag : (⟨#[97, 103, 97, 105, 110]⟩ : ByteArray) ++ nmI p = agI p := ag_add p
              go_wp2_with fail
              refine (put_free _ fs (agI p) 9 f _ E3 (by omega) (agI_name p (by omega)) (by rfl) hno hf1).mono ?_
              rintro e w4 ⟨u, rfl, E4, B4⟩
              have Bn4 := Bn3.trans (B4.mono Bn3.size)
              clear B4 E3 Bn3 eag
              go_wp2_with fail
              go_roundw
              case rel => exact ⟨p + 1, _, by omega, by go_num, Bn4, E4, HN2.out⟩
              case measure => simp [intOf]; omega
            · have q2 : ¬ (p : Int) < F := by omega
              have hfn := free_names fs
              have hfz : freeN fs = 0 := by have := HN.out.2; omega
              have HL : (namesL fs).length = k := by omega
              obtain ⟨sa2, sc2, rfl⟩ := E.form
              have NM := names_any _ fs wr E (by omega)
              rw [hfl] at NM ⊢
              rw [HL] at NM
              clear hfn hfz HN E
              go_wp2_with fail
              refine NM.mono ?_
              rintro e w5 ⟨u, rfl, o5, B5⟩
              obtain ⟨ua, uc, rfl⟩ := own_sl1 o5
              have H := fin _ (B.trans (B5.mono B.size))
              clear o5 B5 NM
              go_wp2_with fail
              go_ret
              exact ⟨rfl, H.out⟩
end Go.Proofs.YtbhfmceapffhnaaDoor

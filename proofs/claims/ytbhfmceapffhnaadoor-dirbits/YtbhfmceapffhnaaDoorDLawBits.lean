/-
  DirBits.
-/
import Derived.Test.YtbhfmceapffhnaaDoorDFlip
import Derived.Test.YtbhfmceapffhnaaDoorDLawGrows
import Derived.Deep.Cut
namespace Go.Proofs.YtbhfmceapffhnaaDoor
open Go.RowKit

theorem tmod_bd' (x : Int) (k : Nat) (hk : 1 ≤ k) : -(k : Int) < x.tmod (k : Int) ∧ x.tmod (k : Int) < (k : Int) := by
  have hp : (0 : Int) < k := by omega
  refine ⟨?_, Int.tmod_lt_of_pos x hp⟩
  by_cases h : 0 ≤ x
  · have := Int.tmod_nonneg (k : Int) h; omega
  · have h1 := Int.tmod_lt_of_pos (-x) hp
    rw [Int.neg_tmod] at h1
    omega
theorem seq_bytes (n i : Nat) (hi : i < sizeS n) : 0 ≤ (bytesL (seqE n)).getD i 0 ∧ (bytesL (seqE n)).getD i 0 < 256 := by
  have hB : IsB (bytesL (seqE n)) := by
    unfold bytesL
    refine isB_app ?_ (fun x hx => by have := List.eq_of_mem_replicate hx; omega)
    intro x hx
    obtain ⟨e, _, he⟩ := List.mem_flatMap.1 hx
    unfold slotB at he
    split at he
    · exact encB_isB e x he
    · have := List.eq_of_mem_replicate he; omega
  exact hB.at (by rw [bytesL_len, seqE_len]; exact hi)
theorem seq_isB (n : Nat) : IsB (bytesL (seqE n)) := by
  intro x hx
  obtain ⟨i, hi, rfl⟩ := List.getElem_of_mem hx
  have := seq_bytes n i (by rw [bytesL_len, seqE_len] at hi; exact hi)
  simpa [List.getD, hi] using this

set_option maxHeartbeats 6400000 in
set_option maxRecDepth 100000 in
theorem law_bits (n x : Int) (w : World) (hT : Tab w) (_hx : -9223372036854775808 ≤ x ∧ x ≤ 9223372036854775807) :
    Calls Tryd.prog 7 #[.int .i64 n, .int .i64 x] w fun e w' => e = .returned (.bool true) ∧ Chg (fun _ => False) w w' := by
  go_enter Tryd.func7, Tryd.ntmps7
  go_wp2_with fail
  refine (known_any _).mono ?_
  rintro e w1 ⟨rfl, B1⟩
  have fin : ∀ w', Below w.heap.size w w' → Hid (Chg (fun _ => False) w w') := fun w' h => Chg.ofBelowC h
  by_cases h1 : n < 1
  · have H := fin _ B1
    go_wp2_with fail
    go_ret
    exact ⟨rfl, H.out⟩
  by_cases h2 : 30 < n
  · have H := fin _ B1
    go_wp2_with fail
    go_ret
    exact ⟨rfl, H.out⟩
  obtain ⟨N, rfl⟩ : ∃ N : Nat, n = (N : Int) := ⟨n.toNat, by omega⟩
  have hN : N ≤ 30 := by omega
  have hN0 : 1 ≤ N := by omega
  go_wp2_with fail
  go_loopw [5, 6] (fun s i wr => ∃ k : Nat, k ≤ N ∧ i = .int .i64 k ∧ Below w.heap.size w wr ∧ Es wr s (seqE k)) (fun _ i _ => N - (intOf i).toNat)
  case atStart => exact ⟨0, Nat.zero_le _, rfl, B1, Es.nil _⟩
  case round =>
    clear B1
    obtain ⟨k, hk, rfl, B, E⟩ := hrel
    by_cases hlt : k < N
    · have q1 : (k : Int) < N := by omega
      go_wp2_with fail
      refine (nm_any k _ (by omega)).mono ?_
      rintro e w2 ⟨rfl, B2⟩
      have Bn2 := B.trans (B2.mono B.size)
      have E2 := E.below B2
      go_wp2_with fail
      refine (put_more _ (seqE k) (nmI k) ((k + 1 : Nat) : Int) _ E2 (by rw [seqE_len]; omega) (nmI_name k (by omega)) (inFits k (by omega)) (seqE_new k k (Nat.le_refl _) (by omega)) (seqE_free k)).mono ?_
      rintro e w3 ⟨u, rfl, E3, B3⟩
      have Bn3 := Bn2.trans (B3.mono Bn2.size)
      rw [← seqE_succ] at E3
      clear B2 B3 Bn2 E2 E B
      go_wp2_with fail
      go_roundw
      case rel => exact ⟨k + 1, by omega, by go_num, Bn3, E3⟩
      case measure => simp [intOf]; omega
    · obtain rfl : k = N := by omega
      have q1 : ¬ (k : Int) < k := by omega
      have BY := dbytes_any _ (seqE k) wr (tab_below hT B) E (by rw [seqE_len]; omega) (fun j hj => by
        rw [seqE_len] at hj
        have := seqE_at k j hj
        rw [En.at] at this
        rw [this, nmI_size]; omega)
      rw [seqE_len] at BY
      have FL := seq_flip k
      have SB := seq_bytes k
      have IB := seq_isB k
      have LB : (bytesL (seqE k)).length = sizeS k := by rw [bytesL_len, seqE_len]
      obtain ⟨Z, hZ, hZ1, hZ2⟩ : ∃ Z, sizeS k = Z ∧ Z ≤ 100000 ∧ 1 ≤ Z := ⟨_, rfl, by unfold sizeS; omega, by unfold sizeS; omega⟩
      rw [hZ] at BY FL SB LB
      generalize bytesL (seqE k) = bs at *
      clear hZ
      have HFL : Hid (∀ i y, i < Z → 0 ≤ y ∧ y < 256 → y ≠ bs.getD i 0 → readE (bs.set i y) ≠ 0) := FL
      have HSB : Hid (∀ i, i < Z → 0 ≤ bs.getD i 0 ∧ bs.getD i 0 < 256) := SB
      have HIB : Hid (IsB bs) := IB
      have HLB : Hid (bs.length = Z) := LB
      clear FL SB IB LB
      go_wp2_with fail
      refine BY.mono ?_
      rintro e w2 ⟨g, rfl, M, hg, B2⟩
      have hgw : w.heap.size ≤ g := Nat.le_trans B.size hg
      have Bn2 := B.trans (B2.mono B.size)
      clear BY B2 E B
      obtain ⟨t, ht, ht1, ht2⟩ : ∃ t : Int, x.tmod (8 * (Z : Int)) = t ∧ -(8 * (Z : Int)) < t ∧ t < 8 * (Z : Int) := by
        have := tmod_bd' x (8 * Z) (by omega)
        have e : ((8 * Z : Nat) : Int) = 8 * (Z : Int) := by omega
        rw [e] at this
        exact ⟨_, rfl, this⟩
      have hz0 : ¬ (8 * (Z : Int) = 0) := by omega
      by_cases hneg : t < 0
      · obtain ⟨K, hK⟩ : ∃ K : Nat, t + 8 * (Z : Int) = (K : Int) := ⟨(t + 8 * (Z : Int)).toNat, by omega⟩
        have hKl : K < 8 * Z := by omega
        obtain ⟨ii, jj, hii, hjj, hKi⟩ : ∃ ii jj : Nat, ii < Z ∧ jj < 8 ∧ K = 8 * ii + jj := ⟨K / 8, K % 8, by omega, by omega, by omega⟩
        have hr1 : (K : Int) / 8 = (ii : Int) := by omega
        have hr2 : (K : Int) % 8 = (jj : Int) := by omega
        have hgi : (ii : Int) < Z := by omega
        clear hKi
        have h2j : (2 : Int) ^ jj % 256 = 2 ^ jj := pow_small jj hjj
        have c7 := M.cellAt (j := ii) (by rw [HLB.out]; exact hii)
        have f7 := M.freeAt ii (by intro e; have := HLB.out; rw [e] at this; simp at this; omega)
        have hxb := HSB.out ii hii
        obtain ⟨xv, hxv⟩ : ∃ xv, Hid (bs.getD ii 0 = xv) := ⟨_, rfl⟩
        rw [hxv.out] at c7 hxb
        obtain ⟨y, hy, y0, y1, yne⟩ := turned_bit xv jj hxb hjj
        have M3 := M.set (j := ii) (by rw [HLB.out]; exact hii) y
        have Bn3 : Below w.heap.size w (w2.setCell ⟨g, ii, none⟩ (.int .u8 y)) := Bn2.trans ((Chg.setCell (S := fun k => k = g) w2 ⟨g, ii, none⟩ _ rfl).below Bn2.size (fun k hk => hk ▸ hgw))
        have RD := read_any (.slice (some ⟨g, 0, none⟩) Z Z) (bs.set ii y) _ (tab_below hT Bn3) M3.bs (isB_set HIB.out ii y ⟨y0, y1⟩) (by rw [List.length_set, HLB.out]; omega)
        have HR : Hid (readE (bs.set ii y) ≠ 0) := HFL.out ii y hii ⟨y0, y1⟩ (by rw [hxv.out]; exact yne)
        have HV : Hid (readV (bs.set ii y) = []) := by unfold readV; rw [Hid, if_neg HR.out]
        rw [HV.out] at RD
        obtain ⟨re, hre, hre0⟩ : ∃ re, Hid (readE (bs.set ii y) = re) ∧ ¬ re = 0 := ⟨_, rfl, HR.out⟩
        rw [hre.out] at RD
        have RD2 : Hid _ := RD
        have Bn4 : Hid _ := Bn3
        clear M M3 RD Bn3 HR HV HFL HSB HIB hre yne hxb hKl
        go_wp2_with fail
        refine (show Calls _ _ _ _ _ from RD2.out).mono ?_
        rintro e w4 ⟨u4, rfl, E4, B4⟩
        obtain ⟨a4, d4, rfl⟩ := E4.form
        have H := fin _ (Bn4.out.trans (B4.mono Bn4.out.size))
        clear E4 B4 Bn4 RD2 hy
        have hreb : (re != 0) = true := by rw [bne_iff_ne]; exact hre0
        go_wp2_with fail
        go_ret
        exact ⟨rfl, H.out⟩
      · obtain ⟨K, hK⟩ : ∃ K : Nat, t = (K : Int) := ⟨t.toNat, by omega⟩
        have hKl : K < 8 * Z := by omega
        subst hK
        obtain ⟨ii, jj, hii, hjj, hKi⟩ : ∃ ii jj : Nat, ii < Z ∧ jj < 8 ∧ K = 8 * ii + jj := ⟨K / 8, K % 8, by omega, by omega, by omega⟩
        have hr1 : (K : Int) / 8 = (ii : Int) := by omega
        have hr2 : (K : Int) % 8 = (jj : Int) := by omega
        have hgi : (ii : Int) < Z := by omega
        clear hKi
        have h2j : (2 : Int) ^ jj % 256 = 2 ^ jj := pow_small jj hjj
        have c7 := M.cellAt (j := ii) (by rw [HLB.out]; exact hii)
        have f7 := M.freeAt ii (by intro e; have := HLB.out; rw [e] at this; simp at this; omega)
        have hxb := HSB.out ii hii
        obtain ⟨xv, hxv⟩ : ∃ xv, Hid (bs.getD ii 0 = xv) := ⟨_, rfl⟩
        rw [hxv.out] at c7 hxb
        obtain ⟨y, hy, y0, y1, yne⟩ := turned_bit xv jj hxb hjj
        have M3 := M.set (j := ii) (by rw [HLB.out]; exact hii) y
        have Bn3 : Below w.heap.size w (w2.setCell ⟨g, ii, none⟩ (.int .u8 y)) := Bn2.trans ((Chg.setCell (S := fun k => k = g) w2 ⟨g, ii, none⟩ _ rfl).below Bn2.size (fun k hk => hk ▸ hgw))
        have RD := read_any (.slice (some ⟨g, 0, none⟩) Z Z) (bs.set ii y) _ (tab_below hT Bn3) M3.bs (isB_set HIB.out ii y ⟨y0, y1⟩) (by rw [List.length_set, HLB.out]; omega)
        have HR : Hid (readE (bs.set ii y) ≠ 0) := HFL.out ii y hii ⟨y0, y1⟩ (by rw [hxv.out]; exact yne)
        have HV : Hid (readV (bs.set ii y) = []) := by unfold readV; rw [Hid, if_neg HR.out]
        rw [HV.out] at RD
        obtain ⟨re, hre, hre0⟩ : ∃ re, Hid (readE (bs.set ii y) = re) ∧ ¬ re = 0 := ⟨_, rfl, HR.out⟩
        rw [hre.out] at RD
        have RD2 : Hid _ := RD
        have Bn4 : Hid _ := Bn3
        clear M M3 RD Bn3 HR HV HFL HSB HIB hre yne hxb hKl
        go_wp2_with fail
        refine (show Calls _ _ _ _ _ from RD2.out).mono ?_
        rintro e w4 ⟨u4, rfl, E4, B4⟩
        obtain ⟨a4, d4, rfl⟩ := E4.form
        have H := fin _ (Bn4.out.trans (B4.mono Bn4.out.size))
        clear E4 B4 Bn4 RD2 hy
        have hreb : (re != 0) = true := by rw [bne_iff_ne]; exact hre0
        go_wp2_with fail
        go_ret
        exact ⟨rfl, H.out⟩
end Go.Proofs.YtbhfmceapffhnaaDoor

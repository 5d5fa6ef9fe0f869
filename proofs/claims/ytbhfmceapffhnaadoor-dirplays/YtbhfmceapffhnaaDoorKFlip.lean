/-
  Plain facts: sealed bytes with one byte changed are refused; what was sealed is opened.
-/
import Derived.Test.YtbhfmceapffhnaaDoorKRefSeal
namespace Go.Proofs.YtbhfmceapffhnaaDoor
open Go.RowKit


theorem set_split (l : List Int) (i : Nat) (y : Int) (hi : i < l.length) : l.set i y = l.take i ++ y :: l.drop (i + 1) := by
  rw [List.set_eq_take_append_cons_drop, if_pos hi]
theorem self_split (l : List Int) (i : Nat) (hi : i < l.length) : l = l.take i ++ l.getD i 0 :: l.drop (i + 1) := by
  have h := List.take_append_drop i l
  rw [List.drop_eq_getElem_cons hi] at h
  have e : l.getD i 0 = l[i] := by simp [List.getD, hi]
  rw [e]
  exact h.symm
theorem isB_set {l : List Int} (h : IsB l) (i : Nat) (y : Int) (hy : 0 ≤ y ∧ y < 256) : IsB (l.set i y) := by
  intro x hx
  rcases List.mem_or_eq_of_mem_set hx with h1 | h1
  · exact h x h1
  · rw [h1]; exact hy
theorem sumV_changed (bs : List Int) (hB : IsB bs) (i : Nat) (y : Int) (hi : i < bs.length) (hy : 0 ≤ y ∧ y < 256) (hne : y ≠ bs.getD i 0) : sumV (bs.set i y) ≠ sumV bs := by
  intro h
  have hx := hB.at hi
  have l1 := crcN_lt 4294967295 bs hB (by omega)
  have l2 := crcN_lt 4294967295 (bs.set i y) (isB_set hB i y hy) (by omega)
  have e : crcN 4294967295 (bs.set i y) = crcN 4294967295 bs := by unfold sumV at h; omega
  rw [set_split bs i y hi] at e
  have e2 : crcN 4294967295 bs = crcN 4294967295 (bs.take i ++ bs.getD i 0 :: bs.drop (i + 1)) := congrArg _ (self_split bs i hi)
  rw [e2] at e
  exact hne (crcN_changed 4294967295 (bs.take i) (bs.drop (i + 1)) y (bs.getD i 0) (by omega) (hB.take i) (hB.drop (i + 1)) hy hx e)

theorem flip_open (bs : List Int) (hB : IsB bs) (i : Nat) (y : Int) (hi : i < bs.length + 4) (hy : 0 ≤ y ∧ y < 256) (hne : y ≠ (bs ++ leTo (sumV bs) 4).getD i 0) :
    openE ((bs ++ leTo (sumV bs) 4).set i y) = 4 ∧ openV ((bs ++ leTo (sumV bs) 4).set i y) = [] ∧ IsB ((bs ++ leTo (sumV bs) 4).set i y) := by
  have hSB : IsB (bs ++ leTo (sumV bs) 4) := isB_app hB (isB_leTo _ _)
  have hl : ((bs ++ leTo (sumV bs) 4).set i y).length = bs.length + 4 := by simp [leTo_len]
  have hn : ((bs ++ leTo (sumV bs) 4).set i y).length - 4 = bs.length := by omega
  have h4 : ¬ ((bs ++ leTo (sumV bs) 4).set i y).length < 4 := by omega
  have hsm := sumV_lt bs
  have hv : valB (leTo (sumV bs) 4) = (sumV bs : Int) := by
    rw [valB_leTo]
    have : (256 : Int) ^ 4 = 4294967296 := by decide
    rw [this]; omega
  have key : valB (((bs ++ leTo (sumV bs) 4).set i y).drop bs.length) ≠ (sumV (((bs ++ leTo (sumV bs) 4).set i y).take bs.length) : Int) := by
    by_cases hib : i < bs.length
    · have e : (bs ++ leTo (sumV bs) 4).set i y = bs.set i y ++ leTo (sumV bs) 4 := List.set_append_left i y hib
      have ll : (bs.set i y).length = bs.length := by simp
      have et : (bs.set i y ++ leTo (sumV bs) 4).take bs.length = bs.set i y := by
        have h0 : (bs.set i y ++ leTo (sumV bs) 4).take (bs.set i y).length = bs.set i y := List.take_left
        rwa [ll] at h0
      have ed : (bs.set i y ++ leTo (sumV bs) 4).drop bs.length = leTo (sumV bs) 4 := by
        have h0 : (bs.set i y ++ leTo (sumV bs) 4).drop (bs.set i y).length = leTo (sumV bs) 4 := List.drop_left
        rwa [ll] at h0
      rw [e, et, ed, hv]
      have hg : (bs ++ leTo (sumV bs) 4).getD i 0 = bs.getD i 0 := by
        simp only [List.getD, List.getElem?_append, hib, if_true]
      rw [hg] at hne
      have := sumV_changed bs hB i y hib hy hne
      omega
    · have e : (bs ++ leTo (sumV bs) 4).set i y = bs ++ (leTo (sumV bs) 4).set (i - bs.length) y := List.set_append_right i y (by omega)
      have et : (bs ++ (leTo (sumV bs) 4).set (i - bs.length) y).take bs.length = bs := List.take_left
      have ed : (bs ++ (leTo (sumV bs) 4).set (i - bs.length) y).drop bs.length = (leTo (sumV bs) 4).set (i - bs.length) y := List.drop_left
      rw [e, et, ed]
      intro h0
      have h := h0.trans hv.symm
      have hlt : i - bs.length < (leTo (sumV bs) 4).length := by rw [leTo_len]; omega
      have heq := valB_inj _ _ (by simp) (isB_set (isB_leTo _ _) _ y hy) (isB_leTo _ _) h
      have hg : (bs ++ leTo (sumV bs) 4).getD i 0 = (leTo (sumV bs) 4).getD (i - bs.length) 0 := by
        simp only [List.getD, List.getElem?_append, hib, if_false]
      rw [hg] at hne
      have h2 : ((leTo (sumV bs) 4).set (i - bs.length) y).getD (i - bs.length) 0 = y := by simp [List.getD, hlt]
      rw [heq] at h2
      exact hne h2.symm
  have e4 : openE ((bs ++ leTo (sumV bs) 4).set i y) = 4 := by
    unfold openE
    rw [if_neg h4, hn, if_pos key]
  exact ⟨e4, by unfold openV; rw [e4]; rfl, isB_set hSB i y hy⟩
theorem turned_bit (x : Int) (j : Nat) (hx : 0 ≤ x ∧ x < 256) (hj : j < 8) : ∃ y : Int, bits .xor .u8 x (2 ^ j) = y ∧ 0 ≤ y ∧ y < 256 ∧ y ≠ x := by
  obtain ⟨X, rfl⟩ := Int.eq_ofNat_of_zero_le hx.1
  have hp : (2 : Nat) ^ j < 256 := Nat.lt_of_lt_of_le (Nat.pow_lt_pow_right (by omega) hj) (by decide)
  have e := u8_xor_nat X (2 ^ j) (by omega) hp
  rw [Int.natCast_pow] at e
  refine ⟨((X ^^^ 2 ^ j : Nat) : Int), e, by omega, ?_, ?_⟩
  · have := Nat.xor_lt_two_pow (n := 8) (x := X) (y := 2 ^ j) (by omega) hp
    omega
  · intro h
    have h2 : X ^^^ 2 ^ j = X ^^^ 0 := by rw [Nat.xor_zero]; omega
    have h3 := xor_l h2
    have := Nat.pow_pos (n := j) (show 0 < 2 by omega)
    omega
theorem open_sealed (bs : List Int) : openE (bs ++ leTo (sumV bs) 4) = 0 ∧ openV (bs ++ leTo (sumV bs) 4) = bs := by
  have hl : (bs ++ leTo (sumV bs) 4).length = bs.length + 4 := by simp [leTo_len]
  have hn : (bs ++ leTo (sumV bs) 4).length - 4 = bs.length := by omega
  have h4 : ¬ (bs ++ leTo (sumV bs) 4).length < 4 := by omega
  have ht : (bs ++ leTo (sumV bs) 4).take bs.length = bs := List.take_left
  have hd : (bs ++ leTo (sumV bs) 4).drop bs.length = leTo (sumV bs) 4 := List.drop_left
  have hsm := sumV_lt bs
  have hv : valB (leTo (sumV bs) 4) = (sumV bs : Int) := by
    rw [valB_leTo]
    have : (256 : Int) ^ 4 = 4294967296 := by decide
    rw [this]; omega
  have e : openE (bs ++ leTo (sumV bs) 4) = 0 := by
    unfold openE
    rw [if_neg h4, hn, ht, hd, hv]
    simp
  exact ⟨e, by unfold openV; rw [if_pos e, hn, ht]⟩
theorem pow_small (j : Nat) (h : j < 8) : (2 : Int) ^ j % 256 = 2 ^ j := by
  have hc : j = 0 ∨ j = 1 ∨ j = 2 ∨ j = 3 ∨ j = 4 ∨ j = 5 ∨ j = 6 ∨ j = 7 := by omega
  rcases hc with rfl | rfl | rfl | rfl | rfl | rfl | rfl | rfl <;> decide
theorem flip_facts {w wc w7 : World} {bs : List Int} {v7 : Value} {ii : Nat} (hB : IsB bs) (hl : (bs ++ leTo (sumV bs) 4).length = bs.length + 4)
    (hown : w7.ownsRow w.heap.size 5 1 v7 (0 + (bs ++ leTo (sumV bs) 4).length) (bcells ([] ++ (bs ++ leTo (sumV bs) 4)))) (hgrow : (wc.alloc (.cells #[] 5)).grownBy w7 (some wc.heap.size)) (B6 : Below w.heap.size w wc) (hii : ii < bs.length + 4) :
    ∃ g cap x, v7 = .slice (some ⟨g, 0, none⟩) (bs.length + 4) cap ∧ w7.cell? ⟨g, ii, none⟩ = some (.int .u8 x) ∧ w7.frozen? ⟨g, ii, none⟩ = false ∧ (0 ≤ x ∧ x < 256) ∧ Below w.heap.size w w7 ∧
      ∀ y : Int, 0 ≤ y ∧ y < 256 → y ≠ x → ∃ T, Bs (w7.setCell ⟨g, ii, none⟩ (.int .u8 y)) (.slice (some ⟨g, 0, none⟩) (bs.length + 4) cap) T ∧ IsB T ∧ openE T = 4 ∧ openV T = [] ∧ T.length = bs.length + 4 ∧ Below w.heap.size w (w7.setCell ⟨g, ii, none⟩ (.int .u8 y)) := by
  simp only [Nat.zero_add, List.nil_append, hl] at hown
  obtain ⟨g, cap, rfl⟩ := own_form hown (by omega)
  have hSB : IsB (bs ++ leTo (sumV bs) 4) := isB_app hB (isB_leTo _ _)
  have hC : Chg (fun _ => False) wc w7 := lit_grown hgrow
  have B7 := B6.trans (hC.below B6.size (fun _ h => h.elim))
  have hg : w.heap.size ≤ g := (hown.lt g rfl).1
  refine ⟨g, cap, _, rfl, own_cell hown ii hii, hown.frozenAt ii, hSB.at (by omega), B7, fun y hy hne => ?_⟩
  obtain ⟨e1, e2, e3⟩ := flip_open bs hB ii y hii hy hne
  have hst := (hown.stored ii (.int .u8 y)).1
  have hset : (bcells (bs ++ leTo (sumV bs) 4)).set ii (.int .u8 y) = bcells ((bs ++ leTo (sumV bs) 4).set ii y) := by simp [bcells, List.map_set]
  rw [hset] at hst
  exact ⟨_, Bs.ofOwns hst, e3, e1, e2, by simp [leTo_len], B7.setCell (by exact hg) _⟩

end Go.Proofs.YtbhfmceapffhnaaDoor

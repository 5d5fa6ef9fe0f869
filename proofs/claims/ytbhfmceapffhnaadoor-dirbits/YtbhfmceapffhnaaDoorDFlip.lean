/-
  A directory's bytes with one of them changed are refused.
-/
import Derived.Test.YtbhfmceapffhnaaDoorDRead
import Derived.Test.YtbhfmceapffhnaaDoorDSeq
namespace Go.Proofs.YtbhfmceapffhnaaDoor
open Go.RowKit

theorem zeros_at (n p : Nat) : (zeros n).getD p 0 = 0 := by
  unfold zeros
  rw [List.getD, List.getElem?_replicate]
  split <;> rfl
theorem chunk_set (bs : List Int) (i : Nat) (y : Int) (hi : i < bs.length) : chunk (bs.set i y) (i / 64) = (chunk bs (i / 64)).set (i % 64) y := by
  unfold chunk
  apply List.ext_getElem?
  intro j
  by_cases hj : j < 64
  · rw [List.getElem?_take_of_lt hj, List.getElem?_drop, List.getElem?_set, List.getElem?_set, List.length_take, List.length_drop, List.getElem?_take_of_lt hj, List.getElem?_drop]
    by_cases h : i = 64 * (i / 64) + j
    · rw [if_pos h, if_pos hi, if_pos (show i % 64 = j by omega), if_pos (by omega)]
    · rw [if_neg h, if_neg (by omega)]
  · rw [List.getElem?_eq_none (by rw [List.length_take]; omega), List.getElem?_eq_none (by rw [List.length_set, List.length_take]; omega)]
theorem flat_drop (es : List En) (j : Nat) : (es.flatMap slotB).drop (64 * j) = (es.drop j).flatMap slotB := by
  induction j generalizing es with
  | zero => simp
  | succ j ih =>
    cases es with
    | nil => simp
    | cons e es =>
      have e1 : 64 * (j + 1) = 64 + 64 * j := by omega
      rw [List.flatMap_cons, e1, ← List.drop_drop, List.drop_left' (slotB_len e), ih, List.drop_succ_cons]
theorem chunk_used (es : List En) (j : Nat) (hj : j < es.length) : chunk (bytesL es) j = slotB (En.at es j) := by
  unfold chunk bytesL
  rw [List.drop_append_of_le_length (by rw [flat_len]; omega), flat_drop, List.drop_eq_getElem_cons hj, List.flatMap_cons, List.append_assoc, List.take_left' (slotB_len _)]
  simp [En.at, List.getD, hj]
theorem chunk_free (es : List En) (j : Nat) (hj : es.length ≤ j) (hl : 64 * (j + 1) ≤ sizeS es.length) : chunk (bytesL es) j = zeros 64 := by
  unfold chunk bytesL
  rw [List.drop_append, List.drop_eq_nil_of_le (by rw [flat_len]; omega), List.nil_append, flat_len]
  unfold zeros
  rw [List.drop_replicate, List.take_replicate]
  congr 1
  omega
theorem nameD_zeros (m : Nat) : nameD (List.replicate m 0) = false := by
  cases m with
  | zero => rfl
  | succ m =>
    have : okB 0 = false := rfl
    simp [nameD, List.replicate_succ, this]
theorem strC_zeros (m : Nat) : (strC (zeros m)).data.toList = List.replicate m 0 := by
  rw [strC_list]
  simp [zeros]
theorem okX_zeros (p : Nat) (y : Int) (_hy : 0 ≤ y ∧ y < 256) : okX ((zeros 64).set p y) = false := by
  have : nameB (takX ((zeros 64).set p y)).nm = false := by
    have hz : ∃ m, (takX ((zeros 64).set p y)).nm = strC (zeros m) := by
      unfold takX takE
      by_cases hp : p = 0
      · subst hp
        refine ⟨min (min (valB (((zeros 64).set 0 y).take 1)) 56).toNat 56, ?_⟩
        congr 1
        have e : ((zeros 64).set 0 y).drop 4 = zeros 60 := rfl
        rw [e]
        unfold zeros
        rw [List.take_replicate, List.take_replicate]
        congr 1
      · refine ⟨0, ?_⟩
        have e : ((zeros 64).set p y).take 1 = [0] := by
          rw [List.take_set]
          have : (zeros 64).take 1 = [0] := rfl
          rw [this]
          cases p with
          | zero => exact absurd rfl hp
          | succ p => rfl
        rw [e]
        rfl
    obtain ⟨m, hm⟩ := hz
    rw [hm, nameB_eq, strC_zeros]
    exact nameD_zeros m
  unfold okX
  rw [this]
  rfl
theorem decE_zeros (p : Nat) (y : Int) (hp : p < 64) (hy : 0 ≤ y ∧ y < 256) (hne : y ≠ 0) : decE ((zeros 64).set p y) ≠ 0 := by
  have hl : ((zeros 64).set p y).length = 64 := by rw [List.length_set, zeros_len]
  have hz : ¬ (zeros 64).set p y = zeros 64 := by
    intro h
    have h1 := congrArg (fun l => l.getD p 0) h
    have e1 : ((zeros 64).set p y).getD p 0 = y := by
      have : p < (zeros 64).length := by rw [zeros_len]; exact hp
      simp [List.getD, this]
    have e2 := zeros_at 64 p
    simp only [e1, e2] at h1
    exact hne h1
  unfold decE
  rw [if_neg (by omega), if_neg (by omega), if_neg hz]
  by_cases ho : openE ((zeros 64).set p y) ≠ 0
  · rw [if_pos ho]; exact ho
  · rw [if_neg ho, okX_zeros p y hy]
    decide
theorem encB_at0 (x : En) : (encB x).getD 0 0 = (x.nm.size : Int) % 256 := by
  unfold encB frontE
  simp [leTo, List.getD]
theorem encB_at4 (x : En) (h : 1 ≤ x.nm.size) : (encB x).getD 4 0 = (nmB x.nm).getD 0 0 := by
  have h1 : (encB x).getD 4 0 = (fixB (nmB x.nm) 56).getD 0 0 := by
    unfold encB frontE
    have hf : 0 < (fixB (nmB x.nm) 56).length := by rw [fixB_len]; decide
    simp [leTo, List.getD, hf]
  rw [h1, fixB_get _ _ 0 (by decide), if_pos (by rw [nmB_len]; omega)]
theorem decE_flip (x : En) (p : Nat) (y : Int) (hp : p < 64) (hy : 0 ≤ y ∧ y < 256) (hne : y ≠ (encB x).getD p 0) (h0 : (encB x).getD 0 0 ≠ 0) (h4 : (encB x).getD 4 0 ≠ 0) : decE ((encB x).set p y) ≠ 0 := by
  have hl : ((encB x).set p y).length = 64 := by rw [List.length_set, encB_len]
  have hz : ¬ (encB x).set p y = zeros 64 := by
    intro h
    by_cases e : p = 0
    · have h1 := congrArg (fun l => l.getD 4 0) h
      have e1 : ((encB x).set p y).getD 4 0 = (encB x).getD 4 0 := by
        simp [List.getD, List.getElem?_set_ne (show p ≠ 4 by omega)]
      simp only [e1] at h1
      exact h4 h1
    · have h1 := congrArg (fun l => l.getD 0 0) h
      have e1 : ((encB x).set p y).getD 0 0 = (encB x).getD 0 0 := by
        simp [List.getD, List.getElem?_set_ne (show p ≠ 0 by omega)]
      simp only [e1] at h1
      exact h0 h1
  have ho := (flip_open (frontE x) (frontE_isB x) p y (by rw [frontE_len]; exact hp) hy hne).1
  have ho' : openE ((encB x).set p y) = 4 := ho
  unfold decE
  rw [if_neg (by omega), if_neg (by omega), if_neg hz, ho', if_pos (by decide)]
  decide
theorem firstE_ne {l : List Int} {x : Int} (hx : x ∈ l) (h : x ≠ 0) : firstE l ≠ 0 := by
  unfold firstE
  cases e : l.find? (fun x => decide (x ≠ 0)) with
  | none =>
    have := List.find?_eq_none.1 e x hx
    simp [h] at this
  | some z =>
    have := List.find?_some e
    simpa using this
theorem sizeS_mod (n : Nat) : sizeS n % 512 = 0 := by unfold sizeS; omega
/-- One byte of the first n names' slots changed. -/
theorem seq_flip (n i : Nat) (y : Int) (hi : i < sizeS n) (hy : 0 ≤ y ∧ y < 256) (hne : y ≠ (bytesL (seqE n)).getD i 0) : readE ((bytesL (seqE n)).set i y) ≠ 0 := by
  have hl : (bytesL (seqE n)).length = sizeS n := by rw [bytesL_len, seqE_len]
  have hm := sizeS_mod n
  have hat : (bytesL (seqE n)).getD i 0 = (chunk (bytesL (seqE n)) (i / 64)).getD (i % 64) 0 := by
    unfold chunk
    have e : 64 * (i / 64) + i % 64 = i := by omega
    simp [List.getD, List.getElem?_take_of_lt (show i % 64 < 64 by omega), e]
  have hd : decE (chunk ((bytesL (seqE n)).set i y) (i / 64)) ≠ 0 := by
    rw [chunk_set _ i y (by rw [hl]; exact hi)]
    rw [hat] at hne
    by_cases hj : i / 64 < n
    · rw [chunk_used _ _ (by rw [seqE_len]; exact hj), seqE_at n _ hj] at hne ⊢
      have es : slotB (⟨nmI (i / 64), ((i / 64 + 1 : Nat) : Int)⟩ : En) = encB ⟨nmI (i / 64), ((i / 64 + 1 : Nat) : Int)⟩ := by
        unfold slotB; rw [if_pos (by show 1 ≤ (nmI (i / 64)).size; rw [nmI_size]; omega)]
      rw [es] at hne ⊢
      refine decE_flip _ _ y (by omega) hy hne ?_ ?_
      · rw [encB_at0]
        show ((nmI (i / 64)).size : Int) % 256 ≠ 0
        rw [nmI_size]; decide
      · rw [encB_at4 _ (by show 1 ≤ (nmI (i / 64)).size; rw [nmI_size]; omega)]
        show (nmB (nmI (i / 64))).getD 0 0 ≠ 0
        simp [nmB, nmI, nmD]
    · rw [chunk_free _ _ (by rw [seqE_len]; omega) (by rw [seqE_len]; omega)] at hne ⊢
      have e2 := zeros_at 64 (i % 64)
      rw [e2] at hne
      exact decE_zeros _ y (by omega) hy hne
  unfold readE
  rw [List.length_set, hl, if_neg (by omega)]
  refine firstE_ne (List.mem_map.2 ⟨i / 64, List.mem_range.2 (by omega), rfl⟩) hd
end Go.Proofs.YtbhfmceapffhnaaDoor

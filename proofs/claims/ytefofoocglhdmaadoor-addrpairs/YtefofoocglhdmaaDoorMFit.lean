/-
  Labels that are not too long; Domain; Local.
-/
import Derived.Test.YtefofoocglhdmaaDoorMDom
namespace Go.Proofs.YtefofoocglhdmaaDoor
open Go.RowKit

theorem dot_parts (l : List UInt8) : (∀ x ∈ l, x ≠ 46) ∨ ∃ a b, l = a ++ 46 :: b ∧ ∀ x ∈ a, x ≠ 46 := by
  induction l with
  | nil => exact .inl fun x hx => by cases hx
  | cons y ys ih =>
    by_cases h : y = 46
    · exact .inr ⟨[], ys, by rw [h]; rfl, fun x hx => by cases hx⟩
    · rcases ih with h1 | ⟨a, b, rfl, h1⟩
      · exact .inl fun x hx => by rcases List.mem_cons.1 hx with rfl | hx; exact h; exact h1 x hx
      · exact .inr ⟨y :: a, b, rfl, fun x hx => by rcases List.mem_cons.1 hx with rfl | hx; exact h; exact h1 x hx⟩
theorem index_dot (a b : List UInt8) (h : ∀ x ∈ a, x ≠ 46) : Lib.index (a ++ 46 :: b) [46] = (a.length : Int) := by
  rw [Lib.index_one]
  induction a with
  | nil => rfl
  | cons y ys ih =>
    have hy : (y == 46) = false := beq_eq_false_iff_ne.2 (h y (by simp))
    have e := ih fun x hx => h x (by simp [hx])
    rw [List.cons_append, Lib.indexByte, hy, e]
    have : ((ys.length : Int) == -1) = false := beq_eq_false_iff_ne.2 (by omega)
    rw [this]
    simp
theorem splitK_dot : ∀ (n : Nat) (l : List UInt8), l.length ≤ n → Lib.splitK [46] 0 (l.count 46) l = cutD l := by
  intro n
  induction n with
  | zero =>
    intro l hl
    have : l = [] := List.eq_nil_of_length_eq_zero (by omega)
    subst this
    rfl
  | succ n ih =>
    intro l hl
    rcases dot_parts l with h | ⟨a, b, rfl, h⟩
    · have h0 : l.count 46 = 0 := List.count_eq_zero.2 fun hm => h 46 hm rfl
      rw [h0, cutD_none l h]; rfl
    · have ha : a.count 46 = 0 := List.count_eq_zero.2 fun hm => h 46 hm rfl
      have hc : (a ++ 46 :: b).count 46 = b.count 46 + 1 := by
        rw [List.count_append, ha, List.count_cons_self]; omega
      have hi := index_dot a b h
      have hn : ¬ (Lib.index (a ++ 46 :: b) [46] == -1) = true := by
        rw [hi]
        intro e
        have := beq_iff_eq.1 e
        omega
      rw [hc, Lib.splitK, if_neg hn, hi, cutD_at a b h]
      have e1 : ((a.length : Int).toNat + 0) = a.length := by omega
      have e2 : (a.length : Int).toNat + [(46 : UInt8)].length = a.length + 1 := by simp
      rw [e1, e2]
      have e3 : (a ++ 46 :: b).take a.length = a := by simp
      have e4 : (a ++ 46 :: b).drop (a.length + 1) = b := by
        rw [show a ++ 46 :: b = (a ++ [46]) ++ b by simp, show a.length + 1 = (a ++ [(46 : UInt8)]).length by simp, List.drop_left]
      rw [e3, e4, ih b (by simp at hl; omega)]
theorem map_bl (xs : List ByteArray) : (xs.map (·.data.toList)).map bl = xs := by
  rw [List.map_map]
  exact List.map_id xs
theorem split_dot (s : ByteArray) : Lib.splitB ⟨#[46]⟩ 0 (Lib.countB s ⟨#[46]⟩) s = (cutD s.data.toList).map bl := by
  have h := Lib.splitB_data ⟨#[46]⟩ 0 (Lib.countB s ⟨#[46]⟩) s
  have e : Lib.countB s ⟨#[46]⟩ = s.data.toList.count 46 := Lib.count_one 46 s.data.toList
  have h2 := splitK_dot _ s.data.toList (Nat.le_refl _)
  rw [e] at h ⊢
  have h3 : (Lib.splitB ⟨#[46]⟩ 0 (s.data.toList.count 46) s).map (·.data.toList) = cutD s.data.toList := h.trans h2
  rw [← h3, map_bl]
theorem info9 : (Tryd.prog.info? 9).map (fun i => (i.zero, i.size, i.bytes)) = some (some (.string ByteArray.empty), 1, 16) := by kernel_rfl
theorem Tx.lit (w : World) (ss : List ByteArray) (hs : ss.length ≤ 1099511627776) : Tx (w.alloc (.cells (ss.map Value.string).toArray 9)) (.slice (some ⟨w.heap.size, 0, none⟩) ss.length ss.length) ss := by
  refine ⟨_, _, rfl, Nat.le_refl _, by unfold maxLen; omega, (fun h => by cases h), fun _ => ⟨w.heap.size, 0, rfl, fun j hj => ?_⟩⟩
  have hb := heap_alloc_new w (.cells (ss.map Value.string).toArray 9)
  rw [cell_of_row _ w.heap.size _ _ _ _ hb]
  rw [Nat.zero_add, List.getElem?_toArray]
  exact tcells_get ss j hj

set_option maxHeartbeats 1600000 in
theorem split_any (s : ByteArray) (w : World) (hs : s.size ≤ 100000) :
    Calls Tryd.prog 55 #[.string s, .string ⟨#[46]⟩] w fun e w' => ∃ v, e = .returned v ∧ Tx w' v ((cutD s.data.toList).map bl) ∧ Below w.heap.size w w' := by
  have hle := Lib.countB_le ⟨#[46]⟩ (by decide) s.size s (Nat.le_refl _)
  have hlen := Lib.splitB_all ⟨#[46]⟩ (by decide) 0 _ s rfl
  have c := Any.strings_genSplit_core Tryd.lays221 info9 s ⟨#[46]⟩ 0 (-1) (Lib.countB s ⟨#[46]⟩ + 1) w (by omega) (by decide) (Nat.zero_le _)
    (fun x c _ => (Tryd.strings_Index_one x 46 _).mono fun e w' ⟨he, hw⟩ => ⟨by rw [he]; show _ = Ending.returned (Value.int .i64 (Lib.index x.data.toList [46])); rw [Lib.index_one], hw⟩)
    ((Tryd.strings_Count_one s 46 w).mono fun e w' ⟨he, hw⟩ => ⟨by rw [he]; show _ = Ending.returned (Value.int .i64 ((Lib.count s.data.toList [46] : Nat) : Int)); rw [Lib.count_one]; rfl, hw⟩)
    (by decide) (by decide) (by rw [if_pos (by decide)]; omega)
  rw [Nat.add_sub_cancel, hlen] at c
  have e2 : Lib.cellsOf (Lib.splitB ⟨#[46]⟩ 0 (Lib.countB s ⟨#[46]⟩) s) (Lib.countB s ⟨#[46]⟩ + 1) = ((Lib.splitB ⟨#[46]⟩ 0 (Lib.countB s ⟨#[46]⟩) s).map Value.string).toArray := by rw [← hlen]; exact Lib.cellsOf_full _
  rw [e2, ← hlen, split_dot] at c
  have HT : Hid (Tx (w.alloc (.cells (((cutD s.data.toList).map bl).map Value.string).toArray 9)) (.slice (some ⟨w.heap.size, 0, none⟩) ((cutD s.data.toList).map bl).length ((cutD s.data.toList).map bl).length) ((cutD s.data.toList).map bl)) :=
    Tx.lit w _ (by have := cutD_len s.data.toList; have : s.size = s.data.toList.length := by simp
                   rw [List.length_map]; omega)
  have hn : ((cutD s.data.toList).map bl).length ≤ 100001 := by
    have := cutD_len s.data.toList; have : s.size = s.data.toList.length := by simp
    rw [List.length_map]; omega
  generalize (cutD s.data.toList).map bl = ss at *
  have HC : Hid (Calls Tryd.prog 65 #[.string s, .string ⟨#[46]⟩, .int .i64 0, .int .i64 (-1)] w fun e w' => e = .returned (.slice (some ⟨w.heap.size, 0, none⟩) ss.length ss.length) ∧ w' = w.alloc (.cells (ss.map Value.string).toArray 9)) := c
  clear c e2 hle hlen hs
  go_enter Tryd.func55, Tryd.ntmps55
  go_wp2_with (go_at_call 65; refine HC.out.mono ?_; rintro e w1 ⟨rfl, hw⟩; rw [hw])
  go_ret
  exact ⟨_, rfl, HT.out, alloc_below w _⟩
theorem fits_all {ss : List ByteArray} (h : ∀ j, j < ss.length → (ss.getD j ByteArray.empty).size ≤ 63) : (ss.all fun x => decide (x.size ≤ 63)) = true := by
  rw [List.all_eq_true]
  intro x hx
  obtain ⟨j, hj, rfl⟩ := List.mem_iff_getElem.1 hx
  have := h j hj
  simpa [List.getD, hj] using this
theorem fits_not {ss : List ByteArray} {j : Nat} (hj : j < ss.length) (h : 63 < (ss.getD j ByteArray.empty).size) : (ss.all fun x => decide (x.size ≤ 63)) = false := by
  cases e : (ss.all fun x => decide (x.size ≤ 63)) with
  | false => rfl
  | true =>
    have := of_decide_eq_true (List.all_eq_true.1 e (ss.getD j ByteArray.empty) (by simp [List.getD, hj]))
    omega
theorem fits_eq (l : List UInt8) : fits l = (((cutD l).map bl).all fun x => decide (x.size ≤ 63)) := by
  unfold fits
  rw [List.all_map]
  congr 1

set_option maxHeartbeats 1600000 in
theorem fits_any (s : ByteArray) (w : World) (hs : s.size ≤ 100000) :
    Calls Tryd.prog 36 #[.string s] w fun e w' => e = .returned (.bool (fits s.data.toList)) ∧ Below w.heap.size w w' := by
  have HC : Hid (Calls Tryd.prog 55 #[.string s, .string ⟨#[46]⟩] w fun e w' => ∃ v, e = .returned v ∧ Tx w' v ((cutD s.data.toList).map bl) ∧ Below w.heap.size w w') := split_any s w hs
  have HF : Hid (fits s.data.toList = (((cutD s.data.toList).map bl).all fun x => decide (x.size ≤ 63))) := fits_eq _
  have hn : ((cutD s.data.toList).map bl).length ≤ 100001 := by
    have := cutD_len s.data.toList; have : s.size = s.data.toList.length := by simp
    rw [List.length_map]; omega
  generalize (cutD s.data.toList).map bl = ss at *
  clear hs
  go_enter Tryd.func36, Tryd.ntmps36
  go_wp2_with (go_at_call 55; refine HC.out.mono ?_; rintro e w1 ⟨v, rfl, hT, hB⟩; obtain ⟨a, c, rfl⟩ := hT.form)
  go_loopw [8] (fun i wr => ∃ k : Nat, k ≤ ss.length ∧ i = .int .i64 k ∧ wr = w1 ∧ Hid (∀ j, j < k → (ss.getD j ByteArray.empty).size ≤ 63)) (fun i _ => ss.length - (intOf i).toNat)
  case atStart => exact ⟨0, Nat.zero_le _, rfl, rfl, fun j h => by omega⟩
  case round =>
    obtain ⟨k, hk, rfl, rfl, hA⟩ := hrel
    by_cases hlt : k < ss.length
    · have q1 : (k : Int) < ss.length := by omega
      obtain ⟨b, off, rfl, hc⟩ := hT.nth hlt
      have c1 := hc k hlt
      obtain ⟨x, hx⟩ : ∃ x, Hid (ss.getD k ByteArray.empty = x) := ⟨_, rfl⟩
      rw [hx.out] at c1
      clear hc
      by_cases hz : 63 < x.size
      · have q2 : (63 : Int) < x.size := by omega
        have HN : Hid (fits s.data.toList = false) := by show _ = _; rw [HF.out]; exact fits_not hlt (by rw [hx.out]; exact hz)
        clear hz
        go_wp2_with fail
        go_ret
        exact ⟨by rw [HN.out]; rfl, hB⟩
      · have q2 : ¬ (63 : Int) < x.size := by omega
        have hA' : Hid (∀ j, j < k + 1 → (ss.getD j ByteArray.empty).size ≤ 63) := fun j h => by
          rcases (by omega : j < k ∨ j = k) with h | rfl
          · exact hA.out j h
          · rw [hx.out]; omega
        clear hz
        go_wp2_with fail
        go_roundw
        case rel => exact ⟨k + 1, by omega, by go_num, trivial, hA'⟩
        case measure => simp [intOf]; omega
    · have q1 : ¬ (k : Int) < ss.length := by omega
      have HN : Hid (fits s.data.toList = true) := by show _ = _; rw [HF.out]; exact fits_all fun j hj => hA.out j (by omega)
      go_wp2_with fail
      go_ret
      exact ⟨by rw [HN.out]; rfl, hB⟩

set_option maxHeartbeats 1600000 in
theorem domain_any (N : Nat) (s : ByteArray) (w : World) (hs : s.size ≤ 1099511627776) (hV : Vr N w) :
    Calls Tryd.prog 14 #[.string s] w fun e w' => e = .returned (.bool (domB s.data.toList)) ∧ Below w.heap.size w w' := by
  have hz : s.size = s.data.toList.length := by simp
  have HV : Hid (Vr N w) := hV
  by_cases h1 : s.size ≤ 255
  · have q1 : (s.size : Int) ≤ 255 := by omega
    have HR : Hid (domB s.data.toList = (fits s.data.toList && domS s.data.toList)) := by show _ = _; unfold domB; rw [← hz, decide_eq_true h1]; rfl
    have HF : Hid (Calls Tryd.prog 36 #[.string s] w fun e w' => e = .returned (.bool (fits s.data.toList)) ∧ Below w.heap.size w w') := fits_any s w (by omega)
    have HD : Hid (∀ w1, Vr N w1 → Calls Tryd.prog 37 #[.string s] w1 fun e w' => e = .returned (.bool (domS s.data.toList)) ∧ Below w1.heap.size w1 w') := fun w1 h => dom_any N s w1 hs h
    obtain ⟨F, hF⟩ : ∃ F, fits s.data.toList = F := ⟨_, rfl⟩
    obtain ⟨E, hE⟩ : ∃ F, domS s.data.toList = F := ⟨_, rfl⟩
    rw [hF, hE] at HR
    rw [hF] at HF
    rw [hE] at HD
    clear hF hE hz h1 hV
    cases F with
    | true =>
      go_enter Tryd.func14, Tryd.ntmps14
      go_wp2_with (first
        | (go_at_call 36; refine HF.out.mono ?_; rintro e w1 ⟨rfl, hB1⟩)
        | (go_at_call 37; refine (HD.out _ (HV.out.new hB1)).mono ?_; rintro e w2 ⟨rfl, hB2⟩))
      go_ret
      exact ⟨by rw [HR.out]; rfl, hB1.trans (hB2.mono hB1.size)⟩
    | false =>
      go_enter Tryd.func14, Tryd.ntmps14
      go_wp2_with (first
        | (go_at_call 36; refine HF.out.mono ?_; rintro e w1 ⟨rfl, hB1⟩))
      go_ret
      exact ⟨by rw [HR.out]; rfl, hB1⟩
  · have q1 : ¬ (s.size : Int) ≤ 255 := by omega
    have HR : Hid (domB s.data.toList = false) := by show _ = _; unfold domB; rw [← hz, decide_eq_false h1]; rfl
    clear hz h1 hV
    go_enter Tryd.func14, Tryd.ntmps14
    go_wp2_with fail
    go_ret
    exact ⟨by rw [HR.out]; rfl, Below.refl _ _⟩

theorem prt_all {s : ByteArray} (h : ∀ k, (hk : k < s.size) → prt s[k] = true) : s.data.toList.all prt = true := by
  refine List.all_eq_true.2 fun x hx => ?_
  obtain ⟨k, hk, e⟩ := List.getElem_of_mem hx
  have := h k (by simpa using hk)
  rw [← e]
  exact this
theorem prt_not {s : ByteArray} {k : Nat} (hk : k < s.size) (h : prt s[k] = false) : s.data.toList.all prt = false := by
  cases e : s.data.toList.all prt with
  | false => rfl
  | true =>
    have : prt s[k] = true := List.all_eq_true.1 e _ (Array.getElem_mem_toList _)
    rw [h] at this; cases this

set_option maxHeartbeats 1600000 in
theorem local_any (s : ByteArray) (w : World) (hs : s.size ≤ 1099511627776) :
    Calls Tryd.prog 16 #[.string s] w fun e w' => e = .returned (.bool (locB s.data.toList)) ∧ w' = w := by
  have hz : s.size = s.data.toList.length := by simp
  by_cases h1 : s.size < 1
  · have q1 : (s.size : Int) < 1 := by omega
    have HR : Hid (locB s.data.toList = false) := by show _ = _; unfold locB; rw [← hz, decide_eq_false (by omega)]; rfl
    clear hz h1
    go_enter Tryd.func16, Tryd.ntmps16
    go_wp2_with fail
    go_ret
    exact ⟨by rw [HR.out]; rfl, rfl⟩
  have q1 : ¬ (s.size : Int) < 1 := by omega
  by_cases h2 : 64 < s.size
  · have q2 : 64 < (s.size : Int) := by omega
    have HR : Hid (locB s.data.toList = false) := by show _ = _; unfold locB; rw [← hz, decide_eq_true (by omega), decide_eq_false (by omega)]; rfl
    clear hz h1 h2
    go_enter Tryd.func16, Tryd.ntmps16
    go_wp2_with fail
    go_ret
    exact ⟨by rw [HR.out]; rfl, rfl⟩
  have q2 : ¬ 64 < (s.size : Int) := by omega
  have HR : Hid (locB s.data.toList = s.data.toList.all prt) := by show _ = _; unfold locB; rw [← hz, decide_eq_true (by omega), decide_eq_true (by omega)]; rfl
  clear hz h1 h2
  go_enter Tryd.func16, Tryd.ntmps16
  go_wp2_with fail
  go_loopw [14] (fun i wr => ∃ k : Nat, k ≤ s.size ∧ i = .int .i64 k ∧ wr = w ∧ Hid (∀ j, (hj : j < s.size) → j < k → prt s[j] = true)) (fun i _ => s.size - (intOf i).toNat)
  case atStart => exact ⟨0, Nat.zero_le _, rfl, rfl, fun j _ h => by omega⟩
  case round =>
    obtain ⟨k, hk, rfl, rfl, hA⟩ := hrel
    by_cases hlt : k < s.size
    · have q3 : (k : Int) < s.size := by omega
      have HP : Hid (∀ w, Calls Tryd.prog 40 #[.int .u8 (s[k].toNat : Int)] w fun e w' => e = .returned (.bool (prt s[k])) ∧ w' = w) := fun w => prt_any s[k] w
      cases ho : prt s[k] with
      | true =>
        rw [ho] at HP
        have hA' : Hid (∀ j, (hj : j < s.size) → j < k + 1 → prt s[j] = true) := fun j hj h => by
          rcases (by omega : j < k ∨ j = k) with h | rfl
          · exact hA.out j hj h
          · exact ho
        clear ho
        go_wp2_with (go_at_call 40; refine (HP.out _).mono ?_; rintro e w1 ⟨rfl, rfl⟩)
        go_roundw
        case rel => exact ⟨k + 1, by omega, by go_num, trivial, hA'⟩
        case measure => simp [intOf]; omega
      | false =>
        rw [ho] at HP
        have HN : Hid (locB s.data.toList = false) := by show _ = _; rw [HR.out]; exact prt_not hlt ho
        clear ho
        go_wp2_with (go_at_call 40; refine (HP.out _).mono ?_; rintro e w1 ⟨rfl, rfl⟩)
        go_ret
        exact ⟨by rw [HN.out]; rfl, rfl⟩
    · have q3 : ¬ (k : Int) < s.size := by omega
      have HN : Hid (locB s.data.toList = true) := by show _ = _; rw [HR.out]; exact prt_all fun j hj => hA.out j hj (by omega)
      go_wp2_with fail
      go_ret
      exact ⟨by rw [HN.out]; rfl, rfl⟩
end Go.Proofs.YtefofoocglhdmaaDoor

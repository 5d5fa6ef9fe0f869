/-
  The document's label, octet.
-/
import Derived.Test.YtefofoocglhdmaaDoorMRef1
namespace Go.Proofs.YtefofoocglhdmaaDoor
open Go.RowKit

def lab63 (x : List UInt8) : Bool := okLab x && decide (x.length ≤ 63) && x.all inLab
def octB (x : List UInt8) : Bool := okNum x && x.all inDig
theorem all_not {p : UInt8 → Bool} {s : ByteArray} {k : Nat} (hk : k < s.size) (h : p s[k] = false) : s.data.toList.all p = false := by
  cases e : s.data.toList.all p with
  | false => rfl
  | true =>
    have : p s[k] = true := List.all_eq_true.1 e _ (Array.getElem_mem_toList _)
    rw [h] at this; cases this
theorem all_yes {p : UInt8 → Bool} {s : ByteArray} (h : ∀ k, (hk : k < s.size) → p s[k] = true) : s.data.toList.all p = true := by
  refine List.all_eq_true.2 fun x hx => ?_
  obtain ⟨k, hk, e⟩ := List.getElem_of_mem hx
  have := h k (by simpa using hk)
  rw [← e]
  exact this
theorem get_list {s : ByteArray} {k : Nat} (hk : k < s.size) : s[k] = s.data.toList.getD k 0 := by
  have hk2 : k < s.data.toList.length := by rw [← sz_list]; exact hk
  show s.data[k] = _
  simp [List.getD, List.getElem?_eq_getElem hk2]
theorem get_first {s : ByteArray} (h : 0 < s.size) : s[0] = s.data.toList.headD 0 := by
  rw [get_list h]
  cases s.data.toList <;> rfl
theorem get_last {s : ByteArray} {k : Nat} (hk : s.size = k + 1) : s[k] = s.data.toList.getLastD 0 := by
  rw [get_list, List.getLastD_eq_getLast?, List.getLast?_eq_getElem?, List.getD_eq_getElem?_getD]
  have : k = s.data.toList.length - 1 := by rw [← sz_list]; omega
  rw [this]
theorem str_nil {s : ByteArray} (h : s.size = 0) : (s.toList == []) = true := by
  rw [ByteArray.toList_eq]
  have : s.data.toList = [] := List.eq_nil_of_length_eq_zero (by rw [← sz_list]; exact h)
  rw [this]; rfl
theorem str_some {s : ByteArray} (h : ¬ s.size = 0) : (s.toList == []) = false := by
  rw [ByteArray.toList_eq]
  exact beq_eq_false_iff_ne.2 fun e => h (by rw [sz_list, e]; rfl)
theorem beq_u8 (c : UInt8) (n : UInt8) : (c == n) = ((c.toNat : Int) == (n.toNat : Int)) := by
  by_cases h : c = n
  · rw [h]; simp
  · rw [i_ne h]; exact beq_eq_false_iff_ne.2 h

set_option maxHeartbeats 3200000 in
theorem rlabel_any (s : ByteArray) (w : World) (hs : s.size ≤ 1099511627776) :
    Calls Tryd.prog 39 #[.string s] w fun e w' => e = .returned (.bool (lab63 s.data.toList)) ∧ w' = w := by
  have hz := sz_list s
  by_cases h0 : s.size = 0
  · have q0 := str_nil h0
    have HR : Hid (lab63 s.data.toList = false) := by
      have : s.data.toList = [] := List.eq_nil_of_length_eq_zero (by omega)
      show _ = _; rw [this]; rfl
    clear h0 hz
    go_enter Tryd.func39, Tryd.ntmps39
    go_wp2_with fail
    go_ret
    exact ⟨by rw [HR.out]; rfl, rfl⟩
  have q0 := str_some h0
  by_cases h63 : 63 < s.size
  · have q1 : (63 : Int) < s.size := by omega
    have q1d : decide ((63 : Int) < s.size) = true := decide_eq_true q1
    have HR : Hid (lab63 s.data.toList = false) := by show _ = _; unfold lab63; rw [← hz, decide_eq_false (by omega)]; simp
    clear h0 h63 hz
    go_enter Tryd.func39, Tryd.ntmps39
    go_wp2_with fail
    go_ret
    exact ⟨by rw [HR.out]; rfl, rfl⟩
  have q1 : ¬ (63 : Int) < s.size := by omega
  have q1d : decide ((63 : Int) < s.size) = false := decide_eq_false q1
  obtain ⟨k, hk⟩ : ∃ k, s.size = k + 1 := ⟨s.size - 1, by omega⟩
  have p1 : (0 : Int) < s.size := by omega
  have p2 : IntKind.i64.wrap ((s.size : Int) - 1) = (k : Int) := by rw [IntKind.wrap_i64]; omega
  have p3 : (k : Int) < s.size := by omega
  have hl0 : 0 < s.size := by omega
  have hlk : k < s.size := by omega
  obtain ⟨B0, hB0⟩ : ∃ B, ((s[0].toNat : Int) == 45) = B := ⟨_, rfl⟩
  obtain ⟨B1, hB1⟩ : ∃ B, ((s[k].toNat : Int) == 45) = B := ⟨_, rfl⟩
  have hR : lab63 s.data.toList = (!B0 && !B1 && s.data.toList.all inLab) := by
    unfold lab63 okLab
    have e1 : (s.data.toList == []) = false := by rw [← ByteArray.toList_eq]; exact q0
    have e2 := beq_u8 s[0] 45
    have e3 := beq_u8 s[k] 45
    have e4 : ((45 : UInt8).toNat : Int) = 45 := rfl
    rw [e4, hB0, get_first hl0] at e2
    rw [e4, hB1, get_last hk] at e3
    rw [e1, e2, e3, ← hz, decide_eq_true (by omega)]
    simp
  cases B0 with
  | true =>
    have HR : Hid (lab63 s.data.toList = false) := by show _ = _; rw [hR]; rfl
    clear hk hz hR h0 h63
    go_enter Tryd.func39, Tryd.ntmps39
    go_wp2_with fail
    go_ret
    exact ⟨by rw [HR.out]; rfl, rfl⟩
  | false =>
    cases B1 with
    | true =>
      have HR : Hid (lab63 s.data.toList = false) := by show _ = _; rw [hR]; rfl
      clear hk hz hR h0 h63
      go_enter Tryd.func39, Tryd.ntmps39
      go_wp2_with fail
      go_ret
      exact ⟨by rw [HR.out]; rfl, rfl⟩
    | false =>
      have HR : Hid (lab63 s.data.toList = s.data.toList.all inLab) := by show _ = _; rw [hR]; rfl
      clear hk hz hR h0 h63
      go_enter Tryd.func39, Tryd.ntmps39
      go_wp2_with fail
      go_loopw [3] (fun i wr => ∃ k : Nat, k ≤ s.size ∧ i = .int .i64 k ∧ wr = w ∧ Hid (∀ j, (hj : j < s.size) → j < k → inLab s[j] = true)) (fun i _ => s.size - (intOf i).toNat)
      case atStart => exact ⟨0, Nat.zero_le _, rfl, rfl, fun j _ h => by omega⟩
      case round =>
        obtain ⟨m, hm, rfl, rfl, hA⟩ := hrel
        by_cases hlt : m < s.size
        · have q3 : (m : Int) < s.size := by omega
          have HL : Hid (∀ w, Calls Tryd.prog 53 #[.int .u8 (s[m].toNat : Int)] w fun e w' => e = .returned (.bool (letB s[m])) ∧ w' = w) := fun w => rletter_any s[m] w
          have HG : Hid (∀ w, Calls Tryd.prog 54 #[.int .u8 (s[m].toNat : Int)] w fun e w' => e = .returned (.bool (inDig s[m])) ∧ w' = w) := fun w => rdigit_any s[m] w
          have hlp := lab_parts s[m]
          have hb45 := beq_u8 s[m] 45
          obtain ⟨C, hC⟩ : ∃ C, ((s[m].toNat : Int) == 45) = C := ⟨_, rfl⟩
          rw [show ((45 : UInt8).toNat : Int) = 45 from rfl, hC] at hb45
          rw [hb45] at hlp
          have hC' : ((s[m].toNat : Int) != 45) = !C := by rw [← hC]; rfl
          have hcon : inLab s[m] = true → Hid (∀ j, (hj : j < s.size) → j < m + 1 → inLab s[j] = true) := fun ho j hj h => by
            rcases (by omega : j < m ∨ j = m) with h | rfl
            · exact hA.out j hj h
            · exact ho
          have hno : inLab s[m] = false → Hid (lab63 s.data.toList = false) := fun ho => by show _ = _; rw [HR.out]; exact all_not hlt ho
          cases h1 : letB s[m] with
          | true =>
            rw [h1] at HL hlp
            have HC := hcon (by rw [hlp]; rfl)
            clear hcon hno hlp h1 hb45 hC hC'
            go_wp2_with (go_at_call 53; refine (HL.out _).mono ?_; rintro e w1 ⟨rfl, rfl⟩)
            go_roundw
            case rel => exact ⟨m + 1, by omega, by go_num, trivial, HC⟩
            case measure => simp [intOf]; omega
          | false =>
            rw [h1] at HL hlp
            cases h2 : inDig s[m] with
            | true =>
              rw [h2] at HG hlp
              have HC := hcon (by rw [hlp]; rfl)
              clear hcon hno hlp h1 h2 hb45 hC hC'
              go_wp2_with (first
                | (go_at_call 53; refine (HL.out _).mono ?_; rintro e w1 ⟨rfl, rfl⟩)
                | (go_at_call 54; refine (HG.out _).mono ?_; rintro e w1 ⟨rfl, rfl⟩))
              go_roundw
              case rel => exact ⟨m + 1, by omega, by go_num, trivial, HC⟩
              case measure => simp [intOf]; omega
            | false =>
              rw [h2] at HG hlp
              cases C with
              | true =>
                have HC := hcon (by rw [hlp]; rfl)
                clear hcon hno hlp h1 h2 hb45
                go_wp2_with (first
                  | (go_at_call 53; refine (HL.out _).mono ?_; rintro e w1 ⟨rfl, rfl⟩)
                  | (go_at_call 54; refine (HG.out _).mono ?_; rintro e w1 ⟨rfl, rfl⟩))
                go_roundw
                case rel => exact ⟨m + 1, by omega, by go_num, trivial, HC⟩
                case measure => simp [intOf]; omega
              | false =>
                have HN := hno (by rw [hlp]; rfl)
                clear hcon hno hlp h1 h2 hb45
                go_wp2_with (first
                  | (go_at_call 53; refine (HL.out _).mono ?_; rintro e w1 ⟨rfl, rfl⟩)
                  | (go_at_call 54; refine (HG.out _).mono ?_; rintro e w1 ⟨rfl, rfl⟩))
                go_ret
                exact ⟨by rw [HN.out]; rfl, rfl⟩
        · have q3 : ¬ (m : Int) < s.size := by omega
          have HN : Hid (lab63 s.data.toList = true) := by show _ = _; rw [HR.out]; exact all_yes fun j hj => hA.out j hj (by omega)
          go_wp2_with fail
          go_ret
          exact ⟨by rw [HN.out]; rfl, rfl⟩
theorem valD_snoc (l : List UInt8) (c : UInt8) : valD (l ++ [c]) = 10 * valD l + (c.toNat - 48) := by unfold valD; rw [List.foldl_append]; rfl
theorem valD_take (l : List UInt8) (k : Nat) (hk : k < l.length) : valD (l.take (k + 1)) = 10 * valD (l.take k) + ((l.getD k 0).toNat - 48) := by
  have e2 : l.take (k + 1) = l.take k ++ [l.getD k 0] := by
    rw [List.take_succ_eq_append_getElem hk]; simp [List.getD, hk]
  rw [e2, valD_snoc]

set_option maxHeartbeats 3200000 in
theorem roctet_any (s : ByteArray) (w : World) (hs : s.size ≤ 1099511627776) :
    Calls Tryd.prog 38 #[.string s] w fun e w' => e = .returned (.bool (octB s.data.toList)) ∧ w' = w := by
  have hz := sz_list s
  by_cases h0 : s.size = 0
  · have q0 := str_nil h0
    have HR : Hid (octB s.data.toList = false) := by
      have : s.data.toList = [] := List.eq_nil_of_length_eq_zero (by omega)
      show _ = _; rw [this]; rfl
    clear h0 hz
    go_enter Tryd.func38, Tryd.ntmps38
    go_wp2_with fail
    go_ret
    exact ⟨by rw [HR.out]; rfl, rfl⟩
  have q0 := str_some h0
  by_cases h63 : 3 < s.size
  · have q1 : (3 : Int) < s.size := by omega
    have q1d : decide ((3 : Int) < s.size) = true := decide_eq_true q1
    have HR : Hid (octB s.data.toList = false) := by show _ = _; unfold octB okNum; rw [← hz, decide_eq_false (by omega)]; simp
    clear h0 h63 hz
    go_enter Tryd.func38, Tryd.ntmps38
    go_wp2_with fail
    go_ret
    exact ⟨by rw [HR.out]; rfl, rfl⟩
  have q1 : ¬ (3 : Int) < s.size := by omega
  have q1d : decide ((3 : Int) < s.size) = false := decide_eq_false q1
  have p1 : (0 : Int) < s.size := by omega
  have hl0 : 0 < s.size := by omega
  obtain ⟨B0, hB0⟩ : ∃ B, ((s[0].toNat : Int) == 48) = B := ⟨_, rfl⟩
  have e2 := beq_u8 s[0] 48
  rw [show ((48 : UInt8).toNat : Int) = 48 from rfl, hB0, get_first hl0] at e2
  have e1 : (s.data.toList == []) = false := by rw [← ByteArray.toList_eq]; exact q0
  have hR : octB s.data.toList = (!(B0 && decide (1 < s.size)) && decide (valD s.data.toList ≤ 255) && s.data.toList.all inDig) := by
    unfold octB okNum
    rw [e1, e2, ← hz, decide_eq_true (show s.size ≤ 3 by omega)]
    simp
  by_cases hbad : B0 = true ∧ 1 < s.size
  · obtain ⟨rfl, h1⟩ := hbad
    have q2 : (1 : Int) < s.size := by omega
    have q2d : decide ((1 : Int) < s.size) = true := decide_eq_true q2
    have HR : Hid (octB s.data.toList = false) := by show _ = _; rw [hR, decide_eq_true h1]; rfl
    clear hz hR h0 h63 h1 e1 e2
    go_enter Tryd.func38, Tryd.ntmps38
    go_wp2_with fail
    go_ret
    exact ⟨by rw [HR.out]; rfl, rfl⟩
  · have HR : Hid (octB s.data.toList = (decide (valD s.data.toList ≤ 255) && s.data.toList.all inDig)) := by
      show _ = _
      rw [hR]
      cases B0 with
      | false => simp
      | true =>
        have : ¬ 1 < s.size := fun h => hbad ⟨rfl, h⟩
        rw [decide_eq_false this]; simp
    have hcnd : B0 = false ∨ (B0 = true ∧ ¬ (1 : Int) < s.size ∧ decide ((1 : Int) < s.size) = false) := by
      cases B0 with
      | false => exact .inl rfl
      | true =>
        have h1 : ¬ 1 < s.size := fun h => hbad ⟨rfl, h⟩
        exact .inr ⟨rfl, by omega, decide_eq_false (by omega)⟩
    have h3 : s.size ≤ 3 := by omega
    have HZ : Hid (s.size = s.data.toList.length) := hz
    clear hz hR h0 h63 hbad e1 e2
    rcases hcnd with rfl | ⟨rfl, q2, q2d⟩
    · go_enter Tryd.func38, Tryd.ntmps38
      go_wp2_with fail
      go_loopw [3, 4] (fun nv i wr => ∃ k n : Nat, nv = .int .i64 n ∧ i = .int .i64 k ∧ k ≤ s.size ∧ n ≤ 1000 ∧ wr = w ∧ Hid (n = valD (s.data.toList.take k) ∧ n + 1 ≤ 10 ^ k ∧ ∀ j, (hj : j < s.size) → j < k → inDig s[j] = true)) (fun _ i _ => s.size - (intOf i).toNat)
      case atStart => exact ⟨0, 0, rfl, rfl, Nat.zero_le _, by omega, rfl, rfl, by decide, fun j _ h => by omega⟩
      case round =>
        obtain ⟨m, n, rfl, rfl, hm, hn, rfl, hA⟩ := hrel
        by_cases hlt : m < s.size
        · have q3 : (m : Int) < s.size := by omega
          have HG : Hid (∀ w, Calls Tryd.prog 54 #[.int .u8 (s[m].toNat : Int)] w fun e w' => e = .returned (.bool (inDig s[m])) ∧ w' = w) := fun w => rdigit_any s[m] w
          cases h2 : inDig s[m] with
          | true =>
            rw [h2] at HG
            have hd := h2
            unfold inDig at hd
            simp only [Bool.and_eq_true, decide_eq_true_eq] at hd
            obtain ⟨X, hX⟩ : ∃ X : Nat, s[m].toNat = X := ⟨_, rfl⟩
            rw [hX] at hd
            have hd1 : (48 : Int) ≤ (s[m].toNat : Int) := by omega
            have hd2 : (s[m].toNat : Int) ≤ 57 := by omega
            have hv := valD_take s.data.toList m (by rw [← sz_list]; exact hlt)
            rw [← get_list hlt, hX, ← hA.out.1] at hv
            have hp : 10 ^ (m + 1) ≤ 1000 := Nat.pow_le_pow_right (n := 10) (by decide) (show m + 1 ≤ 3 by omega)
            have hp2 : 10 ^ (m + 1) = 10 * 10 ^ m := by rw [Nat.pow_succ]; omega
            have hn1 := hA.out.2.1
            have hN2 : Hid (10 * n + (X - 48) = valD (s.data.toList.take (m + 1)) ∧ 10 * n + (X - 48) + 1 ≤ 10 ^ (m + 1) ∧ ∀ j, (hj : j < s.size) → j < m + 1 → inDig s[j] = true) := ⟨hv.symm, by omega, fun j hj h => by
              rcases (by omega : j < m ∨ j = m) with h | rfl
              · exact hA.out.2.2 j hj h
              · exact h2⟩
            have hn3 : 10 * n + (X - 48) ≤ 1000 := by omega
            have HX : Hid ((s[m].toNat : Int) = X ∧ 48 ≤ X) := ⟨by omega, hd.1⟩
            clear hv hp hp2 hn1 hA hX h2 hd HZ
            go_wp2_with (go_at_call 54; refine (HG.out _).mono ?_; rintro e w1 ⟨rfl, rfl⟩)
            go_roundw
            case rel => exact ⟨m + 1, 10 * n + (X - 48), congrArg (Value.int .i64) (by have := HX.out; omega), by go_num, by omega, hn3, trivial, hN2⟩
            case measure => simp [intOf]; omega
          | false =>
            rw [h2] at HG
            have HN : Hid (octB s.data.toList = false) := by show _ = _; rw [HR.out, all_not hlt h2]; simp
            clear h2
            go_wp2_with (go_at_call 54; refine (HG.out _).mono ?_; rintro e w1 ⟨rfl, rfl⟩)
            go_ret
            exact ⟨by rw [HN.out]; rfl, rfl⟩
        · have q3 : ¬ (m : Int) < s.size := by omega
          have hall : s.data.toList.all inDig = true := all_yes fun j hj => hA.out.2.2 j hj (by omega)
          have hv : n = valD s.data.toList := by rw [hA.out.1, List.take_of_length_le (by have := HZ.out; omega)]
          by_cases h255 : n ≤ 255
          · have q4 : (n : Int) ≤ 255 := by omega
            have q4d : decide ((n : Int) ≤ 255) = true := decide_eq_true q4
            have HN : Hid (octB s.data.toList = true) := by show _ = _; rw [HR.out, hall, ← hv, decide_eq_true h255]; rfl
            clear hv hall hA h255
            go_wp2_with fail
            go_ret
            exact ⟨by rw [HN.out]; rfl, rfl⟩
          · have q4 : ¬ (n : Int) ≤ 255 := by omega
            have q4d : decide ((n : Int) ≤ 255) = false := decide_eq_false q4
            have HN : Hid (octB s.data.toList = false) := by show _ = _; rw [HR.out, ← hv, decide_eq_false h255]; rfl
            clear hv hall hA h255
            go_wp2_with fail
            go_ret
            exact ⟨by rw [HN.out]; rfl, rfl⟩
    · go_enter Tryd.func38, Tryd.ntmps38
      go_wp2_with fail
      go_loopw [3, 4] (fun nv i wr => ∃ k n : Nat, nv = .int .i64 n ∧ i = .int .i64 k ∧ k ≤ s.size ∧ n ≤ 1000 ∧ wr = w ∧ Hid (n = valD (s.data.toList.take k) ∧ n + 1 ≤ 10 ^ k ∧ ∀ j, (hj : j < s.size) → j < k → inDig s[j] = true)) (fun _ i _ => s.size - (intOf i).toNat)
      case atStart => exact ⟨0, 0, rfl, rfl, Nat.zero_le _, by omega, rfl, rfl, by decide, fun j _ h => by omega⟩
      case round =>
        obtain ⟨m, n, rfl, rfl, hm, hn, rfl, hA⟩ := hrel
        by_cases hlt : m < s.size
        · have q3 : (m : Int) < s.size := by omega
          have HG : Hid (∀ w, Calls Tryd.prog 54 #[.int .u8 (s[m].toNat : Int)] w fun e w' => e = .returned (.bool (inDig s[m])) ∧ w' = w) := fun w => rdigit_any s[m] w
          cases h2 : inDig s[m] with
          | true =>
            rw [h2] at HG
            have hd := h2
            unfold inDig at hd
            simp only [Bool.and_eq_true, decide_eq_true_eq] at hd
            obtain ⟨X, hX⟩ : ∃ X : Nat, s[m].toNat = X := ⟨_, rfl⟩
            rw [hX] at hd
            have hd1 : (48 : Int) ≤ (s[m].toNat : Int) := by omega
            have hd2 : (s[m].toNat : Int) ≤ 57 := by omega
            have hv := valD_take s.data.toList m (by rw [← sz_list]; exact hlt)
            rw [← get_list hlt, hX, ← hA.out.1] at hv
            have hp : 10 ^ (m + 1) ≤ 1000 := Nat.pow_le_pow_right (n := 10) (by decide) (show m + 1 ≤ 3 by omega)
            have hp2 : 10 ^ (m + 1) = 10 * 10 ^ m := by rw [Nat.pow_succ]; omega
            have hn1 := hA.out.2.1
            have hN2 : Hid (10 * n + (X - 48) = valD (s.data.toList.take (m + 1)) ∧ 10 * n + (X - 48) + 1 ≤ 10 ^ (m + 1) ∧ ∀ j, (hj : j < s.size) → j < m + 1 → inDig s[j] = true) := ⟨hv.symm, by omega, fun j hj h => by
              rcases (by omega : j < m ∨ j = m) with h | rfl
              · exact hA.out.2.2 j hj h
              · exact h2⟩
            have hn3 : 10 * n + (X - 48) ≤ 1000 := by omega
            have HX : Hid ((s[m].toNat : Int) = X ∧ 48 ≤ X) := ⟨by omega, hd.1⟩
            clear hv hp hp2 hn1 hA hX h2 hd HZ
            go_wp2_with (go_at_call 54; refine (HG.out _).mono ?_; rintro e w1 ⟨rfl, rfl⟩)
            go_roundw
            case rel => exact ⟨m + 1, 10 * n + (X - 48), congrArg (Value.int .i64) (by have := HX.out; omega), by go_num, by omega, hn3, trivial, hN2⟩
            case measure => simp [intOf]; omega
          | false =>
            rw [h2] at HG
            have HN : Hid (octB s.data.toList = false) := by show _ = _; rw [HR.out, all_not hlt h2]; simp
            clear h2
            go_wp2_with (go_at_call 54; refine (HG.out _).mono ?_; rintro e w1 ⟨rfl, rfl⟩)
            go_ret
            exact ⟨by rw [HN.out]; rfl, rfl⟩
        · have q3 : ¬ (m : Int) < s.size := by omega
          have hall : s.data.toList.all inDig = true := all_yes fun j hj => hA.out.2.2 j hj (by omega)
          have hv : n = valD s.data.toList := by rw [hA.out.1, List.take_of_length_le (by have := HZ.out; omega)]
          by_cases h255 : n ≤ 255
          · have q4 : (n : Int) ≤ 255 := by omega
            have q4d : decide ((n : Int) ≤ 255) = true := decide_eq_true q4
            have HN : Hid (octB s.data.toList = true) := by show _ = _; rw [HR.out, hall, ← hv, decide_eq_true h255]; rfl
            clear hv hall hA h255
            go_wp2_with fail
            go_ret
            exact ⟨by rw [HN.out]; rfl, rfl⟩
          · have q4 : ¬ (n : Int) ≤ 255 := by omega
            have q4d : decide ((n : Int) ≤ 255) = false := decide_eq_false q4
            have HN : Hid (octB s.data.toList = false) := by show _ = _; rw [HR.out, ← hv, decide_eq_false h255]; rfl
            clear hv hall hA h255
            go_wp2_with fail
            go_ret
            exact ⟨by rw [HN.out]; rfl, rfl⟩
end Go.Proofs.YtefofoocglhdmaaDoor

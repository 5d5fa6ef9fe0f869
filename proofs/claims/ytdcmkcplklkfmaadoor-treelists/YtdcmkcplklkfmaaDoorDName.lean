/-
  Name of package dir, and the document's.
-/
import Derived.Test.YtdcmkcplklkfmaaDoorDMem
namespace Go.Proofs.YtdcmkcplklkfmaaDoor
open Go.RowKit

/-- May it stand in a name? -/
def okB (x : UInt8) : Bool := decide (33 ≤ x.toNat) && decide (x.toNat ≤ 126) && !(x.toNat == 47)
/-- Is it a name? -/
def nameB (s : ByteArray) : Bool := decide (1 ≤ s.size) && decide (s.size ≤ 48) && !(s.toList == [46]) && !(s.toList == [46, 46]) && s.data.toList.all okB
theorem all_at {s : ByteArray} {k : Nat} (hk : k < s.size) (h : s.data.toList.all okB = true) : okB s[k] = true := by
  refine List.all_eq_true.1 h _ ?_
  show s.data[k] ∈ s.data.toList
  exact Array.getElem_mem_toList _
theorem all_of {s : ByteArray} (h : ∀ k, (hk : k < s.size) → okB s[k] = true) : s.data.toList.all okB = true := by
  refine List.all_eq_true.2 fun x hx => ?_
  obtain ⟨k, hk, e⟩ := List.getElem_of_mem hx
  have := h k (by simpa using hk)
  rw [← e]
  exact this
theorem nameB_parts {s : ByteArray} (h : nameB s = true) : 1 ≤ s.size ∧ s.size ≤ 48 ∧ (s.toList == [46]) = false ∧ (s.toList == [46, 46]) = false ∧ s.data.toList.all okB = true := by
  unfold nameB at h
  simp only [Bool.and_eq_true, Bool.not_eq_true', decide_eq_true_eq] at h
  exact ⟨h.1.1.1.1, h.1.1.1.2, h.1.1.2, h.1.2, h.2⟩
theorem nameB_not {s : ByteArray} (h : nameB s = false) : s.size < 1 ∨ (1 ≤ s.size ∧ 48 < s.size) ∨ (1 ≤ s.size ∧ s.size ≤ 48 ∧ (s.toList == [46]) = true) ∨ (1 ≤ s.size ∧ s.size ≤ 48 ∧ (s.toList == [46]) = false ∧ (s.toList == [46, 46]) = true) ∨ (1 ≤ s.size ∧ s.size ≤ 48 ∧ (s.toList == [46]) = false ∧ (s.toList == [46, 46]) = false ∧ s.data.toList.all okB = false) := by
  by_cases h1 : 1 ≤ s.size
  · by_cases h2 : s.size ≤ 48
    · cases h3 : (s.toList == [46]) with
      | true => exact .inr (.inr (.inl ⟨h1, h2, rfl⟩))
      | false => cases h4 : (s.toList == [46, 46]) with
        | true => exact .inr (.inr (.inr (.inl ⟨h1, h2, rfl, rfl⟩)))
        | false =>
          refine .inr (.inr (.inr (.inr ⟨h1, h2, rfl, rfl, ?_⟩)))
          unfold nameB at h
          simpa [h1, h2, h3, h4] using h
    · exact .inr (.inl ⟨h1, by omega⟩)
  · exact .inl (by omega)
theorem okB_yes {x : UInt8} (h : okB x = true) : 33 ≤ x.toNat ∧ x.toNat ≤ 126 ∧ (x.toNat == 47) = false := by
  unfold okB at h
  simp only [Bool.and_eq_true, Bool.not_eq_true', decide_eq_true_eq] at h
  exact ⟨h.1.1, h.1.2, h.2⟩
theorem okB_no {x : UInt8} (h : okB x = false) : x.toNat < 33 ∨ (33 ≤ x.toNat ∧ 126 < x.toNat) ∨ (33 ≤ x.toNat ∧ x.toNat ≤ 126 ∧ x.toNat = 47) := by
  unfold okB at h
  by_cases h1 : 33 ≤ x.toNat
  · by_cases h2 : x.toNat ≤ 126
    · refine .inr (.inr ⟨h1, h2, ?_⟩)
      simpa [h1, h2] using h
    · exact .inr (.inl ⟨h1, by omega⟩)
  · exact .inl (by omega)
theorem str_some {s : ByteArray} (h : 1 ≤ s.size) : ¬ s.toList = [] := by
  intro e
  have : s.data.toList = [] := by rw [← ByteArray.toList_eq]; exact e
  have h2 : s.data.size = 0 := by rw [← Array.length_toList, this]; rfl
  have : s.size = s.data.size := rfl
  omega

set_option maxHeartbeats 1600000 in
theorem name_any (s : ByteArray) (b : Bool) (w : World) (hb : Hid (nameB s = b)) :
    Calls Tryd.prog 64 #[.string s] w fun e w' => e = .returned (.bool b) ∧ w' = w := by
  cases b with
  | true =>
    obtain ⟨h1, h2, h3, h4, h5⟩ := nameB_parts hb.out
    have H : Hid (s.data.toList.all okB = true) := h5
    clear hb h5
    have g1 : ¬ ((s.size : Int) < 1) := by omega
    have g2 : ¬ (48 < (s.size : Int)) := by omega
    go_enter Tryd.func64, Tryd.ntmps64
    go_wp2_with fail
    go_loopw [22] (fun i wr => ∃ k : Nat, k ≤ s.size ∧ i = .int .i64 k ∧ wr = w) (fun i _ => s.size - (intOf i).toNat)
    case atStart => exact ⟨0, Nat.zero_le _, rfl, rfl⟩
    case round =>
      obtain ⟨k, hk, rfl, rfl⟩ := hrel
      by_cases hlt : k < s.size
      · have q1 : (k : Int) < s.size := by omega
        obtain ⟨p1, p2, p3⟩ := okB_yes (all_at hlt H.out)
        have p1' : (33 : Int) ≤ (s[k].toNat : Int) := by omega
        have p2' : (s[k].toNat : Int) ≤ 126 := by omega
        have p3' : ((s[k].toNat : Int) == 47) = false := by
          have := (beq_eq_false_iff_ne.1 p3); exact beq_eq_false_iff_ne.2 (by omega)
        clear p1 p2 p3
        go_wp2_with fail
        go_roundw
        case rel => exact ⟨k + 1, by omega, by go_num, trivial⟩
        case measure => simp [intOf]; omega
      · have q1 : ¬ (k : Int) < s.size := by omega
        go_wp2_with fail
        go_ret
        exact ⟨rfl, rfl⟩
  | false =>
    rcases nameB_not hb.out with h1 | ⟨h1, h2⟩ | ⟨h1, h2, h3⟩ | ⟨h1, h2, h3, h4⟩ | ⟨h1, h2, h3, h4, h5⟩
    · have g1 : (s.size : Int) < 1 := by omega
      have g0 : s.size = 0 := by omega
      have g3 : s = ⟨#[]⟩ := by
        obtain ⟨⟨l⟩⟩ := s
        have : l = [] := List.eq_nil_of_length_eq_zero g0
        rw [this]
      subst g3
      go_enter Tryd.func64, Tryd.ntmps64
      go_wp2_with fail
      go_ret
      exact ⟨rfl, rfl⟩
    · have g1 : ¬ ((s.size : Int) < 1) := by omega
      have g2 : 48 < (s.size : Int) := by omega
      go_enter Tryd.func64, Tryd.ntmps64
      go_wp2_with fail
      go_ret
      exact ⟨rfl, rfl⟩
    · have g1 : ¬ ((s.size : Int) < 1) := by omega
      have g2 : ¬ (48 < (s.size : Int)) := by omega
      go_enter Tryd.func64, Tryd.ntmps64
      go_wp2_with fail
      go_ret
      exact ⟨rfl, rfl⟩
    · have g1 : ¬ ((s.size : Int) < 1) := by omega
      have g2 : ¬ (48 < (s.size : Int)) := by omega
      go_enter Tryd.func64, Tryd.ntmps64
      go_wp2_with fail
      go_ret
      exact ⟨rfl, rfl⟩
    · have H : Hid (s.data.toList.all okB = false) := h5
      clear hb h5
      have g1 : ¬ ((s.size : Int) < 1) := by omega
      have g2 : ¬ (48 < (s.size : Int)) := by omega
      go_enter Tryd.func64, Tryd.ntmps64
      go_wp2_with fail
      go_loopw [22] (fun i wr => ∃ k : Nat, k ≤ s.size ∧ i = .int .i64 k ∧ wr = w ∧ Hid (∀ j, (hj : j < s.size) → j < k → okB s[j] = true)) (fun i _ => s.size - (intOf i).toNat)
      case atStart => exact ⟨0, Nat.zero_le _, rfl, rfl, fun j _ h => by omega⟩
      case round =>
        obtain ⟨k, hk, rfl, rfl, hA⟩ := hrel
        by_cases hlt : k < s.size
        · have q1 : (k : Int) < s.size := by omega
          cases ho : okB s[k] with
          | true =>
            have hA' : Hid (∀ j, (hj : j < s.size) → j < k + 1 → okB s[j] = true) := fun j hj h => by
              rcases (by omega : j < k ∨ j = k) with h | rfl
              · exact hA.out j hj h
              · exact ho
            obtain ⟨p1, p2, p3⟩ := okB_yes ho
            have p1' : (33 : Int) ≤ (s[k].toNat : Int) := by omega
            have p2' : (s[k].toNat : Int) ≤ 126 := by omega
            have p3' : ((s[k].toNat : Int) == 47) = false := by
              have := (beq_eq_false_iff_ne.1 p3); exact beq_eq_false_iff_ne.2 (by omega)
            clear p1 p2 p3 ho
            go_wp2_with fail
            go_roundw
            case rel => exact ⟨k + 1, by omega, by go_num, trivial, hA'⟩
            case measure => simp [intOf]; omega
          | false =>
            have ho' := okB_no ho
            clear ho
            rcases ho' with p1 | ⟨p1, p2⟩ | ⟨p1, p2, p3⟩
            · have p1' : (s[k].toNat : Int) < 33 := by omega
              clear p1
              go_wp2_with fail
              go_ret
              exact ⟨rfl, rfl⟩
            · have p1' : (33 : Int) ≤ (s[k].toNat : Int) := by omega
              have p2' : 126 < (s[k].toNat : Int) := by omega
              clear p1 p2
              go_wp2_with fail
              go_ret
              exact ⟨rfl, rfl⟩
            · have p1' : (33 : Int) ≤ (s[k].toNat : Int) := by omega
              have p2' : (s[k].toNat : Int) ≤ 126 := by omega
              have p3' : ((s[k].toNat : Int) == 47) = true := beq_iff_eq.2 (by omega)
              clear p1 p2 p3
              go_wp2_with fail
              go_ret
              exact ⟨rfl, rfl⟩
        · exact absurd (H.out.symm.trans (all_of fun j hj => hA.out j hj (by omega))) (by simp)
end Go.Proofs.YtdcmkcplklkfmaaDoor

/-
  The document's Name.
-/
import Derived.Test.YtdjopadohbbfkaaPName
namespace Go.Proofs.Ytdjopadohbbfkaa
open Go.RowKit

set_option maxHeartbeats 1600000 in
theorem rname_any (s : ByteArray) (b : Bool) (w : World) (hb : Hid (nameB s = b)) :
    Calls Try.prog 19 #[.string s] w fun e w' => e = .returned (.bool b) ∧ w' = w := by
  cases b with
  | true =>
    obtain ⟨h1, h2, h3, h4, h5⟩ := nameB_parts hb.out
    have H : Hid (s.data.toList.all okB = true) := h5
    clear hb h5
    have g1 : ¬ ((s.size : Int) < 1) := by omega
    have g2 : ¬ (48 < (s.size : Int)) := by omega
    go_enter Try.func19, Try.ntmps19
    have g0 : (s.toList == []) = false := beq_eq_false_iff_ne.2 (str_some h1)
    go_wp2_with fail
    go_loopw [3] (fun i wr => ∃ k : Nat, k ≤ s.size ∧ i = .int .i64 k ∧ wr = w) (fun i _ => s.size - (intOf i).toNat)
    case atStart => exact ⟨0, Nat.zero_le _, rfl, rfl⟩
    case round =>
      obtain ⟨k, hk, rfl, rfl⟩ := hrel
      by_cases hlt : k < s.size
      · have q1 : (k : Int) < s.size := by omega
        obtain ⟨p1, p2, p3⟩ := okB_yes (all_at hlt H.out)
        have p1' : (33 : Int) ≤ (s[k].toNat : Int) := by omega
        have p2' : (s[k].toNat : Int) ≤ 126 := by omega
        have p3' : ((s[k].toNat : Int) == 47) = false := by
          have := (beq_eq_false_iff_ne.1 p3); exact beq_eq_false_iff_ne.2 (by omega)
        clear p1 p2 p3
        go_wp2_with fail
        go_roundw
        case rel => exact ⟨k + 1, by omega, by go_num, trivial⟩
        case measure => simp [intOf]; omega
      · have q1 : ¬ (k : Int) < s.size := by omega
        go_wp2_with fail
        go_ret
        exact ⟨rfl, rfl⟩
  | false =>
    rcases nameB_not hb.out with h1 | ⟨h1, h2⟩ | ⟨h1, h2, h3⟩ | ⟨h1, h2, h3, h4⟩ | ⟨h1, h2, h3, h4, h5⟩
    · have g1 : (s.size : Int) < 1 := by omega
      have g0 : s.size = 0 := by omega
      have g3 : s = ⟨#[]⟩ := by
        obtain ⟨⟨l⟩⟩ := s
        have : l = [] := List.eq_nil_of_length_eq_zero g0
        rw [this]
      subst g3
      go_enter Try.func19, Try.ntmps19
      go_wp2_with fail
      go_ret
      exact ⟨rfl, rfl⟩
    · have g1 : ¬ ((s.size : Int) < 1) := by omega
      have g2 : 48 < (s.size : Int) := by omega
      go_enter Try.func19, Try.ntmps19
      have g0 : (s.toList == []) = false := beq_eq_false_iff_ne.2 (str_some h1)
      go_wp2_with fail
      go_ret
      exact ⟨rfl, rfl⟩
    · have g1 : ¬ ((s.size : Int) < 1) := by omega
      have g2 : ¬ (48 < (s.size : Int)) := by omega
      go_enter Try.func19, Try.ntmps19
      have g0 : (s.toList == []) = false := beq_eq_false_iff_ne.2 (str_some h1)
      go_wp2_with fail
      go_ret
      exact ⟨rfl, rfl⟩
    · have g1 : ¬ ((s.size : Int) < 1) := by omega
      have g2 : ¬ (48 < (s.size : Int)) := by omega
      go_enter Try.func19, Try.ntmps19
      have g0 : (s.toList == []) = false := beq_eq_false_iff_ne.2 (str_some h1)
      go_wp2_with fail
      go_ret
      exact ⟨rfl, rfl⟩
    · have H : Hid (s.data.toList.all okB = false) := h5
      clear hb h5
      have g1 : ¬ ((s.size : Int) < 1) := by omega
      have g2 : ¬ (48 < (s.size : Int)) := by omega
      go_enter Try.func19, Try.ntmps19
      have g0 : (s.toList == []) = false := beq_eq_false_iff_ne.2 (str_some h1)
      go_wp2_with fail
      go_loopw [3] (fun i wr => ∃ k : Nat, k ≤ s.size ∧ i = .int .i64 k ∧ wr = w ∧ Hid (∀ j, (hj : j < s.size) → j < k → okB s[j] = true)) (fun i _ => s.size - (intOf i).toNat)
      case atStart => exact ⟨0, Nat.zero_le _, rfl, rfl, fun j _ h => by omega⟩
      case round =>
        obtain ⟨k, hk, rfl, rfl, hA⟩ := hrel
        by_cases hlt : k < s.size
        · have q1 : (k : Int) < s.size := by omega
          cases ho : okB s[k] with
          | true =>
            have hA' : Hid (∀ j, (hj : j < s.size) → j < k + 1 → okB s[j] = true) := fun j hj h => by
              rcases (by omega : j < k ∨ j = k) with h | rfl
              · exact hA.out j hj h
              · exact ho
            obtain ⟨p1, p2, p3⟩ := okB_yes ho
            have p1' : (33 : Int) ≤ (s[k].toNat : Int) := by omega
            have p2' : (s[k].toNat : Int) ≤ 126 := by omega
            have p3' : ((s[k].toNat : Int) == 47) = false := by
              have := (beq_eq_false_iff_ne.1 p3); exact beq_eq_false_iff_ne.2 (by omega)
            clear p1 p2 p3 ho
            go_wp2_with fail
            go_roundw
            case rel => exact ⟨k + 1, by omega, by go_num, trivial, hA'⟩
            case measure => simp [intOf]; omega
          | false =>
            have ho' := okB_no ho
            clear ho
            rcases ho' with p1 | ⟨p1, p2⟩ | ⟨p1, p2, p3⟩
            · have p1' : (s[k].toNat : Int) < 33 := by omega
              clear p1
              go_wp2_with fail
              go_ret
              exact ⟨rfl, rfl⟩
            · have p1' : (33 : Int) ≤ (s[k].toNat : Int) := by omega
              have p2' : 126 < (s[k].toNat : Int) := by omega
              clear p1 p2
              go_wp2_with fail
              go_ret
              exact ⟨rfl, rfl⟩
            · have p1' : (33 : Int) ≤ (s[k].toNat : Int) := by omega
              have p2' : (s[k].toNat : Int) ≤ 126 := by omega
              have p3' : ((s[k].toNat : Int) == 47) = true := beq_iff_eq.2 (by omega)
              clear p1 p2 p3
              go_wp2_with fail
              go_ret
              exact ⟨rfl, rfl⟩
        · exact absurd (H.out.symm.trans (all_of fun j hj => hA.out j hj (by omega))) (by simp)
end Go.Proofs.Ytdjopadohbbfkaa

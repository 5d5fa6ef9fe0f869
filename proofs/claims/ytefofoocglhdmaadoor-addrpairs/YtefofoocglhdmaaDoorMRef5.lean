/-
  The document's Local, atext, plain.
-/
import Derived.Test.YtefofoocglhdmaaDoorMRef4
namespace Go.Proofs.YtefofoocglhdmaaDoor
open Go.RowKit

set_option maxHeartbeats 1600000 in
theorem rlocal_any (s : ByteArray) (w : World) (hs : s.size ≤ 1099511627776) :
    Calls Tryd.prog 17 #[.string s] w fun e w' => e = .returned (.bool (locB s.data.toList)) ∧ w' = w := by
  have hz := sz_list s
  by_cases h0 : s.size = 0
  · have q0 := str_nil h0
    have HR : Hid (locB s.data.toList = false) := by show _ = _; unfold locB; rw [← hz, decide_eq_false (by omega)]; rfl
    clear h0 hz
    go_enter Tryd.func17, Tryd.ntmps17
    go_wp2_with fail
    go_ret
    exact ⟨by rw [HR.out]; rfl, rfl⟩
  have q0 := str_some h0
  by_cases h64 : 64 < s.size
  · have q1 : (64 : Int) < s.size := by omega
    have q1d : decide ((64 : Int) < s.size) = true := decide_eq_true q1
    have HR : Hid (locB s.data.toList = false) := by show _ = _; unfold locB; rw [← hz, decide_eq_true (by omega), decide_eq_false (by omega)]; rfl
    clear h0 h64 hz
    go_enter Tryd.func17, Tryd.ntmps17
    go_wp2_with fail
    go_ret
    exact ⟨by rw [HR.out]; rfl, rfl⟩
  have q1 : ¬ (64 : Int) < s.size := by omega
  have q1d : decide ((64 : Int) < s.size) = false := decide_eq_false q1
  have HR : Hid (locB s.data.toList = s.data.toList.all prt) := by show _ = _; unfold locB; rw [← hz, decide_eq_true (by omega), decide_eq_true (by omega)]; rfl
  clear h0 h64 hz
  go_enter Tryd.func17, Tryd.ntmps17
  go_wp2_with fail
  go_loopw [3] (fun i wr => ∃ k : Nat, k ≤ s.size ∧ i = .int .i64 k ∧ wr = w ∧ Hid (∀ j, (hj : j < s.size) → j < k → prt s[j] = true)) (fun i _ => s.size - (intOf i).toNat)
  case atStart => exact ⟨0, Nat.zero_le _, rfl, rfl, fun j _ h => by omega⟩
  case round =>
    obtain ⟨k, hk, rfl, rfl, hA⟩ := hrel
    by_cases hlt : k < s.size
    · have q3 : (k : Int) < s.size := by omega
      by_cases h32 : s[k].toNat < 32
      · have HN : Hid (locB s.data.toList = false) := by show _ = _; rw [HR.out]; exact all_not hlt (by unfold prt; rw [decide_eq_false (by omega)]; rfl)
        have q4 : (s[k].toNat : Int) < 32 := by omega
        have q4d : decide ((s[k].toNat : Int) < 32) = true := decide_eq_true q4
        clear h32
        go_wp2_with fail
        go_ret
        exact ⟨by rw [HN.out]; rfl, rfl⟩
      · have q4 : ¬ (s[k].toNat : Int) < 32 := by omega
        have q4d : decide ((s[k].toNat : Int) < 32) = false := decide_eq_false q4
        by_cases h126 : 126 < s[k].toNat
        · have HN : Hid (locB s.data.toList = false) := by show _ = _; rw [HR.out]; exact all_not hlt (by unfold prt; rw [decide_eq_true (by omega), decide_eq_false (by omega)]; rfl)
          have q5 : (126 : Int) < s[k].toNat := by omega
          have q5d : decide ((126 : Int) < s[k].toNat) = true := decide_eq_true q5
          clear h32 h126
          go_wp2_with fail
          go_ret
          exact ⟨by rw [HN.out]; rfl, rfl⟩
        · have q5 : ¬ (126 : Int) < s[k].toNat := by omega
          have q5d : decide ((126 : Int) < s[k].toNat) = false := decide_eq_false q5
          have ho : prt s[k] = true := by unfold prt; rw [decide_eq_true (by omega), decide_eq_true (by omega)]; rfl
          have hA' : Hid (∀ j, (hj : j < s.size) → j < k + 1 → prt s[j] = true) := fun j hj h => by
            rcases (by omega : j < k ∨ j = k) with h | rfl
            · exact hA.out j hj h
            · exact ho
          clear ho h32 h126
          go_wp2_with fail
          go_roundw
          case rel => exact ⟨k + 1, by omega, by go_num, trivial, hA'⟩
          case measure => simp [intOf]; omega
    · have q3 : ¬ (k : Int) < s.size := by omega
      have HN : Hid (locB s.data.toList = true) := by show _ = _; rw [HR.out]; exact all_yes fun j hj => hA.out j hj (by omega)
      go_wp2_with fail
      go_ret
      exact ⟨by rw [HN.out]; rfl, rfl⟩

def refm : List UInt8 := [33, 35, 36, 37, 38, 39, 42, 43, 45, 47, 61, 63, 94, 95, 123, 124, 125, 126]
theorem wrd_parts (c : UInt8) : inWrd c = (letB c || inDig c || refm.contains c || c == 96) := by
  have H : ∀ i : Fin 256, inWrd (UInt8.ofNat i.val) = (letB (UInt8.ofNat i.val) || inDig (UInt8.ofNat i.val) || refm.contains (UInt8.ofNat i.val) || UInt8.ofNat i.val == 96) := by decide +kernel
  have := H ⟨c.toNat, c.toNat_lt⟩
  simpa using this
theorem refm_not (c : UInt8) (h : ∀ j, j < 18 → ¬ refm.getD j 0 = c) : refm.contains c = false := by
  cases e : refm.contains c with
  | false => rfl
  | true =>
    have hm : c ∈ refm := by simpa using e
    obtain ⟨j, hj, he⟩ := List.getElem_of_mem hm
    exact absurd (by simp [List.getD, List.getElem?_eq_getElem hj, he]) (h j hj)
theorem refm_yes (c : UInt8) {j : Nat} (hj : j < 18) (h : refm.getD j 0 = c) : refm.contains c = true := by
  have hj2 : j < refm.length := hj
  have : refm.getD j 0 ∈ refm := by simp only [List.getD, List.getElem?_eq_getElem hj2, Option.getD_some]; exact List.getElem_mem hj2
  rw [h] at this
  simpa using this

set_option maxHeartbeats 3200000 in
set_option maxRecDepth 100000 in
theorem ratext_any (c : UInt8) (w : World) : Calls Tryd.prog 51 #[.int .u8 (c.toNat : Int)] w fun e w' => e = .returned (.bool (inWrd c)) ∧ w' = w := by
  have HL : Hid (∀ w, Calls Tryd.prog 53 #[.int .u8 (c.toNat : Int)] w fun e w' => e = .returned (.bool (letB c)) ∧ w' = w) := fun w => rletter_any c w
  have HD : Hid (∀ w, Calls Tryd.prog 54 #[.int .u8 (c.toNat : Int)] w fun e w' => e = .returned (.bool (inDig c)) ∧ w' = w) := fun w => rdigit_any c w
  have hW := wrd_parts c
  obtain ⟨R, hR⟩ : ∃ R, inWrd c = R := ⟨_, rfl⟩
  rw [hR] at hW
  rw [hR]
  cases hl : letB c with
  | true =>
    rw [hl] at HL hW
    have HR : Hid (R = true) := by show _ = _; rw [hW]; simp
    clear hl hW hR HD
    go_enter Tryd.func51, Tryd.ntmps51
    go_wp2_with (go_at_call 53; refine (HL.out _).mono ?_; rintro e w1 ⟨rfl, rfl⟩)
    go_ret
    exact ⟨by rw [HR.out]; rfl, rfl⟩
  | false =>
    cases hd : inDig c with
    | true =>
      rw [hl] at HL hW
      rw [hd] at HD hW
      have HR : Hid (R = true) := by show _ = _; rw [hW]; simp
      clear hl hd hW hR
      go_enter Tryd.func51, Tryd.ntmps51
      go_wp2_with (first
        | (go_at_call 53; refine (HL.out _).mono ?_; rintro e w1 ⟨rfl, rfl⟩)
        | (go_at_call 54; refine (HD.out _).mono ?_; rintro e w1 ⟨rfl, rfl⟩))
      go_ret
      exact ⟨by rw [HR.out]; rfl, rfl⟩
    | false =>
      rw [hl] at HL hW
      rw [hd] at HD hW
      have HW : Hid (R = (refm.contains c || c == 96)) := by show _ = _; rw [hW]; simp
      clear hl hd hW hR
      go_enter Tryd.func51, Tryd.ntmps51
      go_wp2_with (first
        | (go_at_call 53; refine (HL.out _).mono ?_; rintro e w1 ⟨rfl, rfl⟩)
        | (go_at_call 54; refine (HD.out _).mono ?_; rintro e w1 ⟨rfl, rfl⟩))
      obtain ⟨S, hS⟩ : ∃ S, (⟨#[33, 35, 36, 37, 38, 39, 42, 43, 45, 47, 61, 63, 94, 95, 123, 124, 125, 126]⟩ : ByteArray) = S := ⟨_, rfl⟩
      rw [hS]
      have HSz : S.size = 18 := by rw [← hS]; rfl
      have HG : Hid (∀ j, (hj : j < S.size) → S[j] = refm.getD j 0) := fun j hj => by subst hS; exact bl_get refm j hj
      clear hS HL HD
      obtain ⟨B, hB⟩ : ∃ B, ((c.toNat : Int) == 96) = B := ⟨_, rfl⟩
      have HB : Hid ((c == 96) = B) := by show _ = _; rw [beq_u8, ← hB]; rfl
      obtain ⟨X, hX⟩ : ∃ X : Int, (c.toNat : Int) = X := ⟨_, rfl⟩
      have HX : Hid ((c.toNat : Int) = X) := hX
      rw [hX] at hB ⊢
      clear hX
      go_loopw [4] (fun i wr => ∃ k : Nat, k ≤ S.size ∧ i = .int .i64 k ∧ wr = w1 ∧ Hid (∀ j, j < k → ¬ refm.getD j 0 = c)) (fun i _ => S.size - (intOf i).toNat)
      case atStart => exact ⟨0, Nat.zero_le _, rfl, rfl, fun j h => by omega⟩
      case round =>
        obtain ⟨k, hk, rfl, rfl, hA⟩ := hrel
        by_cases hlt : k < S.size
        · have q3 : (k : Int) < S.size := by omega
          have hg := HG.out k hlt
          by_cases he : S[k] = c
          · have q4 : ((S[k].toNat : Int) == X) = true := by rw [beq_iff_eq, he, HX.out]
            have HR : Hid (R = true) := by show _ = _; rw [HW.out, refm_yes c (by omega) (hg.symm.trans he)]; rfl
            clear he hg
            go_wp2_with fail
            go_ret
            exact ⟨by rw [HR.out]; rfl, rfl⟩
          · have q4 : ((S[k].toNat : Int) == X) = false := by
              rw [← HX.out]
              exact i_ne he
            have hA' : Hid (∀ j, j < k + 1 → ¬ refm.getD j 0 = c) := fun j h => by
              rcases (by omega : j < k ∨ j = k) with h | rfl
              · exact hA.out j h
              · rw [← hg]; exact he
            clear he hg
            go_wp2_with fail
            go_roundw
            case rel => exact ⟨k + 1, by omega, by go_num, trivial, hA'⟩
            case measure => simp [intOf]; omega
        · have q3 : ¬ (k : Int) < S.size := by omega
          have HR : Hid (R = B) := by show _ = _; rw [HW.out, refm_not c (fun j hj => hA.out j (by omega)), ← HB.out]; simp
          clear hlt
          go_wp2_with fail
          go_ret
          exact ⟨by rw [HR.out]; rfl, rfl⟩
end Go.Proofs.YtefofoocglhdmaaDoor

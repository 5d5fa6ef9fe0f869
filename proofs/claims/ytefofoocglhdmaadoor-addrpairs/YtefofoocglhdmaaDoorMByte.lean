/-
  What a byte is: the functions of package addr on bytes.
-/
import Derived.Test.YtefofoocglhdmaaDoorMScan
namespace Go.Proofs.YtefofoocglhdmaaDoor
open Go.RowKit

set_option maxHeartbeats 800000 in
theorem inDig_any (c : UInt8) (w : World) : Calls Tryd.prog 66 #[.int .u8 (c.toNat : Int)] w fun e w' => e = .returned (.bool (inDig c)) ∧ w' = w := by
  obtain ⟨X, hX⟩ : ∃ X : Int, (c.toNat : Int) = X := ⟨_, rfl⟩
  by_cases h1 : 48 ≤ c.toNat
  · by_cases h2 : c.toNat ≤ 57
    · have q1 : (48 : Int) ≤ X := by omega
      have q2 : X ≤ (57 : Int) := by omega
      have HR : Hid (inDig c = true) := by show _ = _; unfold inDig; simp [h1, h2]
      rw [hX]
      clear hX h1 h2
      go_enter Tryd.func66, Tryd.ntmps66
      go_wp2_with fail
      go_ret
      exact ⟨by rw [HR.out]; rfl, rfl⟩
    · have q1 : (48 : Int) ≤ X := by omega
      have q2 : ¬ X ≤ (57 : Int) := by omega
      have HR : Hid (inDig c = false) := by show _ = _; unfold inDig; simp [h1]; omega
      rw [hX]
      clear hX h1 h2
      go_enter Tryd.func66, Tryd.ntmps66
      go_wp2_with fail
      go_ret
      exact ⟨by rw [HR.out]; rfl, rfl⟩
  · have q1 : ¬ (48 : Int) ≤ X := by omega
    have HR : Hid (inDig c = false) := by show _ = _; unfold inDig; simp [h1]
    rw [hX]
    clear hX h1
    go_enter Tryd.func66, Tryd.ntmps66
    go_wp2_with fail
    go_ret
    exact ⟨by rw [HR.out]; rfl, rfl⟩

set_option maxHeartbeats 800000 in
theorem prt_any (c : UInt8) (w : World) : Calls Tryd.prog 40 #[.int .u8 (c.toNat : Int)] w fun e w' => e = .returned (.bool (prt c)) ∧ w' = w := by
  obtain ⟨X, hX⟩ : ∃ X : Int, (c.toNat : Int) = X := ⟨_, rfl⟩
  by_cases h1 : 32 ≤ c.toNat
  · by_cases h2 : c.toNat ≤ 126
    · have q1 : (32 : Int) ≤ X := by omega
      have q2 : X ≤ (126 : Int) := by omega
      have HR : Hid (prt c = true) := by show _ = _; unfold prt; simp [h1, h2]
      rw [hX]
      clear hX h1 h2
      go_enter Tryd.func40, Tryd.ntmps40
      go_wp2_with fail
      go_ret
      exact ⟨by rw [HR.out]; rfl, rfl⟩
    · have q1 : (32 : Int) ≤ X := by omega
      have q2 : ¬ X ≤ (126 : Int) := by omega
      have HR : Hid (prt c = false) := by show _ = _; unfold prt; simp [h1]; omega
      rw [hX]
      clear hX h1 h2
      go_enter Tryd.func40, Tryd.ntmps40
      go_wp2_with fail
      go_ret
      exact ⟨by rw [HR.out]; rfl, rfl⟩
  · have q1 : ¬ (32 : Int) ≤ X := by omega
    have HR : Hid (prt c = false) := by show _ = _; unfold prt; simp [h1]
    rw [hX]
    clear hX h1
    go_enter Tryd.func40, Tryd.ntmps40
    go_wp2_with fail
    go_ret
    exact ⟨by rw [HR.out]; rfl, rfl⟩

theorem c45 {c : UInt8} : c = 45 ↔ c.toNat = 45 := ⟨fun h => by rw [h]; rfl, fun h => UInt8.toNat_inj.1 h⟩
theorem inLab_eq (c : UInt8) : inLab c = (inDig c || (decide (97 ≤ c.toNat) && decide (c.toNat ≤ 122)) || (decide (65 ≤ c.toNat) && decide (c.toNat ≤ 90)) || decide (c.toNat = 45)) := by
  have e : (c == 45) = decide (c.toNat = 45) := by
    by_cases h : c = 45
    · rw [decide_eq_true (c45.1 h), h]; rfl
    · rw [decide_eq_false (fun x => h (c45.2 x))]; exact beq_eq_false_iff_ne.2 h
  unfold inLab inLow inCap
  rw [e]
set_option maxHeartbeats 1600000 in
theorem inLab_any (c : UInt8) (w : World) : Calls Tryd.prog 69 #[.int .u8 (c.toNat : Int)] w fun e w' => e = .returned (.bool (inLab c)) ∧ w' = w := by
  obtain ⟨X, hX⟩ : ∃ X : Int, (c.toNat : Int) = X := ⟨_, rfl⟩
  obtain ⟨B, hB⟩ : ∃ B, inDig c = B := ⟨_, rfl⟩
  have HD : Hid (∀ w : World, Calls Tryd.prog 66 #[.int .u8 X] w fun e w' => e = .returned (.bool B) ∧ w' = w) := fun w => by
    have := inDig_any c w
    rw [hX, hB] at this
    exact this
  have hl := inLab_eq c
  rw [hB] at hl
  rw [hX]
  cases B with
  | true =>
    have HR : Hid (inLab c = true) := by show _ = _; rw [hl]; rfl
    clear hl hB hX
    go_enter Tryd.func69, Tryd.ntmps69
    go_wp2_with (go_at_call 66; refine (HD.out _).mono ?_; rintro e w1 ⟨rfl, rfl⟩)
    go_ret
    exact ⟨by rw [HR.out]; rfl, rfl⟩
  | false =>
    have hn : ¬ (48 ≤ c.toNat ∧ c.toNat ≤ 57) := by
      unfold inDig at hB
      intro h
      simp [h.1, h.2] at hB
    rcases (by omega : (97 ≤ c.toNat ∧ c.toNat ≤ 122) ∨ (65 ≤ c.toNat ∧ c.toNat ≤ 90) ∨ (c.toNat = 45) ∨ (c.toNat < 65 ∧ ¬ c.toNat = 45) ∨ (91 ≤ c.toNat ∧ c.toNat ≤ 96) ∨ (123 ≤ c.toNat)) with h | h | h | h | h | h
    · have HR : Hid (inLab c = true) := by
        show _ = _; rw [hl]
        simp only [Bool.false_or, Bool.or_eq_true, Bool.and_eq_true, decide_eq_true_eq]
        omega
      have q0 : (97 : Int) ≤ X := by omega
      have q1 : X ≤ (122 : Int) := by omega
      clear hl hB hX hn h
      go_enter Tryd.func69, Tryd.ntmps69
      go_wp2_with (go_at_call 66; refine (HD.out _).mono ?_; rintro e w1 ⟨rfl, rfl⟩)
      go_ret
      exact ⟨by rw [HR.out]; rfl, rfl⟩
    · have HR : Hid (inLab c = true) := by
        show _ = _; rw [hl]
        simp only [Bool.false_or, Bool.or_eq_true, Bool.and_eq_true, decide_eq_true_eq]
        omega
      have q0 : ¬ (97 : Int) ≤ X := by omega
      have q1 : (65 : Int) ≤ X := by omega
      have q2 : X ≤ (90 : Int) := by omega
      clear hl hB hX hn h
      go_enter Tryd.func69, Tryd.ntmps69
      go_wp2_with (go_at_call 66; refine (HD.out _).mono ?_; rintro e w1 ⟨rfl, rfl⟩)
      go_ret
      exact ⟨by rw [HR.out]; rfl, rfl⟩
    · have HR : Hid (inLab c = true) := by
        show _ = _; rw [hl]
        simp only [Bool.false_or, Bool.or_eq_true, Bool.and_eq_true, decide_eq_true_eq]
        omega
      have q0 : ¬ (97 : Int) ≤ X := by omega
      have q1 : ¬ (65 : Int) ≤ X := by omega
      have q2 : (X == (45 : Int)) = true := by first | exact beq_iff_eq.2 (by omega) | exact beq_eq_false_iff_ne.2 (by omega)
      clear hl hB hX hn h
      go_enter Tryd.func69, Tryd.ntmps69
      go_wp2_with (go_at_call 66; refine (HD.out _).mono ?_; rintro e w1 ⟨rfl, rfl⟩)
      go_ret
      exact ⟨by rw [HR.out]; rfl, rfl⟩
    · have HR : Hid (inLab c = false) := by
        show _ = _; rw [hl]
        simp only [Bool.false_or, Bool.or_eq_false_iff, Bool.and_eq_false_iff, decide_eq_false_iff_not]
        omega
      have q0 : ¬ (97 : Int) ≤ X := by omega
      have q1 : ¬ (65 : Int) ≤ X := by omega
      have q2 : (X == (45 : Int)) = false := by first | exact beq_iff_eq.2 (by omega) | exact beq_eq_false_iff_ne.2 (by omega)
      clear hl hB hX hn h
      go_enter Tryd.func69, Tryd.ntmps69
      go_wp2_with (go_at_call 66; refine (HD.out _).mono ?_; rintro e w1 ⟨rfl, rfl⟩)
      go_ret
      exact ⟨by rw [HR.out]; rfl, rfl⟩
    · have HR : Hid (inLab c = false) := by
        show _ = _; rw [hl]
        simp only [Bool.false_or, Bool.or_eq_false_iff, Bool.and_eq_false_iff, decide_eq_false_iff_not]
        omega
      have q0 : ¬ (97 : Int) ≤ X := by omega
      have q1 : (65 : Int) ≤ X := by omega
      have q2 : ¬ X ≤ (90 : Int) := by omega
      have q3 : decide (X ≤ (90 : Int)) = false := decide_eq_false (by omega)
      have q4 : (X == (45 : Int)) = false := by first | exact beq_iff_eq.2 (by omega) | exact beq_eq_false_iff_ne.2 (by omega)
      clear hl hB hX hn h
      go_enter Tryd.func69, Tryd.ntmps69
      go_wp2_with (go_at_call 66; refine (HD.out _).mono ?_; rintro e w1 ⟨rfl, rfl⟩)
      go_ret
      exact ⟨by rw [HR.out]; rfl, rfl⟩
    · have HR : Hid (inLab c = false) := by
        show _ = _; rw [hl]
        simp only [Bool.false_or, Bool.or_eq_false_iff, Bool.and_eq_false_iff, decide_eq_false_iff_not]
        omega
      have q0 : (97 : Int) ≤ X := by omega
      have q1 : ¬ X ≤ (122 : Int) := by omega
      have q2 : decide (X ≤ (122 : Int)) = false := decide_eq_false (by omega)
      have q3 : (65 : Int) ≤ X := by omega
      have q4 : ¬ X ≤ (90 : Int) := by omega
      have q5 : decide (X ≤ (90 : Int)) = false := decide_eq_false (by omega)
      have q6 : (X == (45 : Int)) = false := by first | exact beq_iff_eq.2 (by omega) | exact beq_eq_false_iff_ne.2 (by omega)
      clear hl hB hX hn h
      go_enter Tryd.func69, Tryd.ntmps69
      go_wp2_with (go_at_call 66; refine (HD.out _).mono ?_; rintro e w1 ⟨rfl, rfl⟩)
      go_ret
      exact ⟨by rw [HR.out]; rfl, rfl⟩

set_option maxHeartbeats 1600000 in
theorem inDom_any (c : UInt8) (w : World) : Calls Tryd.prog 63 #[.int .u8 (c.toNat : Int)] w fun e w' => e = .returned (.bool (inDom c)) ∧ w' = w := by
  by_cases h46 : c = 46
  · subst h46
    have HR : Hid (inDom 46 = true) := by show _ = _; decide
    show Calls Tryd.prog 63 #[.int .u8 46] w _
    go_enter Tryd.func63, Tryd.ntmps63
    go_wp2_with fail
    go_ret
    exact ⟨by rw [HR.out]; rfl, rfl⟩
  by_cases h91 : c = 91
  · subst h91
    have HR : Hid (inDom 91 = true) := by show _ = _; decide
    show Calls Tryd.prog 63 #[.int .u8 91] w _
    go_enter Tryd.func63, Tryd.ntmps63
    go_wp2_with fail
    go_ret
    exact ⟨by rw [HR.out]; rfl, rfl⟩
  by_cases h93 : c = 93
  · subst h93
    have HR : Hid (inDom 93 = true) := by show _ = _; decide
    show Calls Tryd.prog 63 #[.int .u8 93] w _
    go_enter Tryd.func63, Tryd.ntmps63
    go_wp2_with fail
    go_ret
    exact ⟨by rw [HR.out]; rfl, rfl⟩
  obtain ⟨X, hX⟩ : ∃ X : Int, (c.toNat : Int) = X := ⟨_, rfl⟩
  have q46 : (X == (46 : Int)) = false := by rw [← hX]; exact i_ne h46
  have q91 : (X == (91 : Int)) = false := by rw [← hX]; exact i_ne h91
  have q93 : (X == (93 : Int)) = false := by rw [← hX]; exact i_ne h93
  obtain ⟨B, hB⟩ : ∃ B, inLab c = B := ⟨_, rfl⟩
  have HD : Hid (∀ w : World, Calls Tryd.prog 69 #[.int .u8 X] w fun e w' => e = .returned (.bool B) ∧ w' = w) := fun w => by
    have := inLab_any c w
    rw [hX, hB] at this
    exact this
  have HR : Hid (inDom c = B) := by
    show _ = _
    rw [← hB]
    unfold inDom
    simp [h46, h91, h93]
  rw [hX]
  clear hX hB h46 h91 h93
  go_enter Tryd.func63, Tryd.ntmps63
  go_wp2_with (go_at_call 69; refine (HD.out _).mono ?_; rintro e w1 ⟨rfl, rfl⟩)
  go_ret
  exact ⟨by rw [HR.out]; rfl, rfl⟩

set_option maxHeartbeats 1600000 in
theorem inWrd_any (c : UInt8) (w : World) : Calls Tryd.prog 78 #[.int .u8 (c.toNat : Int)] w fun e w' => e = .returned (.bool (inWrd c)) ∧ w' = w := by
  by_cases h33 : c = 33
  · subst h33
    have HR : Hid (inWrd 33 = true) := by show _ = _; decide
    show Calls Tryd.prog 78 #[.int .u8 33] w _
    go_enter Tryd.func78, Tryd.ntmps78
    go_wp2_with fail
    go_ret
    exact ⟨by rw [HR.out]; rfl, rfl⟩
  by_cases h35 : c = 35
  · subst h35
    have HR : Hid (inWrd 35 = true) := by show _ = _; decide
    show Calls Tryd.prog 78 #[.int .u8 35] w _
    go_enter Tryd.func78, Tryd.ntmps78
    go_wp2_with fail
    go_ret
    exact ⟨by rw [HR.out]; rfl, rfl⟩
  by_cases h36 : c = 36
  · subst h36
    have HR : Hid (inWrd 36 = true) := by show _ = _; decide
    show Calls Tryd.prog 78 #[.int .u8 36] w _
    go_enter Tryd.func78, Tryd.ntmps78
    go_wp2_with fail
    go_ret
    exact ⟨by rw [HR.out]; rfl, rfl⟩
  by_cases h37 : c = 37
  · subst h37
    have HR : Hid (inWrd 37 = true) := by show _ = _; decide
    show Calls Tryd.prog 78 #[.int .u8 37] w _
    go_enter Tryd.func78, Tryd.ntmps78
    go_wp2_with fail
    go_ret
    exact ⟨by rw [HR.out]; rfl, rfl⟩
  by_cases h38 : c = 38
  · subst h38
    have HR : Hid (inWrd 38 = true) := by show _ = _; decide
    show Calls Tryd.prog 78 #[.int .u8 38] w _
    go_enter Tryd.func78, Tryd.ntmps78
    go_wp2_with fail
    go_ret
    exact ⟨by rw [HR.out]; rfl, rfl⟩
  by_cases h39 : c = 39
  · subst h39
    have HR : Hid (inWrd 39 = true) := by show _ = _; decide
    show Calls Tryd.prog 78 #[.int .u8 39] w _
    go_enter Tryd.func78, Tryd.ntmps78
    go_wp2_with fail
    go_ret
    exact ⟨by rw [HR.out]; rfl, rfl⟩
  by_cases h42 : c = 42
  · subst h42
    have HR : Hid (inWrd 42 = true) := by show _ = _; decide
    show Calls Tryd.prog 78 #[.int .u8 42] w _
    go_enter Tryd.func78, Tryd.ntmps78
    go_wp2_with fail
    go_ret
    exact ⟨by rw [HR.out]; rfl, rfl⟩
  by_cases h43 : c = 43
  · subst h43
    have HR : Hid (inWrd 43 = true) := by show _ = _; decide
    show Calls Tryd.prog 78 #[.int .u8 43] w _
    go_enter Tryd.func78, Tryd.ntmps78
    go_wp2_with fail
    go_ret
    exact ⟨by rw [HR.out]; rfl, rfl⟩
  by_cases h47 : c = 47
  · subst h47
    have HR : Hid (inWrd 47 = true) := by show _ = _; decide
    show Calls Tryd.prog 78 #[.int .u8 47] w _
    go_enter Tryd.func78, Tryd.ntmps78
    go_wp2_with fail
    go_ret
    exact ⟨by rw [HR.out]; rfl, rfl⟩
  by_cases h61 : c = 61
  · subst h61
    have HR : Hid (inWrd 61 = true) := by show _ = _; decide
    show Calls Tryd.prog 78 #[.int .u8 61] w _
    go_enter Tryd.func78, Tryd.ntmps78
    go_wp2_with fail
    go_ret
    exact ⟨by rw [HR.out]; rfl, rfl⟩
  by_cases h63 : c = 63
  · subst h63
    have HR : Hid (inWrd 63 = true) := by show _ = _; decide
    show Calls Tryd.prog 78 #[.int .u8 63] w _
    go_enter Tryd.func78, Tryd.ntmps78
    go_wp2_with fail
    go_ret
    exact ⟨by rw [HR.out]; rfl, rfl⟩
  by_cases h94 : c = 94
  · subst h94
    have HR : Hid (inWrd 94 = true) := by show _ = _; decide
    show Calls Tryd.prog 78 #[.int .u8 94] w _
    go_enter Tryd.func78, Tryd.ntmps78
    go_wp2_with fail
    go_ret
    exact ⟨by rw [HR.out]; rfl, rfl⟩
  by_cases h95 : c = 95
  · subst h95
    have HR : Hid (inWrd 95 = true) := by show _ = _; decide
    show Calls Tryd.prog 78 #[.int .u8 95] w _
    go_enter Tryd.func78, Tryd.ntmps78
    go_wp2_with fail
    go_ret
    exact ⟨by rw [HR.out]; rfl, rfl⟩
  by_cases h96 : c = 96
  · subst h96
    have HR : Hid (inWrd 96 = true) := by show _ = _; decide
    show Calls Tryd.prog 78 #[.int .u8 96] w _
    go_enter Tryd.func78, Tryd.ntmps78
    go_wp2_with fail
    go_ret
    exact ⟨by rw [HR.out]; rfl, rfl⟩
  by_cases h123 : c = 123
  · subst h123
    have HR : Hid (inWrd 123 = true) := by show _ = _; decide
    show Calls Tryd.prog 78 #[.int .u8 123] w _
    go_enter Tryd.func78, Tryd.ntmps78
    go_wp2_with fail
    go_ret
    exact ⟨by rw [HR.out]; rfl, rfl⟩
  by_cases h124 : c = 124
  · subst h124
    have HR : Hid (inWrd 124 = true) := by show _ = _; decide
    show Calls Tryd.prog 78 #[.int .u8 124] w _
    go_enter Tryd.func78, Tryd.ntmps78
    go_wp2_with fail
    go_ret
    exact ⟨by rw [HR.out]; rfl, rfl⟩
  by_cases h125 : c = 125
  · subst h125
    have HR : Hid (inWrd 125 = true) := by show _ = _; decide
    show Calls Tryd.prog 78 #[.int .u8 125] w _
    go_enter Tryd.func78, Tryd.ntmps78
    go_wp2_with fail
    go_ret
    exact ⟨by rw [HR.out]; rfl, rfl⟩
  by_cases h126 : c = 126
  · subst h126
    have HR : Hid (inWrd 126 = true) := by show _ = _; decide
    show Calls Tryd.prog 78 #[.int .u8 126] w _
    go_enter Tryd.func78, Tryd.ntmps78
    go_wp2_with fail
    go_ret
    exact ⟨by rw [HR.out]; rfl, rfl⟩
  obtain ⟨X, hX⟩ : ∃ X : Int, (c.toNat : Int) = X := ⟨_, rfl⟩
  have q33 : (X == (33 : Int)) = false := by rw [← hX]; exact i_ne h33
  have q35 : (X == (35 : Int)) = false := by rw [← hX]; exact i_ne h35
  have q36 : (X == (36 : Int)) = false := by rw [← hX]; exact i_ne h36
  have q37 : (X == (37 : Int)) = false := by rw [← hX]; exact i_ne h37
  have q38 : (X == (38 : Int)) = false := by rw [← hX]; exact i_ne h38
  have q39 : (X == (39 : Int)) = false := by rw [← hX]; exact i_ne h39
  have q42 : (X == (42 : Int)) = false := by rw [← hX]; exact i_ne h42
  have q43 : (X == (43 : Int)) = false := by rw [← hX]; exact i_ne h43
  have q47 : (X == (47 : Int)) = false := by rw [← hX]; exact i_ne h47
  have q61 : (X == (61 : Int)) = false := by rw [← hX]; exact i_ne h61
  have q63 : (X == (63 : Int)) = false := by rw [← hX]; exact i_ne h63
  have q94 : (X == (94 : Int)) = false := by rw [← hX]; exact i_ne h94
  have q95 : (X == (95 : Int)) = false := by rw [← hX]; exact i_ne h95
  have q96 : (X == (96 : Int)) = false := by rw [← hX]; exact i_ne h96
  have q123 : (X == (123 : Int)) = false := by rw [← hX]; exact i_ne h123
  have q124 : (X == (124 : Int)) = false := by rw [← hX]; exact i_ne h124
  have q125 : (X == (125 : Int)) = false := by rw [← hX]; exact i_ne h125
  have q126 : (X == (126 : Int)) = false := by rw [← hX]; exact i_ne h126
  obtain ⟨B, hB⟩ : ∃ B, inLab c = B := ⟨_, rfl⟩
  have HD : Hid (∀ w : World, Calls Tryd.prog 69 #[.int .u8 X] w fun e w' => e = .returned (.bool B) ∧ w' = w) := fun w => by
    have := inLab_any c w
    rw [hX, hB] at this
    exact this
  have HR : Hid (inWrd c = B) := by
    show _ = _
    rw [← hB]
    unfold inWrd
    simp [marks, h33, h35, h36, h37, h38, h39, h42, h43, h47, h61, h63, h94, h95, h96, h123, h124, h125, h126]
  rw [hX]
  clear hX hB h33 h35 h36 h37 h38 h39 h42 h43 h47 h61 h63 h94 h95 h96 h123 h124 h125 h126
  go_enter Tryd.func78, Tryd.ntmps78
  go_wp2_with (go_at_call 69; refine (HD.out _).mono ?_; rintro e w1 ⟨rfl, rfl⟩)
  go_ret
  exact ⟨by rw [HR.out]; rfl, rfl⟩
end Go.Proofs.YtefofoocglhdmaaDoor

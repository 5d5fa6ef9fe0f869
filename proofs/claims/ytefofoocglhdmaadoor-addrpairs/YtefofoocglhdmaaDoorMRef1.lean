/-
  The document's letter, digit, label, octet.
-/
import Derived.Test.YtefofoocglhdmaaDoorMKnown
namespace Go.Proofs.YtefofoocglhdmaaDoor
open Go.RowKit

def letB (c : UInt8) : Bool := inLow c || inCap c
theorem lab_parts (c : UInt8) : inLab c = (letB c || inDig c || c == 45) := by
  unfold inLab letB
  cases inDig c <;> cases inLow c <;> cases inCap c <;> rfl

set_option maxHeartbeats 1600000 in
theorem rletter_any (c : UInt8) (w : World) : Calls Tryd.prog 53 #[.int .u8 (c.toNat : Int)] w fun e w' => e = .returned (.bool (letB c)) ∧ w' = w := by
  obtain ⟨X, hX⟩ : ∃ X : Int, (c.toNat : Int) = X := ⟨_, rfl⟩
  rw [hX]
  rcases (by omega : (65 ≤ c.toNat ∧ c.toNat ≤ 90) ∨ (97 ≤ c.toNat ∧ c.toNat ≤ 122) ∨ (c.toNat < 65) ∨ (91 ≤ c.toNat ∧ c.toNat ≤ 96) ∨ (123 ≤ c.toNat)) with h | h | h | h | h
  · have HR : Hid (letB c = true) := by
      show _ = _
      unfold letB inLow inCap
      simp only [Bool.or_eq_true, Bool.and_eq_true, decide_eq_true_eq]
      omega
    have q0 : (65 : Int) ≤ X := by omega
    have q0d : decide ((65 : Int) ≤ X) = true := decide_eq_true q0
    have q1 : X ≤ (90 : Int) := by omega
    have q1d : decide (X ≤ (90 : Int)) = true := decide_eq_true q1
    clear hX h
    go_enter Tryd.func53, Tryd.ntmps53
    go_wp2_with fail
    go_ret
    exact ⟨by rw [HR.out]; rfl, rfl⟩
  · have HR : Hid (letB c = true) := by
      show _ = _
      unfold letB inLow inCap
      simp only [Bool.or_eq_true, Bool.and_eq_true, decide_eq_true_eq]
      omega
    have q0 : (65 : Int) ≤ X := by omega
    have q0d : decide ((65 : Int) ≤ X) = true := decide_eq_true q0
    have q1 : ¬ X ≤ (90 : Int) := by omega
    have q1d : decide (X ≤ (90 : Int)) = false := decide_eq_false q1
    have q2 : (97 : Int) ≤ X := by omega
    have q2d : decide ((97 : Int) ≤ X) = true := decide_eq_true q2
    have q3 : X ≤ (122 : Int) := by omega
    have q3d : decide (X ≤ (122 : Int)) = true := decide_eq_true q3
    clear hX h
    go_enter Tryd.func53, Tryd.ntmps53
    go_wp2_with fail
    go_ret
    exact ⟨by rw [HR.out]; rfl, rfl⟩
  · have HR : Hid (letB c = false) := by
      show _ = _
      unfold letB inLow inCap
      simp only [Bool.or_eq_false_iff, Bool.and_eq_false_iff, decide_eq_false_iff_not]
      omega
    have q0 : ¬ (65 : Int) ≤ X := by omega
    have q0d : decide ((65 : Int) ≤ X) = false := decide_eq_false q0
    have q1 : ¬ (97 : Int) ≤ X := by omega
    have q1d : decide ((97 : Int) ≤ X) = false := decide_eq_false q1
    clear hX h
    go_enter Tryd.func53, Tryd.ntmps53
    go_wp2_with fail
    go_ret
    exact ⟨by rw [HR.out]; rfl, rfl⟩
  · have HR : Hid (letB c = false) := by
      show _ = _
      unfold letB inLow inCap
      simp only [Bool.or_eq_false_iff, Bool.and_eq_false_iff, decide_eq_false_iff_not]
      omega
    have q0 : (65 : Int) ≤ X := by omega
    have q0d : decide ((65 : Int) ≤ X) = true := decide_eq_true q0
    have q1 : ¬ X ≤ (90 : Int) := by omega
    have q1d : decide (X ≤ (90 : Int)) = false := decide_eq_false q1
    have q2 : ¬ (97 : Int) ≤ X := by omega
    have q2d : decide ((97 : Int) ≤ X) = false := decide_eq_false q2
    clear hX h
    go_enter Tryd.func53, Tryd.ntmps53
    go_wp2_with fail
    go_ret
    exact ⟨by rw [HR.out]; rfl, rfl⟩
  · have HR : Hid (letB c = false) := by
      show _ = _
      unfold letB inLow inCap
      simp only [Bool.or_eq_false_iff, Bool.and_eq_false_iff, decide_eq_false_iff_not]
      omega
    have q0 : (65 : Int) ≤ X := by omega
    have q0d : decide ((65 : Int) ≤ X) = true := decide_eq_true q0
    have q1 : ¬ X ≤ (90 : Int) := by omega
    have q1d : decide (X ≤ (90 : Int)) = false := decide_eq_false q1
    have q2 : (97 : Int) ≤ X := by omega
    have q2d : decide ((97 : Int) ≤ X) = true := decide_eq_true q2
    have q3 : ¬ X ≤ (122 : Int) := by omega
    have q3d : decide (X ≤ (122 : Int)) = false := decide_eq_false q3
    clear hX h
    go_enter Tryd.func53, Tryd.ntmps53
    go_wp2_with fail
    go_ret
    exact ⟨by rw [HR.out]; rfl, rfl⟩

set_option maxHeartbeats 1600000 in
theorem rdigit_any (c : UInt8) (w : World) : Calls Tryd.prog 54 #[.int .u8 (c.toNat : Int)] w fun e w' => e = .returned (.bool (inDig c)) ∧ w' = w := by
  obtain ⟨X, hX⟩ : ∃ X : Int, (c.toNat : Int) = X := ⟨_, rfl⟩
  rw [hX]
  rcases (by omega : (48 ≤ c.toNat ∧ c.toNat ≤ 57) ∨ (c.toNat < 48) ∨ (58 ≤ c.toNat)) with h | h | h
  · have HR : Hid (inDig c = true) := by
      show _ = _
      unfold inDig 
      simp only [Bool.and_eq_true, decide_eq_true_eq]
      omega
    have q0 : (48 : Int) ≤ X := by omega
    have q0d : decide ((48 : Int) ≤ X) = true := decide_eq_true q0
    have q1 : X ≤ (57 : Int) := by omega
    have q1d : decide (X ≤ (57 : Int)) = true := decide_eq_true q1
    clear hX h
    go_enter Tryd.func54, Tryd.ntmps54
    go_wp2_with fail
    go_ret
    exact ⟨by rw [HR.out]; rfl, rfl⟩
  · have HR : Hid (inDig c = false) := by
      show _ = _
      unfold inDig 
      simp only [Bool.and_eq_false_iff, decide_eq_false_iff_not]
      omega
    have q0 : ¬ (48 : Int) ≤ X := by omega
    have q0d : decide ((48 : Int) ≤ X) = false := decide_eq_false q0
    clear hX h
    go_enter Tryd.func54, Tryd.ntmps54
    go_wp2_with fail
    go_ret
    exact ⟨by rw [HR.out]; rfl, rfl⟩
  · have HR : Hid (inDig c = false) := by
      show _ = _
      unfold inDig 
      simp only [Bool.and_eq_false_iff, decide_eq_false_iff_not]
      omega
    have q0 : (48 : Int) ≤ X := by omega
    have q0d : decide ((48 : Int) ≤ X) = true := decide_eq_true q0
    have q1 : ¬ X ≤ (57 : Int) := by omega
    have q1d : decide (X ≤ (57 : Int)) = false := decide_eq_false q1
    clear hX h
    go_enter Tryd.func54, Tryd.ntmps54
    go_wp2_with fail
    go_ret
    exact ⟨by rw [HR.out]; rfl, rfl⟩
end Go.Proofs.YtefofoocglhdmaaDoor

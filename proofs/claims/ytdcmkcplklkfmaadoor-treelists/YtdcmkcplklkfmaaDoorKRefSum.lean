/-
  The contract of the reference's Sum: it answers as codec's does.
-/
import Derived.Test.YtdcmkcplklkfmaaDoorKCrc
namespace Go.Proofs.YtdcmkcplklkfmaaDoor
open Go.RowKit


/-- k bits of the division. -/
def bitsN : Nat → Nat → Nat
  | 0, c => c
  | k + 1, c => bitN (bitsN k c)
theorem stepN_bits (c x : Nat) : stepN c x = bitsN 8 (c ^^^ x) := by
  unfold stepN
  rw [half_bits, half_bits]
  rfl
/-- The sum of bytes. -/
def sumV (bs : List Int) : Nat := 4294967295 - crcN 4294967295 bs
theorem bit_forms (s : Nat) (hs : s < 4294967296) : bits .and .u32 (s : Int) 1 = ((s % 2 : Nat) : Int) ∧ (s % 2 = 1 → bits .xor .u32 ((s : Int) / 2) 3988292384 = ((bitN s : Nat) : Int)) ∧ (s % 2 = 0 → (s : Int) / 2 = ((bitN s : Nat) : Int)) ∧ bitN s < 4294967296 := by
  refine ⟨?_, fun h => ?_, fun h => ?_, bitN_lt s hs⟩
  · have h1 := u32_and_nat s 1 hs (by omega)
    have e : s &&& 1 = s % 2 := Nat.and_one_is_mod s
    rw [e] at h1
    exact h1
  · have h1 := u32_xor_nat (s / 2) 3988292384 (by omega) (by omega)
    have e : ((s / 2 : Nat) : Int) = (s : Int) / 2 := by omega
    rw [e] at h1
    rw [show bitN s = s / 2 ^^^ 3988292384 by simp [bitN, h]]
    exact h1
  · have e : bitN s = s / 2 := by simp [bitN, h]
    rw [e]
    omega

end Go.Proofs.YtdcmkcplklkfmaaDoor

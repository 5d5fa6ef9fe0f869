/-
  Numbers of a slice, numbers under a mask, slices that a call has made.
-/
import Derived.Test.YtdcmcgdalanjjaaGreatSync
namespace Go.Proofs.YtdcmcgdalanjjaaGreat
open Go.RowKit Go.Maps

theorem and_mask (n : Int) (k : Nat) (m : Int) (hm : (BitVec.ofInt 64 m).toNat = 2 ^ k - 1) (hk : k ≤ 8) : bits .and .i64 n m = n % ((2 ^ k : Nat) : Int) := by
  have key : (BitVec.ofInt 64 n &&& BitVec.ofInt 64 m).toNat = (n % ((2 ^ 64 : Nat) : Int)).toNat % 2 ^ k := by
    rw [BitVec.toNat_and, BitVec.toNat_ofInt, hm, Nat.and_two_pow_sub_one_eq_mod]
  show IntKind.i64.wrap ((BitVec.ofInt 64 n &&& BitVec.ofInt 64 m).toNat : Nat) = n % ((2 ^ k : Nat) : Int)
  rw [key, IntKind.wrap_i64]
  have : k = 0 ∨ k = 1 ∨ k = 2 ∨ k = 3 ∨ k = 4 ∨ k = 5 ∨ k = 6 ∨ k = 7 ∨ k = 8 := by omega
  rcases this with rfl | rfl | rfl | rfl | rfl | rfl | rfl | rfl | rfl <;> omega
theorem and63 (n : Int) : bits .and .i64 n 63 = n % 64 := and_mask n 6 63 (by decide) (by decide)
theorem and31 (n : Int) : bits .and .i64 n 31 = n % 32 := and_mask n 5 31 (by decide) (by decide)
theorem and15 (n : Int) : bits .and .i64 n 15 = n % 16 := and_mask n 4 15 (by decide) (by decide)
theorem and7 (n : Int) : bits .and .i64 n 7 = n % 8 := and_mask n 3 7 (by decide) (by decide)

/-- A number of a slice. -/
theorem Is.nth {w : World} {va : Option Addr} {n vc j : Nat} {l : List Int} (h : Is w (.slice va n vc) l) (hj : j < l.length) : ∃ b off, va = some ⟨b, off, none⟩ ∧ ∀ k, k < l.length → w.cell? ⟨b, off + k, none⟩ = some (.int .i64 (l.getD k 0)) := by
  rcases h with ⟨e, rfl⟩ | ⟨x, c', e, hl, hm, hcell⟩
  · simp at hj
  · simp at e
    obtain ⟨rfl, _, _⟩ := e
    obtain ⟨b, off, spot⟩ := x
    have h0 := hcell 0 (by omega)
    have hspot : spot = none := by simpa [Addr.add] using World.cell?_spot h0
    subst hspot
    refine ⟨b, off, rfl, fun k hk => ?_⟩
    have := hcell k hk
    unfold Addr.add at this
    split at this
    · rename_i e; subst e; simpa using this
    · exact this

/-- A slice of numbers that a call has made. -/
theorem own_slice {W : World} {N n : Nat} {v : Value} {xs : List Value} (h : W.ownsRow N 3 1 v n xs) : ∃ a cp, v = .slice a n cp := by
  rcases h.2 with ⟨hv, h0⟩ | ⟨g, cap, cur, hv, _⟩
  · exact ⟨none, 0, by rw [hv, h0]⟩
  · exact ⟨_, _, hv⟩
end Go.Proofs.YtdcmcgdalanjjaaGreat

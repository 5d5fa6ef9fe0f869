/-
  Literals of two bytes, blocks of bytes 0, numbers under a mask.
-/
import Derived.Test.YtkkmdmnjlncgfaaWKnown
namespace Go.Proofs.Ytkkmdmnjlncgfaa
open Go.RowKit Go.Maps

theorem Bs.two (w : World) (x y : Int) : Bs (w.alloc (.cells #[.int .u8 x, .int .u8 y] 5)) (.slice (some ⟨w.heap.size, 0, none⟩) 2 2) [x, y] := Bs.lit w [x, y] (0, 0) (by simp [maxLen])
theorem Fresh.form512 {w w' : World} {u : Value} {xs : List Int} (h : Fresh w w' u xs) (hl : xs.length = 512) : ∃ a c, u = .slice a 512 c := by
  obtain ⟨a, c, e⟩ := cown_slice h.own
  rw [hl] at e
  exact ⟨a, c, e⟩
theorem int_mod64 (x : Int) : ∃ n : Nat, n < 64 ∧ x % 64 = (n : Int) := ⟨(x % 64).toNat, by omega, by omega⟩

theorem full_nil : full [] = zeros 512 := by
  rw [← fullTo_none 0, fullTo_zero]
/-- Which block the j-th number is. -/
def idx (l : List Int) (j : Nat) : Nat := (l.getD j 0 % 64).toNat
theorem idx_lt (l : List Int) (j : Nat) : idx l j < 64 := by unfold idx; omega
theorem idx_mod (l : List Int) (j : Nat) : l.getD j 0 % 64 = (idx l j : Int) := by unfold idx; omega
end Go.Proofs.Ytkkmdmnjlncgfaa

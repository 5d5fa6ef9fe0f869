/-
  Bytes: helps for sums.
-/
import Derived.Test.YtefofoocglhdmaaDoorMRow
namespace Go.Proofs.YtefofoocglhdmaaDoor
open Go.RowKit

def IsB (xs : List Int) : Prop := ∀ x ∈ xs, 0 ≤ x ∧ x < 256
theorem IsB.take {xs : List Int} (h : IsB xs) (n : Nat) : IsB (xs.take n) := fun x hx => h x (List.mem_of_mem_take hx)
theorem IsB.drop {xs : List Int} (h : IsB xs) (n : Nat) : IsB (xs.drop n) := fun x hx => h x (List.mem_of_mem_drop hx)
theorem IsB.at {xs : List Int} (h : IsB xs) {k : Nat} (hk : k < xs.length) : 0 ≤ xs.getD k 0 ∧ xs.getD k 0 < 256 := by
  have : xs.getD k 0 ∈ xs := by simp [List.getD, hk]
  exact h _ this
theorem Bs.formC {w : World} {v : Value} {xs : List Int} (h : Bs w v xs) : ∃ a c, v = .slice a xs.length c ∧ xs.length ≤ c := by
  rcases h with ⟨rfl, rfl⟩ | ⟨a, c, rfl, h, _⟩
  · exact ⟨none, 0, rfl, Nat.le_refl _⟩
  · exact ⟨_, _, rfl, h⟩
theorem Bs.atC {w : World} {a : Option Addr} {c n k : Nat} {xs : List Int} (h : Bs w (.slice a n c) xs) (hk : k < xs.length) : ∃ b off, a = some ⟨b, off, none⟩ ∧ ∀ j, j < xs.length → w.cell? ⟨b, off + j, none⟩ = some (.int .u8 (xs.getD j 0)) := by
  rcases h with ⟨e, rfl⟩ | ⟨x, c', e, hl, hm, hcell⟩
  · simp at hk
  · cases e
    obtain ⟨b, off, spot⟩ := x
    have h0 := hcell 0 (by omega)
    have hspot : spot = none := by simpa [Addr.add] using World.cell?_spot h0
    subst hspot
    refine ⟨b, off, rfl, fun j hj => ?_⟩
    have := hcell j hj
    unfold Addr.add at this
    split at this
    · rename_i e; subst e; simpa using this
    · exact this
end Go.Proofs.YtefofoocglhdmaaDoor

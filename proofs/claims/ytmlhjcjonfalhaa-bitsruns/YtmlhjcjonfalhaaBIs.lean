/-
  A slice of numbers in memory.
-/
import Derived.Test.YtmlhjcjonfalhaaBCopy
namespace Go.Proofs.Ytmlhjcjonfalhaa
open Go.RowKit
/-- A slice of numbers that reads xs. -/
def Is (w : World) (v : Value) (xs : List Int) : Prop :=
  (v = .slice none 0 0 ∧ xs = []) ∨
  ∃ a c, v = .slice (some a) xs.length c ∧ xs.length ≤ c ∧ c ≤ maxLen ∧ ∀ j, j < xs.length → w.cell? (a.add j) = some (.int .i64 (xs.getD j 0))
theorem Is.keptN {w w' : World} {v : Value} {xs : List Int} (h : Is w v xs) (hc : Chg (fun _ => False) w w') : Is w' v xs := by
  rcases h with h | ⟨a, c, rfl, hl, hm, hcell⟩
  · exact .inl h
  · exact .inr ⟨a, c, rfl, hl, hm, fun j hj => hc.cell (hcell j hj) (fun h => h)⟩
theorem Is.formB {w : World} {v : Value} {xs : List Int} (h : Is w v xs) : ∃ a c, v = .slice a xs.length c ∧ xs.length ≤ c := by
  rcases h with ⟨rfl, rfl⟩ | ⟨a, c, rfl, hl, _⟩
  · exact ⟨none, 0, rfl, Nat.le_refl _⟩
  · exact ⟨some a, c, rfl, hl⟩
theorem Is.atB {w : World} {v : Value} {xs : List Int} (h : Is w v xs) {j : Nat} (hj : j < xs.length) : ∃ b off c, v = .slice (some ⟨b, off, none⟩) xs.length c ∧ w.cell? ⟨b, off + j, none⟩ = some (.int .i64 (xs.getD j 0)) := by
  rcases h with ⟨_, rfl⟩ | ⟨a, c, rfl, hl, hm, hcell⟩
  · simp at hj
  · obtain ⟨b, off, spot⟩ := a
    have h1 := hcell j hj
    have hs : spot = none := by simpa [Addr.add] using World.cell?_spot (hcell 0 (by omega))
    subst hs
    refine ⟨b, off, c, rfl, ?_⟩
    have e : (⟨b, off, none⟩ : Addr).add j = ⟨b, off + j, none⟩ := by unfold Addr.add; split <;> simp_all
    rw [← e]; exact h1
end Go.Proofs.Ytmlhjcjonfalhaa

/-
  first, named, Find of package dir.
-/
import Derived.Test.YtdcmkcplklkfmaaDoorDName
import Derived.Laws.EntriesVeiled
namespace Go.Proofs.YtdcmkcplklkfmaaDoor
open Go.RowKit

/-- The entry at j. -/
abbrev En.at (es : List En) (j : Nat) : En := es.getD j En.fr
/-- r is the place of the first slot with that name; -1: there is none. -/
def Idx (es : List En) (nm : ByteArray) (r : Int) : Prop :=
  (r = -1 ∧ ∀ j, j < es.length → ((En.at es j).nm.toList == nm.toList) = false) ∨
  ∃ k : Nat, r = (k : Int) ∧ k < es.length ∧ ((En.at es k).nm.toList == nm.toList) = true ∧ ∀ j, j < k → ((En.at es j).nm.toList == nm.toList) = false
theorem Idx.unique {es : List En} {nm : ByteArray} {r s : Int} (h : Idx es nm r) (k : Idx es nm s) : r = s := by
  rcases h with ⟨rfl, h⟩ | ⟨i, rfl, hi, h1, h2⟩
  · rcases k with ⟨rfl, _⟩ | ⟨j, rfl, hj, k1, _⟩
    · rfl
    · rw [h j hj] at k1; cases k1
  · rcases k with ⟨rfl, k⟩ | ⟨j, rfl, hj, k1, k2⟩
    · rw [k i hi] at h1; cases h1
    · rcases Nat.lt_trichotomy i j with e | e | e
      · rw [k2 i e] at h1; cases h1
      · rw [e]
      · rw [h2 j e] at k1; cases k1
theorem Idx.ex (es : List En) (nm : ByteArray) : ∃ r, Idx es nm r := by
  by_cases h : ∃ j, j < es.length ∧ ((En.at es j).nm.toList == nm.toList) = true
  · have : ∃ k, (k < es.length ∧ ((En.at es k).nm.toList == nm.toList) = true) ∧ ∀ j, j < k → ¬ (j < es.length ∧ ((En.at es j).nm.toList == nm.toList) = true) := by
      obtain ⟨j0, hj0⟩ := h
      induction j0 using Nat.strongRecOn with
      | _ j0 ih =>
        by_cases hx : ∃ i, i < j0 ∧ (i < es.length ∧ ((En.at es i).nm.toList == nm.toList) = true)
        · obtain ⟨i, hi, hx⟩ := hx
          exact ih i hi hx
        · exact ⟨j0, hj0, fun j hj hh => hx ⟨j, hj, hh⟩⟩
    obtain ⟨k, ⟨h1, h2⟩, h3⟩ := this
    refine ⟨k, .inr ⟨k, rfl, h1, h2, fun j hj => ?_⟩⟩
    have := h3 j hj
    cases e : ((En.at es j).nm.toList == nm.toList) with
    | false => rfl
    | true => exact absurd ⟨by omega, e⟩ this
  · refine ⟨-1, .inl ⟨rfl, fun j hj => ?_⟩⟩
    cases e : ((En.at es j).nm.toList == nm.toList) with
    | false => rfl
    | true => exact absurd ⟨j, hj, e⟩ h
/-- .. of a name that is none: -1. -/
def IdxN (es : List En) (nm : ByteArray) (r : Int) : Prop := (nm.size = 0 ∧ r = -1) ∨ (1 ≤ nm.size ∧ Idx es nm r)
theorem IdxN.unique {es : List En} {nm : ByteArray} {r s : Int} (h : IdxN es nm r) (k : IdxN es nm s) : r = s := by
  rcases h with ⟨h1, rfl⟩ | ⟨h1, h⟩
  · rcases k with ⟨_, rfl⟩ | ⟨k1, _⟩
    · rfl
    · omega
  · rcases k with ⟨k1, _⟩ | ⟨_, k⟩
    · omega
    · exact h.unique k
theorem IdxN.cases {es : List En} {nm : ByteArray} {r : Int} (h : IdxN es nm r) : r = -1 ∨ ∃ k : Nat, r = (k : Int) ∧ k < es.length ∧ ((En.at es k).nm.toList == nm.toList) = true := by
  rcases h with ⟨_, rfl⟩ | ⟨_, ⟨rfl, _⟩ | ⟨k, rfl, h1, h2, _⟩⟩
  · exact .inl rfl
  · exact .inl rfl
  · exact .inr ⟨k, rfl, h1, h2⟩

end Go.Proofs.YtdcmkcplklkfmaaDoor

/-
  Contracts of the reader of package codec: what NewReader, fail, take, number, U8, U16, U32, Fixed, Bytes and End answer and leave.
-/
import Derived.Test.YtdcmkcplklkfmaaDoorFixed
import Derived.BigQuiet
import Derived.Deep.QuietTactic
namespace Go.Proofs.YtdcmkcplklkfmaaDoor
open Go.RowKit

theorem add_add (a : Addr) (n j : Nat) : (a.add n).add j = a.add (n + j) := by
  unfold Addr.add
  by_cases h : n = 0
  · subst h; simp
  · by_cases k : j = 0
    · subst k; simp
    · have e : ¬ (n + j = 0) := by omega
      simp [h, k, Nat.add_assoc]
theorem add_block (a : Addr) (n : Nat) : (a.add n).block = a.block := by unfold Addr.add; split <;> rfl

/-- The rest of a slice of bytes. -/
theorem Bs.rest {w : World} {a : Option Addr} {c n : Nat} {xs : List Int} (h : Bs w (.slice a xs.length c) xs) (hn : n ≤ xs.length) (hc : ¬ c = n) : Bs w (.slice (Option.map (fun x => x.add n) a) (xs.length - n) (c - n)) (xs.drop n) := by
  rcases h with ⟨e, rfl⟩ | ⟨a, c', e, hl, hm, hcell⟩
  · cases e; simp at hn; omega
  · cases e
    have hlen : (xs.drop n).length = xs.length - n := by simp
    refine .inr ⟨a.add n, c - n, by rw [hlen]; rfl, by omega, by omega, fun j hj => ?_⟩
    rw [hlen] at hj
    rw [add_add, hcell (n + j) (by omega)]
    simp [List.getD, List.getElem?_drop]
theorem Bs.rest0 {w : World} {a : Option Addr} {n : Nat} {xs : List Int} (h : Bs w (.slice a xs.length n) xs) (hn : n ≤ xs.length) : Bs w (.slice a (xs.length - n) 0) (xs.drop n) := by
  rcases h with ⟨e, rfl⟩ | ⟨a, c', e, hl, hm, hcell⟩
  · cases e; exact .inl ⟨rfl, by simp⟩
  · cases e
    have hlen : (xs.drop n).length = xs.length - n := by simp
    refine .inr ⟨a, 0, by rw [hlen], by omega, by omega, fun j hj => ?_⟩
    omega

end Go.Proofs.YtdcmkcplklkfmaaDoor

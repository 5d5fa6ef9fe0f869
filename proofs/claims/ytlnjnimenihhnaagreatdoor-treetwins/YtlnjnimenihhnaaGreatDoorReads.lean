/-
  Contracts of the reader of package codec: what NewReader, fail, take, number, U8, U16, U32, Fixed, Bytes and End answer and leave.
-/
import Derived.Test.YtlnjnimenihhnaaGreatDoorFixed
import Derived.BigQuiet
import Derived.Deep.QuietTactic
namespace Go.Proofs.YtlnjnimenihhnaaGreatDoor
open Go.RowKit

theorem add_add (a : Addr) (n j : Nat) : (a.add n).add j = a.add (n + j) := by
  unfold Addr.add
  by_cases h : n = 0
  · subst h; simp
  · by_cases k : j = 0
    · subst k; simp
    · have e : ¬ (n + j = 0) := by omega
      simp [h, k, Nat.add_assoc]
/-- The rest of a slice of bytes. -/
theorem Bs.rest {w : World} {a : Option Addr} {c n : Nat} {xs : List Int} (h : Bs w (.slice a xs.length c) xs) (hn : n ≤ xs.length) (hc : ¬ c = n) : Bs w (.slice (Option.map (fun x => x.add n) a) (xs.length - n) (c - n)) (xs.drop n) := by
  rcases h with ⟨e, rfl⟩ | ⟨a, c', e, hl, hm, hcell⟩
  · cases e; simp at hn; omega
  · cases e
    have hlen : (xs.drop n).length = xs.length - n := by simp
    refine .inr ⟨a.add n, c - n, by rw [hlen]; rfl, by omega, by omega, fun j hj => ?_⟩
    rw [hlen] at hj
    rw [add_add, hcell (n + j) (by omega)]
    simp [List.getD, List.getElem?_drop]
end Go.Proofs.YtlnjnimenihhnaaGreatDoor

namespace Go.Proofs.YtlnjnimenihhnaaGreatDoor
open Go.RowKit

/-- Each is a byte. -/
def IsB (xs : List Int) : Prop := ∀ x ∈ xs, 0 ≤ x ∧ x < 256
theorem IsB.take {xs : List Int} (h : IsB xs) (n : Nat) : IsB (xs.take n) := fun x hx => h x (List.mem_of_mem_take hx)
theorem IsB.drop {xs : List Int} (h : IsB xs) (n : Nat) : IsB (xs.drop n) := fun x hx => h x (List.mem_of_mem_drop hx)
theorem IsB.at {xs : List Int} (h : IsB xs) {k : Nat} (hk : k < xs.length) : 0 ≤ xs.getD k 0 ∧ xs.getD k 0 < 256 := by
  have : xs.getD k 0 ∈ xs := by simp [List.getD, hk]
  exact h _ this

/-- The number whose bytes are xs, the lowest first. -/
def valB : List Int → Int
  | [] => 0
  | x :: r => x + 256 * valB r
/-- A slice of bytes that is not empty: where it lies. -/
theorem Bs.atC {w : World} {a : Option Addr} {c n k : Nat} {xs : List Int} (h : Bs w (.slice a n c) xs) (hk : k < xs.length) : ∃ b off, a = some ⟨b, off, none⟩ ∧ ∀ j, j < xs.length → w.cell? ⟨b, off + j, none⟩ = some (.int .u8 (xs.getD j 0)) := by
  rcases h with ⟨e, rfl⟩ | ⟨x, c', e, hl, hm, hcell⟩
  · simp at hk
  · cases e
    obtain ⟨b, off, spot⟩ := x
    have h0 := hcell 0 (by omega)
    have hspot : spot = none := by simpa [Addr.add] using World.cell?_spot h0
    subst hspot
    refine ⟨b, off, rfl, fun j hj => ?_⟩
    have := hcell j hj
    unfold Addr.add at this
    split at this
    · rename_i e; subst e; simpa using this
    · exact this

end Go.Proofs.YtlnjnimenihhnaaGreatDoor

namespace Go.Proofs.YtlnjnimenihhnaaGreatDoor
open Go.RowKit

/-- What a reader holds: the bytes that are left, and the fault. -/
structure RS where
  xs : List Int
  f : Int
def failS (s : RS) (e : Int) : RS := if s.f = 0 then ⟨[], e⟩ else s
def tkS (s : RS) (n : Int) : RS := if s.f = 0 then (if (s.xs.length : Int) < n then ⟨[], 2⟩ else ⟨s.xs.drop n.toNat, 0⟩) else s
def tkV (s : RS) (n : Int) : List Int := if s.f = 0 then (if (s.xs.length : Int) < n then [] else s.xs.take n.toNat) else []
def fxI (s : RS) (n : Int) : RS := if n < 0 then failS s 1 else s
def bsI (s : RS) (most : Int) : RS := if most < valB (tkV s 4) then failS (tkS s 4) 5 else tkS s 4
def endV (s : RS) : Int := if s.f = 0 ∧ s.xs ≠ [] then 3 else s.f

theorem IsB.tkV {s : RS} (h : IsB s.xs) (n : Int) : IsB (tkV s n) := by
  unfold Go.Proofs.YtlnjnimenihhnaaGreatDoor.tkV; split
  · split
    · intro x hx; cases hx
    · exact h.take _
  · intro x hx; cases hx
theorem IsB.tkS {s : RS} (h : IsB s.xs) (n : Int) : IsB (tkS s n).xs := by
  unfold Go.Proofs.YtlnjnimenihhnaaGreatDoor.tkS; split
  · split
    · intro x hx; cases hx
    · exact h.drop _
  · exact h
theorem IsB.failS {s : RS} (h : IsB s.xs) (e : Int) : IsB (failS s e).xs := by
  unfold Go.Proofs.YtlnjnimenihhnaaGreatDoor.failS; split
  · intro x hx; cases hx
  · exact h
theorem IsB.fxI {s : RS} (h : IsB s.xs) (n : Int) : IsB (fxI s n).xs := by
  unfold Go.Proofs.YtlnjnimenihhnaaGreatDoor.fxI; split
  · exact h.failS 1
  · exact h
theorem IsB.bsI {s : RS} (h : IsB s.xs) (n : Int) : IsB (bsI s n).xs := by
  unfold Go.Proofs.YtlnjnimenihhnaaGreatDoor.bsI; split
  · exact (h.tkS 4).failS 5
  · exact h.tkS 4

end Go.Proofs.YtlnjnimenihhnaaGreatDoor

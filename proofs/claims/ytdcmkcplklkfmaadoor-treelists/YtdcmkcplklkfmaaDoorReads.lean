/-
  Contracts of the reader's own calls: NewReader, U8, U16, U32, Fixed, Bytes and End of package codec, over a state that is bytes and a fault.
-/
import Derived.Test.YtdcmkcplklkfmaaDoorNumber
namespace Go.Proofs.YtdcmkcplklkfmaaDoor
open Go.RowKit

/-- What a reader holds: the bytes that are left, and the fault. -/
structure RS where
  xs : List Int
  f : Int
def failS (s : RS) (e : Int) : RS := if s.f = 0 then ⟨[], e⟩ else s
def tkS (s : RS) (n : Int) : RS := if s.f = 0 then (if (s.xs.length : Int) < n then ⟨[], 2⟩ else ⟨s.xs.drop n.toNat, 0⟩) else s
def tkV (s : RS) (n : Int) : List Int := if s.f = 0 then (if (s.xs.length : Int) < n then [] else s.xs.take n.toNat) else []
def fxI (s : RS) (n : Int) : RS := if n < 0 then failS s 1 else s
def bsI (s : RS) (most : Int) : RS := if most < valB (tkV s 4) then failS (tkS s 4) 5 else tkS s 4
def endV (s : RS) : Int := if s.f = 0 ∧ s.xs ≠ [] then 3 else s.f

theorem tkV_len (s : RS) (n : Int) (hn : 0 ≤ n) : ((tkV s n).length : Int) ≤ n := by
  unfold tkV; split
  · split
    · simpa using hn
    · simp; omega
  · simpa using hn
theorem tkV_le (s : RS) (n : Int) : (tkV s n).length ≤ s.xs.length := by
  unfold tkV; split
  · split
    · simp
    · simp; omega
  · simp
theorem tkS_le (s : RS) (n : Int) : (tkS s n).xs.length ≤ s.xs.length := by
  unfold tkS; split
  · split <;> simp
  · simp
theorem failS_le (s : RS) (e : Int) : (failS s e).xs.length ≤ s.xs.length := by
  unfold failS; split <;> simp
theorem IsB.tkV {s : RS} (h : IsB s.xs) (n : Int) : IsB (tkV s n) := by
  unfold Go.Proofs.YtdcmkcplklkfmaaDoor.tkV; split
  · split
    · intro x hx; cases hx
    · exact h.take _
  · intro x hx; cases hx
theorem IsB.tkS {s : RS} (h : IsB s.xs) (n : Int) : IsB (tkS s n).xs := by
  unfold Go.Proofs.YtdcmkcplklkfmaaDoor.tkS; split
  · split
    · intro x hx; cases hx
    · exact h.drop _
  · exact h
theorem IsB.failS {s : RS} (h : IsB s.xs) (e : Int) : IsB (failS s e).xs := by
  unfold Go.Proofs.YtdcmkcplklkfmaaDoor.failS; split
  · intro x hx; cases hx
  · exact h
theorem IsB.fxI {s : RS} (h : IsB s.xs) (n : Int) : IsB (fxI s n).xs := by
  unfold Go.Proofs.YtdcmkcplklkfmaaDoor.fxI; split
  · exact h.failS 1
  · exact h
theorem IsB.bsI {s : RS} (h : IsB s.xs) (n : Int) : IsB (bsI s n).xs := by
  unfold Go.Proofs.YtdcmkcplklkfmaaDoor.bsI; split
  · exact (h.tkS 4).failS 5
  · exact h.tkS 4

end Go.Proofs.YtdcmkcplklkfmaaDoor

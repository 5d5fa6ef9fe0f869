/-
  A slice of asks as it comes in.
-/
import Derived.Test.YtdninfmmikaimaaDoorFrame
import Derived.Test.YtdninfmmikaimaaDoorLawFaults
import Derived.Deep.SlicePairs
namespace Go.Proofs.YtdninfmmikaimaaDoor
open Go.ChangeShapes Go.WideShapes Go.ChangeAt Go.RowKit

/-- A slice of asks as it comes in. -/
theorem asksIn {H : Type} {enc : TypeId × Value → H} {W : World} {a0 : Option Addr} {len0 cap0 : Nat} {d : DataW H} {p : List MemPlace} (h : DataW.Trod enc Tryd.prog W 0 (fun _ => true) true 38 (.slice a0 len0 cap0) d p) :
    ∃ l : List (Int × Int), Asks W (.slice a0 len0 cap0) l := by
  obtain ⟨fuel, hf⟩ := h
  rcases Deep.open_slice_pairs Tryd.underlying38 Tryd.underlying45 (by kernel_rfl) rfl rfl (by kernel_rfl) (by kernel_rfl) hf with ⟨hcs, _⟩ | ⟨a, len, cap, m, n, V0, V1, D0, D1, P0, P1, hcs, _, hl, hm, hmm, _, hx⟩
  · simp [Value.cells] at hcs
    obtain ⟨rfl, rfl, rfl⟩ := hcs
    exact ⟨[], .inl ⟨⟨_, _, rfl⟩, rfl⟩⟩
  · simp [Value.cells] at hcs
    obtain ⟨rfl, rfl, rfl⟩ := hcs
    have hm' : m = cap0 := by simpa using hmm
    by_cases h0 : len0 = 0
    · subst h0
      exact ⟨[], .inl ⟨⟨_, _, rfl⟩, rfl⟩⟩
    obtain ⟨b, off, spot⟩ := a
    have c0 := (hx 0 (by omega)).1
    have hspot : spot = none := by simpa [Addr.add] using World.cell?_spot c0
    subst hspot
    refine ⟨(List.range len0).map fun i => (intOf (V0 i), intOf (V1 i)), .inr ⟨b, off, cap0, by simp, fun j hj => ?_⟩⟩
    have hj' : j < len0 := by simpa using hj
    obtain ⟨g0, g1, t0, t1⟩ := hx j (by omega)
    obtain ⟨n0, e0, _, _⟩ := DataW.trod_int Tryd.underlying3 t0
    obtain ⟨n1, e1, _, _⟩ := DataW.trod_int Tryd.underlying3 t1
    simp at e0 e1
    have ad : ∀ k, (⟨b, off, none⟩ : Addr).add k = ⟨b, off + k, none⟩ := by intro k; unfold Addr.add; split <;> simp_all
    rw [ad] at g0 g1
    rw [← Nat.add_assoc] at g1
    rw [g0, g1, e0, e1]
    simp [List.getD, hj', e0, e1, intOf]

end Go.Proofs.YtdninfmmikaimaaDoor

/-
  What the rows of this seat share: a row of texts as it comes in.
-/
import Derived.Test.YtfbildadidfolaaRows
import Derived.Test.YtfbildadidfolaaLFrame
import Derived.Test.YtfbildadidfolaaLBack
import Derived.ProofKit
import Derived.OpenShut
import Derived.ShutString
import Derived.ChangeOld
import Derived.Deep.DeepHandedRow
import Derived.LaidLaws
import Derived.ChangeMaps5
import Derived.Deep.Strs
namespace Go.Proofs.Ytfbildadidfolaa
open Go.ChangeShapes Go.WideShapes Go.ChangeAt Go.RowKit

/-- A row of texts as it comes in. -/
theorem strsIn {H : Type} {enc : TypeId × Value → H} {W : World} {a0 : Option Addr} {len0 cap0 : Nat} {d : DataW H} {p : List MemPlace} (h : DataW.Trod enc Try.prog W 0 (fun _ => true) true 49 (.slice a0 len0 cap0) d p) :
    ∃ ss : List ByteArray, Tx W (.slice a0 len0 cap0) ss := by
  obtain ⟨fuel, hf⟩ := h
  rcases Deep.open_strs Try.underlying49 Try.underlying9 (by kernel_rfl) hf with ⟨hcs, _⟩ | ⟨a, len, cap, m, Sx, hcs, _, hl, hm, hmm, _, hx⟩
  · simp [Value.cells] at hcs
    obtain ⟨rfl, rfl, rfl⟩ := hcs
    exact ⟨[], Tx.nil _⟩
  · simp [Value.cells] at hcs
    obtain ⟨rfl, rfl, rfl⟩ := hcs
    have hm' : m = cap0 := by simpa using hmm
    obtain ⟨b, off, spot⟩ := a
    refine ⟨(List.range len0).map Sx, some ⟨b, off, spot⟩, cap0, by simp, by simpa using hl, hm, (fun h => by cases h), fun h0 => ?_⟩
    have h0' : 0 < len0 := by simpa using h0
    have hspot : spot = none := by simpa [Addr.add] using World.cell?_spot (hx 0 (by omega)).1
    subst hspot
    have ad : ∀ k, (⟨b, off, none⟩ : Addr).add k = ⟨b, off + k, none⟩ := by intro k; unfold Addr.add; split <;> simp_all
    refine ⟨b, off, rfl, fun j hj => ?_⟩
    have hj' : j < len0 := by simpa using hj
    rw [← ad, (hx j (by omega)).1]
    simp [List.getD, hj']
end Go.Proofs.Ytfbildadidfolaa

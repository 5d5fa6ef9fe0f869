/-
  A slice of slices of numbers as it comes in.
-/
import Derived.Test.YtkkmdmnjlncgfabFrame2
import Derived.Test.YtkkmdmnjlncgfabLists
import Derived.Deep.SlicePairs
namespace Go.Proofs.Ytkkmdmnjlncgfab
open Go.ChangeShapes Go.WideShapes Go.ChangeAt Go.RowKit

theorem intsCells {H : Type} {enc : TypeId × Value → H} {W : World} {fuel : Nat} {v : Value} {x : DataW H × List MemPlace} (h : DataW.trod enc Try.prog W 0 (fun _ => true) true fuel 22 [v] = some x) : ∃ bs : List Int, Is W v bs := by
  rcases open_ints Try.underlying22 Try.underlying3 (by kernel_rfl) h with ⟨hcs, _⟩ | ⟨y, l, c, zs, hcs, _, hl, hm, hz, _, hcell, hwz⟩
  · simp at hcs
    exact ⟨[], .inl ⟨hcs, rfl⟩⟩
  · simp at hcs
    subst hcs
    have hz' : zs.length = c := by simpa using hz
    have hlen : (zs.take l).length = l := by simp; omega
    refine ⟨zs.take l, .inr ⟨y, c, by rw [hlen], by omega, hm, fun j hj => ?_⟩⟩
    rw [hlen] at hj
    rw [hcell j (by omega)]
    simp [List.getD, hj]
set_option maxRecDepth 100000 in
theorem intssIn {H : Type} {enc : TypeId × Value → H} {W : World} {a0 : Option Addr} {len0 cap0 : Nat} {d : DataW H} {p : List MemPlace} (h : DataW.Trod enc Try.prog W 0 (fun _ => true) true 24 (.slice a0 len0 cap0) d p) :
    ∃ l : List (List Int), Iss W (.slice a0 len0 cap0) l := by
  obtain ⟨fuel, hf⟩ := h
  rcases Deep.open_slice Try.underlying24 hf with ⟨hcs, _⟩ | ⟨a, len, cap, m, n, D, Pl, hcs, _, hl, hm, hmm, _, hx⟩
  · simp [Value.cells] at hcs
    obtain ⟨rfl, rfl, rfl⟩ := hcs
    exact ⟨[], none, 0, rfl, fun j hj => by simp at hj⟩
  · simp [Value.cells] at hcs
    obtain ⟨rfl, rfl, rfl⟩ := hcs
    have hm' : m = cap0 := by simpa using hmm
    have c33 : Try.prog.cellsOf 22 = 1 := by kernel_rfl
    have each : ∀ i, i < len0 → ∃ q : Value × List Int, W.cell? (a.add i) = some q.1 ∧ Is W q.1 q.2 := by
      intro i hi
      obtain ⟨cs', h1, h2⟩ := hx i (by omega)
      rw [c33] at h1
      obtain ⟨_, hlen, hcell⟩ := World.cells?_some h1
      match cs', hlen with
      | [v0], _ =>
        have e0 := hcell 0 (by omega)
        rw [Deep.add_add] at e0
        obtain ⟨ps, hp⟩ := intsCells h2
        exact ⟨⟨v0, ps⟩, by simpa using e0, hp⟩
    haveI : Inhabited (Value × List Int) := ⟨⟨.slice none 0 0, []⟩⟩
    obtain ⟨q, hq⟩ := Deep.choose_lt each
    have hll : ((List.range len0).map fun i => (q i).2).length = len0 := by simp
    refine ⟨(List.range len0).map fun i => (q i).2, some a, cap0, by rw [hll], fun j hj => ?_⟩
    rw [hll] at hj
    obtain ⟨h1, h2⟩ := hq j hj
    obtain ⟨b, off, spot⟩ := a
    have h0 := (hq 0 (by omega)).1
    have hspot : spot = none := by simpa [Addr.add] using World.cell?_spot h0
    subst hspot
    refine ⟨b, off, (q j).1, rfl, ?_, ?_⟩
    · unfold Addr.add at h1
      split at h1
      · rename_i e; subst e; simpa using h1
      · exact h1
    · have : ((List.range len0).map fun i => (q i).2).getD j [] = (q j).2 := by simp [List.getD, hj]
      rw [this]; exact h2
end Go.Proofs.Ytkkmdmnjlncgfab

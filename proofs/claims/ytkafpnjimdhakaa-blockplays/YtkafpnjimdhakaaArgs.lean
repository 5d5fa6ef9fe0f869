/-
  Slices of numbers and slices of slices of bytes as they come in.
-/
import Derived.Test.YtkafpnjimdhakaaFrame
import Derived.Test.YtkafpnjimdhakaaLawArms
import Derived.Deep.SlicePairs
namespace Go.Proofs.Ytkafpnjimdhakaa
open Go.ChangeShapes Go.WideShapes Go.ChangeAt Go.RowKit

theorem bytesCells {H : Type} {enc : TypeId × Value → H} {W : World} {fuel : Nat} {v : Value} {x : DataW H × List MemPlace} (h : DataW.trod enc Try.prog W 0 (fun _ => true) true fuel 32 [v] = some x) : ∃ bs : List Int, Bs W v bs := by
  rcases open_ints Try.underlying32 Try.underlying5 (by kernel_rfl) h with ⟨hcs, _⟩ | ⟨y, l, c, zs, hcs, _, hl, hm, hz, _, hcell, hwz⟩
  · simp at hcs
    exact ⟨[], .inl ⟨hcs, rfl⟩⟩
  · simp at hcs
    subst hcs
    have hz' : zs.length = c := by simpa using hz
    have hlen : (zs.take l).length = l := by simp; omega
    refine ⟨zs.take l, .inr ⟨y, c, by rw [hlen], by omega, hm, fun j hj => ?_⟩⟩
    rw [hlen] at hj
    rw [hcell j (by omega)]
    simp [List.getD, hj]

theorem intsCells {H : Type} {enc : TypeId × Value → H} {W : World} {fuel : Nat} {v : Value} {x : DataW H × List MemPlace} (h : DataW.trod enc Try.prog W 0 (fun _ => true) true fuel 33 [v] = some x) : ∃ bs : List Int, Is W v bs := by
  rcases open_ints Try.underlying33 Try.underlying3 (by kernel_rfl) h with ⟨hcs, _⟩ | ⟨y, l, c, zs, hcs, _, hl, hm, hz, _, hcell, hwz⟩
  · simp at hcs
    exact ⟨[], .inl ⟨hcs, rfl⟩⟩
  · simp at hcs
    subst hcs
    have hz' : zs.length = c := by simpa using hz
    have hlen : (zs.take l).length = l := by simp; omega
    refine ⟨zs.take l, .inr ⟨y, c, by rw [hlen], by omega, hm, fun j hj => ?_⟩⟩
    rw [hlen] at hj
    rw [hcell j (by omega)]
    simp [List.getD, hj]
theorem intsIn {H : Type} {enc : TypeId × Value → H} {W : World} {a0 : Option Addr} {len0 cap0 : Nat} {d : DataW H} {p : List MemPlace} (h : DataW.Trod enc Try.prog W 0 (fun _ => true) true 33 (.slice a0 len0 cap0) d p) :
    ∃ bs : List Int, Is W (.slice a0 len0 cap0) bs := by
  obtain ⟨fuel, hf⟩ := h
  exact intsCells (v := .slice a0 len0 cap0) hf

theorem bssIn {H : Type} {enc : TypeId × Value → H} {W : World} {a0 : Option Addr} {len0 cap0 : Nat} {d : DataW H} {p : List MemPlace} (h : DataW.Trod enc Try.prog W 0 (fun _ => true) true 55 (.slice a0 len0 cap0) d p) :
    ∃ l : List (Value × List Int), Bss W (.slice a0 len0 cap0) l := by
  obtain ⟨fuel, hf⟩ := h
  rcases Deep.open_slice Try.underlying55 hf with ⟨hcs, _⟩ | ⟨a, len, cap, m, n, D, Pl, hcs, _, hl, hm, hmm, _, hx⟩
  · simp [Value.cells] at hcs
    obtain ⟨rfl, rfl, rfl⟩ := hcs
    exact ⟨[], .inl ⟨⟨_, _, rfl⟩, rfl⟩⟩
  · simp [Value.cells] at hcs
    obtain ⟨rfl, rfl, rfl⟩ := hcs
    have hm' : m = cap0 := by simpa using hmm
    have c32 : Try.prog.cellsOf 32 = 1 := by kernel_rfl
    by_cases h0 : len0 = 0
    · subst h0
      exact ⟨[], .inl ⟨⟨_, _, rfl⟩, rfl⟩⟩
    have each : ∀ i, i < len0 → ∃ q : Value × List Int, W.cell? (a.add (i * 1)) = some q.1 ∧ Bs W q.1 q.2 := by
      intro i hi
      obtain ⟨cs', h1, h2⟩ := hx i (by omega)
      rw [c32] at h1
      obtain ⟨_, hlen, hcell⟩ := World.cells?_some h1
      match cs', hlen with
      | [v0], _ =>
        have e0 := hcell 0 (by omega)
        rw [Deep.add_add] at e0
        obtain ⟨bs, hb⟩ := bytesCells h2
        exact ⟨⟨v0, bs⟩, by simpa using e0, hb⟩
    haveI : Inhabited (Value × List Int) := ⟨(.slice none 0 0, [])⟩
    obtain ⟨q, hq⟩ := Deep.choose_lt each
    obtain ⟨b, off, spot⟩ := a
    have hspot : spot = none := by simpa [Addr.add] using World.cell?_spot (hq 0 (by omega)).1
    subst hspot
    have ad : ∀ k, (⟨b, off, none⟩ : Addr).add k = ⟨b, off + k, none⟩ := by intro k; unfold Addr.add; split <;> simp_all
    refine ⟨(List.range len0).map q, .inr ⟨b, off, cap0, by simp, fun j d hd => ?_⟩⟩
    have hj : j < len0 := by have := (List.getElem?_eq_some_iff.1 hd).1; simpa using this
    have hdq : d = q j := by simp [hj] at hd; exact hd.symm
    subst hdq
    have h1 := hq j hj
    rw [ad, Nat.mul_one] at h1
    exact h1
end Go.Proofs.Ytkafpnjimdhakaa

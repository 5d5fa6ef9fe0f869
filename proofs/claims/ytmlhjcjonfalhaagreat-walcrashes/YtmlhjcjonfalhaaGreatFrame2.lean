/-
  A slice of bytes as it comes in: each is a byte.
-/
import Derived.Test.YtmlhjcjonfalhaaGreatFrame
import Derived.Test.YtmlhjcjonfalhaaGreatReader
namespace Go.Proofs.YtmlhjcjonfalhaaGreat
open Go.ChangeShapes Go.WideShapes Go.ChangeAt Go.RowKit

theorem bytesInB {H : Type} {enc : TypeId × Value → H} {W : World} {a0 : Option Addr} {len0 cap0 : Nat} {d : DataW H} {p : List MemPlace} (h : DataW.Trod enc Tryz.prog W 0 (fun _ => true) true 50 (.slice a0 len0 cap0) d p) :
    ∃ bs : List Int, Bs W (.slice a0 len0 cap0) bs ∧ IsB bs := by
  obtain ⟨fuel, hf⟩ := h
  rcases open_ints Tryz.underlying50 Tryz.underlying5 (by kernel_rfl) hf with ⟨hcs, _⟩ | ⟨x, l, c, zs, hcs, _, hl, hm, hz, _, hcell, hwz⟩
  · simp [Value.cells] at hcs
    obtain ⟨rfl, rfl, rfl⟩ := hcs
    exact ⟨[], .inl ⟨rfl, rfl⟩, fun x hx => by cases hx⟩
  · simp [Value.cells] at hcs
    obtain ⟨rfl, rfl, rfl⟩ := hcs
    have hz' : zs.length = cap0 := by simpa using hz
    have hlen : (zs.take len0).length = len0 := by simp; omega
    refine ⟨zs.take len0, .inr ⟨x, cap0, by rw [hlen], by omega, hm, fun j hj => ?_⟩, fun y hy => ?_⟩
    · rw [hlen] at hj
      rw [hcell j (by omega)]
      simp [List.getD, hj]
    · have := bounds_u8 (hwz y (List.mem_of_mem_take hy))
      omega
end Go.Proofs.YtmlhjcjonfalhaaGreat

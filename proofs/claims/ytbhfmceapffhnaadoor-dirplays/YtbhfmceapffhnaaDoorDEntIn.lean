/-
  An entry as it comes in.
-/
import Derived.Test.YtbhfmceapffhnaaDoorKFrame
import Derived.Test.YtbhfmceapffhnaaDoorDMem
namespace Go.Proofs.YtbhfmceapffhnaaDoor
open Go.ChangeShapes Go.WideShapes Go.ChangeAt Go.RowKit

theorem list2 {α : Type} (l : List α) (h : (⟨l⟩ : Array α).size = 2) : ∃ a0 a1, l = [a0, a1] := by
  match l, h with
  | [a0, a1], _ => exact ⟨a0, a1, rfl⟩
theorem strIn {H : Type} {enc : TypeId × Value → H} {W : World} {fuel : Nat} {c : Value} {x : DataW H × List MemPlace} (h : DataW.trod enc Tryd.prog W 0 (fun _ => true) true fuel 9 [c] = some x) : ∃ s : ByteArray, c = .string s ∧ s.size ≤ maxLen := by
  obtain ⟨s, e, _, hs⟩ := DataW.trod_string Tryd.underlying9 h
  simp at e
  exact ⟨s, e, hs⟩
set_option maxRecDepth 100000 in
theorem nodeIn {H : Type} {enc : TypeId × Value → H} {W : World} {cs : Array Value} {d : DataW H} {p : List MemPlace} (hs : cs.size = Tryd.prog.cellsOf 57) (h : DataW.Trod enc Tryd.prog W 0 (fun _ => true) true 57 (.agg cs) d p) :
    ∃ n : En, Value.agg cs = n.v := by
  obtain ⟨fuel, hf⟩ := h
  have cN : Tryd.prog.cellsOf 57 = 2 := by kernel_rfl
  have c9 : Tryd.prog.cellsOf 9 = 1 := by kernel_rfl
  have c3 : Tryd.prog.cellsOf 3 = 1 := by kernel_rfl
  rw [cN] at hs
  obtain ⟨xs, k, hk, hxy, _, hxl, hfd⟩ := DataW.trod_struct Tryd.underlying57 hf
  obtain ⟨L⟩ := cs
  obtain ⟨a0, a1, rfl⟩ := list2 L hs
  match xs, hxl with
    | [y0, y1], _ =>
      have g0 := hfd 0 _ rfl
      have g1 := hfd 1 _ rfl
      simp [c3, c9, Value.cells] at g0 g1
      obtain ⟨s, rfl, _⟩ := strIn g0
      obtain ⟨n1, f1, _, _⟩ := DataW.trod_int Tryd.underlying3 g1
      simp at f1
      subst f1
      exact ⟨⟨s, n1⟩, rfl⟩
end Go.Proofs.YtbhfmceapffhnaaDoor

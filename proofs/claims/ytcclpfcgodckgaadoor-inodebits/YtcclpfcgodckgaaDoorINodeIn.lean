/-
  A node as it comes in.
-/
import Derived.Test.YtcclpfcgodckgaaDoorKFrame
import Derived.Test.YtcclpfcgodckgaaDoorIPure
namespace Go.Proofs.YtcclpfcgodckgaaDoor
open Go.ChangeShapes Go.WideShapes Go.ChangeAt Go.RowKit

theorem list13 {α : Type} (l : List α) (h : (⟨l⟩ : Array α).size = 13) : ∃ a0 a1 a2 a3 a4 a5 a6 a7 a8 a9 a10 a11 a12, l = [a0, a1, a2, a3, a4, a5, a6, a7, a8, a9, a10, a11, a12] := by
  match l, h with
  | [a0, a1, a2, a3, a4, a5, a6, a7, a8, a9, a10, a11, a12], _ => exact ⟨a0, a1, a2, a3, a4, a5, a6, a7, a8, a9, a10, a11, a12, rfl⟩
set_option maxRecDepth 100000 in
/-- Eight numbers in an array. -/
theorem arr8In {H : Type} {enc : TypeId × Value → H} {W : World} {fuel : Nat} {c0 c1 c2 c3 c4 c5 c6 c7 : Value} {x : DataW H × List MemPlace} (h : DataW.trod enc Tryd.prog W 0 (fun _ => true) true fuel 22 [c0, c1, c2, c3, c4, c5, c6, c7] = some x) :
    ∃ d0 d1 d2 d3 d4 d5 d6 d7 : Int, c0 = .int .i64 d0 ∧ c1 = .int .i64 d1 ∧ c2 = .int .i64 d2 ∧ c3 = .int .i64 d3 ∧ c4 = .int .i64 d4 ∧ c5 = .int .i64 d5 ∧ c6 = .int .i64 d6 ∧ c7 = .int .i64 d7 := by
  have hce : Tryd.prog.cellsOf 3 = 1 := by kernel_rfl
  cases fuel with
  | zero => simp [DataW.trod] at h
  | succ n =>
    unfold DataW.trod at h
    rw [Tryd.underlying22] at h
    have r8 : List.range 8 = [0, 1, 2, 3, 4, 5, 6, 7] := rfl
    have one : ∀ c : Value, (∃ y, DataW.trod enc Tryd.prog W 0 (fun _ => true) true n 3 [c] = some y) → ∃ d : Int, c = .int .i64 d := by
      rintro c ⟨y, hy⟩
      obtain ⟨d, e, _, _⟩ := DataW.trod_int Tryd.underlying3 hy
      simp at e
      exact ⟨d, e⟩
    simp [r8, hce] at h
    obtain ⟨_, h⟩ := h
    obtain ⟨y0, hy0⟩ : ∃ y, DataW.trod enc Tryd.prog W 0 (fun _ => true) true n 3 [c0] = some y := by
      cases hc : DataW.trod enc Tryd.prog W 0 (fun _ => true) true n 3 [c0] with
      | none => simp [hc] at h
      | some y => exact ⟨y, rfl⟩
    obtain ⟨y1, hy1⟩ : ∃ y, DataW.trod enc Tryd.prog W 0 (fun _ => true) true n 3 [c1] = some y := by
      cases hc : DataW.trod enc Tryd.prog W 0 (fun _ => true) true n 3 [c1] with
      | none => simp [hy0, hc] at h
      | some y => exact ⟨y, rfl⟩
    obtain ⟨y2, hy2⟩ : ∃ y, DataW.trod enc Tryd.prog W 0 (fun _ => true) true n 3 [c2] = some y := by
      cases hc : DataW.trod enc Tryd.prog W 0 (fun _ => true) true n 3 [c2] with
      | none => simp [hy0, hy1, hc] at h
      | some y => exact ⟨y, rfl⟩
    obtain ⟨y3, hy3⟩ : ∃ y, DataW.trod enc Tryd.prog W 0 (fun _ => true) true n 3 [c3] = some y := by
      cases hc : DataW.trod enc Tryd.prog W 0 (fun _ => true) true n 3 [c3] with
      | none => simp [hy0, hy1, hy2, hc] at h
      | some y => exact ⟨y, rfl⟩
    obtain ⟨y4, hy4⟩ : ∃ y, DataW.trod enc Tryd.prog W 0 (fun _ => true) true n 3 [c4] = some y := by
      cases hc : DataW.trod enc Tryd.prog W 0 (fun _ => true) true n 3 [c4] with
      | none => simp [hy0, hy1, hy2, hy3, hc] at h
      | some y => exact ⟨y, rfl⟩
    obtain ⟨y5, hy5⟩ : ∃ y, DataW.trod enc Tryd.prog W 0 (fun _ => true) true n 3 [c5] = some y := by
      cases hc : DataW.trod enc Tryd.prog W 0 (fun _ => true) true n 3 [c5] with
      | none => simp [hy0, hy1, hy2, hy3, hy4, hc] at h
      | some y => exact ⟨y, rfl⟩
    obtain ⟨y6, hy6⟩ : ∃ y, DataW.trod enc Tryd.prog W 0 (fun _ => true) true n 3 [c6] = some y := by
      cases hc : DataW.trod enc Tryd.prog W 0 (fun _ => true) true n 3 [c6] with
      | none => simp [hy0, hy1, hy2, hy3, hy4, hy5, hc] at h
      | some y => exact ⟨y, rfl⟩
    obtain ⟨y7, hy7⟩ : ∃ y, DataW.trod enc Tryd.prog W 0 (fun _ => true) true n 3 [c7] = some y := by
      cases hc : DataW.trod enc Tryd.prog W 0 (fun _ => true) true n 3 [c7] with
      | none => simp [hy0, hy1, hy2, hy3, hy4, hy5, hy6, hc] at h
      | some y => exact ⟨y, rfl⟩
    obtain ⟨d0, e0⟩ := one c0 ⟨y0, hy0⟩
    obtain ⟨d1, e1⟩ := one c1 ⟨y1, hy1⟩
    obtain ⟨d2, e2⟩ := one c2 ⟨y2, hy2⟩
    obtain ⟨d3, e3⟩ := one c3 ⟨y3, hy3⟩
    obtain ⟨d4, e4⟩ := one c4 ⟨y4, hy4⟩
    obtain ⟨d5, e5⟩ := one c5 ⟨y5, hy5⟩
    obtain ⟨d6, e6⟩ := one c6 ⟨y6, hy6⟩
    obtain ⟨d7, e7⟩ := one c7 ⟨y7, hy7⟩
    exact ⟨d0, d1, d2, d3, d4, d5, d6, d7, e0, e1, e2, e3, e4, e5, e6, e7⟩
set_option maxRecDepth 100000 in
/-- A node. -/
theorem nodeIn {H : Type} {enc : TypeId × Value → H} {W : World} {cs : Array Value} {d : DataW H} {p : List MemPlace} (hs : cs.size = Tryd.prog.cellsOf 24) (h : DataW.Trod enc Tryd.prog W 0 (fun _ => true) true 24 (.agg cs) d p) :
    ∃ n : Nd, Value.agg cs = n.v := by
  obtain ⟨fuel, hf⟩ := h
  have cN : Tryd.prog.cellsOf 24 = 13 := by kernel_rfl
  have c8 : Tryd.prog.cellsOf 22 = 8 := by kernel_rfl
  have c3 : Tryd.prog.cellsOf 3 = 1 := by kernel_rfl
  rw [cN] at hs
  obtain ⟨xs, k, hk, hxy, _, hxl, hfd⟩ := DataW.trod_struct Tryd.underlying24 hf
  obtain ⟨L⟩ := cs
  obtain ⟨a0, a1, a2, a3, a4, a5, a6, a7, a8, a9, a10, a11, a12, rfl⟩ := list13 L hs
  match xs, hxl with
  | [y0, y1, y2, y3, y4, y5], _ =>
    have g0 := hfd 0 _ rfl
    have g1 := hfd 1 _ rfl
    have g2 := hfd 2 _ rfl
    have g3 := hfd 3 _ rfl
    have g4 := hfd 4 _ rfl
    have g5 := hfd 5 _ rfl
    simp [c3, c8, Value.cells] at g0 g1 g2 g3 g4 g5
    obtain ⟨n0, f0, _, _⟩ := DataW.trod_int Tryd.underlying3 g0
    obtain ⟨n1, f1, _, _⟩ := DataW.trod_int Tryd.underlying3 g1
    obtain ⟨n2, f2, _, _⟩ := DataW.trod_int Tryd.underlying3 g2
    obtain ⟨n11, f11, _, _⟩ := DataW.trod_int Tryd.underlying3 g4
    obtain ⟨n12, f12, _, _⟩ := DataW.trod_int Tryd.underlying3 g5
    obtain ⟨d0, d1, d2, d3, d4, d5, d6, d7, rfl, rfl, rfl, rfl, rfl, rfl, rfl, rfl⟩ := arr8In g3
    simp at f0 f1 f2 f11 f12
    subst f0 f1 f2 f11 f12
    exact ⟨⟨n0, n1, n2, d0, d1, d2, d3, d4, d5, d6, d7, n11, n12⟩, rfl⟩
end Go.Proofs.YtcclpfcgodckgaaDoor

/-
  A slice of acts on a pool, and a pool, as they come in.
-/
import Derived.Test.YtdcmcgdalanjjaaGreatFrame
import Derived.Deep.SlicePairs
import Derived.Test.YtdcmcgdalanjjaaGreatAPlays1
namespace Go.Proofs.YtdcmcgdalanjjaaGreat
open Go.ChangeShapes Go.WideShapes Go.ChangeAt Go.RowKit

set_option maxRecDepth 100000 in
theorem pactsIn {H : Type} {enc : TypeId × Value → H} {W : World} {a0 : Option Addr} {len0 cap0 : Nat} {d : DataW H} {p : List MemPlace} (h : DataW.Trod enc Tryz.prog W 0 (fun _ => true) true 24 (.slice a0 len0 cap0) d p) :
    ∃ l : List PAct, PActs W (.slice a0 len0 cap0) l := by
  obtain ⟨fuel, hf⟩ := h
  rcases Deep.open_slice Tryz.underlying24 hf with ⟨hcs, _⟩ | ⟨a, len, cap, m, n, D, Pl, hcs, _, hl, hm, hmm, _, hx⟩
  · simp [Value.cells] at hcs
    obtain ⟨rfl, rfl, rfl⟩ := hcs
    exact ⟨[], .inl ⟨⟨_, _, rfl⟩, rfl⟩⟩
  · simp [Value.cells] at hcs
    obtain ⟨rfl, rfl, rfl⟩ := hcs
    have hm' : m = cap0 := by simpa using hmm
    have c5 : Tryz.prog.cellsOf 47 = 2 := by kernel_rfl
    have c3 : Tryz.prog.cellsOf 3 = 1 := by kernel_rfl
    by_cases h0 : len0 = 0
    · subst h0
      exact ⟨[], .inl ⟨⟨_, _, rfl⟩, rfl⟩⟩
    have each : ∀ i, i < len0 → ∃ q : PAct, (W.cell? (a.add (i * 2)) = some (.int .i64 q.op) ∧ W.cell? (a.add (i * 2 + 1)) = some (.int .i64 q.n)) ∧ -9223372036854775808 ≤ q.n ∧ q.n ≤ 9223372036854775807 := by
      intro i hi
      obtain ⟨cs', h1, h2⟩ := hx i (by omega)
      rw [c5] at h1
      obtain ⟨_, hlen, hcell⟩ := World.cells?_some h1
      obtain ⟨xs, k, hk, hxy, _, hxl, hfd⟩ := DataW.trod_struct Tryz.underlying47 h2
      match xs, hxl, cs', hlen with
      | [y0, y1], _, [v0, v1], _ =>
        have g0 := hfd 0 _ rfl
        have g1 := hfd 1 _ rfl
        simp [c3] at g0 g1
        have e0 := hcell 0 (by omega)
        have e1 := hcell 1 (by omega)
        rw [Deep.add_add] at e0 e1
        obtain ⟨n0, f0, _, _⟩ := DataW.trod_int Tryz.underlying3 g0
        obtain ⟨n1, f1, _, w1⟩ := DataW.trod_int Tryz.underlying3 g1
        simp at f0 f1
        subst f0 f1
        have b1 := bounds_i64 w1
        exact ⟨⟨n0, n1⟩, ⟨by simpa using e0, by simpa using e1⟩, b1.1, by show n1 ≤ _; have := b1.2; omega⟩
    haveI : Inhabited PAct := ⟨⟨0, 0⟩⟩
    obtain ⟨q, hq⟩ := Deep.choose_lt each
    obtain ⟨b, off, spot⟩ := a
    have hspot : spot = none := by simpa [Addr.add] using World.cell?_spot (hq 0 (by omega)).1.1
    subst hspot
    have ad : ∀ k, (⟨b, off, none⟩ : Addr).add k = ⟨b, off + k, none⟩ := by intro k; unfold Addr.add; split <;> simp_all
    refine ⟨(List.range len0).map q, .inr ⟨b, off, cap0, by simp, fun j d hd => ?_⟩⟩
    have hj : j < len0 := by have := (List.getElem?_eq_some_iff.1 hd).1; simpa using this
    have hdq : d = q j := by simp [hj] at hd; exact hd.symm
    subst hdq
    obtain ⟨⟨h1, h2⟩, h6, h7⟩ := hq j hj
    rw [ad] at h1 h2
    exact ⟨h1, by rw [Nat.add_assoc]; exact h2, h6, h7⟩
set_option maxRecDepth 100000 in
/-- A pool. -/
theorem poolIn {H : Type} {enc : TypeId × Value → H} {W : World} {cs : Array Value} {d : DataW H} {p : List MemPlace} (hs : cs.size = Tryz.prog.cellsOf 23) (h : DataW.Trod enc Tryz.prog W 0 (fun _ => true) true 23 (.agg cs) d p) :
    ∃ M F n : Int, cs = #[.int .i64 M, .int .i64 F, .int .i64 n] ∧ M ≤ 9223372036854775807 ∧ n ≤ 9223372036854775807 := by
  obtain ⟨fuel, hf⟩ := h
  have c23 : Tryz.prog.cellsOf 23 = 3 := by kernel_rfl
  have c3 : Tryz.prog.cellsOf 3 = 1 := by kernel_rfl
  rw [c23] at hs
  obtain ⟨xs, k, hk, hxy, _, hxl, hfd⟩ := DataW.trod_struct Tryz.underlying23 hf
  obtain ⟨L⟩ := cs
  match xs, hxl, L, hs with
  | [y0, y1, y2], _, [v0, v1, v2], _ =>
    have g0 := hfd 0 _ rfl
    have g1 := hfd 1 _ rfl
    have g2 := hfd 2 _ rfl
    simp [c3, Value.cells] at g0 g1 g2
    obtain ⟨n0, f0, _, w0⟩ := DataW.trod_int Tryz.underlying3 g0
    obtain ⟨n1, f1, _, _⟩ := DataW.trod_int Tryz.underlying3 g1
    obtain ⟨n2, f2, _, w2⟩ := DataW.trod_int Tryz.underlying3 g2
    simp at f0 f1 f2
    subst f0 f1 f2
    have b0 := bounds_i64 w0
    have b2 := bounds_i64 w2
    exact ⟨n0, n1, n2, rfl, by have := b0.2; omega, by have := b2.2; omega⟩
end Go.Proofs.YtdcmcgdalanjjaaGreat

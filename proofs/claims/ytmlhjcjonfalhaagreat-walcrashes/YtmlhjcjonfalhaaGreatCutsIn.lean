/-
  A slice of cuts as it comes in.
-/
import Derived.Test.YtmlhjcjonfalhaaGreatActsIn
import Derived.Test.YtmlhjcjonfalhaaGreatArgsII
import Derived.Test.YtmlhjcjonfalhaaGreatCCopy
namespace Go.Proofs.YtmlhjcjonfalhaaGreat
open Go.ChangeShapes Go.WideShapes Go.ChangeAt Go.RowKit

set_option maxRecDepth 100000 in
theorem cutsIn {H : Type} {enc : TypeId × Value → H} {W : World} {a0 : Option Addr} {len0 cap0 : Nat} {d : DataW H} {p : List MemPlace} (h : DataW.Trod enc Tryz.prog W 0 (fun _ => true) true 23 (.slice a0 len0 cap0) d p) :
    ∃ l : List C.CutD, C.CutsAt W (.slice a0 len0 cap0) l := by
  obtain ⟨fuel, hf⟩ := h
  rcases Deep.open_slice Tryz.underlying23 hf with ⟨hcs, _⟩ | ⟨a, len, cap, m, n, D, Pl, hcs, _, hl, hm, hmm, _, hx⟩
  · simp [Value.cells] at hcs
    obtain ⟨rfl, rfl, rfl⟩ := hcs
    exact ⟨[], .inl ⟨⟨_, _, rfl⟩, rfl⟩⟩
  · simp [Value.cells] at hcs
    obtain ⟨rfl, rfl, rfl⟩ := hcs
    have hm' : m = cap0 := by simpa using hmm
    have c2 : Tryz.prog.cellsOf 28 = 2 := by kernel_rfl
    have c3 : Tryz.prog.cellsOf 3 = 1 := by kernel_rfl
    have c26 : Tryz.prog.cellsOf 26 = 1 := by kernel_rfl
    by_cases h0 : len0 = 0
    · subst h0
      exact ⟨[], .inl ⟨⟨_, _, rfl⟩, rfl⟩⟩
    have each : ∀ i, i < len0 → ∃ q : C.CutD, W.cell? (a.add (i * 2)) = some (.int .i64 q.n) ∧ W.cell? (a.add (i * 2 + 1)) = some q.pv ∧ Is W q.pv q.ps ∧ -9223372036854775808 ≤ q.n ∧ q.n < 9223372036854775808 := by
      intro i hi
      obtain ⟨cs', h1, h2⟩ := hx i (by omega)
      rw [c2] at h1
      obtain ⟨_, hlen, hcell⟩ := World.cells?_some h1
      obtain ⟨xs, k, hk, hxy, _, hxl, hfd⟩ := DataW.trod_struct Tryz.underlying28 h2
      match xs, hxl, cs', hlen with
      | [y0, y1], _, [v0, v1], _ =>
        have g0 := hfd 0 _ rfl
        have g1 := hfd 1 _ rfl
        simp [c3, c26] at g0 g1
        have e0 := hcell 0 (by omega)
        have e1 := hcell 1 (by omega)
        rw [Deep.add_add] at e0 e1
        obtain ⟨n0, f0, _, w0⟩ := DataW.trod_int Tryz.underlying3 g0
        obtain ⟨ps, hps⟩ := intsCells g1
        simp at f0
        subst f0
        have bd := bounds_i64 w0
        exact ⟨⟨n0, v1, ps⟩, by simpa using e0, by simpa using e1, hps, bd.1, by show n0 < 9223372036854775808; have := bd.2; omega⟩
    haveI : Inhabited C.CutD := ⟨⟨0, .slice none 0 0, []⟩⟩
    obtain ⟨q, hq⟩ := Deep.choose_lt each
    obtain ⟨b, off, spot⟩ := a
    have hspot : spot = none := by simpa [Addr.add] using World.cell?_spot (hq 0 (by omega)).1
    subst hspot
    have ad : ∀ k, (⟨b, off, none⟩ : Addr).add k = ⟨b, off + k, none⟩ := by intro k; unfold Addr.add; split <;> simp_all
    refine ⟨(List.range len0).map q, .inr ⟨b, off, cap0, by simp, by simp; omega, fun j d hd => ?_⟩⟩
    have hj : j < len0 := by have := (List.getElem?_eq_some_iff.1 hd).1; simpa using this
    have hdq : d = q j := by simp [hj] at hd; exact hd.symm
    subst hdq
    obtain ⟨h1, h2, h3, h4, h5⟩ := hq j hj
    rw [ad] at h1 h2
    exact ⟨h1, by rw [Nat.add_assoc]; exact h2, h3, h4, h5⟩
end Go.Proofs.YtmlhjcjonfalhaaGreat

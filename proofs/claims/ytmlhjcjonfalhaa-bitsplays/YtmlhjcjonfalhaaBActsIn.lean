/-
  A slice of acts on a map of bits, as it comes in.
-/
import Derived.Test.YtmlhjcjonfalhaaBFrame
import Derived.Deep.SlicePairs
import Derived.Test.YtmlhjcjonfalhaaBActs
namespace Go.Proofs.Ytmlhjcjonfalhaa
open Go.ChangeShapes Go.WideShapes Go.ChangeAt Go.RowKit

set_option maxRecDepth 100000 in
theorem bactsIn {H : Type} {enc : TypeId × Value → H} {W : World} {a0 : Option Addr} {len0 cap0 : Nat} {d : DataW H} {p : List MemPlace} (h : DataW.Trod enc Try.prog W 0 (fun _ => true) true 23 (.slice a0 len0 cap0) d p) :
    ∃ l : List BAct, BActs W (.slice a0 len0 cap0) l := by
  obtain ⟨fuel, hf⟩ := h
  rcases Deep.open_slice Try.underlying23 hf with ⟨hcs, _⟩ | ⟨a, len, cap, m, n, D, Pl, hcs, _, hl, hm, hmm, _, hx⟩
  · simp [Value.cells] at hcs
    obtain ⟨rfl, rfl, rfl⟩ := hcs
    exact ⟨[], .inl ⟨⟨_, _, rfl⟩, rfl⟩⟩
  · simp [Value.cells] at hcs
    obtain ⟨rfl, rfl, rfl⟩ := hcs
    have hm' : m = cap0 := by simpa using hmm
    have c5 : Try.prog.cellsOf 27 = 5 := by kernel_rfl
    have c3 : Try.prog.cellsOf 3 = 1 := by kernel_rfl
    by_cases h0 : len0 = 0
    · subst h0
      exact ⟨[], .inl ⟨⟨_, _, rfl⟩, rfl⟩⟩
    have each : ∀ i, i < len0 → ∃ q : BAct, (W.cell? (a.add (i * 5)) = some (.int .i64 q.op) ∧ W.cell? (a.add (i * 5 + 1)) = some (.int .i64 q.i) ∧ W.cell? (a.add (i * 5 + 2)) = some (.int .i64 q.a) ∧ W.cell? (a.add (i * 5 + 3)) = some (.int .i64 q.b) ∧ W.cell? (a.add (i * 5 + 4)) = some (.int .i64 q.n)) ∧ q.a ≤ 9223372036854775807 ∧ -9223372036854775808 ≤ q.n ∧ q.n ≤ 9223372036854775807 := by
      intro i hi
      obtain ⟨cs', h1, h2⟩ := hx i (by omega)
      rw [c5] at h1
      obtain ⟨_, hlen, hcell⟩ := World.cells?_some h1
      obtain ⟨xs, k, hk, hxy, _, hxl, hfd⟩ := DataW.trod_struct Try.underlying27 h2
      match xs, hxl, cs', hlen with
      | [y0, y1, y2, y3, y4], _, [v0, v1, v2, v3, v4], _ =>
        have g0 := hfd 0 _ rfl
        have g1 := hfd 1 _ rfl
        have g2 := hfd 2 _ rfl
        have g3 := hfd 3 _ rfl
        have g4 := hfd 4 _ rfl
        simp [c3] at g0 g1 g2 g3 g4
        have e0 := hcell 0 (by omega)
        have e1 := hcell 1 (by omega)
        have e2 := hcell 2 (by omega)
        have e3 := hcell 3 (by omega)
        have e4 := hcell 4 (by omega)
        rw [Deep.add_add] at e0 e1 e2 e3 e4
        obtain ⟨n0, f0, _, _⟩ := DataW.trod_int Try.underlying3 g0
        obtain ⟨n1, f1, _, _⟩ := DataW.trod_int Try.underlying3 g1
        obtain ⟨n2, f2, _, w2⟩ := DataW.trod_int Try.underlying3 g2
        obtain ⟨n3, f3, _, _⟩ := DataW.trod_int Try.underlying3 g3
        obtain ⟨n4, f4, _, w4⟩ := DataW.trod_int Try.underlying3 g4
        simp at f0 f1 f2 f3 f4
        subst f0 f1 f2 f3 f4
        have b2 := bounds_i64 w2
        have b4 := bounds_i64 w4
        exact ⟨⟨n0, n1, n2, n3, n4⟩, ⟨by simpa using e0, by simpa using e1, by simpa using e2, by simpa using e3, by simpa using e4⟩, by show n2 ≤ _; have := b2.2; omega, b4.1, by show n4 ≤ _; have := b4.2; omega⟩
    haveI : Inhabited BAct := ⟨⟨0, 0, 0, 0, 0⟩⟩
    obtain ⟨q, hq⟩ := Deep.choose_lt each
    obtain ⟨b, off, spot⟩ := a
    have hspot : spot = none := by simpa [Addr.add] using World.cell?_spot (hq 0 (by omega)).1.1
    subst hspot
    have ad : ∀ k, (⟨b, off, none⟩ : Addr).add k = ⟨b, off + k, none⟩ := by intro k; unfold Addr.add; split <;> simp_all
    refine ⟨(List.range len0).map q, .inr ⟨b, off, cap0, by simp, fun j d hd => ?_⟩⟩
    have hj : j < len0 := by have := (List.getElem?_eq_some_iff.1 hd).1; simpa using this
    have hdq : d = q j := by simp [hj] at hd; exact hd.symm
    subst hdq
    obtain ⟨⟨h1, h2, h3, h4, h5⟩, h6, h7⟩ := hq j hj
    rw [ad] at h1 h2 h3 h4 h5
    exact ⟨h1, by rw [Nat.add_assoc]; exact h2, by rw [Nat.add_assoc]; exact h3, by rw [Nat.add_assoc]; exact h4, by rw [Nat.add_assoc]; exact h5, h6, h7⟩
end Go.Proofs.Ytmlhjcjonfalhaa

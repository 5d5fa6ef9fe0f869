/-
  A slice of acts on slots, as it comes in.
-/
import Derived.Test.YtbhfmceapffhnaaDoorDEntIn
import Derived.Deep.SlicePairs
import Derived.Test.YtbhfmceapffhnaaDoorDActs
namespace Go.Proofs.YtbhfmceapffhnaaDoor
open Go.ChangeShapes Go.WideShapes Go.ChangeAt Go.RowKit

set_option maxRecDepth 100000 in
theorem actsIn {H : Type} {enc : TypeId × Value → H} {W : World} {a0 : Option Addr} {len0 cap0 : Nat} {d : DataW H} {p : List MemPlace} (h : DataW.Trod enc Tryd.prog W 0 (fun _ => true) true 22 (.slice a0 len0 cap0) d p) :
    ∃ l : List DAct, DActs W (.slice a0 len0 cap0) l := by
  obtain ⟨fuel, hf⟩ := h
  rcases Deep.open_slice Tryd.underlying22 hf with ⟨hcs, _⟩ | ⟨a, len, cap, m, n, D, Pl, hcs, _, hl, hm, hmm, _, hx⟩
  · simp [Value.cells] at hcs
    obtain ⟨rfl, rfl, rfl⟩ := hcs
    exact ⟨[], _, _, rfl, fun h => absurd h (by simp)⟩
  · simp [Value.cells] at hcs
    obtain ⟨rfl, rfl, rfl⟩ := hcs
    have hm' : m = cap0 := by simpa using hmm
    have c5 : Tryd.prog.cellsOf 29 = 4 := by kernel_rfl
    have c3 : Tryd.prog.cellsOf 3 = 1 := by kernel_rfl
    have c9 : Tryd.prog.cellsOf 9 = 1 := by kernel_rfl
    by_cases h0 : len0 = 0
    · subst h0
      exact ⟨[], _, _, rfl, fun h => absurd h (by simp)⟩
    have each : ∀ i, i < len0 → ∃ q : DAct, W.cell? (a.add (i * 4)) = some (.int .i64 q.op) ∧ W.cell? (a.add (i * 4 + 1)) = some (.int .i64 q.n) ∧ W.cell? (a.add (i * 4 + 2)) = some (.string q.a) ∧ W.cell? (a.add (i * 4 + 3)) = some (.string q.b) := by
      intro i hi
      obtain ⟨cs', h1, h2⟩ := hx i (by omega)
      rw [c5] at h1
      obtain ⟨_, hlen, hcell⟩ := World.cells?_some h1
      obtain ⟨xs, k, hk, hxy, _, hxl, hfd⟩ := DataW.trod_struct Tryd.underlying29 h2
      match xs, hxl, cs', hlen with
      | [y0, y1, y2, y3], _, [v0, v1, v2, v3], _ =>
        have g0 := hfd 0 _ rfl
        have g1 := hfd 1 _ rfl
        have g2 := hfd 2 _ rfl
        have g3 := hfd 3 _ rfl
        simp [c3, c9] at g0 g1 g2 g3
        have e0 := hcell 0 (by omega)
        have e1 := hcell 1 (by omega)
        have e2 := hcell 2 (by omega)
        have e3 := hcell 3 (by omega)
        rw [Deep.add_add] at e0 e1 e2 e3
        obtain ⟨n0, f0, _, _⟩ := DataW.trod_int Tryd.underlying3 g0
        obtain ⟨n1, f1, _, _⟩ := DataW.trod_int Tryd.underlying3 g1
        simp at f0 f1
        subst f0 f1
        obtain ⟨s2, rfl, _⟩ := strIn g2
        obtain ⟨s3, rfl, _⟩ := strIn g3
        exact ⟨⟨n0, n1, s2, s3⟩, by simpa using e0, by simpa using e1, by simpa using e2, by simpa using e3⟩
    haveI : Inhabited DAct := ⟨DAct.z⟩
    obtain ⟨q, hq⟩ := Deep.choose_lt each
    obtain ⟨b, off, spot⟩ := a
    have hspot : spot = none := by simpa [Addr.add] using World.cell?_spot (hq 0 (by omega)).1
    subst hspot
    have ad : ∀ k, (⟨b, off, none⟩ : Addr).add k = ⟨b, off + k, none⟩ := by intro k; unfold Addr.add; split <;> simp_all
    refine ⟨(List.range len0).map q, some ⟨b, off, none⟩, cap0, by simp, fun _ => ⟨b, off, rfl, fun j hj => ?_⟩⟩
    have hj' : j < len0 := by simpa using hj
    have hdq : ((List.range len0).map q).getD j DAct.z = q j := by simp [List.getD, hj']
    rw [hdq]
    obtain ⟨h1, h2, h3, h4⟩ := hq j hj'
    rw [ad] at h1 h2 h3 h4
    exact ⟨h1, by rw [Nat.add_assoc]; exact h2, by rw [Nat.add_assoc]; exact h3, by rw [Nat.add_assoc]; exact h4⟩
end Go.Proofs.YtbhfmceapffhnaaDoor

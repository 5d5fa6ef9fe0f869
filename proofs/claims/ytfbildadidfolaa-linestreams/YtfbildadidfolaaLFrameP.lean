/-
  What the rows of this seat share: a row of pieces as it comes in.
-/
import Derived.Test.YtfbildadidfolaaRows
import Derived.Test.YtfbildadidfolaaLFrame
import Derived.Test.YtfbildadidfolaaLFew
import Derived.ProofKit
import Derived.OpenShut
import Derived.ShutString
import Derived.ChangeOld
import Derived.Deep.DeepHandedRow
import Derived.LaidLaws
import Derived.ChangeMaps5
import Derived.Deep.SlicePairs
namespace Go.Proofs.Ytfbildadidfolaa
open Go.ChangeShapes Go.WideShapes Go.ChangeAt Go.RowKit

/-- A slice of bytes as a cell. -/
theorem bytesCell {H : Type} {enc : TypeId × Value → H} {W : World} {fuel : Nat} {v : Value} {x : DataW H × List MemPlace} (h : DataW.trod enc Try.prog W 0 (fun _ => true) true fuel 31 [v] = some x) : ∃ bs : List Int, Bs W v bs := by
  obtain ⟨d, p⟩ := x
  rcases open_ints Try.underlying31 Try.underlying5 (by kernel_rfl) h with ⟨hcs, _⟩ | ⟨y, l, c, zs, hcs, _⟩
  · simp at hcs
    exact ⟨[], .inl ⟨hcs, rfl⟩⟩
  · simp at hcs
    subst hcs
    exact bytesInL ⟨fuel, h⟩
/-- A slice of pieces as it comes in. -/
theorem pcsIn {H : Type} {enc : TypeId × Value → H} {W : World} {a0 : Option Addr} {len0 cap0 : Nat} {d : DataW H} {p : List MemPlace} (h : DataW.Trod enc Try.prog W 0 (fun _ => true) true 22 (.slice a0 len0 cap0) d p) :
    ∃ l : List Pc, Pcs W (.slice a0 len0 cap0) l := by
  obtain ⟨fuel, hf⟩ := h
  rcases Deep.open_slice Try.underlying22 hf with ⟨hcs, _⟩ | ⟨a, len, cap, m, n, D, Pl, hcs, _, hl, hm, hmm, _, hx⟩
  · simp [Value.cells] at hcs
    obtain ⟨rfl, rfl, rfl⟩ := hcs
    exact ⟨[], _, _, rfl, fun h => absurd h (by simp)⟩
  · simp [Value.cells] at hcs
    obtain ⟨rfl, rfl, rfl⟩ := hcs
    have hm' : m = cap0 := by simpa using hmm
    have cP : Try.prog.cellsOf 35 = 3 := by kernel_rfl
    have c3 : Try.prog.cellsOf 3 = 1 := by kernel_rfl
    have cB : Try.prog.cellsOf 31 = 1 := by kernel_rfl
    by_cases h0 : len0 = 0
    · subst h0
      exact ⟨[], _, _, rfl, fun h => absurd h (by simp)⟩
    have each : ∀ i, i < len0 → ∃ q : Pc, W.cell? (a.add (i * 3)) = some (.int .i64 q.k) ∧ W.cell? (a.add (i * 3 + 1)) = some (.int .i64 q.n) ∧ W.cell? (a.add (i * 3 + 2)) = some q.dv ∧ Bs W q.dv q.d := by
      intro i hi
      obtain ⟨cs', h1, h2⟩ := hx i (by omega)
      rw [cP] at h1
      obtain ⟨_, hlen, hcell⟩ := World.cells?_some h1
      obtain ⟨xs, k, hk, hxy, _, hxl, hfd⟩ := DataW.trod_struct Try.underlying35 h2
      match xs, hxl, cs', hlen with
      | [y0, y1, y2], _, [v0, v1, v2], _ =>
        have g0 := hfd 0 _ rfl
        have g1 := hfd 1 _ rfl
        have g2 := hfd 2 _ rfl
        simp [c3, cB] at g0 g1 g2
        have e0 := hcell 0 (by omega)
        have e1 := hcell 1 (by omega)
        have e2 := hcell 2 (by omega)
        rw [Deep.add_add] at e0 e1 e2
        obtain ⟨n0, f0, _, _⟩ := DataW.trod_int Try.underlying3 g0
        obtain ⟨n1, f1, _, _⟩ := DataW.trod_int Try.underlying3 g1
        simp at f0 f1
        subst f0 f1
        obtain ⟨bs, hb⟩ := bytesCell g2
        exact ⟨⟨n0, n1, bs, v2⟩, by simpa using e0, by simpa using e1, by simpa using e2, hb⟩
    haveI : Inhabited Pc := ⟨Pc.z⟩
    obtain ⟨q, hq⟩ := Deep.choose_lt each
    obtain ⟨b, off, spot⟩ := a
    have hspot : spot = none := by simpa [Addr.add] using World.cell?_spot (hq 0 (by omega)).1
    subst hspot
    have ad : ∀ k, (⟨b, off, none⟩ : Addr).add k = ⟨b, off + k, none⟩ := by intro k; unfold Addr.add; split <;> simp_all
    refine ⟨(List.range len0).map q, some ⟨b, off, none⟩, cap0, by simp, fun _ => ⟨b, off, rfl, fun j hj => ?_⟩⟩
    have hj' : j < len0 := by simpa using hj
    have hdq : ((List.range len0).map q).getD j Pc.z = q j := by simp [List.getD, hj']
    rw [hdq]
    obtain ⟨h1, h2, h3, h4⟩ := hq j hj'
    rw [ad] at h1 h2 h3
    exact ⟨h1, by rw [Nat.add_assoc]; exact h2, by rw [Nat.add_assoc]; exact h3, h4⟩
end Go.Proofs.Ytfbildadidfolaa

/-
  A slice of acts on a tree as it comes in.
-/
import Derived.Test.YtlnjnimenihhnaaGreatDoorKFrame
import Derived.Deep.SlicePairs
import Derived.Test.YtlnjnimenihhnaaGreatDoorTFew
namespace Go.Proofs.YtlnjnimenihhnaaGreatDoor
open Go.ChangeShapes Go.WideShapes Go.ChangeAt Go.RowKit

theorem strIn {H : Type} {enc : TypeId × Value → H} {W : World} {fuel : Nat} {c : Value} {x : DataW H × List MemPlace} (h : DataW.trod enc Tryz.prog W 0 (fun _ => true) true fuel 9 [c] = some x) : ∃ s : ByteArray, c = .string s ∧ s.size ≤ maxLen := by
  obtain ⟨s, e, _, hs⟩ := DataW.trod_string Tryz.underlying9 h
  simp at e
  exact ⟨s, e, hs⟩
theorem bytesCells {H : Type} {enc : TypeId × Value → H} {W : World} {fuel : Nat} {v : Value} {x : DataW H × List MemPlace} (h : DataW.trod enc Tryz.prog W 0 (fun _ => true) true fuel 33 [v] = some x) : ∃ bs : List Int, Bs W v bs ∧ IsB bs := by
  obtain ⟨d, p⟩ := x
  rcases open_ints Tryz.underlying33 Tryz.underlying5 (by kernel_rfl) h with ⟨hcs, _⟩ | ⟨y, l, c, zs, hcs, _, hl, hm, hz, _, hcell, hwz⟩
  · simp at hcs
    exact ⟨[], .inl ⟨hcs, rfl⟩, fun _ h => by cases h⟩
  · simp at hcs
    subst hcs
    obtain ⟨bs, hb, hB⟩ := bytesInC ⟨fuel, h⟩
    exact ⟨bs, hb, hB⟩
set_option maxRecDepth 100000 in
theorem opsIn {H : Type} {enc : TypeId × Value → H} {W : World} {a0 : Option Addr} {len0 cap0 : Nat} {d : DataW H} {p : List MemPlace} (h : DataW.Trod enc Tryz.prog W 0 (fun _ => true) true 22 (.slice a0 len0 cap0) d p) :
    ∃ l : List AcD, Ops W (.slice a0 len0 cap0) l := by
  obtain ⟨fuel, hf⟩ := h
  rcases Deep.open_slice Tryz.underlying22 hf with ⟨hcs, _⟩ | ⟨a, len, cap, m, n, D, Pl, hcs, _, hl, hm, hmm, _, hx⟩
  · simp [Value.cells] at hcs
    obtain ⟨rfl, rfl, rfl⟩ := hcs
    exact ⟨[], _, _, rfl, fun h => absurd h (by simp)⟩
  · simp [Value.cells] at hcs
    obtain ⟨rfl, rfl, rfl⟩ := hcs
    have hm' : m = cap0 := by simpa using hmm
    have c5 : Tryz.prog.cellsOf 35 = 5 := by kernel_rfl
    have c3 : Tryz.prog.cellsOf 3 = 1 := by kernel_rfl
    have c9 : Tryz.prog.cellsOf 9 = 1 := by kernel_rfl
    have c33 : Tryz.prog.cellsOf 33 = 1 := by kernel_rfl
    by_cases h0 : len0 = 0
    · subst h0
      exact ⟨[], _, _, rfl, fun h => absurd h (by simp)⟩
    have each : ∀ i, i < len0 → ∃ q : AcD, W.cell? (a.add (i * 5)) = some (.int .i64 q.o.k) ∧ W.cell? (a.add (i * 5 + 1)) = some (.string q.o.p) ∧ W.cell? (a.add (i * 5 + 2)) = some (.string q.o.q) ∧ W.cell? (a.add (i * 5 + 3)) = some q.dv ∧ W.cell? (a.add (i * 5 + 4)) = some (.int .i64 q.o.n) ∧ Bs W q.dv q.o.d ∧ IsB q.o.d := by
      intro i hi
      obtain ⟨cs', h1, h2⟩ := hx i (by omega)
      rw [c5] at h1
      obtain ⟨_, hlen, hcell⟩ := World.cells?_some h1
      obtain ⟨xs, k, hk, hxy, _, hxl, hfd⟩ := DataW.trod_struct Tryz.underlying35 h2
      match xs, hxl, cs', hlen with
      | [y0, y1, y2, y3, y4], _, [v0, v1, v2, v3, v4], _ =>
        have g0 := hfd 0 _ rfl
        have g1 := hfd 1 _ rfl
        have g2 := hfd 2 _ rfl
        have g3 := hfd 3 _ rfl
        have g4 := hfd 4 _ rfl
        simp [c3, c9, c33] at g0 g1 g2 g3 g4
        have e0 := hcell 0 (by omega)
        have e1 := hcell 1 (by omega)
        have e2 := hcell 2 (by omega)
        have e3 := hcell 3 (by omega)
        have e4 := hcell 4 (by omega)
        rw [Deep.add_add] at e0 e1 e2 e3 e4
        obtain ⟨n0, f0, _, _⟩ := DataW.trod_int Tryz.underlying3 g0
        obtain ⟨n4, f4, _, _⟩ := DataW.trod_int Tryz.underlying3 g4
        simp at f0 f4
        subst f0 f4
        obtain ⟨s1, rfl, _⟩ := strIn g1
        obtain ⟨s2, rfl, _⟩ := strIn g2
        obtain ⟨bs, hb, hB⟩ := bytesCells g3
        exact ⟨⟨⟨n0, s1, s2, bs, n4⟩, v3⟩, by simpa using e0, by simpa using e1, by simpa using e2, by simpa using e3, by simpa using e4, hb, hB⟩
    haveI : Inhabited AcD := ⟨AcD.z⟩
    obtain ⟨q, hq⟩ := Deep.choose_lt each
    obtain ⟨b, off, spot⟩ := a
    have hspot : spot = none := by simpa [Addr.add] using World.cell?_spot (hq 0 (by omega)).1
    subst hspot
    have ad : ∀ k, (⟨b, off, none⟩ : Addr).add k = ⟨b, off + k, none⟩ := by intro k; unfold Addr.add; split <;> simp_all
    refine ⟨(List.range len0).map q, some ⟨b, off, none⟩, cap0, by simp, fun _ => ⟨b, off, rfl, fun j hj => ?_⟩⟩
    have hj' : j < len0 := by simpa using hj
    have hdq : ((List.range len0).map q).getD j AcD.z = q j := by simp [List.getD, hj']
    rw [hdq]
    obtain ⟨h1, h2, h3, h4, h5, h6, h7⟩ := hq j hj'
    rw [ad] at h1 h2 h3 h4 h5
    exact ⟨h1, by rw [Nat.add_assoc]; exact h2, by rw [Nat.add_assoc]; exact h3, by rw [Nat.add_assoc]; exact h4, by rw [Nat.add_assoc]; exact h5, h6, h7⟩
end Go.Proofs.YtlnjnimenihhnaaGreatDoor

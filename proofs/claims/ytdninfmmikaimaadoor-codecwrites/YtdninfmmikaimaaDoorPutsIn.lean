/-
  A slice of puts as it comes in.
-/
import Derived.Test.YtdninfmmikaimaaDoorFrame
import Derived.Test.YtdninfmmikaimaaDoorPuts
import Derived.Deep.SlicePairs
namespace Go.Proofs.YtdninfmmikaimaaDoor
open Go.ChangeShapes Go.WideShapes Go.ChangeAt Go.RowKit

theorem bytesCells {H : Type} {enc : TypeId × Value → H} {W : World} {fuel : Nat} {v : Value} {x : DataW H × List MemPlace} (h : DataW.trod enc Tryd.prog W 0 (fun _ => true) true fuel 28 [v] = some x) : ∃ bs : List Int, Bs W v bs ∧ IsB bs := by
  rcases open_ints Tryd.underlying28 Tryd.underlying5 (by kernel_rfl) h with ⟨hcs, _⟩ | ⟨y, l, c, zs, hcs, _, hl, hm, hz, _, hcell, hwz⟩
  · simp at hcs
    exact ⟨[], .inl ⟨hcs, rfl⟩, fun x hx => by cases hx⟩
  · simp at hcs
    subst hcs
    have hz' : zs.length = c := by simpa using hz
    have hlen : (zs.take l).length = l := by simp; omega
    refine ⟨zs.take l, .inr ⟨y, c, by rw [hlen], by omega, hm, fun j hj => ?_⟩, fun y hy => ?_⟩
    · rw [hlen] at hj
      rw [hcell j (by omega)]
      simp [List.getD, hj]
    · have := bounds_u8 (hwz y (List.mem_of_mem_take hy))
      omega

theorem putsIn {H : Type} {enc : TypeId × Value → H} {W : World} {a0 : Option Addr} {len0 cap0 : Nat} {d : DataW H} {p : List MemPlace} (h : DataW.Trod enc Tryd.prog W 0 (fun _ => true) true 22 (.slice a0 len0 cap0) d p) :
    ∃ l : List PutD, Puts W (.slice a0 len0 cap0) l := by
  obtain ⟨fuel, hf⟩ := h
  rcases Deep.open_slice Tryd.underlying22 hf with ⟨hcs, _⟩ | ⟨a, len, cap, m, n, D, Pl, hcs, _, hl, hm, hmm, _, hx⟩
  · simp [Value.cells] at hcs
    obtain ⟨rfl, rfl, rfl⟩ := hcs
    exact ⟨[], .inl ⟨⟨_, _, rfl⟩, rfl⟩⟩
  · simp [Value.cells] at hcs
    obtain ⟨rfl, rfl, rfl⟩ := hcs
    have hm' : m = cap0 := by simpa using hmm
    have c32 : Tryd.prog.cellsOf 32 = 3 := by kernel_rfl
    have c3 : Tryd.prog.cellsOf 3 = 1 := by kernel_rfl
    have c28 : Tryd.prog.cellsOf 28 = 1 := by kernel_rfl
    by_cases h0 : len0 = 0
    · subst h0
      exact ⟨[], .inl ⟨⟨_, _, rfl⟩, rfl⟩⟩
    have each : ∀ i, i < len0 → ∃ q : PutD, W.cell? (a.add (i * 3)) = some (.int .i64 q.kind) ∧ W.cell? (a.add (i * 3 + 1)) = some (.int .i64 q.n) ∧ W.cell? (a.add (i * 3 + 2)) = some q.bv ∧ Bs W q.bv q.bs ∧ IsB q.bs := by
      intro i hi
      obtain ⟨cs', h1, h2⟩ := hx i (by omega)
      rw [c32] at h1
      obtain ⟨_, hlen, hcell⟩ := World.cells?_some h1
      obtain ⟨xs, k, hk, hxy, _, hxl, hfd⟩ := DataW.trod_struct Tryd.underlying32 h2
      match xs, hxl, cs', hlen with
      | [y0, y1, y2], _, [v0, v1, v2], _ =>
        have g0 := hfd 0 _ rfl
        have g1 := hfd 1 _ rfl
        have g2 := hfd 2 _ rfl
        simp [c3, c28] at g0 g1 g2
        have e0 := hcell 0 (by omega)
        have e1 := hcell 1 (by omega)
        have e2 := hcell 2 (by omega)
        rw [add_add] at e0 e1 e2
        obtain ⟨n0, f0, _, _⟩ := DataW.trod_int Tryd.underlying3 g0
        obtain ⟨n1, f1, _, _⟩ := DataW.trod_int Tryd.underlying3 g1
        obtain ⟨bs, hb, hB⟩ := bytesCells g2
        simp at f0 f1
        subst f0 f1
        exact ⟨⟨n0, n1, v2, bs⟩, by simpa using e0, by simpa using e1, by simpa using e2, hb, hB⟩
    haveI : Inhabited PutD := ⟨⟨0, 0, .slice none 0 0, []⟩⟩
    obtain ⟨q, hq⟩ := Deep.choose_lt each
    obtain ⟨b, off, spot⟩ := a
    have hspot : spot = none := by simpa [Addr.add] using World.cell?_spot (hq 0 (by omega)).1
    subst hspot
    have ad : ∀ k, (⟨b, off, none⟩ : Addr).add k = ⟨b, off + k, none⟩ := by intro k; unfold Addr.add; split <;> simp_all
    refine ⟨(List.range len0).map q, .inr ⟨b, off, cap0, by simp, fun j d hd => ?_⟩⟩
    have hj : j < len0 := by have := (List.getElem?_eq_some_iff.1 hd).1; simpa using this
    have hdq : d = q j := by simp [hj] at hd; exact hd.symm
    subst hdq
    have h1 := hq j hj
    rw [ad, ad, ad] at h1
    simp only [Nat.add_assoc] at h1 ⊢
    exact h1
end Go.Proofs.YtdninfmmikaimaaDoor

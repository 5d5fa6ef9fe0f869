/-
  What the rows of this seat share: what their lists give, arguments as they come in.
-/
import Derived.Test.YtefofoocglhdmaaDoorCards
import Derived.Test.YtefofoocglhdmaaDoorTie
import Derived.Test.YtefofoocglhdmaaDoorMKnown
import Derived.ProofKit
import Derived.OpenShut
import Derived.ShutString
import Derived.ChangeOld
import Derived.Deep.DeepHandedRow
import Derived.Lib.LaidTab
import Derived.Stop.LaidErr
import Derived.Lay
import Derived.MakeChecks
import Derived.ChangeMaps5
import Derived.Deep.Strs
import Derived.Deep.Grids
namespace Go.Proofs.YtefofoocglhdmaaDoor
open Go.ChangeShapes Go.WideShapes Go.ChangeAt Go.RowKit

theorem ownKC : ownKnob Tryd.prog.godebug = none := by kernel_rfl
theorem laidOutC : laidOutB Tryd.prog = true := by kernel_rfl
theorem gPow : Tryd.prog.globalNamed "internal/strconv.uint64pow10" = some 6 := by kernel_rfl
theorem gSy : Tryd.prog.globalNamed "strconv.ErrSyntax" = some 2 := by kernel_rfl
theorem gRa : Tryd.prog.globalNamed "strconv.ErrRange" = some 3 := by kernel_rfl
theorem pow_eq : (Rows.laid_internal_strconv_uint64pow10 : DataW Unit) = Lib.tabData .u64 Lib.pow10Tab := by kernel_rfl
theorem errIn {n nm : String} {d : DataW Unit} {r : List (String × DataW Unit)} {W : World} {g : Nat} (h : laidMet Tryd.prog ((n, .iface nm d) :: r) W) (hg : Tryd.prog.globalNamed n = some g) (ht : (Tryd.prog.globals[g]?).map (·.type) = some 71) :
    ∃ ev, W.cell? ⟨g, 0, none⟩ = some ev ∧ (ev = .nilIface ∨ ∃ te pe, ev = .iface te pe) := by
  obtain ⟨ps, ⟨g0, t0, cs0, f0, p0, q0, hg0, ht0, hv0, hd0, _, e0⟩, _, hrows⟩ := h
  obtain rfl := Option.some.inj (hg.symm.trans hg0)
  obtain rfl := Option.some.inj (ht.symm.trans ht0)
  obtain ⟨f1, u, v, hcs, _⟩ := iface_of_trod Tryd.underlying71 hd0
  refine ⟨.iface u v, ?_, .inr ⟨u, v, rfl⟩⟩
  obtain ⟨L⟩ := cs0
  have : L = [.iface u v] := hcs
  subst this
  simpa using World.var?_cell hg0 hv0 0
theorem pow_in {r : List (String × DataW Unit)} {W : World} (h : laidMet Tryd.prog (("internal/strconv.uint64pow10", Rows.laid_internal_strconv_uint64pow10) :: r) W) : Lib.TabIs Tryd.prog W "internal/strconv.uint64pow10" .u64 Lib.pow10Tab := by
  rw [pow_eq] at h
  exact Lib.tabIs_of_head gPow (by kernel_rfl) Tryd.underlying110 Tryd.underlying88 (by kernel_rfl) (by kernel_rfl) h
theorem tab_below {W w' : World} (h : Lib.TabIs Tryd.prog W "internal/strconv.uint64pow10" .u64 Lib.pow10Tab) (hb : Below W.heap.size W w') : Lib.TabIs Tryd.prog w' "internal/strconv.uint64pow10" .u64 Lib.pow10Tab := by
  unfold Lib.TabIs World.var? at h ⊢
  rw [gPow] at h ⊢
  simp only [Option.bind_some] at h ⊢
  have hlt : 6 < W.heap.size := by
    rcases Nat.lt_or_ge 6 W.heap.size with h' | h'
    · exact h'
    · simp [Array.getElem?_eq_none h'] at h
  rw [hb.block 6 hlt]
  exact h
theorem facts7 {W : World} (h : laidMet Tryd.prog [("math/bits.deBruijn32tab", Rows.laid_math_bits_deBruijn32tab), ("math/bits.deBruijn64tab", Rows.laid_math_bits_deBruijn64tab), ("internal/strconv.uint64pow10", Rows.laid_internal_strconv_uint64pow10), ("unicode/utf8.acceptRanges", Rows.laid_unicode_utf8_acceptRanges), ("strconv.ErrRange", Rows.laid_strconv_ErrRange), ("strconv.ErrSyntax", Rows.laid_strconv_ErrSyntax), ("unicode/utf8.first", Rows.laid_unicode_utf8_first)] W) : Vr W.heap.size W := by
  have hp := pow_in h.tail.tail
  obtain ⟨e1, a1, b1⟩ := errIn h.tail.tail.tail.tail gRa (by kernel_rfl)
  obtain ⟨e2, a2, b2⟩ := errIn h.tail.tail.tail.tail.tail gSy (by kernel_rfl)
  refine ⟨Nat.le_refl _, fun w' hb => ⟨⟨e2, ?_, b2⟩, ⟨e1, ?_, b1⟩, tab_below hp hb⟩⟩
  · exact (hb.cell (World.block_lt_of_cell? W _ a2)).trans a2
  · exact (hb.cell (World.block_lt_of_cell? W _ a1)).trans a1
theorem list2 {α : Type} (l : List α) (h : (⟨l⟩ : Array α).size = 2) : ∃ a0 a1, l = [a0, a1] := by
  match l, h with
  | [a0, a1], _ => exact ⟨a0, a1, rfl⟩
theorem strIn {H : Type} {enc : TypeId × Value → H} {W : World} {fuel : Nat} {c : Value} {x : DataW H × List MemPlace} (h : DataW.trod enc Tryd.prog W 0 (fun _ => true) true fuel 9 [c] = some x) : ∃ s : ByteArray, c = .string s ∧ s.size ≤ maxLen := by
  obtain ⟨s, e, _, hs⟩ := DataW.trod_string Tryd.underlying9 h
  simp at e
  exact ⟨s, e, hs⟩
set_option maxRecDepth 100000 in
theorem adIn {H : Type} {enc : TypeId × Value → H} {W : World} {cs : Array Value} {d : DataW H} {p : List MemPlace} (hs : cs.size = Tryd.prog.cellsOf 24) (h : DataW.Trod enc Tryd.prog W 0 (fun _ => true) true 24 (.agg cs) d p) :
    ∃ a b : ByteArray, Value.agg cs = adV a b ∧ a.size ≤ maxLen ∧ b.size ≤ maxLen := by
  obtain ⟨fuel, hf⟩ := h
  have cN : Tryd.prog.cellsOf 24 = 2 := by kernel_rfl
  have c9 : Tryd.prog.cellsOf 9 = 1 := by kernel_rfl
  rw [cN] at hs
  obtain ⟨xs, k, hk, hxy, _, hxl, hfd⟩ := DataW.trod_struct Tryd.underlying24 hf
  obtain ⟨L⟩ := cs
  obtain ⟨a0, a1, rfl⟩ := list2 L hs
  match xs, hxl with
    | [y0, y1], _ =>
      have g0 := hfd 0 _ rfl
      have g1 := hfd 1 _ rfl
      simp [c9, Value.cells] at g0 g1
      obtain ⟨s, rfl, z0⟩ := strIn g0
      obtain ⟨t, rfl, z1⟩ := strIn g1
      exact ⟨s, t, rfl, z0, z1⟩
/-- A slice of bytes as it comes in. -/
theorem bytesInL {H : Type} {enc : TypeId × Value → H} {W : World} {a0 : Option Addr} {len0 cap0 : Nat} {d : DataW H} {p : List MemPlace} (h : DataW.Trod enc Tryd.prog W 0 (fun _ => true) true 43 (.slice a0 len0 cap0) d p) :
    ∃ bs : List Int, Bs W (.slice a0 len0 cap0) bs ∧ ∀ x ∈ bs, 0 ≤ x ∧ x < 256 := by
  obtain ⟨fuel, hf⟩ := h
  rcases open_ints Tryd.underlying43 Tryd.underlying5 (by kernel_rfl) hf with ⟨hcs, _⟩ | ⟨x, l, c, zs, hcs, _, hl, hm, hz, _, hcell, hwz⟩
  · simp [Value.cells] at hcs
    obtain ⟨rfl, rfl, rfl⟩ := hcs
    exact ⟨[], .inl ⟨rfl, rfl⟩, fun x hx => by cases hx⟩
  · simp [Value.cells] at hcs
    obtain ⟨rfl, rfl, rfl⟩ := hcs
    have hz' : zs.length = cap0 := by simpa using hz
    have hlen : (zs.take len0).length = len0 := by simp; omega
    refine ⟨zs.take len0, .inr ⟨x, cap0, by rw [hlen], by omega, hm, fun j hj => ?_⟩, fun y hy => ?_⟩
    · rw [hlen] at hj
      rw [hcell j (by omega)]
      simp [List.getD, hj]
    · have := bounds_u8 (hwz y (List.mem_of_mem_take hy))
      omega
/-- A slice of bools. -/
def Bq (w : World) (v : Value) (ts : List Bool) : Prop :=
  (v = .slice none 0 0 ∧ ts = []) ∨ ∃ x c, v = .slice (some x) ts.length c ∧ ts.length ≤ c ∧ c ≤ maxLen ∧ ∀ j, j < ts.length → w.cell? (x.add j) = some (.bool (ts.getD j false))
theorem boolsIn {H : Type} {enc : TypeId × Value → H} {W : World} {a0 : Option Addr} {len0 cap0 : Nat} {d : DataW H} {p : List MemPlace} (h : DataW.Trod enc Tryd.prog W 0 (fun _ => true) true 48 (.slice a0 len0 cap0) d p) :
    ∃ ts : List Bool, Bq W (.slice a0 len0 cap0) ts := by
  obtain ⟨fuel, hf⟩ := h
  rcases Deep.open_bools Tryd.underlying48 Tryd.underlying4 (by kernel_rfl) hf with ⟨hcs, _⟩ | ⟨x, l, c, Z, hcs, _, hl, hm, _, hcell⟩
  · simp [Value.cells] at hcs
    obtain ⟨rfl, rfl, rfl⟩ := hcs
    exact ⟨[], .inl ⟨rfl, rfl⟩⟩
  · simp [Value.cells] at hcs
    obtain ⟨rfl, rfl, rfl⟩ := hcs
    have hlen : ((List.range len0).map Z).length = len0 := by simp
    refine ⟨(List.range len0).map Z, .inr ⟨x, cap0, by rw [hlen], by omega, hm, fun j hj => ?_⟩⟩
    rw [hlen] at hj
    rw [hcell j (by omega)]
    simp [List.getD, hj]
/-- A row of texts as it comes in. -/
theorem strsIn {H : Type} {enc : TypeId × Value → H} {W : World} {a0 : Option Addr} {len0 cap0 : Nat} {d : DataW H} {p : List MemPlace} (h : DataW.Trod enc Tryd.prog W 0 (fun _ => true) true 41 (.slice a0 len0 cap0) d p) :
    ∃ ss : List ByteArray, Tx W (.slice a0 len0 cap0) ss := by
  obtain ⟨fuel, hf⟩ := h
  rcases Deep.open_strs Tryd.underlying41 Tryd.underlying9 (by kernel_rfl) hf with ⟨hcs, _⟩ | ⟨a, len, cap, m, Sx, hcs, _, hl, hm, hmm, _, hx⟩
  · simp [Value.cells] at hcs
    obtain ⟨rfl, rfl, rfl⟩ := hcs
    exact ⟨[], Tx.nil _⟩
  · simp [Value.cells] at hcs
    obtain ⟨rfl, rfl, rfl⟩ := hcs
    have hm' : m = cap0 := by simpa using hmm
    obtain ⟨b, off, spot⟩ := a
    refine ⟨(List.range len0).map Sx, some ⟨b, off, spot⟩, cap0, by simp, by simpa using hl, hm, (fun h => by cases h), fun h0 => ?_⟩
    have h0' : 0 < len0 := by simpa using h0
    have hspot : spot = none := by simpa [Addr.add] using World.cell?_spot (hx 0 (by omega)).1
    subst hspot
    have ad : ∀ k, (⟨b, off, none⟩ : Addr).add k = ⟨b, off + k, none⟩ := by intro k; unfold Addr.add; split <;> simp_all
    refine ⟨b, off, rfl, fun j hj => ?_⟩
    have hj' : j < len0 := by simpa using hj
    rw [← ad, (hx j (by omega)).1]
    simp [List.getD, hj']
end Go.Proofs.YtefofoocglhdmaaDoor

/-
  Rows of bytes as they come in; FileReads: its rounds, its end, its statements whose order is drawn.
-/
import Derived.Test.YtnnaemlipahamaaGreatFLrg
import Derived.Test.YtnnaemlipahamaaGreatFTimes
import Derived.Test.YtnnaemlipahamaaGreatFrame
import Derived.Test.YtnnaemlipahamaaGreatFNode
import Derived.Test.YtnnaemlipahamaaGreatFAll
import Derived.Deep.SlicePairs
import Derived.BigQuiet
import Derived.Deep.RegionHeld3
namespace Go.Proofs.YtnnaemlipahamaaGreat
section
open Go.ChangeShapes Go.WideShapes Go.ChangeAt Go.RowKit

/-- Rows of bytes in memory. -/
def Bss (w : World) (v : Value) (ll : List (List Int)) : Prop :=
  (∃ a c, v = .slice a 0 c ∧ ll = []) ∨
  ∃ b off c, v = .slice (some ⟨b, off, none⟩) ll.length c ∧ ∀ j, j < ll.length → ∃ u, w.cell? ⟨b, off + j, none⟩ = some u ∧ Bs w u (ll.getD j []) ∧ IsBy (ll.getD j [])
theorem Bss.form {w : World} {v : Value} {ll : List (List Int)} (h : Bss w v ll) : ∃ a c, v = .slice a ll.length c := by
  rcases h with ⟨a, c, rfl, rfl⟩ | ⟨b, off, c, rfl, _⟩
  · exact ⟨a, c, rfl⟩
  · exact ⟨_, c, rfl⟩
theorem Bss.nth {w : World} {a : Option Addr} {n c j : Nat} {ll : List (List Int)} (h : Bss w (.slice a n c) ll) (hj : j < ll.length) : ∃ b off u, a = some ⟨b, off, none⟩ ∧ w.cell? ⟨b, off + j, none⟩ = some u ∧ Bs w u (ll.getD j []) ∧ IsBy (ll.getD j []) := by
  rcases h with ⟨_, _, _, rfl⟩ | ⟨b, off, c', e, hx⟩
  · simp at hj
  · obtain ⟨u, h1, h2, h3⟩ := hx j hj
    injection e with e1 e2 e3
    exact ⟨b, off, u, e1, h1, h2, h3⟩
/-- Old memory stays. -/
theorem Bss.kept {w w' : World} {v : Value} {ll : List (List Int)} (h : Bss w v ll) (hc : Chg (fun _ => False) w w') : Bss w' v ll := by
  rcases h with h | ⟨b, off, c, e, hx⟩
  · exact .inl h
  · refine .inr ⟨b, off, c, e, fun j hj => ?_⟩
    obtain ⟨u, h1, h2, h3⟩ := hx j hj
    exact ⟨u, hc.cell h1 (fun h => h), h2.kept hc (fun _ _ _ _ _ h => h), h3⟩
/-- Where bytes lie that are some. -/
theorem Bs.blk {w : World} {u : Value} {xs : List Int} (h : Bs w u xs) {g : Nat} (e : u.ownBlock = some g) (h0 : 0 < xs.length) : g < w.heap.size := by
  rcases h with ⟨e2, _⟩ | ⟨a, c, rfl, _, _, hcell⟩
  · rw [e2] at e; cases e
  · have h1 := World.block_lt_of_cell? w _ (hcell 0 h0)
    have e3 : (a.add 0).block = a.block := by unfold Addr.add; split <;> rfl
    rw [e3] at h1
    have e4 : a.block = g := by simpa [Value.ownBlock] using e
    omega
theorem byCells {H : Type} {enc : TypeId × Value → H} {W : World} {fuel : Nat} {v : Value} {x : DataW H × List MemPlace} (h : DataW.trod enc Tryz.prog W 0 (fun _ => true) true fuel 33 [v] = some x) : ∃ bs : List Int, Bs W v bs ∧ IsBy bs := by
  rcases open_ints Tryz.underlying33 Tryz.underlying5 (by kernel_rfl) h with ⟨hcs, _⟩ | ⟨y, l, c, zs, hcs, _, hl, hm, hz, _, hcell, hwz⟩
  · simp at hcs
    exact ⟨[], .inl ⟨hcs, rfl⟩, fun x hx => by cases hx⟩
  · simp at hcs
    subst hcs
    have hz' : zs.length = c := by simpa using hz
    have hlen : (zs.take l).length = l := by simp; omega
    refine ⟨zs.take l, .inr ⟨y, c, by rw [hlen], by omega, hm, fun j hj => ?_⟩, fun x hx => ?_⟩
    · rw [hlen] at hj
      rw [hcell j (by omega)]
      simp [List.getD, hj]
    · have := bounds_u8 (hwz x (List.mem_of_mem_take hx))
      omega
theorem byIn {H : Type} {enc : TypeId × Value → H} {W : World} {a0 : Option Addr} {len0 cap0 : Nat} {d : DataW H} {p : List MemPlace} (h : DataW.Trod enc Tryz.prog W 0 (fun _ => true) true 33 (.slice a0 len0 cap0) d p) :
    ∃ bs : List Int, Bs W (.slice a0 len0 cap0) bs ∧ IsBy bs := by
  obtain ⟨fuel, hf⟩ := h
  exact byCells (by simpa [Value.cells] using hf)
theorem bssIn {H : Type} {enc : TypeId × Value → H} {W : World} {a0 : Option Addr} {len0 cap0 : Nat} {d : DataW H} {p : List MemPlace} (h : DataW.Trod enc Tryz.prog W 0 (fun _ => true) true 57 (.slice a0 len0 cap0) d p) :
    ∃ ll : List (List Int), Bss W (.slice a0 len0 cap0) ll := by
  obtain ⟨fuel, hf⟩ := h
  rcases Deep.open_slice Tryz.underlying57 hf with ⟨hcs, _⟩ | ⟨a, len, cap, m, n, D, Pl, hcs, _, hl, hm, hmm, _, hx⟩
  · simp [Value.cells] at hcs
    obtain ⟨rfl, rfl, rfl⟩ := hcs
    exact ⟨[], .inl ⟨_, _, rfl, rfl⟩⟩
  · simp [Value.cells] at hcs
    obtain ⟨rfl, rfl, rfl⟩ := hcs
    have hm' : m = cap0 := by simpa using hmm
    have c1 : Tryz.prog.cellsOf 33 = 1 := by kernel_rfl
    by_cases h0 : len0 = 0
    · subst h0
      exact ⟨[], .inl ⟨_, _, rfl, rfl⟩⟩
    have each : ∀ i, i < len0 → ∃ q : Value × List Int, W.cell? (a.add i) = some q.1 ∧ Bs W q.1 q.2 ∧ IsBy q.2 := by
      intro i hi
      obtain ⟨cs', h1, h2⟩ := hx i (by omega)
      rw [c1] at h1
      obtain ⟨_, hlen, hcell⟩ := World.cells?_some h1
      match cs', hlen with
      | [v0], _ =>
        have e0 := hcell 0 (by omega)
        rw [Deep.add_add] at e0
        obtain ⟨bs, hb, hby⟩ := byCells h2
        exact ⟨(v0, bs), by simpa using e0, hb, hby⟩
    haveI : Inhabited (Value × List Int) := ⟨(.slice none 0 0, [])⟩
    obtain ⟨q, hq⟩ := Deep.choose_lt each
    obtain ⟨b, off, spot⟩ := a
    have hspot : spot = none := by simpa [Addr.add] using World.cell?_spot (hq 0 (by omega)).1
    subst hspot
    have ad : ∀ k, (⟨b, off, none⟩ : Addr).add k = ⟨b, off + k, none⟩ := by intro k; unfold Addr.add; split <;> simp_all
    refine ⟨(List.range len0).map fun i => (q i).2, .inr ⟨b, off, cap0, by simp, fun j hj => ?_⟩⟩
    have hj' : j < len0 := by simpa using hj
    obtain ⟨h1, h2, h3⟩ := hq j hj'
    rw [ad] at h1
    have e : ((List.range len0).map fun i => (q i).2).getD j [] = (q j).2 := by simp [List.getD, hj']
    rw [e]
    exact ⟨_, h1, h2, h3⟩
/-- Numbers of two bytes in memory. -/
def Us (w : World) (v : Value) (xs : List Int) : Prop :=
  (∃ a c, v = .slice a 0 c ∧ xs = []) ∨
  ∃ b off c, v = .slice (some ⟨b, off, none⟩) xs.length c ∧ ∀ j, j < xs.length → w.cell? ⟨b, off + j, none⟩ = some (.int .u16 (xs.getD j 0)) ∧ 0 ≤ xs.getD j 0 ∧ xs.getD j 0 ≤ 65535
end
section
open Go.RowKit Go.Maps

/-- Between two rows: bs are the bytes so far, v the row of them. -/
structure RdZ (p : Pm) (U : Nat → Bool) (rx q : Nat) (bs : List Int) (v : Value) (nd : Nd) (w : World) : Prop where
  st : ∃ (s : Fm) (X : Nat → Prop), Inx p (List.range 63) X s U 1 q w ∧ s.Pre ∧ s.b0 = bs ∧ s.n0 = nd ∧ X rx ∧ (∀ g, v.ownBlock = some g → X g)
  nd : NdB 29 w rx nd
  own : w.ownsRow (rx + 1) 5 1 v bs.length (bcells bs)
  low : p.w0.heap.size ≤ rx ∧ p.bb < rx ∧ p.pr < rx ∧ p.g < rx
  n : p.n = 120
/-- .. with the next node in a box r. -/
structure RdC (p : Pm) (U : Nat → Bool) (rx q : Nat) (bs bs' : List Int) (v : Value) (nd nd' : Nd) (r : Nat) (w : World) : Prop where
  st : ∃ (s : Fm) (X : Nat → Prop), Inx p (List.range 63) X s U 1 q w ∧ s.Pre ∧ s.b0 = bs' ∧ s.n0 = nd' ∧ X rx ∧ X r ∧ (∀ g, v.ownBlock = some g → X g)
  nd : NdB 29 w rx nd
  own : w.ownsRow (rx + 1) 5 1 v bs.length (bcells bs)
  low : p.w0.heap.size ≤ rx ∧ p.bb < rx ∧ p.pr < rx ∧ p.g < rx
  n : p.n = 120
theorem owns_same {w w' : World} {N n : Nat} {v : Value} {xs : List Value} (h : w.ownsRow N 5 1 v n xs) (hs : ∀ g, v.ownBlock = some g → w'.heap[g]? = w.heap[g]?) : w'.ownsRow N 5 1 v n xs := by
  refine ⟨h.1, ?_⟩
  rcases h.2 with e | ⟨g, cap, cur, e, hb, hg, r⟩
  · exact .inl e
  · refine .inr ⟨g, cap, cur, e, hb, ?_, r⟩
    rw [hs g (by rw [e]; rfl)]; exact hg
theorem owns_lo {w : World} {N n g : Nat} {v : Value} {xs : List Value} (h : w.ownsRow N 5 1 v n xs) (e : v.ownBlock = some g) : N ≤ g ∧ g < w.heap.size := by
  rcases h.2 with ⟨e2, _⟩ | ⟨g', cap, cur, e2, hN, hg, _⟩
  · rw [e2] at e; cases e
  · rw [e2] at e
    have : g' = g := by simpa [Value.ownBlock] using e
    subst this
    exact ⟨hN, lt_of_block hg⟩
section
variable {p : Pm} {U : Nat → Bool} {rx q r : Nat} {bs bs' b : List Int} {v u : Value} {nd nd' : Nd} {w w' wb w3 : World}
theorem RdZ.bz (h : RdZ p U rx q bs v nd w) : ∃ X, Bz X p.w0 p.bb p.pl p.pr p.g p.n U w := by
  obtain ⟨s, X, h1, _⟩ := h.st
  exact ⟨X, h1.bz⟩
theorem RdC.bz (h : RdC p U rx q bs bs' v nd nd' r w) : ∃ X, Bz X p.w0 p.bb p.pl p.pr p.g p.n U w := by
  obtain ⟨s, X, h1, _⟩ := h.st
  exact ⟨X, h1.bz⟩
theorem RdZ.chg (h : RdZ p U rx q bs v nd w) : Chg (fun _ => False) p.w0 w := by
  obtain ⟨s, X, h1, _⟩ := h.st
  exact h1.chg
theorem RdZ.more (h : RdZ p U rx q bs v nd w) (hc : Chg (fun _ => False) w w') : RdZ p U rx q bs v nd w' := by
  obtain ⟨s, X, h1, h2⟩ := h.st
  exact ⟨⟨s, X, h1.more hc, h2⟩, h.nd.kept hc (fun h => h), owns_same h.own (fun g hg => hc.block g (owns_lo h.own hg).2 (fun h => h)), h.low, h.n⟩
/-- Append of a row that came in. -/
theorem RdZ.append (h : RdZ p U rx q bs v nd w3) (hc : Chg (fun _ => False) w3 wb) (hb : Bs wb u b) (hub : ∀ g, u.ownBlock = some g → 0 < b.length → g < p.w0.heap.size) (hby : IsBy b) (hl : bs.length + b.length ≤ 18000) :
    Calls Tryz.prog 15 #[.pointer (some ⟨q, 0, none⟩), PV 0 1 (120 : Nat), nd.v, u] wb fun e w5 => ∃ x, e = .returned (.tuple #[x.v, .int .i64 0]) ∧ w5.heap[p.bb]? = w3.heap[p.bb]? ∧ w5.heap[rx]? = w3.heap[rx]? ∧ Ret w3 wb w5 (fun r w6 => RdC p U rx q bs (bs ++ b) v nd x r w6) := by
  obtain ⟨s, X, h1, hp, e0, rfl, hrx, hv⟩ := h.st
  have bz := h1.bz
  refine (rd_box u h1 hp h.n hc hb (fun g hg h0 => bz.old g (hub g hg h0)) hby (by rw [e0]; exact hl)).mono ?_
  rintro e w5 ⟨x, rfl, hs5, hr⟩
  have fin : ∀ r w6, (∃ s', Inx p (List.range 63) (fun k => X k ∨ k = r) s' U 1 q w6 ∧ s'.Pre ∧ s'.b0 = s.b0 ++ b ∧ s'.n0 = x ∧ Sm X w3 w6) → RdC p U rx q bs (bs ++ b) v s.n0 x r w6 := fun r w6 ⟨s', a1, a2, a3, a4, a5⟩ =>
    ⟨⟨s', _, a1, a2, by rw [a3, e0], a4, .inl hrx, .inr rfl, fun g hg => .inl (hv g hg)⟩, (a5 _ hrx).trans h.nd, owns_same h.own (fun g hg => a5 g (hv g hg)), h.low, h.n⟩
  exact ⟨x, rfl, hs5 _ bz.x.1, hs5 _ hrx, hr.out.keep, fun w6 r a b c => fin r w6 (hr.out.old w6 r a b c), fun w6 r a b c => fin r w6 (hr.out.new w6 r a b c)⟩
/-- x = y, and the row grows by the bytes. -/
theorem RdC.next (h : RdC p U rx q bs (bs ++ b) v nd nd' r w) {w7 : World} (c7 : Chg (fun k => k = rx) w w7) (hn7 : NdB 29 w7 rx nd') (hb : Bs w7 u b) (hl : bs.length + b.length ≤ 18000) :
    ∃ a c w8, (Builtin.append_ #[33, 33] 33 #[v, u]).run Tryz.prog w7 = .ok (.slice a (bs.length + b.length) c) w8 ∧ RdZ p U rx q (bs ++ b) (.slice a (bs.length + b.length) c) nd' w8 := by
  obtain ⟨s, X, h1, hp, e0, e1, hrx, hr, hv⟩ := h.st
  have hlow := h.low
  have i7 := h1.put hrx hlow.1 ⟨by omega, by omega, by omega⟩ c7
  have hrl := h.nd.lt
  have hsz := c7.size
  have o7 : w7.ownsRow (rx + 1) 5 1 v bs.length (bcells bs) := owns_same h.own (fun g hg => c7.block g (owns_lo h.own hg).2 (by have := (owns_lo h.own hg).1; omega))
  obtain ⟨i0, hi, hz0, hz1, hz2⟩ := info5_parts
  obtain ⟨v', w8, hrun, ho, hg, hob⟩ := run_app (P := Tryz.prog) w7 (rx + 1) 33 33 i0 Tryz.underlying33 hi hz0 hz1 hz2 v u bs.length bs b o7 hb (by omega) (by omega)
  obtain ⟨a, c, rfl⟩ := own_sl5 ho
  have hc8 := Chg.ofGrown hg
  have i8 := i7.grow (S := fun k => v.ownBlock = some k) (fun k hk => ⟨hv k hk, by have := (owns_lo o7 hk).1; omega, by have := (owns_lo o7 hk).1; omega, by have := (owns_lo o7 hk).1; omega, by have := (owns_lo o7 hk).1; omega⟩) hc8
  refine ⟨a, c, w8, hrun, ⟨⟨s, _, i8, hp, e0, e1, .inl hrx, fun g hg' => ?_⟩, hn7.kept hc8 (fun e => by have := (owns_lo o7 e).1; omega), by rw [List.length_append]; exact ho, h.low, h.n⟩⟩
  rcases hob with e | e
  · exact .inl (hv g (e ▸ hg'))
  · rw [hg'] at e
    have hge : g = w7.heap.size := by simpa using e
    exact .inr ⟨by omega, (owns_lo ho hg').2⟩
theorem RdZ.read (off cnt : Nat) (h : RdZ p U rx q bs v nd w) (h1 : off < 9223372036854775808) (h2 : cnt < 9223372036854775808) :
    Calls Tryz.prog 16 #[tI q, nd.v, .int .i64 (off : Int), .int .i64 (cnt : Int)] w fun e w' => ∃ y, e = .returned (.tuple #[y, .int .i64 0]) ∧ Bs w' y ((bs.drop off).take cnt) ∧ Hid (RdZ p U rx q bs v nd w') := by
  obtain ⟨s, X, a1, hp, e0, rfl, hrx, hv⟩ := h.st
  have HA := in_read off cnt a1 zero_63 h1 h2
  refine HA.mono ?_
  rintro e w' ⟨y, rfl, hy⟩
  rw [e0] at hy
  exact ⟨y, rfl, Bs.ofOwns hy.own, h.more hy.chg⟩
end
end
section
open Go.RowKit Go.Maps

/-- A file of the bytes bs, its node in the box rx. -/
structure RdQ (p : Pm) (U : Nat → Bool) (rx q : Nat) (bs : List Int) (nd : Nd) (X : Nat → Prop) (w : World) : Prop where
  st : ∃ s : Fm, Inx p (List.range 63) X s U 1 q w ∧ s.Pre ∧ s.b0 = bs ∧ s.n0 = nd
  nd : NdB 29 w rx nd
  rx : X rx
  n : p.n = 120
section
variable {p : Pm} {U : Nat → Bool} {rx q r : Nat} {bs b : List Int} {v u : Value} {nd nd' : Nd} {X : Nat → Prop} {w w' wb w3 : World}
theorem rd_start (h : Bgn p X (Fm.none ndK nd') U 1 q w) (hn : p.n = 120) : RdZ p U w.heap.size q [] (.slice none 0 0) ndK (w.alloc (ndK.o 29)) := by
  have hc := Chg.alloc (fun _ => False) w (ndK.o 29)
  have lt := h.xlt
  have bz := h.bz
  refine ⟨⟨_, _, (h.add hc).on (by simp), Fm.Pre.none _ _, rfl, rfl, .inr ⟨Nat.le_refl _, by simp⟩, fun g hg => by cases hg⟩, heap_alloc_new _ _, World.ownsRow_nil _ _ _ _, ⟨h.chg.size, lt _ bz.x.1, lt _ bz.x.2.1, lt _ bz.x.2.2.1⟩, hn⟩
/-- Append of a row that came in; old memory stays. -/
theorem RdZ.append' (h : RdZ p U rx q bs v nd w3) (hc : Chg (fun _ => False) w3 wb) (hb : Bs wb u b) (hub : ∀ g, u.ownBlock = some g → 0 < b.length → g < p.w0.heap.size) (hby : IsBy b) (hl : bs.length + b.length ≤ 18000) :
    Calls Tryz.prog 15 #[.pointer (some ⟨q, 0, none⟩), PV 0 1 (120 : Nat), nd.v, u] wb fun e w5 => ∃ x, e = .returned (.tuple #[x.v, .int .i64 0]) ∧ (∀ g, g = p.bb ∨ g = rx ∨ g < p.w0.heap.size → w5.heap[g]? = w3.heap[g]?) ∧ Ret w3 wb w5 (fun r w6 => RdC p U rx q bs (bs ++ b) v nd x r w6) := by
  obtain ⟨s, X, h1, hp, e0, rfl, hrx, hv⟩ := h.st
  have bz := h1.bz
  refine (rd_box u h1 hp h.n hc hb (fun g hg h0 => bz.old g (hub g hg h0)) hby (by rw [e0]; exact hl)).mono ?_
  rintro e w5 ⟨x, rfl, hs5, hr⟩
  have fin : ∀ r w6, (∃ s', Inx p (List.range 63) (fun k => X k ∨ k = r) s' U 1 q w6 ∧ s'.Pre ∧ s'.b0 = s.b0 ++ b ∧ s'.n0 = x ∧ Sm X w3 w6) → RdC p U rx q bs (bs ++ b) v s.n0 x r w6 := fun r w6 ⟨s', a1, a2, a3, a4, a5⟩ =>
    ⟨⟨s', _, a1, a2, by rw [a3, e0], a4, .inl hrx, .inr rfl, fun g hg => .inl (hv g hg)⟩, (a5 _ hrx).trans h.nd, owns_same h.own (fun g hg => a5 g (hv g hg)), h.low, h.n⟩
  refine ⟨x, rfl, fun g hg => ?_, hr.out.keep, fun w6 r a b c => fin r w6 (hr.out.old w6 r a b c), fun w6 r a b c => fin r w6 (hr.out.new w6 r a b c)⟩
  rcases hg with rfl | rfl | hg
  · exact hs5 _ bz.x.1
  · exact hs5 _ hrx
  · exact hs5 _ (bz.old g hg)
theorem RdC.chg (h : RdC p U rx q bs b v nd nd' r w) : Chg (fun _ => False) p.w0 w := by
  obtain ⟨s, X, h1, _⟩ := h.st
  exact h1.chg
theorem RdZ.toQ (h : RdZ p U rx q bs v nd w) : ∃ X, RdQ p U rx q bs nd X w ∧ ∀ g, v.ownBlock = some g → X g := by
  obtain ⟨s, X, h1, h2, h3, h4, h5, h6⟩ := h.st
  exact ⟨X, ⟨⟨s, h1, h2, h3, h4⟩, h.nd, h5, h.n⟩, h6⟩
theorem RdQ.bz (h : RdQ p U rx q bs nd X w) : Bz X p.w0 p.bb p.pl p.pr p.g p.n U w := by
  obtain ⟨s, h1, _⟩ := h.st
  exact h1.bz
theorem RdQ.chg (h : RdQ p U rx q bs nd X w) : Chg (fun _ => False) p.w0 w := by
  obtain ⟨s, h1, _⟩ := h.st
  exact h1.chg
theorem RdQ.more (h : RdQ p U rx q bs nd X w) (hc : Chg (fun _ => False) w w') : RdQ p U rx q bs nd X w' := by
  obtain ⟨s, h1, h2⟩ := h.st
  exact ⟨⟨s, h1.more hc, h2⟩, h.nd.kept hc (fun h => h), h.rx, h.n⟩
theorem RdQ.add (h : RdQ p U rx q bs nd X w) (hc : Chg (fun _ => False) w w') : RdQ p U rx q bs nd (addX X w.heap.size w'.heap.size) w' := by
  obtain ⟨s, h1, h2⟩ := h.st
  exact ⟨⟨s, h1.grow (fun _ h => h.elim) hc, h2⟩, h.nd.kept hc (fun h => h), .inl h.rx, h.n⟩
theorem RdQ.read (off cnt : Nat) (h : RdQ p U rx q bs nd X w) (h1 : off < 9223372036854775808) (h2 : cnt < 9223372036854775808) :
    Calls Tryz.prog 16 #[tI q, nd.v, .int .i64 (off : Int), .int .i64 (cnt : Int)] w fun e w' => ∃ y, e = .returned (.tuple #[y, .int .i64 0]) ∧ Bs w' y ((bs.drop off).take cnt) ∧ Hid (Chg (fun _ => False) w w') := by
  obtain ⟨s, a1, hp, e0, rfl⟩ := h.st
  have HA := in_read off cnt a1 zero_63 h1 h2
  refine HA.mono ?_
  rintro e w' ⟨y, rfl, hy⟩
  rw [e0] at hy
  exact ⟨y, rfl, Bs.ofOwns hy.own, hy.chg⟩
theorem RdQ.put (off : Nat) (h : RdQ p U rx q bs nd X w) (hz : off + b.length ≤ bs.length) (hb : Bs w u b) (hub : ∀ g, u.ownBlock = some g → 0 < b.length → X g) (hby : IsBy b) :
    Calls Tryz.prog 17 #[.pointer (some ⟨q, 0, none⟩), nd.v, .int .i64 (off : Int), u] w fun e w' => e = .returned (.int .i64 0) ∧ Hid (RdQ p U rx q (splice bs off b) nd X w' ∧ Sm X w w') := by
  obtain ⟨s, a1, hp, e0, rfl⟩ := h.st
  refine (rd_put off u a1 hp (by rw [e0]; exact hz) hb hub hby).mono ?_
  rintro e w' ⟨rfl, hx⟩
  obtain ⟨s', i1, i2, i3, i4, i5⟩ := hx.out
  exact ⟨rfl, ⟨⟨s', i1, i2, by rw [i3, e0], i4⟩, (i5 _ h.rx).trans h.nd, h.rx, h.n⟩, i5⟩
/-- Behind Cut, the node in the box r. -/
structure RdF (p : Pm) (U : Nat → Bool) (q : Nat) (bs : List Int) (nd : Nd) (X : Nat → Prop) (w3 : World) (w : World) : Prop where
  st : ∃ (s : Fm) (Y : Nat → Prop), Inx p (List.range 63) Y s U 1 q w ∧ s.b0 = bs ∧ s.n0 = nd
  sm : Sm X w3 w
theorem RdQ.cut (z : Nat) (h : RdQ p U rx q bs nd X w3) (hz : z ≤ bs.length) (hc : Chg (fun _ => False) w3 wb) :
    Calls Tryz.prog 18 #[.pointer (some ⟨q, 0, none⟩), PV 0 1 (120 : Nat), nd.v, .int .i64 (z : Int)] wb fun e w5 => ∃ x, e = .returned (.tuple #[x.v, .int .i64 0]) ∧ x.sz = (z : Int) ∧ w5.heap[p.bb]? = w3.heap[p.bb]? ∧ w5.heap[rx]? = w3.heap[rx]? ∧ Ret w3 wb w5 (fun _ w6 => RdF p U q (bs.take z) x X w3 w6) := by
  obtain ⟨s, a1, hp, e0, rfl⟩ := h.st
  have bz := a1.bz
  refine (rd_cut z a1 hp h.n (by rw [e0]; exact hz) hc).mono ?_
  rintro e w5 ⟨x, rfl, hsz, hs5, hr⟩
  refine ⟨x, rfl, hsz, hs5 _ bz.x.1, hs5 _ h.rx, hr.out.keep, fun w6 r a b' c => ?_, fun w6 r a b' c => ?_⟩
  · obtain ⟨s', i1, i2, i3, i4⟩ := hr.out.old w6 r a b' c
    exact ⟨⟨s', _, i1, by rw [i2, e0], i3⟩, i4⟩
  · obtain ⟨s', i1, i2, i3, i4⟩ := hr.out.new w6 r a b' c
    exact ⟨⟨s', _, i1, by rw [i2, e0], i3⟩, i4⟩
theorem RdF.chg (h : RdF p U q bs nd X w3 w) : Chg (fun _ => False) p.w0 w := by
  obtain ⟨s, Y, h1, _⟩ := h.st
  exact h1.chg
theorem RdF.read (cnt : Nat) (h : RdF p U q bs nd X w3 w) (h2 : cnt < 9223372036854775808) :
    Calls Tryz.prog 16 #[tI q, nd.v, .int .i64 0, .int .i64 (cnt : Int)] w fun e w' => ∃ y, e = .returned (.tuple #[y, .int .i64 0]) ∧ Bs w' y (bs.take cnt) ∧ Hid (Chg (fun _ => False) w w') := by
  obtain ⟨s, Y, a1, e0, rfl⟩ := h.st
  have HA := in_read 0 cnt a1 zero_63 (by omega) h2
  refine HA.mono ?_
  rintro e w' ⟨y, rfl, hy⟩
  rw [e0, List.drop_zero] at hy
  exact ⟨y, rfl, Bs.ofOwns hy.own, hy.chg⟩
/-- A piece of bytes. -/
theorem Bs.piece {a : Option Addr} {n c lo hi : Nat} (h : Bs w (.slice a n c) bs) (h1 : lo ≤ hi) (h2 : hi ≤ n) : Bs w (.slice (if c = lo then a else a.map fun x => x.add lo) (hi - lo) (c - lo)) ((bs.drop lo).take (hi - lo)) := by
  rcases h with ⟨e, rfl⟩ | ⟨a', c', e, hl, hm, hcell⟩
  · injection e with e1 e2 e3
    subst e1; subst e2; subst e3
    obtain rfl : lo = 0 := by omega
    obtain rfl : hi = 0 := by omega
    exact .inl ⟨rfl, rfl⟩
  · injection e with e1 e2 e3
    subst e1; subst e2; subst e3
    have hlen : ((bs.drop lo).take (hi - lo)).length = hi - lo := by simp; omega
    by_cases hcl : c = lo
    · rw [if_pos hcl]
      refine .inr ⟨a', c - lo, by rw [hlen], by rw [hlen]; omega, by omega, fun j hj => ?_⟩
      rw [hlen] at hj
      omega
    · rw [if_neg hcl]
      refine .inr ⟨a'.add lo, c - lo, by rw [hlen]; rfl, by rw [hlen]; omega, by omega, fun j hj => ?_⟩
      rw [hlen] at hj
      have e1 : (a'.add lo).add j = a'.add (lo + j) := Deep.add_add _ _ _
      rw [e1, hcell (lo + j) (by omega)]
      simp [List.getD, hj]
theorem Bs.top {a : Option Addr} {n c hi : Nat} (h : Bs w (.slice a n c) bs) (h2 : hi ≤ n) : Bs w (.slice a hi c) (bs.take hi) := by
  rcases h with ⟨e, rfl⟩ | ⟨a', c', e, hl, hm, hcell⟩
  · injection e with e1 e2 e3
    subst e1; subst e2; subst e3
    obtain rfl : hi = 0 := by omega
    exact .inl ⟨rfl, rfl⟩
  · injection e with e1 e2 e3
    subst e1; subst e2; subst e3
    have hlen : (bs.take hi).length = hi := by simp; omega
    refine .inr ⟨a', c, by rw [hlen], by omega, by omega, fun j hj => ?_⟩
    rw [hlen] at hj
    rw [hcell j (by omega)]
    simp [List.getD, hj]
theorem lit_own5 (w : World) (N : Nat) (hN : N ≤ w.heap.size) : (w.alloc (.cells #[] 5)).ownsRow N 5 1 (.slice (some ⟨w.heap.size, 0, none⟩) 0 0) 0 (bcells []) :=
  ⟨rfl, .inr ⟨w.heap.size, 0, #[], rfl, hN, heap_alloc_new w _, Nat.le_refl _, Nat.zero_le _, rfl, rfl⟩⟩
/-- What grows a row of its own leaves old memory. -/
theorem Chg.growOld {N n : Nat} {xs : List Value} (h : Chg (fun _ => False) w3 w) (ho : w.ownsRow N 5 1 v n xs) (hg : w.grownBy w' v.ownBlock) (hN : w3.heap.size ≤ N) : Chg (fun _ => False) w3 w' :=
  h.trans (Chg.ofGrown hg) (fun i hi e => by have := (owns_lo ho e).1; omega)
theorem run_strN {u : Value} {xs : List Int} (h : Bs w u xs) (n : Nat) : (convert 33 9 u).run Tryz.prog (w.drewN n) = .ok (.string (strOf xs)) (w.drewN n) := run_str (h.kept (Chg.drewN (fun _ => False) w n) (fun _ _ _ _ _ h => h))
end
end
section
open Go.RowKit Go.Maps

theorem then_only {Q : Exit → Act → World → Prop} (e : Exit) (a : Act) (w : World) (h : Exit.then (Q .normal) (fun _ _ _ => False) e a w) : Q e a w := by
  cases e <;> first | exact h | exact h.elim
set_option maxRecDepth 100000 in
set_option maxHeartbeats 12800000 in
theorem reg35 {Q : Exit → Act → World → Prop} {ps : String} {u0 u1 u2 u4 u5 u6 u7 u8 u9 u10 u13 u15 u16 u17 u18 u19 u20 u21 u22 u23 u24 u25 u26 u27 u28 u29 u30 u31 u32 u33 u34 u35 u36 u37 u38 u39 u40 u41 u42 u43 u44 u45 u46 u47 u48 u49 u50 u51 u52 u53 u54 u55 u56 u57 u58 u59 u60 u61 u62 u63 u64 u65 u66 u67 u68 u69 u70 u71 u72 u73 u74 u75 u76 u77 u78 u79 u80 u81 u82 u83 u84 u85 u86 u87 u88 u89 u90 u91 u92 u93 u94 u95 u96 u97 u98 u99 u100 u101 u102 u103 u104 u105 u106 u107 u108 u109 u110 u111 u112 u113 u114 u115 u116 u117 u118 u119 u120 u121 u122 u123 u124 u125 u126 u127 u128 u129 u130 u131 u132 u133 u134 u135 u136 u137 u138 u139 u140 u141 u142 u143 u144 u145 u146 u147 u148 u149 u150 u151 u152 u153 u154 u155 u156 u157 u158 u159 u160 u161 u162 u163 u164 u165 u166 u167 u168 u169 u170 u171 u172 u173 u174 u175 u176 u177 u178 u179 u180 u181 u182 u183 u184 u185 u186 u187 u188 u189 u190 u191 u192 u193 u194 u195 u196 u197 u198 u199 u200 u201 u202 u203 u204 u205 u206 : Value} {p : Pm} {q rx z : Nat} {B : List Int} {Xc : Nat → Prop} {wc : World} {ob orx : Obj} {kd lk zz e0 e1 e2 e3 e4 e5 e6 e7 on tw : Int}
    (kb4 : wc.heap[p.bb]? = some ob) (kr4 : wc.heap[rx]? = some orx) (hne1 : ¬ wc.heap.size = p.bb) (hne2 : ¬ wc.heap.size = rx)
    (HS : ∀ w' : World, w'.heap[p.bb]? = some ob → w'.heap[rx]? = some orx → w'.cell? ⟨p.bb, 1, none⟩ = some (.int .i64 0) ∧ w'.cell? ⟨p.bb, 2, none⟩ = some (.int .i64 1) ∧ w'.cell? ⟨p.bb, 3, none⟩ = some (.int .i64 120) ∧ w'.cell? ⟨rx, 0, none⟩ = some (.int .i64 kd) ∧ w'.cell? ⟨rx, 1, none⟩ = some (.int .i64 lk) ∧ w'.cell? ⟨rx, 2, none⟩ = some (.int .i64 zz) ∧ w'.cell? ⟨rx, 3, none⟩ = some (.int .i64 e0) ∧ w'.cell? ⟨rx, 4, none⟩ = some (.int .i64 e1) ∧ w'.cell? ⟨rx, 5, none⟩ = some (.int .i64 e2) ∧ w'.cell? ⟨rx, 6, none⟩ = some (.int .i64 e3) ∧ w'.cell? ⟨rx, 7, none⟩ = some (.int .i64 e4) ∧ w'.cell? ⟨rx, 8, none⟩ = some (.int .i64 e5) ∧ w'.cell? ⟨rx, 9, none⟩ = some (.int .i64 e6) ∧ w'.cell? ⟨rx, 10, none⟩ = some (.int .i64 e7) ∧ w'.cell? ⟨rx, 11, none⟩ = some (.int .i64 on) ∧ w'.cell? ⟨rx, 12, none⟩ = some (.int .i64 tw))
    (AP : Hid (∀ wb, Chg (fun _ => False) wc wb → Calls Tryz.prog 18 #[.pointer (some ⟨q, 0, none⟩), .agg #[.int .i64 ((0 : Nat) : Int), .int .i64 ((1 : Nat) : Int), .int .i64 ((120 : Nat) : Int)], Nd.v ⟨kd, lk, zz, e0, e1, e2, e3, e4, e5, e6, e7, on, tw⟩, .int .i64 (z : Int)] wb fun e w5 => ∃ nd', e = .returned (.tuple #[nd'.v, .int .i64 0]) ∧ Hid (nd'.sz = (z : Int)) ∧ w5.heap[p.bb]? = some ob ∧ w5.heap[rx]? = some orx ∧ Hid (Ret wc wb w5 (fun _ w6 => RdF p (fun _ => false) q (B.take z) nd' Xc wc w6))))
    (hq : ∀ (r : Nat) (nd' : Nd) (wd : World), NdB 29 wd r nd' → nd'.sz = (z : Int) → RdF p (fun _ => false) q (B.take z) nd' Xc wc wd → ∀ s170 s171 s172 s173 s174 s175 s176 s177 s178 s179 s180 : Value, Q .normal { tmps := #[u0, u1, u2, .int .i64 (z : Int), u4, u5, u6, u7, u8, u9, u10, .pointer (some ⟨p.bb, 0, none⟩), .pointer (some ⟨q, 0, none⟩), u13, .pointer (some ⟨rx, 0, none⟩), u15, u16, u17, u18, u19, u20, u21, .pointer (some ⟨r, 0, none⟩), .int .i64 0, u24, u25, u26, u27, u28, u29, u30, u31, u32, u33, u34, u35, u36, u37, u38, u39, u40, u41, u42, u43, u44, u45, u46, u47, u48, u49, u50, u51, u52, u53, u54, u55, u56, u57, u58, u59, u60, u61, u62, u63, u64, u65, u66, u67, u68, u69, u70, u71, u72, u73, u74, u75, u76, u77, u78, u79, u80, u81, u82, u83, u84, u85, u86, u87, u88, u89, u90, u91, u92, u93, u94, u95, u96, u97, u98, u99, u100, u101, u102, u103, u104, u105, u106, u107, u108, u109, u110, u111, u112, u113, u114, u115, u116, u117, u118, u119, u120, u121, u122, u123, u124, u125, u126, u127, u128, u129, u130, u131, u132, u133, u134, u135, u136, u137, u138, u139, u140, u141, u142, u143, u144, u145, u146, u147, u148, u149, u150, u151, u152, u153, u154, u155, u156, u157, u158, u159, u160, u161, u162, u163, u164, u165, u166, u167, u168, u169, s170, s171, s172, s173, s174, s175, s176, s177, s178, s179, s180, u181, u182, u183, u184, u185, u186, u187, u188, u189, u190, u191, u192, u193, u194, u195, u196, u197, u198, u199, u200, u201, u202, u203, u204, u205, u206], defers := [] } wd) :
    Code.wp Tryz.prog (Code.region 35 #[{ dst := some 171, op := Op.move (Operand.tmp 12), type := 37, pos := ps, after := #[], guard := none }, { dst := some 172, op := Op.move (Operand.tmp 11), type := 25, pos := ps, after := #[], guard := none }, { dst := some 173, op := Op.nilCheck (Operand.tmp 172), type := 0, pos := ps, after := #[{ on := 1, ground := Ground.data }], guard := none }, { dst := some 174, op := Op.fieldAddr 45 (Operand.tmp 173) 1, type := 0, pos := ps, after := #[{ on := 2, ground := Ground.data }], guard := none }, { dst := some 175, op := Op.load 42 (Operand.tmp 174), type := 42, pos := ps, after := #[{ on := 3, ground := Ground.data }], guard := none }, { dst := some 176, op := Op.load 29 (Operand.tmp 14), type := 29, pos := ps, after := #[], guard := none }, { dst := some 177, op := Op.move (Operand.tmp 3), type := 3, pos := ps, after := #[], guard := none }, { dst := some 178, op := Op.call { callee := Callee.value (Operand.func 18), args := #[Operand.tmp 171, Operand.tmp 175, Operand.tmp 176, Operand.tmp 177], argTypes := #[37, 42, 29, 3] }, type := 58, pos := ps, after := #[{ on := 0, ground := Ground.data }, { on := 4, ground := Ground.data }, { on := 5, ground := Ground.data }, { on := 6, ground := Ground.data }], guard := none }, { dst := some 170, op := Op.move (Operand.tmp 178), type := 58, pos := ps, after := #[{ on := 7, ground := Ground.data }], guard := none }, { dst := some 179, op := Op.extract (Operand.tmp 170) 0, type := 29, pos := ps, after := #[{ on := 8, ground := Ground.data }], guard := none }, { dst := some 180, op := Op.extract (Operand.tmp 170) 1, type := 38, pos := ps, after := #[{ on := 8, ground := Ground.data }, { on := 12, ground := Ground.gcOnly Departure.lateStores }], guard := none }, { dst := some 22, op := Op.alloc 29, type := 0, pos := ps, after := #[], guard := none }, { dst := none, op := Op.store 29 (Operand.tmp 22) (Operand.tmp 179), type := 0, pos := ps, after := #[{ on := 11, ground := Ground.data }, { on := 9, ground := Ground.data }, { on := 7, ground := Ground.chain }, { on := 0, ground := Ground.phase }, { on := 1, ground := Ground.phase }, { on := 2, ground := Ground.phase }, { on := 3, ground := Ground.phase }, { on := 4, ground := Ground.phase }, { on := 5, ground := Ground.phase }, { on := 6, ground := Ground.phase }, { on := 7, ground := Ground.phase }, { on := 8, ground := Ground.phase }, { on := 9, ground := Ground.phase }, { on := 10, ground := Ground.textOnly Departure.lateStores }, { on := 11, ground := Ground.phase }], guard := none }, { dst := some 23, op := Op.assign (Operand.tmp 180), type := 38, pos := ps, after := #[{ on := 10, ground := Ground.data }, { on := 12, ground := Ground.chain }, { on := 0, ground := Ground.phase }, { on := 1, ground := Ground.phase }, { on := 2, ground := Ground.phase }, { on := 3, ground := Ground.phase }, { on := 4, ground := Ground.phase }, { on := 5, ground := Ground.phase }, { on := 6, ground := Ground.phase }, { on := 7, ground := Ground.phase }, { on := 8, ground := Ground.phase }, { on := 9, ground := Ground.phase }, { on := 10, ground := Ground.phase }, { on := 11, ground := Ground.phase }, { on := 12, ground := Ground.phase }], guard := none }] true) Q { tmps := #[u0, u1, u2, .int .i64 (z : Int), u4, u5, u6, u7, u8, u9, u10, .pointer (some ⟨p.bb, 0, none⟩), .pointer (some ⟨q, 0, none⟩), u13, .pointer (some ⟨rx, 0, none⟩), u15, u16, u17, u18, u19, u20, u21, u22, u23, u24, u25, u26, u27, u28, u29, u30, u31, u32, u33, u34, u35, u36, u37, u38, u39, u40, u41, u42, u43, u44, u45, u46, u47, u48, u49, u50, u51, u52, u53, u54, u55, u56, u57, u58, u59, u60, u61, u62, u63, u64, u65, u66, u67, u68, u69, u70, u71, u72, u73, u74, u75, u76, u77, u78, u79, u80, u81, u82, u83, u84, u85, u86, u87, u88, u89, u90, u91, u92, u93, u94, u95, u96, u97, u98, u99, u100, u101, u102, u103, u104, u105, u106, u107, u108, u109, u110, u111, u112, u113, u114, u115, u116, u117, u118, u119, u120, u121, u122, u123, u124, u125, u126, u127, u128, u129, u130, u131, u132, u133, u134, u135, u136, u137, u138, u139, u140, u141, u142, u143, u144, u145, u146, u147, u148, u149, u150, u151, u152, u153, u154, u155, u156, u157, u158, u159, u160, u161, u162, u163, u164, u165, u166, u167, u168, u169, u170, u171, u172, u173, u174, u175, u176, u177, u178, u179, u180, u181, u182, u183, u184, u185, u186, u187, u188, u189, u190, u191, u192, u193, u194, u195, u196, u197, u198, u199, u200, u201, u202, u203, u204, u205, u206], defers := [] } wc := by
  have HQ : Hid _ := hq
  simp only [Nd.v] at AP
  clear hq
  refine Code.wp_mono then_only ?_
  go_region_held (fun w' => w'.cell? ⟨p.bb, 1, none⟩ = some (.int .i64 0) ∧ w'.cell? ⟨p.bb, 2, none⟩ = some (.int .i64 1) ∧ w'.cell? ⟨p.bb, 3, none⟩ = some (.int .i64 120) ∧ w'.cell? ⟨rx, 0, none⟩ = some (.int .i64 kd) ∧ w'.cell? ⟨rx, 1, none⟩ = some (.int .i64 lk) ∧ w'.cell? ⟨rx, 2, none⟩ = some (.int .i64 zz) ∧ w'.cell? ⟨rx, 3, none⟩ = some (.int .i64 e0) ∧ w'.cell? ⟨rx, 4, none⟩ = some (.int .i64 e1) ∧ w'.cell? ⟨rx, 5, none⟩ = some (.int .i64 e2) ∧ w'.cell? ⟨rx, 6, none⟩ = some (.int .i64 e3) ∧ w'.cell? ⟨rx, 7, none⟩ = some (.int .i64 e4) ∧ w'.cell? ⟨rx, 8, none⟩ = some (.int .i64 e5) ∧ w'.cell? ⟨rx, 9, none⟩ = some (.int .i64 e6) ∧ w'.cell? ⟨rx, 10, none⟩ = some (.int .i64 e7) ∧ w'.cell? ⟨rx, 11, none⟩ = some (.int .i64 on) ∧ w'.cell? ⟨rx, 12, none⟩ = some (.int .i64 tw)) (exact HS _ (by (repeat' first | with_reducible assumption | with_reducible apply hn_dr | with_reducible apply hn_al | with_reducible apply hn_set)) (by (repeat' first | with_reducible assumption | with_reducible apply hn_dr | with_reducible apply hn_al | with_reducible apply hn_set))) ((go_at_call 18; refine (AP.out _ (by (repeat first | exact Chg.refl _ _ | with_reducible apply Chg.dr | with_reducible apply Chg.al))).mono ?_; rintro e w5 ⟨⟨kd', lk', zz', e0', e1', e2', e3', e4', e5', e6', e7', on', tw'⟩, rfl, HSZ, kb5, kr5, HR⟩; have hb5 := lt_of_block kb5; have hr5 := lt_of_block kr5; have hne5 : ¬ w5.heap.size = p.bb := (by omega); have hne6 : ¬ w5.heap.size = rx := (by omega); clear hb5 hr5; first | ((with_reducible have hnc := Ret.shC HR.out); obtain ⟨r0, r1, r2, r3, r4, r5, r6, r7, r8, r9, r10, r11, r12⟩ := hnc.at; have fr5 := hnc.fr; simp only [Nd.no] at r0 r1 r2 r3 r4 r5 r6 r7 r8 r9 r10 r11 r12; have hpt := Ret.put HR.out hnc (by omega) (by first | (simp; done) | (simp; omega)) ⟨kd', lk', zz', e0', e1', e2', e3', e4', e5', e6', e7', on', tw'⟩; have HPT : Hid _ := hpt; clear hpt hnc) | skip))
  · obtain ⟨P1, P2⟩ := Ret.box1 (m := ⟨kd', lk', zz', e0', e1', e2', e3', e4', e5', e6', e7', on', tw'⟩) HR.out
    exact HQ.out _ _ _ P1 HSZ.out P2 _ _ _ _ _ _ _ _ _ _ _
  · obtain ⟨P1, P2⟩ := HPT.out
    unfold putNd at P1 P2
    simp only at P1 P2
    exact HQ.out _ _ _ P1 HSZ.out P2 _ _ _ _ _ _ _ _ _ _ _

set_option maxRecDepth 100000 in
set_option maxHeartbeats 12800000 in
theorem reg18 {Q : Exit → Act → World → Prop} {ps : String} {u1 u2 u3 u4 u5 u6 u7 u8 u9 u10 u13 u15 u17 u18 u19 u20 u21 u22 u23 u24 u25 u26 u27 u28 u29 u30 u31 u32 u33 u34 u35 u36 u37 u38 u39 u40 u41 u42 u43 u44 u45 u46 u47 u48 u49 u50 u51 u52 u53 u54 u55 u56 u57 u58 u59 u60 u61 u62 u63 u64 u65 u66 u67 u68 u69 u70 u71 u72 u73 u74 u75 u76 u77 u78 u79 u80 u81 u82 u83 u84 u85 u86 u87 u88 u89 u90 u91 u92 u93 u94 u95 u96 u97 u98 u99 u100 u101 u102 u103 u104 u105 u106 u107 u108 u109 u110 u111 u112 u113 u114 u115 u116 u117 u118 u119 u120 u121 u122 u123 u124 u125 u126 u127 u128 u129 u130 u131 u132 u133 u134 u135 u136 u137 u138 u139 u140 u141 u142 u143 u144 u145 u146 u147 u148 u149 u150 u151 u152 u153 u154 u155 u156 u157 u158 u159 u160 u161 u162 u163 u164 u165 u166 u167 u168 u169 u170 u171 u172 u173 u174 u175 u176 u177 u178 u179 u180 u181 u182 u183 u184 u185 u186 u187 u188 u189 u190 u191 u192 u193 u194 u195 u196 u197 u198 u199 u200 u201 u202 u203 u204 u205 u206 : Value} {p : Pm} {q rx lb lo LL lc k un uc : Nat} {ua : Option Addr} {bs row : List Int} {wr : World} {ob orx ol : Obj} {kd lk zz e0 e1 e2 e3 e4 e5 e6 e7 on tw : Int} (kin : (k : Int) < (LL : Int))
    (kb4 : wr.heap[p.bb]? = some ob) (kr4 : wr.heap[rx]? = some orx) (kl4 : wr.heap[lb]? = some ol) (hne1 : ¬ wr.heap.size = p.bb) (hne2 : ¬ wr.heap.size = rx) (hne3 : ¬ wr.heap.size = lb)
    (HS : ∀ w' : World, w'.heap[p.bb]? = some ob → w'.heap[rx]? = some orx → w'.heap[lb]? = some ol → w'.cell? ⟨p.bb, 1, none⟩ = some (.int .i64 0) ∧ w'.cell? ⟨p.bb, 2, none⟩ = some (.int .i64 1) ∧ w'.cell? ⟨p.bb, 3, none⟩ = some (.int .i64 120) ∧ w'.cell? ⟨rx, 0, none⟩ = some (.int .i64 kd) ∧ w'.cell? ⟨rx, 1, none⟩ = some (.int .i64 lk) ∧ w'.cell? ⟨rx, 2, none⟩ = some (.int .i64 zz) ∧ w'.cell? ⟨rx, 3, none⟩ = some (.int .i64 e0) ∧ w'.cell? ⟨rx, 4, none⟩ = some (.int .i64 e1) ∧ w'.cell? ⟨rx, 5, none⟩ = some (.int .i64 e2) ∧ w'.cell? ⟨rx, 6, none⟩ = some (.int .i64 e3) ∧ w'.cell? ⟨rx, 7, none⟩ = some (.int .i64 e4) ∧ w'.cell? ⟨rx, 8, none⟩ = some (.int .i64 e5) ∧ w'.cell? ⟨rx, 9, none⟩ = some (.int .i64 e6) ∧ w'.cell? ⟨rx, 10, none⟩ = some (.int .i64 e7) ∧ w'.cell? ⟨rx, 11, none⟩ = some (.int .i64 on) ∧ w'.cell? ⟨rx, 12, none⟩ = some (.int .i64 tw) ∧ w'.cell? ⟨lb, lo + k, none⟩ = some (.slice ua un uc))
    (AP : Hid (∀ wb, Chg (fun _ => False) wr wb → Calls Tryz.prog 15 #[.pointer (some ⟨q, 0, none⟩), .agg #[.int .i64 ((0 : Nat) : Int), .int .i64 ((1 : Nat) : Int), .int .i64 ((120 : Nat) : Int)], Nd.v ⟨kd, lk, zz, e0, e1, e2, e3, e4, e5, e6, e7, on, tw⟩, .slice ua un uc] wb fun e w5 => ∃ nd', e = .returned (.tuple #[nd'.v, .int .i64 0]) ∧ w5.heap[p.bb]? = some ob ∧ w5.heap[rx]? = some orx ∧ w5.heap[lb]? = some ol ∧ Hid (Ret wr wb w5 (fun r w6 => RdC p (fun _ => false) rx q bs (bs ++ row) u15 ⟨kd, lk, zz, e0, e1, e2, e3, e4, e5, e6, e7, on, tw⟩ nd' r w6))))
    (hq : ∀ (r : Nat) (nd' : Nd) (wd : World), NdB 29 wd r nd' → RdC p (fun _ => false) rx q bs (bs ++ row) u15 ⟨kd, lk, zz, e0, e1, e2, e3, e4, e5, e6, e7, on, tw⟩ nd' r wd → ∀ s62 s63 s64 s65 s66 s67 s68 s69 s70 s71 s72 s73 s74 s75 : Value, Q .normal { tmps := #[.slice (some ⟨lb, lo, none⟩) LL lc, u1, u2, u3, u4, u5, u6, u7, u8, u9, u10, .pointer (some ⟨p.bb, 0, none⟩), .pointer (some ⟨q, 0, none⟩), u13, .pointer (some ⟨rx, 0, none⟩), u15, .int .i64 (k : Int), .pointer (some ⟨r, 0, none⟩), .int .i64 0, u19, u20, u21, u22, u23, u24, u25, u26, u27, u28, u29, u30, u31, u32, u33, u34, u35, u36, u37, u38, u39, u40, u41, u42, u43, u44, u45, u46, u47, u48, u49, u50, u51, u52, u53, u54, u55, u56, u57, u58, u59, u60, u61, s62, s63, s64, s65, s66, s67, s68, s69, s70, s71, s72, s73, s74, s75, u76, u77, u78, u79, u80, u81, u82, u83, u84, u85, u86, u87, u88, u89, u90, u91, u92, u93, u94, u95, u96, u97, u98, u99, u100, u101, u102, u103, u104, u105, u106, u107, u108, u109, u110, u111, u112, u113, u114, u115, u116, u117, u118, u119, u120, u121, u122, u123, u124, u125, u126, u127, u128, u129, u130, u131, u132, u133, u134, u135, u136, u137, u138, u139, u140, u141, u142, u143, u144, u145, u146, u147, u148, u149, u150, u151, u152, u153, u154, u155, u156, u157, u158, u159, u160, u161, u162, u163, u164, u165, u166, u167, u168, u169, u170, u171, u172, u173, u174, u175, u176, u177, u178, u179, u180, u181, u182, u183, u184, u185, u186, u187, u188, u189, u190, u191, u192, u193, u194, u195, u196, u197, u198, u199, u200, u201, u202, u203, u204, u205, u206], defers := [] } wd) :
    Code.wp Tryz.prog (Code.region 18 #[{ dst := some 63, op := Op.move (Operand.tmp 12), type := 37, pos := ps, after := #[], guard := none }, { dst := some 64, op := Op.move (Operand.tmp 11), type := 25, pos := ps, after := #[], guard := none }, { dst := some 65, op := Op.nilCheck (Operand.tmp 64), type := 0, pos := ps, after := #[{ on := 1, ground := Ground.data }], guard := none }, { dst := some 66, op := Op.fieldAddr 45 (Operand.tmp 65) 1, type := 0, pos := ps, after := #[{ on := 2, ground := Ground.data }], guard := none }, { dst := some 67, op := Op.load 42 (Operand.tmp 66), type := 42, pos := ps, after := #[{ on := 3, ground := Ground.data }], guard := none }, { dst := some 68, op := Op.load 29 (Operand.tmp 14), type := 29, pos := ps, after := #[], guard := none }, { dst := some 69, op := Op.move (Operand.tmp 0), type := 57, pos := ps, after := #[], guard := none }, { dst := some 70, op := Op.move (Operand.tmp 16), type := 3, pos := ps, after := #[], guard := none }, { dst := some 71, op := Op.indexAddr 57 (Operand.tmp 69) (Operand.tmp 70), type := 0, pos := ps, after := #[{ on := 6, ground := Ground.data }, { on := 7, ground := Ground.data }], guard := none }, { dst := some 72, op := Op.load 33 (Operand.tmp 71), type := 33, pos := ps, after := #[{ on := 8, ground := Ground.data }], guard := none }, { dst := some 73, op := Op.call { callee := Callee.value (Operand.func 15), args := #[Operand.tmp 63, Operand.tmp 67, Operand.tmp 68, Operand.tmp 72], argTypes := #[37, 42, 29, 33] }, type := 58, pos := ps, after := #[{ on := 0, ground := Ground.data }, { on := 4, ground := Ground.data }, { on := 5, ground := Ground.data }, { on := 9, ground := Ground.data }], guard := none }, { dst := some 62, op := Op.move (Operand.tmp 73), type := 58, pos := ps, after := #[{ on := 10, ground := Ground.data }], guard := none }, { dst := some 74, op := Op.extract (Operand.tmp 62) 0, type := 29, pos := ps, after := #[{ on := 11, ground := Ground.data }], guard := none }, { dst := some 75, op := Op.extract (Operand.tmp 62) 1, type := 38, pos := ps, after := #[{ on := 11, ground := Ground.data }, { on := 15, ground := Ground.gcOnly Departure.lateStores }], guard := none }, { dst := some 17, op := Op.alloc 29, type := 0, pos := ps, after := #[], guard := none }, { dst := none, op := Op.store 29 (Operand.tmp 17) (Operand.tmp 74), type := 0, pos := ps, after := #[{ on := 14, ground := Ground.data }, { on := 12, ground := Ground.data }, { on := 10, ground := Ground.chain }, { on := 0, ground := Ground.phase }, { on := 1, ground := Ground.phase }, { on := 2, ground := Ground.phase }, { on := 3, ground := Ground.phase }, { on := 4, ground := Ground.phase }, { on := 5, ground := Ground.phase }, { on := 6, ground := Ground.phase }, { on := 7, ground := Ground.phase }, { on := 8, ground := Ground.phase }, { on := 9, ground := Ground.phase }, { on := 10, ground := Ground.phase }, { on := 11, ground := Ground.phase }, { on := 12, ground := Ground.phase }, { on := 13, ground := Ground.textOnly Departure.lateStores }, { on := 14, ground := Ground.phase }], guard := none }, { dst := some 18, op := Op.assign (Operand.tmp 75), type := 38, pos := ps, after := #[{ on := 13, ground := Ground.data }, { on := 15, ground := Ground.chain }, { on := 0, ground := Ground.phase }, { on := 1, ground := Ground.phase }, { on := 2, ground := Ground.phase }, { on := 3, ground := Ground.phase }, { on := 4, ground := Ground.phase }, { on := 5, ground := Ground.phase }, { on := 6, ground := Ground.phase }, { on := 7, ground := Ground.phase }, { on := 8, ground := Ground.phase }, { on := 9, ground := Ground.phase }, { on := 10, ground := Ground.phase }, { on := 11, ground := Ground.phase }, { on := 12, ground := Ground.phase }, { on := 13, ground := Ground.phase }, { on := 14, ground := Ground.phase }, { on := 15, ground := Ground.phase }], guard := none }] true) Q { tmps := #[.slice (some ⟨lb, lo, none⟩) LL lc, u1, u2, u3, u4, u5, u6, u7, u8, u9, u10, .pointer (some ⟨p.bb, 0, none⟩), .pointer (some ⟨q, 0, none⟩), u13, .pointer (some ⟨rx, 0, none⟩), u15, .int .i64 (k : Int), u17, u18, u19, u20, u21, u22, u23, u24, u25, u26, u27, u28, u29, u30, u31, u32, u33, u34, u35, u36, u37, u38, u39, u40, u41, u42, u43, u44, u45, u46, u47, u48, u49, u50, u51, u52, u53, u54, u55, u56, u57, u58, u59, u60, u61, u62, u63, u64, u65, u66, u67, u68, u69, u70, u71, u72, u73, u74, u75, u76, u77, u78, u79, u80, u81, u82, u83, u84, u85, u86, u87, u88, u89, u90, u91, u92, u93, u94, u95, u96, u97, u98, u99, u100, u101, u102, u103, u104, u105, u106, u107, u108, u109, u110, u111, u112, u113, u114, u115, u116, u117, u118, u119, u120, u121, u122, u123, u124, u125, u126, u127, u128, u129, u130, u131, u132, u133, u134, u135, u136, u137, u138, u139, u140, u141, u142, u143, u144, u145, u146, u147, u148, u149, u150, u151, u152, u153, u154, u155, u156, u157, u158, u159, u160, u161, u162, u163, u164, u165, u166, u167, u168, u169, u170, u171, u172, u173, u174, u175, u176, u177, u178, u179, u180, u181, u182, u183, u184, u185, u186, u187, u188, u189, u190, u191, u192, u193, u194, u195, u196, u197, u198, u199, u200, u201, u202, u203, u204, u205, u206], defers := [] } wr := by
  have HQ : Hid _ := hq
  simp only [Nd.v] at AP
  clear hq
  refine Code.wp_mono then_only ?_
  go_region_held (fun w' => w'.cell? ⟨p.bb, 1, none⟩ = some (.int .i64 0) ∧ w'.cell? ⟨p.bb, 2, none⟩ = some (.int .i64 1) ∧ w'.cell? ⟨p.bb, 3, none⟩ = some (.int .i64 120) ∧ w'.cell? ⟨rx, 0, none⟩ = some (.int .i64 kd) ∧ w'.cell? ⟨rx, 1, none⟩ = some (.int .i64 lk) ∧ w'.cell? ⟨rx, 2, none⟩ = some (.int .i64 zz) ∧ w'.cell? ⟨rx, 3, none⟩ = some (.int .i64 e0) ∧ w'.cell? ⟨rx, 4, none⟩ = some (.int .i64 e1) ∧ w'.cell? ⟨rx, 5, none⟩ = some (.int .i64 e2) ∧ w'.cell? ⟨rx, 6, none⟩ = some (.int .i64 e3) ∧ w'.cell? ⟨rx, 7, none⟩ = some (.int .i64 e4) ∧ w'.cell? ⟨rx, 8, none⟩ = some (.int .i64 e5) ∧ w'.cell? ⟨rx, 9, none⟩ = some (.int .i64 e6) ∧ w'.cell? ⟨rx, 10, none⟩ = some (.int .i64 e7) ∧ w'.cell? ⟨rx, 11, none⟩ = some (.int .i64 on) ∧ w'.cell? ⟨rx, 12, none⟩ = some (.int .i64 tw) ∧ w'.cell? ⟨lb, lo + k, none⟩ = some (.slice ua un uc)) (exact HS _ (by (repeat' first | with_reducible assumption | with_reducible apply hn_dr | with_reducible apply hn_al | with_reducible apply hn_set)) (by (repeat' first | with_reducible assumption | with_reducible apply hn_dr | with_reducible apply hn_al | with_reducible apply hn_set)) (by (repeat' first | with_reducible assumption | with_reducible apply hn_dr | with_reducible apply hn_al | with_reducible apply hn_set))) ((go_at_call 15; refine (AP.out _ (by (repeat first | exact Chg.refl _ _ | with_reducible apply Chg.dr | with_reducible apply Chg.al))).mono ?_; rintro e w5 ⟨⟨kd', lk', zz', e0', e1', e2', e3', e4', e5', e6', e7', on', tw'⟩, rfl, kb5, kr5, kl5, HR⟩; have hb5 := lt_of_block kb5; have hr5 := lt_of_block kr5; have hl5 := lt_of_block kl5; have hne5 : ¬ w5.heap.size = p.bb := (by omega); have hne6 : ¬ w5.heap.size = rx := (by omega); have hne7 : ¬ w5.heap.size = lb := (by omega); clear hb5 hr5 hl5; first | ((with_reducible have hnc := Ret.shC HR.out); obtain ⟨r0, r1, r2, r3, r4, r5, r6, r7, r8, r9, r10, r11, r12⟩ := hnc.at; have fr5 := hnc.fr; simp only [Nd.no] at r0 r1 r2 r3 r4 r5 r6 r7 r8 r9 r10 r11 r12; have hpt := Ret.put HR.out hnc (by omega) (by first | (simp; done) | (simp; omega)) ⟨kd', lk', zz', e0', e1', e2', e3', e4', e5', e6', e7', on', tw'⟩; have HPT : Hid _ := hpt; clear hpt hnc) | skip))
  · obtain ⟨P1, P2⟩ := Ret.box1 (m := ⟨kd', lk', zz', e0', e1', e2', e3', e4', e5', e6', e7', on', tw'⟩) HR.out
    exact HQ.out _ _ _ P1 P2 _ _ _ _ _ _ _ _ _ _ _ _ _ _
  · obtain ⟨P1, P2⟩ := HPT.out
    unfold putNd at P1 P2
    simp only at P1 P2
    exact HQ.out _ _ _ P1 P2 _ _ _ _ _ _ _ _ _ _ _ _ _ _

set_option maxRecDepth 100000 in
set_option maxHeartbeats 12800000 in
theorem reg34 {Q : Exit → Act → World → Prop} {ps : String} {u0 u2 u3 u5 u6 u7 u8 u9 u10 u11 u12 u13 u14 u16 u17 u18 u19 u20 u21 u22 u23 u24 u25 u26 u27 u28 u29 u30 u31 u32 u33 u34 u35 u36 u37 u38 u39 u40 u41 u42 u43 u44 u45 u46 u47 u48 u49 u50 u51 u52 u53 u54 u55 u56 u57 u58 u59 u60 u61 u62 u63 u64 u65 u66 u67 u68 u69 u70 u71 u72 u73 u74 u75 u76 u77 u78 u79 u80 u81 u82 u83 u84 u85 u86 u87 u88 u89 u90 u91 u92 u93 u94 u95 u96 u97 u98 u99 u100 u101 u102 u103 u104 u105 u106 u107 u108 u109 u110 u111 u112 u113 u114 u115 u116 u117 u118 u119 u120 u121 u122 u123 u124 u125 u126 u127 u128 u129 u130 u131 u132 u133 u134 u135 u136 u137 u138 u139 u140 u141 u142 u143 u144 u145 u146 u147 u148 u149 u150 u151 u152 u153 u154 u155 u156 u157 u158 u159 u160 u161 u162 u163 u164 u165 u166 u167 u168 u169 u170 u171 u172 u173 u174 u175 u176 u177 u178 u179 u180 u181 u182 u183 u184 u185 u186 u187 u188 u189 u190 u191 u192 u193 u194 u195 u196 u197 u198 u199 u200 u201 u202 u203 u204 u205 u206 : Value} {va pa : Option Addr} {T vc o pn pc : Nat} {bs pb : List Int} {w6 : World}
    (hpan : ∀ (ch : List PanicEntry) (a : Act) (d : Nat) (v : Value) (w : World), Q (.panic ch) (a.put (some d) v) w → Q (.panic ch) a w) (ho : o ≤ T) (hcap : T ≤ vc) (hTl : bs.length = T) (hpl : pb.length = pn) (hpt : o + pn ≤ T) (hTm : T ≤ 18000) (VB6 : Bs w6 (.slice va T vc) bs) (PB6 : Bs w6 (.slice pa pn pc) pb)
    (hq : ∀ (a7 : Option Addr) (c7 : Nat) (V4 : World), T ≤ c7 → Bs V4 (.slice a7 T c7) (splice bs o pb) → Chg (fun _ => False) w6 V4 → (∀ g, (Value.slice a7 T c7).ownBlock = some g → w6.heap.size ≤ g ∧ g < V4.heap.size) → ∀ s156 s157 s158 s159 s160 s161 s162 s163 s164 s165 s166 s167 s168 s169 : Value, Q .normal { tmps := #[u0, .int .i64 (o : Int), u2, u3, .slice pa pn pc, u5, u6, u7, u8, u9, u10, u11, u12, u13, u14, .slice a7 T c7, u16, u17, u18, u19, u20, u21, u22, u23, u24, u25, u26, u27, u28, u29, u30, u31, u32, u33, u34, u35, u36, u37, u38, u39, u40, u41, u42, u43, u44, u45, u46, u47, u48, u49, u50, u51, u52, u53, u54, u55, u56, u57, u58, u59, u60, u61, u62, u63, u64, u65, u66, u67, u68, u69, u70, u71, u72, u73, u74, u75, u76, u77, u78, u79, u80, u81, u82, u83, u84, u85, u86, u87, u88, u89, u90, u91, u92, u93, u94, u95, u96, u97, u98, u99, u100, u101, u102, u103, u104, u105, u106, u107, u108, u109, u110, u111, u112, u113, u114, u115, u116, u117, u118, u119, u120, u121, u122, u123, u124, u125, u126, u127, u128, u129, u130, u131, u132, u133, u134, u135, u136, u137, u138, u139, u140, u141, u142, u143, u144, u145, u146, u147, u148, u149, u150, u151, u152, u153, u154, u155, s156, s157, s158, s159, s160, s161, s162, s163, s164, s165, s166, s167, s168, s169, u170, u171, u172, u173, u174, u175, u176, u177, u178, u179, u180, u181, u182, u183, u184, u185, u186, u187, u188, u189, u190, u191, u192, u193, u194, u195, u196, u197, u198, u199, u200, u201, u202, u203, u204, u205, u206], defers := [] } V4) :
    Code.wp Tryz.prog (Code.region 34 #[{ dst := some 156, op := Op.buildSlice 33 0 #[], type := 33, pos := ps, after := #[], guard := none }, { dst := some 157, op := Op.move (Operand.tmp 15), type := 33, pos := ps, after := #[], guard := none }, { dst := some 158, op := Op.move (Operand.tmp 1), type := 3, pos := ps, after := #[], guard := none }, { dst := some 159, op := Op.slice 33 (Operand.tmp 157) none (some (Operand.tmp 158)) none, type := 33, pos := ps, after := #[{ on := 1, ground := Ground.data }, { on := 2, ground := Ground.data }], guard := none }, { dst := some 160, op := Op.call { callee := Callee.builtin Builtin.append, args := #[Operand.tmp 156, Operand.tmp 159], argTypes := #[33, 33] }, type := 33, pos := ps, after := #[{ on := 0, ground := Ground.data }, { on := 3, ground := Ground.data }], guard := none }, { dst := some 161, op := Op.move (Operand.tmp 4), type := 33, pos := ps, after := #[], guard := none }, { dst := some 162, op := Op.call { callee := Callee.builtin Builtin.append, args := #[Operand.tmp 160, Operand.tmp 161], argTypes := #[33, 33] }, type := 33, pos := ps, after := #[{ on := 4, ground := Ground.data }, { on := 5, ground := Ground.data }, { on := 4, ground := Ground.chain }], guard := none }, { dst := some 163, op := Op.move (Operand.tmp 15), type := 33, pos := ps, after := #[], guard := none }, { dst := some 164, op := Op.move (Operand.tmp 1), type := 3, pos := ps, after := #[], guard := none }, { dst := some 165, op := Op.move (Operand.tmp 4), type := 33, pos := ps, after := #[], guard := none }, { dst := some 166, op := Op.call { callee := Callee.builtin Builtin.len, args := #[Operand.tmp 165], argTypes := #[33] }, type := 3, pos := ps, after := #[{ on := 9, ground := Ground.data }], guard := none }, { dst := some 167, op := Op.binOp BinOp.add 3 (Operand.tmp 164) (Operand.tmp 166) 3, type := 3, pos := ps, after := #[{ on := 8, ground := Ground.data }, { on := 10, ground := Ground.data }], guard := none }, { dst := some 168, op := Op.slice 33 (Operand.tmp 163) (some (Operand.tmp 167)) none none, type := 33, pos := ps, after := #[{ on := 7, ground := Ground.data }, { on := 11, ground := Ground.data }], guard := none }, { dst := some 169, op := Op.call { callee := Callee.builtin Builtin.append, args := #[Operand.tmp 162, Operand.tmp 168], argTypes := #[33, 33] }, type := 33, pos := ps, after := #[{ on := 6, ground := Ground.data }, { on := 12, ground := Ground.data }, { on := 6, ground := Ground.chain }], guard := none }, { dst := some 15, op := Op.assign (Operand.tmp 169), type := 33, pos := ps, after := #[{ on := 13, ground := Ground.data }, { on := 13, ground := Ground.chain }, { on := 0, ground := Ground.phase }, { on := 1, ground := Ground.phase }, { on := 2, ground := Ground.phase }, { on := 3, ground := Ground.phase }, { on := 4, ground := Ground.phase }, { on := 5, ground := Ground.phase }, { on := 6, ground := Ground.phase }, { on := 7, ground := Ground.phase }, { on := 8, ground := Ground.phase }, { on := 9, ground := Ground.phase }, { on := 10, ground := Ground.phase }, { on := 11, ground := Ground.phase }, { on := 12, ground := Ground.phase }, { on := 13, ground := Ground.phase }], guard := none }] true) Q { tmps := #[u0, .int .i64 (o : Int), u2, u3, .slice pa pn pc, u5, u6, u7, u8, u9, u10, u11, u12, u13, u14, .slice va T vc, u16, u17, u18, u19, u20, u21, u22, u23, u24, u25, u26, u27, u28, u29, u30, u31, u32, u33, u34, u35, u36, u37, u38, u39, u40, u41, u42, u43, u44, u45, u46, u47, u48, u49, u50, u51, u52, u53, u54, u55, u56, u57, u58, u59, u60, u61, u62, u63, u64, u65, u66, u67, u68, u69, u70, u71, u72, u73, u74, u75, u76, u77, u78, u79, u80, u81, u82, u83, u84, u85, u86, u87, u88, u89, u90, u91, u92, u93, u94, u95, u96, u97, u98, u99, u100, u101, u102, u103, u104, u105, u106, u107, u108, u109, u110, u111, u112, u113, u114, u115, u116, u117, u118, u119, u120, u121, u122, u123, u124, u125, u126, u127, u128, u129, u130, u131, u132, u133, u134, u135, u136, u137, u138, u139, u140, u141, u142, u143, u144, u145, u146, u147, u148, u149, u150, u151, u152, u153, u154, u155, u156, u157, u158, u159, u160, u161, u162, u163, u164, u165, u166, u167, u168, u169, u170, u171, u172, u173, u174, u175, u176, u177, u178, u179, u180, u181, u182, u183, u184, u185, u186, u187, u188, u189, u190, u191, u192, u193, u194, u195, u196, u197, u198, u199, u200, u201, u202, u203, u204, u205, u206], defers := [] } w6 := by
  obtain ⟨ep, hep⟩ : ∃ ep, o + pn = ep := ⟨_, rfl⟩
  have zw : IntKind.i64.wrap ((o : Int) + (pn : Int)) = (ep : Int) := by rw [IntKind.wrap_i64]; omega
  have b1 := VB6.top (hi := o) ho
  have b3 := VB6.piece (lo := ep) (hi := T) (by omega) (Nat.le_refl _)
  obtain ⟨sv2, hsv2⟩ : ∃ sv, (if vc = ep then va else Option.map (fun x => x.add ep) va) = sv := ⟨_, rfl⟩
  rw [hsv2] at b3
  have b3l : (bs.drop ep).take (T - ep) = bs.drop ep := List.take_of_length_le (by rw [List.length_drop]; omega)
  rw [b3l] at b3
  have z1 : (o : Int) ≤ (vc : Int) := by omega
  have z2 : (ep : Int) ≤ (T : Int) := by omega
  have z3 : (T : Int) ≤ (vc : Int) := by omega
  have z4 : ep ≤ T := by omega
  have D0 : Chg (fun _ => False) w6 w6.drew := Chg.drew _ _
  have HK : Hid (∀ V, Chg (fun _ => False) w6 V → Bs V (.slice va o vc) (bs.take o) ∧ Bs V (.slice pa pn pc) pb ∧ Bs V (.slice sv2 (T - ep) (vc - ep)) (bs.drop ep)) := fun V hc => ⟨b1.kept hc (fun _ _ _ _ _ h => h), PB6.kept hc (fun _ _ _ _ _ h => h), b3.kept hc (fun _ _ _ _ _ h => h)⟩
  obtain ⟨i0, hi, hz0, hz1, hz2⟩ := info5_parts
  obtain ⟨N6, hN6⟩ : ∃ N6, w6.heap.size = N6 := ⟨_, rfl⟩
  have hD1 : N6 ≤ w6.drew.heap.size := by rw [← hN6]; exact D0.size
  have HQ : Hid _ := hq
  clear VB6 b3l b1 b3 PB6 hq
  refine wp_region_held_drew (S := (fun _ => True)) (by kernel_rfl) trivial (fun hHeld => ?_)
  generalize w6.drew = V0 at *
  refine wpAnyH_take (i := 1) (v := ?_) rfl (by kernel_rfl) (by kernel_rfl) (by kernel_rfl) (fun _ _ _ h => hpan _ _ _ _ _ h) (Or.inl ⟨by rfl, ?_⟩) hHeld ?_
  rotate_left
  · (intro w hSw; (try dsimp only at hSw); go_simp; try with_reducible rfl)
  simp only [List.getElem_toArray, List.getElem_cons_succ, List.getElem_cons_zero, Act.put, List.setIfInBounds_toArray, List.set_cons_zero, List.set_cons_succ]
  refine wpAnyH_take (i := 2) (v := ?_) rfl (by kernel_rfl) (by kernel_rfl) (by kernel_rfl) (fun _ _ _ h => hpan _ _ _ _ _ h) (Or.inl ⟨by rfl, ?_⟩) hHeld ?_
  rotate_left
  · (intro w hSw; (try dsimp only at hSw); go_simp; try with_reducible rfl)
  simp only [List.getElem_toArray, List.getElem_cons_succ, List.getElem_cons_zero, Act.put, List.setIfInBounds_toArray, List.set_cons_zero, List.set_cons_succ]
  refine wpAnyH_take (i := 3) (v := ?_) rfl (by kernel_rfl) (by kernel_rfl) (by kernel_rfl) (fun _ _ _ h => hpan _ _ _ _ _ h) (Or.inl ⟨by rfl, ?_⟩) hHeld ?_
  rotate_left
  · (intro w hSw; (try dsimp only at hSw); go_simp; try with_reducible rfl)
  simp only [List.getElem_toArray, List.getElem_cons_succ, List.getElem_cons_zero, Act.put, List.setIfInBounds_toArray, List.set_cons_zero, List.set_cons_succ]
  refine wpAnyH_take (i := 5) (v := ?_) rfl (by kernel_rfl) (by kernel_rfl) (by kernel_rfl) (fun _ _ _ h => hpan _ _ _ _ _ h) (Or.inl ⟨by rfl, ?_⟩) hHeld ?_
  rotate_left
  · (intro w hSw; (try dsimp only at hSw); go_simp; try with_reducible rfl)
  simp only [List.getElem_toArray, List.getElem_cons_succ, List.getElem_cons_zero, Act.put, List.setIfInBounds_toArray, List.set_cons_zero, List.set_cons_succ]
  refine wpAnyH_take (i := 7) (v := ?_) rfl (by kernel_rfl) (by kernel_rfl) (by kernel_rfl) (fun _ _ _ h => hpan _ _ _ _ _ h) (Or.inl ⟨by rfl, ?_⟩) hHeld ?_
  rotate_left
  · (intro w hSw; (try dsimp only at hSw); go_simp; try with_reducible rfl)
  simp only [List.getElem_toArray, List.getElem_cons_succ, List.getElem_cons_zero, Act.put, List.setIfInBounds_toArray, List.set_cons_zero, List.set_cons_succ]
  refine wpAnyH_take (i := 8) (v := ?_) rfl (by kernel_rfl) (by kernel_rfl) (by kernel_rfl) (fun _ _ _ h => hpan _ _ _ _ _ h) (Or.inl ⟨by rfl, ?_⟩) hHeld ?_
  rotate_left
  · (intro w hSw; (try dsimp only at hSw); go_simp; try with_reducible rfl)
  simp only [List.getElem_toArray, List.getElem_cons_succ, List.getElem_cons_zero, Act.put, List.setIfInBounds_toArray, List.set_cons_zero, List.set_cons_succ]
  refine wpAnyH_take (i := 9) (v := ?_) rfl (by kernel_rfl) (by kernel_rfl) (by kernel_rfl) (fun _ _ _ h => hpan _ _ _ _ _ h) (Or.inl ⟨by rfl, ?_⟩) hHeld ?_
  rotate_left
  · (intro w hSw; (try dsimp only at hSw); go_simp; try with_reducible rfl)
  simp only [List.getElem_toArray, List.getElem_cons_succ, List.getElem_cons_zero, Act.put, List.setIfInBounds_toArray, List.set_cons_zero, List.set_cons_succ]
  refine wpAnyH_take (i := 10) (v := ?_) rfl (by kernel_rfl) (by kernel_rfl) (by kernel_rfl) (fun _ _ _ h => hpan _ _ _ _ _ h) (Or.inl ⟨by rfl, ?_⟩) hHeld ?_
  rotate_left
  · (intro w hSw; (try dsimp only at hSw); go_simp; try with_reducible rfl)
  simp only [List.getElem_toArray, List.getElem_cons_succ, List.getElem_cons_zero, Act.put, List.setIfInBounds_toArray, List.set_cons_zero, List.set_cons_succ]
  refine wpAnyH_take (i := 11) (v := ?_) rfl (by kernel_rfl) (by kernel_rfl) (by kernel_rfl) (fun _ _ _ h => hpan _ _ _ _ _ h) (Or.inl ⟨by rfl, ?_⟩) hHeld ?_
  rotate_left
  · (intro w hSw; (try dsimp only at hSw); go_simp; try with_reducible rfl)
  simp only [List.getElem_toArray, List.getElem_cons_succ, List.getElem_cons_zero, Act.put, List.setIfInBounds_toArray, List.set_cons_zero, List.set_cons_succ]
  refine wpAnyH_take (i := 12) (v := ?_) rfl (by kernel_rfl) (by kernel_rfl) (by kernel_rfl) (fun _ _ _ h => hpan _ _ _ _ _ h) (Or.inl ⟨by rfl, ?_⟩) hHeld ?_
  rotate_left
  · (intro w hSw; (try dsimp only at hSw); go_simp; try with_reducible rfl)
  simp only [List.getElem_toArray, List.getElem_cons_succ, List.getElem_cons_zero, Act.put, List.setIfInBounds_toArray, List.set_cons_zero, List.set_cons_succ]
  refine wpAnyH_ready (rs := [0]) (by kernel_rfl) (by simp) ?_
  refine AllReadyH.cons rfl (fun K hK => ?_) AllReadyH.nil
  go_simp
  have OA := lit_own5 V0 N6 hD1
  have D1 : Chg (fun _ => False) w6 (V0.alloc (.cells #[] 5)) := D0.trans (Chg.alloc _ _ _) (fun _ _ h => h)
  have cA := Chg.alloc (fun _ => False) V0 (.cells #[] 5)
  have hD2 : N6 ≤ (V0.alloc (.cells #[] 5)).heap.size := Nat.le_trans hD1 cA.size
  refine hK.out _ _ trivial (fun hHeld => ?_)
  clear hK K cA D0
  generalize V0.alloc (.cells #[] 5) = V1 at *
  refine wpAnyH_ready (rs := [4]) (by kernel_rfl) (by simp) ?_
  refine AllReadyH.cons rfl (fun K hK => ?_) AllReadyH.nil
  refine step_app (by rfl) _ _ 33 (by rfl) N6 i0 Tryz.underlying33 hi hz0 hz1 hz2 _ _ 0 [] (bs.take o) (by rfl) OA (by rfl) (HK.out _ D1).1 (by simp; omega) hD2 ?_
  intro v4 V2 OB gr4 at4
  have D2 := D1.growOld OA gr4 (by omega)
  have hD3 : N6 ≤ V2.heap.size := Nat.le_trans hD2 (Chg.ofGrown gr4).size
  refine hK.out _ _ trivial (fun hHeld => ?_)
  clear hK K OA gr4 at4
  simp only [List.getElem_toArray, List.getElem_cons_succ, List.getElem_cons_zero, Act.put, List.setIfInBounds_toArray, List.set_cons_zero, List.set_cons_succ]
  refine wpAnyH_ready (rs := [6]) (by kernel_rfl) (by simp) ?_
  refine AllReadyH.cons rfl (fun K hK => ?_) AllReadyH.nil
  refine step_app (by rfl) _ _ 33 (by rfl) N6 i0 Tryz.underlying33 hi hz0 hz1 hz2 _ _ _ ([] ++ bs.take o) pb (by rfl) OB (by rfl) (HK.out _ D2).2.1 (by simp; omega) hD3 ?_
  intro v6 V3 OC gr6 at6
  have D3 := D2.growOld OB gr6 (by omega)
  have hD4 : N6 ≤ V3.heap.size := Nat.le_trans hD3 (Chg.ofGrown gr6).size
  refine hK.out _ _ trivial (fun hHeld => ?_)
  clear hK K OB gr6 at6
  simp only [List.getElem_toArray, List.getElem_cons_succ, List.getElem_cons_zero, Act.put, List.setIfInBounds_toArray, List.set_cons_zero, List.set_cons_succ]
  refine wpAnyH_ready (rs := [13]) (by kernel_rfl) (by simp) ?_
  refine AllReadyH.cons rfl (fun K hK => ?_) AllReadyH.nil
  refine step_app (by rfl) _ _ 33 (by rfl) N6 i0 Tryz.underlying33 hi hz0 hz1 hz2 _ _ _ ([] ++ bs.take o ++ pb) (bs.drop ep) (by rfl) OC (by rfl) (HK.out _ D3).2.2 (by simp; omega) hD4 ?_
  intro v13 V4 OD gr13 at13
  have D4 := D3.growOld OC gr13 (by omega)
  have hD5 : N6 ≤ V4.heap.size := Nat.le_trans hD4 (Chg.ofGrown gr13).size
  refine hK.out _ _ trivial (fun hHeld => ?_)
  clear hK K OC gr13 at13
  simp only [List.getElem_toArray, List.getElem_cons_succ, List.getElem_cons_zero, Act.put, List.setIfInBounds_toArray, List.set_cons_zero, List.set_cons_succ]
  refine wpAnyH_take (i := 14) (v := ?_) rfl (by kernel_rfl) (by kernel_rfl) (by kernel_rfl) (fun _ _ _ h => hpan _ _ _ _ _ h) (Or.inl ⟨by rfl, ?_⟩) hHeld ?_
  rotate_left
  · (intro w hSw; (try dsimp only at hSw); go_simp; try with_reducible rfl)
  simp only [List.getElem_toArray, List.getElem_cons_succ, List.getElem_cons_zero, Act.put, List.setIfInBounds_toArray, List.set_cons_zero, List.set_cons_succ]
  refine wpAnyH_done (by kernel_rfl) ?_ _
  have hsp : [] ++ bs.take o ++ pb ++ bs.drop ep = splice bs o pb := by unfold splice; rw [hpl, hep]; rfl
  have hsl : (splice bs o pb).length = T := by rw [splice_len (by omega)]; exact hTl
  rw [hsp] at OD
  have OD' : V4.ownsRow N6 5 1 v13 T (bcells (splice bs o pb)) := by
    have e10 : 0 + (bs.take o).length + pb.length + (bs.drop ep).length = T := by rw [List.length_take, List.length_drop]; omega
    rw [e10] at OD
    exact OD
  obtain ⟨a7, c7, rfl⟩ := own_sl5 OD'
  have hB7 := Bs.ofOwns OD'
  have hc7 : T ≤ c7 := by
    rcases hB7 with ⟨e, e2⟩ | ⟨a, c, e, hl, _⟩
    · injection e with _ e2 e3; omega
    · injection e with _ e2 e3; omega
  have HX7 : ∀ g, (Value.slice a7 T c7).ownBlock = some g → w6.heap.size ≤ g ∧ g < V4.heap.size := fun g hg => by
    have := owns_lo OD' hg
    rw [hN6]; exact this
  exact HQ.out a7 c7 V4 hc7 hB7 D4 HX7 _ _ _ _ _ _ _ _ _ _ _ _ _ _
end
end Go.Proofs.YtnnaemlipahamaaGreat

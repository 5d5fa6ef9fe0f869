/-
  A node in a block of its own, filled cell by cell, and a reader beside it.
-/
import Derived.Test.YtcclpfcgodckgaaDoorIEnc
import Derived.Test.YtcclpfcgodckgaaDoorKRefR
namespace Go.Proofs.YtcclpfcgodckgaaDoor
open Go.RowKit

/-- The node n lies in block b. -/
def NdB (T : TypeId) (w : World) (b : Nat) (n : Nd) : Prop := w.heap[b]? = some (.cells #[.int .i64 n.kd, .int .i64 n.lk, .int .i64 n.sz, .int .i64 n.d0, .int .i64 n.d1, .int .i64 n.d2, .int .i64 n.d3, .int .i64 n.d4, .int .i64 n.d5, .int .i64 n.d6, .int .i64 n.d7, .int .i64 n.on, .int .i64 n.tw] T (0, 0))
/-- The node with one number set. -/
def Nd.set (n : Nd) (j : Nat) (x : Int) : Nd :=
  match j with
  | 0 => { n with kd := x }
  | 1 => { n with lk := x }
  | 2 => { n with sz := x }
  | 3 => { n with d0 := x }
  | 4 => { n with d1 := x }
  | 5 => { n with d2 := x }
  | 6 => { n with d3 := x }
  | 7 => { n with d4 := x }
  | 8 => { n with d5 := x }
  | 9 => { n with d6 := x }
  | 10 => { n with d7 := x }
  | 11 => { n with on := x }
  | 12 => { n with tw := x }
  | _ => n
theorem NdB.at {T : TypeId} {w : World} {b : Nat} {n : Nd} (h : NdB T w b n) : NdAt w b n := NdAt.ofBlk h
theorem NdB.lt {T : TypeId} {w : World} {b : Nat} {n : Nd} (h : NdB T w b n) : b < w.heap.size := h.at.lt
theorem NdB.fr {T : TypeId} {w : World} {b : Nat} {n : Nd} (h : NdB T w b n) (j : Nat) : w.frozen? ⟨b, j, none⟩ = false := by
  unfold NdB at h
  simp [World.frozen?, h]
theorem NdB.kept {T : TypeId} {S : Nat → Prop} {w w' : World} {b : Nat} {n : Nd} (h : NdB T w b n) (hc : Chg S w w') (hn : ¬ S b) : NdB T w' b n := (hc.block b h.lt hn).trans h
theorem NdB.st {T : TypeId} {w : World} {b : Nat} {n : Nd} (h : NdB T w b n) (j : Nat) (x : Int) (hj : j < 13) : NdB T (w.setCell ⟨b, j, none⟩ (.int .i64 x)) b (n.set j x) := by
  have g := heap_setCell_same w b j _ T (.int .i64 x) h
  unfold NdB
  rw [g]
  have hc : j = 0 ∨ j = 1 ∨ j = 2 ∨ j = 3 ∨ j = 4 ∨ j = 5 ∨ j = 6 ∨ j = 7 ∨ j = 8 ∨ j = 9 ∨ j = 10 ∨ j = 11 ∨ j = 12 := by omega
  rcases hc with rfl | rfl | rfl | rfl | rfl | rfl | rfl | rfl | rfl | rfl | rfl | rfl | rfl <;> rfl
/-- What is bytes is no node. -/
theorem NdB.off {T : TypeId} {w : World} {b : Nat} {n : Nd} (h : NdB T w b n) {v : Value} {xs : List Int} (hb : Bs w v xs) : ∀ a m c, v = .slice (some a) m c → 0 < m → a.block ≠ b := by
  intro a m c e h0 hab
  rcases hb with ⟨e2, _⟩ | ⟨a2, c2, e2, _, _, hcell⟩
  · rw [e2] at e; cases e
  · rw [e2] at e
    cases e
    have h1 := hcell 0 h0
    have e0 : a.add 0 = a := by unfold Addr.add; split <;> simp_all
    rw [e0] at h1
    obtain ⟨blk, off, spot⟩ := a
    simp only at hab
    subst hab
    obtain rfl : spot = none := by simpa using World.cell?_spot h1
    rw [cell_of_row w blk off _ _ _ h] at h1
    have : ∀ u ∈ (#[Value.int .i64 n.kd, .int .i64 n.lk, .int .i64 n.sz, .int .i64 n.d0, .int .i64 n.d1, .int .i64 n.d2, .int .i64 n.d3, .int .i64 n.d4, .int .i64 n.d5, .int .i64 n.d6, .int .i64 n.d7, .int .i64 n.on, .int .i64 n.tw] : Array Value), ∃ y, u = .int .i64 y := by
      intro u hu
      simp at hu
      rcases hu with rfl | rfl | rfl | rfl | rfl | rfl | rfl | rfl | rfl | rfl | rfl | rfl | rfl <;> exact ⟨_, rfl⟩
    obtain ⟨y, hy⟩ := this _ (Array.mem_of_getElem? h1)
    cases hy

/-- The node whose first k direct numbers are f's. -/
def Nd.fill (n : Nd) (f : Nat → Int) : Nat → Nd
  | 0 => n
  | k + 1 => (n.fill f k).set (3 + k) (f k)

/-- codec's reader at p, at place k of xs; the node n in block b. -/
structure TkAt (N : Nat) (w0 : World) (p r b : Nat) (xs : List Int) (w : World) (k : Nat) (n : Nd) : Prop where
  rd : ∃ v, RdS N w p v ⟨xs.drop k, 0⟩
  nd : NdB 24 w b n
  res : NdB 24 w r Nd.no
  rb : r ≠ b
  rn : w0.heap.size ≤ r
  ne : p ≠ b
  np : p ≠ r
  chg : Chg (fun k => k = p) w0 w
  new : w0.heap.size ≤ b
theorem TkAt.read {N p r b k k' : Nat} {w0 w w' : World} {xs : List Int} {n : Nd} (h : TkAt N w0 p r b xs w k n) {v' : Value} (hr : RdSTo N p w w' v' ⟨xs.drop k', 0⟩) : TkAt N w0 p r b xs w' k' n :=
  ⟨⟨_, hr.rd⟩, h.nd.kept hr.chg (fun e => h.ne e.symm), h.res.kept hr.chg (fun e => h.np e.symm), h.rb, h.rn, h.ne, h.np, h.chg.trans hr.chg (fun _ _ h => h), h.new⟩
theorem TkAt.store {N p r b k : Nat} {w0 w : World} {xs : List Int} {n : Nd} (h : TkAt N w0 p r b xs w k n) (j : Nat) (x : Int) (hj : j < 13) : TkAt N w0 p r b xs (w.setCell ⟨b, j, none⟩ (.int .i64 x)) k (n.set j x) := by
  obtain ⟨v, hr⟩ := h.rd
  have hc : Chg (fun k => k = b) w (w.setCell ⟨b, j, none⟩ (.int .i64 x)) := Chg.setCell (S := fun k => k = b) w _ _ rfl
  exact ⟨⟨v, hr.kept hc h.ne (h.nd.off hr.bs)⟩, h.nd.st j x hj, h.res.kept hc h.rb, h.rb, h.rn, h.ne, h.np, h.chg.trans hc (fun i hi e => by have := h.new; omega), h.new⟩
theorem TkAt.u8 {N p r b k : Nat} {w0 w : World} {xs : List Int} {n : Nd} (h : TkAt N w0 p r b xs w k n) (hB : IsB xs) (hk : k + 1 ≤ xs.length) :
    Calls Tryd.prog 42 #[.pointer (some ⟨p, 0, none⟩)] w fun e w' => e = .returned (.int .i64 (numAt xs k 1)) ∧ TkAt N w0 p r b xs w' (k + 1) n := by
  obtain ⟨v, hr⟩ := h.rd
  refine (ru8_any N p v ⟨xs.drop k, 0⟩ w hr (hB.drop k)).mono ?_
  rintro e' w' ⟨rfl, v', h'⟩
  obtain ⟨e1, e2⟩ := tk_at xs k 1 hk
  have e1' : valB (tkV ⟨xs.drop k, 0⟩ 1) = numAt xs k 1 := e1
  have e2' : tkS ⟨xs.drop k, 0⟩ 1 = ⟨xs.drop (k + 1), 0⟩ := e2
  rw [e2'] at h'
  exact ⟨by rw [e1'], h.read h'⟩
theorem TkAt.u16 {N p r b k : Nat} {w0 w : World} {xs : List Int} {n : Nd} (h : TkAt N w0 p r b xs w k n) (hB : IsB xs) (hk : k + 2 ≤ xs.length) :
    Calls Tryd.prog 43 #[.pointer (some ⟨p, 0, none⟩)] w fun e w' => e = .returned (.int .i64 (numAt xs k 2)) ∧ TkAt N w0 p r b xs w' (k + 2) n := by
  obtain ⟨v, hr⟩ := h.rd
  refine (ru16_any N p v ⟨xs.drop k, 0⟩ w hr (hB.drop k)).mono ?_
  rintro e' w' ⟨rfl, v', h'⟩
  obtain ⟨e1, e2⟩ := tk_at xs k 2 hk
  have e1' : valB (tkV ⟨xs.drop k, 0⟩ 2) = numAt xs k 2 := e1
  have e2' : tkS ⟨xs.drop k, 0⟩ 2 = ⟨xs.drop (k + 2), 0⟩ := e2
  rw [e2'] at h'
  exact ⟨by rw [e1'], h.read h'⟩
theorem TkAt.u32 {N p r b k : Nat} {w0 w : World} {xs : List Int} {n : Nd} (h : TkAt N w0 p r b xs w k n) (hB : IsB xs) (hk : k + 4 ≤ xs.length) :
    Calls Tryd.prog 44 #[.pointer (some ⟨p, 0, none⟩)] w fun e w' => e = .returned (.int .i64 (numAt xs k 4)) ∧ TkAt N w0 p r b xs w' (k + 4) n := by
  obtain ⟨v, hr⟩ := h.rd
  refine (ru32_any N p v ⟨xs.drop k, 0⟩ w hr (hB.drop k)).mono ?_
  rintro e' w' ⟨rfl, v', h'⟩
  obtain ⟨e1, e2⟩ := tk_at xs k 4 hk
  have e1' : valB (tkV ⟨xs.drop k, 0⟩ 4) = numAt xs k 4 := e1
  have e2' : tkS ⟨xs.drop k, 0⟩ 4 = ⟨xs.drop (k + 4), 0⟩ := e2
  rw [e2'] at h'
  exact ⟨by rw [e1'], h.read h'⟩

/-- The reference's reader at q, at place k of xs; the node n in block b. -/
structure TfAt (N : Nat) (w0 : World) (q r b : Nat) (bv : Value) (xs : List Int) (w : World) (k : Nat) (n : Nd) : Prop where
  rd : ∃ at' e, RR N w q bv xs at' e ∧ Sim ⟨xs.drop k, 0⟩ xs at' e
  nd : NdB 29 w b n
  res : NdB 29 w r Nd.no
  rb : r ≠ b
  rn : w0.heap.size ≤ r
  ne : q ≠ b
  np : q ≠ r
  chg : Chg (fun k => k = q) w0 w
  new : w0.heap.size ≤ b
theorem TfAt.store {N q r b k : Nat} {bv : Value} {w0 w : World} {xs : List Int} {n : Nd} (h : TfAt N w0 q r b bv xs w k n) (j : Nat) (x : Int) (hj : j < 13) : TfAt N w0 q r b bv xs (w.setCell ⟨b, j, none⟩ (.int .i64 x)) k (n.set j x) := by
  obtain ⟨at', e, hr, hs⟩ := h.rd
  have hc : Chg (fun k => k = b) w (w.setCell ⟨b, j, none⟩ (.int .i64 x)) := Chg.setCell (S := fun k => k = b) w _ _ rfl
  exact ⟨⟨at', e, hr.kept hc h.ne (h.nd.off hr.rd), hs⟩, h.nd.st j x hj, h.res.kept hc h.rb, h.rb, h.rn, h.ne, h.np, h.chg.trans hc (fun i hi e => by have := h.new; omega), h.new⟩
theorem TfAt.num {N q r b k : Nat} {bv : Value} {w0 w : World} {xs : List Int} {n : Nd} (h : TfAt N w0 q r b bv xs w k n) (hB : IsB xs) (m : Nat) (hm : m ≤ 4) (hk : k + m ≤ xs.length) (hl : xs.length ≤ 1000) :
    Calls Tryd.prog 36 #[.pointer (some ⟨q, 0, none⟩), .int .i64 (m : Int)] w fun e w' => e = .returned (.int .i64 (numAt xs k m)) ∧ TfAt N w0 q r b bv xs w' (k + m) n := by
  obtain ⟨at', e, hr, hs⟩ := h.rd
  refine (refNumber N q at' bv xs e ⟨xs.drop k, 0⟩ m w hr hs (by omega) hB hm).mono ?_
  rintro e' w' ⟨rfl, at2, e2, R, S, C⟩
  obtain ⟨q1, q2⟩ := tk_at xs k m hk
  rw [q2] at S
  exact ⟨by rw [q1], ⟨at2, e2, R, S⟩, h.nd.kept C (fun e => h.ne e.symm), h.res.kept C (fun e => h.np e.symm), h.rb, h.rn, h.ne, h.np, h.chg.trans C (fun _ _ h => h), h.new⟩

theorem TkAt.begin {N p r k : Nat} {w0 w : World} {v : Value} {xs : List Int} (hr : RdS N w p v ⟨xs.drop k, 0⟩) (hc : Chg (fun k => k = p) w0 w) (hs : NdB 24 w r Nd.no) (hp : p ≠ r) (hn : w0.heap.size ≤ r) (n : Nd) :
    TkAt N w0 p r w.heap.size xs (w.alloc (n.o 24)) k n := by
  have hc1 : Chg (fun _ => False) w (w.alloc (n.o 24)) := Chg.alloc _ _ _
  exact ⟨⟨v, hr.kept hc1 (fun h => h) (fun _ _ _ _ _ h => h)⟩, heap_alloc_new w _, hs.kept hc1 (fun h => h), by have := hs.lt; omega, hn, by have := hr.lt; omega, hp, hc.trans (hc1.mono (fun _ _ h => h.elim)) (fun _ _ h => h), hc.size⟩
theorem TfAt.begin {N q r k : Nat} {w0 w : World} {bv : Value} {xs : List Int} (hr : ∃ at' e, RR N w q bv xs at' e ∧ Sim ⟨xs.drop k, 0⟩ xs at' e) (hc : Chg (fun k => k = q) w0 w) (hs : NdB 29 w r Nd.no) (hp : q ≠ r) (hn : w0.heap.size ≤ r) (n : Nd) :
    TfAt N w0 q r w.heap.size bv xs (w.alloc (n.o 29)) k n := by
  obtain ⟨at', e, hr, hsim⟩ := hr
  have hc1 : Chg (fun _ => False) w (w.alloc (n.o 29)) := Chg.alloc _ _ _
  exact ⟨⟨at', e, hr.kept hc1 (fun h => h) (fun _ _ _ _ _ h => h), hsim⟩, heap_alloc_new w _, hs.kept hc1 (fun h => h), by have := hs.lt; omega, hn, by have := hr.lt; omega, hp, hc.trans (hc1.mono (fun _ _ h => h.elim)) (fun _ _ h => h), hc.size⟩

/-- A whole node is stored into block r. -/
abbrev putNd (w : World) (r : Nat) (m : Nd) : World := (((((((((((((w.setCell ⟨r, 0, none⟩ (.int .i64 m.kd)).setCell ⟨r, 1, none⟩ (.int .i64 m.lk)).setCell ⟨r, 2, none⟩ (.int .i64 m.sz)).setCell ⟨r, 3, none⟩ (.int .i64 m.d0)).setCell ⟨r, 4, none⟩ (.int .i64 m.d1)).setCell ⟨r, 5, none⟩ (.int .i64 m.d2)).setCell ⟨r, 6, none⟩ (.int .i64 m.d3)).setCell ⟨r, 7, none⟩ (.int .i64 m.d4)).setCell ⟨r, 8, none⟩ (.int .i64 m.d5)).setCell ⟨r, 9, none⟩ (.int .i64 m.d6)).setCell ⟨r, 10, none⟩ (.int .i64 m.d7)).setCell ⟨r, 11, none⟩ (.int .i64 m.on)).setCell ⟨r, 12, none⟩ (.int .i64 m.tw))
theorem Chg.put1 {S : Nat → Prop} {w w' : World} (h : Chg S w w') (r j : Nat) (v : Value) (hr : S r) : Chg S w (w'.setCell ⟨r, j, none⟩ v) := h.trans (Chg.setCell (S := S) w' ⟨r, j, none⟩ v hr) (fun _ _ h => h)
theorem Nd.set_all (n m : Nd) : (((((((((((((n.set 0 m.kd).set 1 m.lk).set 2 m.sz).set 3 m.d0).set 4 m.d1).set 5 m.d2).set 6 m.d3).set 7 m.d4).set 8 m.d5).set 9 m.d6).set 10 m.d7).set 11 m.on).set 12 m.tw) = m := by
  obtain ⟨a0, a1, a2, a3, a4, a5, a6, a7, a8, a9, a10, a11, a12⟩ := m
  rfl
theorem NdB.put {T : TypeId} {w : World} {r : Nat} {n : Nd} (h : NdB T w r n) (m : Nd) : NdB T (putNd w r m) r m ∧ Chg (fun k => k = r) w (putNd w r m) := by
  have h1 := (((((((((((((h.st 0 m.kd (by omega)).st 1 m.lk (by omega)).st 2 m.sz (by omega)).st 3 m.d0 (by omega)).st 4 m.d1 (by omega)).st 5 m.d2 (by omega)).st 6 m.d3 (by omega)).st 7 m.d4 (by omega)).st 8 m.d5 (by omega)).st 9 m.d6 (by omega)).st 10 m.d7 (by omega)).st 11 m.on (by omega)).st 12 m.tw (by omega))
  rw [Nd.set_all n m] at h1
  refine ⟨h1, ?_⟩
  exact (((((((((((((((Chg.refl (fun k => k = r) w).put1 r 0 (.int .i64 m.kd) rfl).put1 r 1 (.int .i64 m.lk) rfl).put1 r 2 (.int .i64 m.sz) rfl).put1 r 3 (.int .i64 m.d0) rfl).put1 r 4 (.int .i64 m.d1) rfl).put1 r 5 (.int .i64 m.d2) rfl).put1 r 6 (.int .i64 m.d3) rfl).put1 r 7 (.int .i64 m.d4) rfl).put1 r 8 (.int .i64 m.d5) rfl).put1 r 9 (.int .i64 m.d6) rfl).put1 r 10 (.int .i64 m.d7) rfl).put1 r 11 (.int .i64 m.on) rfl).put1 r 12 (.int .i64 m.tw) rfl))
end Go.Proofs.YtcclpfcgodckgaaDoor

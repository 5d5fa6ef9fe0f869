/-
  A node as a value and in a box; Most of package inode.
-/
import Derived.Test.YtnnaemlipahamaaGreatDisk
import Derived.Test.YtnnaemlipahamaaGreatWUp
import Derived.Test.YtnnaemlipahamaaGreatBPure
namespace Go.Proofs.YtnnaemlipahamaaGreat
open Go.RowKit

/-- A node's thirteen numbers. -/
structure Nd where
  kd : Int
  lk : Int
  sz : Int
  d0 : Int
  d1 : Int
  d2 : Int
  d3 : Int
  d4 : Int
  d5 : Int
  d6 : Int
  d7 : Int
  on : Int
  tw : Int

/-- .. as a value. -/
abbrev Nd.v (n : Nd) : Value := .agg #[.int .i64 n.kd, .int .i64 n.lk, .int .i64 n.sz, .int .i64 n.d0, .int .i64 n.d1, .int .i64 n.d2, .int .i64 n.d3, .int .i64 n.d4, .int .i64 n.d5, .int .i64 n.d6, .int .i64 n.d7, .int .i64 n.on, .int .i64 n.tw]
def Nd.ds (n : Nd) : List Int := [n.d0, n.d1, n.d2, n.d3, n.d4, n.d5, n.d6, n.d7]
def Nd.no : Nd := ⟨0, 0, 0, 0, 0, 0, 0, 0, 0, 0, 0, 0, 0⟩
theorem Nd.ds_len (n : Nd) : n.ds.length = 8 := rfl

theorem idx8 (n : Nd) (k : Nat) (hk : k < 8) (w : World) : (Instr.index 27 (.agg #[.int .i64 n.d0, .int .i64 n.d1, .int .i64 n.d2, .int .i64 n.d3, .int .i64 n.d4, .int .i64 n.d5, .int .i64 n.d6, .int .i64 n.d7]) (.int .i64 (k : Int))).run Tryz.prog w = .ok (.int .i64 (n.ds.getD k 0)) w := by
  have i0 : ∀ w : World, (Instr.index 27 (.agg #[.int .i64 n.d0, .int .i64 n.d1, .int .i64 n.d2, .int .i64 n.d3, .int .i64 n.d4, .int .i64 n.d5, .int .i64 n.d6, .int .i64 n.d7]) (.int .i64 0)).run Tryz.prog w = .ok (.int .i64 n.d0) w := fun _ => by kernel_rfl
  have i1 : ∀ w : World, (Instr.index 27 (.agg #[.int .i64 n.d0, .int .i64 n.d1, .int .i64 n.d2, .int .i64 n.d3, .int .i64 n.d4, .int .i64 n.d5, .int .i64 n.d6, .int .i64 n.d7]) (.int .i64 1)).run Tryz.prog w = .ok (.int .i64 n.d1) w := fun _ => by kernel_rfl
  have i2 : ∀ w : World, (Instr.index 27 (.agg #[.int .i64 n.d0, .int .i64 n.d1, .int .i64 n.d2, .int .i64 n.d3, .int .i64 n.d4, .int .i64 n.d5, .int .i64 n.d6, .int .i64 n.d7]) (.int .i64 2)).run Tryz.prog w = .ok (.int .i64 n.d2) w := fun _ => by kernel_rfl
  have i3 : ∀ w : World, (Instr.index 27 (.agg #[.int .i64 n.d0, .int .i64 n.d1, .int .i64 n.d2, .int .i64 n.d3, .int .i64 n.d4, .int .i64 n.d5, .int .i64 n.d6, .int .i64 n.d7]) (.int .i64 3)).run Tryz.prog w = .ok (.int .i64 n.d3) w := fun _ => by kernel_rfl
  have i4 : ∀ w : World, (Instr.index 27 (.agg #[.int .i64 n.d0, .int .i64 n.d1, .int .i64 n.d2, .int .i64 n.d3, .int .i64 n.d4, .int .i64 n.d5, .int .i64 n.d6, .int .i64 n.d7]) (.int .i64 4)).run Tryz.prog w = .ok (.int .i64 n.d4) w := fun _ => by kernel_rfl
  have i5 : ∀ w : World, (Instr.index 27 (.agg #[.int .i64 n.d0, .int .i64 n.d1, .int .i64 n.d2, .int .i64 n.d3, .int .i64 n.d4, .int .i64 n.d5, .int .i64 n.d6, .int .i64 n.d7]) (.int .i64 5)).run Tryz.prog w = .ok (.int .i64 n.d5) w := fun _ => by kernel_rfl
  have i6 : ∀ w : World, (Instr.index 27 (.agg #[.int .i64 n.d0, .int .i64 n.d1, .int .i64 n.d2, .int .i64 n.d3, .int .i64 n.d4, .int .i64 n.d5, .int .i64 n.d6, .int .i64 n.d7]) (.int .i64 6)).run Tryz.prog w = .ok (.int .i64 n.d6) w := fun _ => by kernel_rfl
  have i7 : ∀ w : World, (Instr.index 27 (.agg #[.int .i64 n.d0, .int .i64 n.d1, .int .i64 n.d2, .int .i64 n.d3, .int .i64 n.d4, .int .i64 n.d5, .int .i64 n.d6, .int .i64 n.d7]) (.int .i64 7)).run Tryz.prog w = .ok (.int .i64 n.d7) w := fun _ => by kernel_rfl
  have hc : k = 0 ∨ k = 1 ∨ k = 2 ∨ k = 3 ∨ k = 4 ∨ k = 5 ∨ k = 6 ∨ k = 7 := by omega
  rcases hc with rfl | rfl | rfl | rfl | rfl | rfl | rfl | rfl
  · exact i0 w
  · exact i1 w
  · exact i2 w
  · exact i3 w
  · exact i4 w
  · exact i5 w
  · exact i6 w
  · exact i7 w

/-- A node as it is laid. -/
abbrev Nd.o (n : Nd) (T : TypeId) : Obj := .cells #[.int .i64 n.kd, .int .i64 n.lk, .int .i64 n.sz, .int .i64 n.d0, .int .i64 n.d1, .int .i64 n.d2, .int .i64 n.d3, .int .i64 n.d4, .int .i64 n.d5, .int .i64 n.d6, .int .i64 n.d7, .int .i64 n.on, .int .i64 n.tw] T
structure NdAt (w : World) (b : Nat) (n : Nd) : Prop where
  c0 : w.cell? ⟨b, 0, none⟩ = some (.int .i64 n.kd)
  c1 : w.cell? ⟨b, 1, none⟩ = some (.int .i64 n.lk)
  c2 : w.cell? ⟨b, 2, none⟩ = some (.int .i64 n.sz)
  c3 : w.cell? ⟨b, 3, none⟩ = some (.int .i64 n.d0)
  c4 : w.cell? ⟨b, 4, none⟩ = some (.int .i64 n.d1)
  c5 : w.cell? ⟨b, 5, none⟩ = some (.int .i64 n.d2)
  c6 : w.cell? ⟨b, 6, none⟩ = some (.int .i64 n.d3)
  c7 : w.cell? ⟨b, 7, none⟩ = some (.int .i64 n.d4)
  c8 : w.cell? ⟨b, 8, none⟩ = some (.int .i64 n.d5)
  c9 : w.cell? ⟨b, 9, none⟩ = some (.int .i64 n.d6)
  c10 : w.cell? ⟨b, 10, none⟩ = some (.int .i64 n.d7)
  c11 : w.cell? ⟨b, 11, none⟩ = some (.int .i64 n.on)
  c12 : w.cell? ⟨b, 12, none⟩ = some (.int .i64 n.tw)
theorem NdAt.kept {S : Nat → Prop} {w w' : World} {b : Nat} {n : Nd} (h : NdAt w b n) (hc : Chg S w w') (hn : ¬ S b) : NdAt w' b n :=
  ⟨hc.cell h.c0 hn, hc.cell h.c1 hn, hc.cell h.c2 hn, hc.cell h.c3 hn, hc.cell h.c4 hn, hc.cell h.c5 hn, hc.cell h.c6 hn, hc.cell h.c7 hn, hc.cell h.c8 hn, hc.cell h.c9 hn, hc.cell h.c10 hn, hc.cell h.c11 hn, hc.cell h.c12 hn⟩
theorem NdAt.lt {w : World} {b : Nat} {n : Nd} (h : NdAt w b n) : b < w.heap.size := World.block_lt_of_cell? w _ h.c0
theorem NdAt.below {w w' : World} {N b : Nat} {n : Nd} (h : NdAt w b n) (hb : Below N w w') (hn : b < N) : NdAt w' b n :=
  ⟨(hb.cell (p := ⟨b, 0, none⟩) hn).trans h.c0, (hb.cell (p := ⟨b, 1, none⟩) hn).trans h.c1, (hb.cell (p := ⟨b, 2, none⟩) hn).trans h.c2, (hb.cell (p := ⟨b, 3, none⟩) hn).trans h.c3, (hb.cell (p := ⟨b, 4, none⟩) hn).trans h.c4, (hb.cell (p := ⟨b, 5, none⟩) hn).trans h.c5, (hb.cell (p := ⟨b, 6, none⟩) hn).trans h.c6, (hb.cell (p := ⟨b, 7, none⟩) hn).trans h.c7, (hb.cell (p := ⟨b, 8, none⟩) hn).trans h.c8, (hb.cell (p := ⟨b, 9, none⟩) hn).trans h.c9, (hb.cell (p := ⟨b, 10, none⟩) hn).trans h.c10, (hb.cell (p := ⟨b, 11, none⟩) hn).trans h.c11, (hb.cell (p := ⟨b, 12, none⟩) hn).trans h.c12⟩
theorem NdAt.ofBlk {w : World} {b : Nat} {n : Nd} {T : TypeId} {fr : Nat × Nat} (h : w.heap[b]? = some (.cells #[.int .i64 n.kd, .int .i64 n.lk, .int .i64 n.sz, .int .i64 n.d0, .int .i64 n.d1, .int .i64 n.d2, .int .i64 n.d3, .int .i64 n.d4, .int .i64 n.d5, .int .i64 n.d6, .int .i64 n.d7, .int .i64 n.on, .int .i64 n.tw] T fr)) : NdAt w b n := by
  refine ⟨?_, ?_, ?_, ?_, ?_, ?_, ?_, ?_, ?_, ?_, ?_, ?_, ?_⟩ <;> (rw [cell_of_row w b _ _ _ _ h]; rfl)
theorem NdAt.box (w : World) (n : Nd) (T : TypeId) : NdAt (w.alloc (n.o T)) w.heap.size n := NdAt.ofBlk (heap_alloc_new w _)

theorem NdAt.dir {w : World} {b : Nat} {n : Nd} (h : NdAt w b n) (k : Nat) (hk : k < 8) : w.cell? ⟨b, 3 + k, none⟩ = some (.int .i64 (n.ds.getD k 0)) := by
  have hc : k = 0 ∨ k = 1 ∨ k = 2 ∨ k = 3 ∨ k = 4 ∨ k = 5 ∨ k = 6 ∨ k = 7 := by omega
  rcases hc with rfl | rfl | rfl | rfl | rfl | rfl | rfl | rfl
  · exact h.c3
  · exact h.c4
  · exact h.c5
  · exact h.c6
  · exact h.c7
  · exact h.c8
  · exact h.c9
  · exact h.c10

/-- The node n lies in block b. -/
def NdB (T : TypeId) (w : World) (b : Nat) (n : Nd) : Prop := w.heap[b]? = some (.cells #[.int .i64 n.kd, .int .i64 n.lk, .int .i64 n.sz, .int .i64 n.d0, .int .i64 n.d1, .int .i64 n.d2, .int .i64 n.d3, .int .i64 n.d4, .int .i64 n.d5, .int .i64 n.d6, .int .i64 n.d7, .int .i64 n.on, .int .i64 n.tw] T (0, 0))
/-- The node with one number set. -/
def Nd.set (n : Nd) (j : Nat) (x : Int) : Nd :=
  match j with
  | 0 => { n with kd := x }
  | 1 => { n with lk := x }
  | 2 => { n with sz := x }
  | 3 => { n with d0 := x }
  | 4 => { n with d1 := x }
  | 5 => { n with d2 := x }
  | 6 => { n with d3 := x }
  | 7 => { n with d4 := x }
  | 8 => { n with d5 := x }
  | 9 => { n with d6 := x }
  | 10 => { n with d7 := x }
  | 11 => { n with on := x }
  | 12 => { n with tw := x }
  | _ => n
theorem NdB.at {T : TypeId} {w : World} {b : Nat} {n : Nd} (h : NdB T w b n) : NdAt w b n := NdAt.ofBlk h
theorem NdB.lt {T : TypeId} {w : World} {b : Nat} {n : Nd} (h : NdB T w b n) : b < w.heap.size := h.at.lt
theorem NdB.fr {T : TypeId} {w : World} {b : Nat} {n : Nd} (h : NdB T w b n) (j : Nat) : w.frozen? ⟨b, j, none⟩ = false := by
  unfold NdB at h
  simp [World.frozen?, h]
theorem NdB.kept {T : TypeId} {S : Nat → Prop} {w w' : World} {b : Nat} {n : Nd} (h : NdB T w b n) (hc : Chg S w w') (hn : ¬ S b) : NdB T w' b n := (hc.block b h.lt hn).trans h
theorem NdB.st {T : TypeId} {w : World} {b : Nat} {n : Nd} (h : NdB T w b n) (j : Nat) (x : Int) (hj : j < 13) : NdB T (w.setCell ⟨b, j, none⟩ (.int .i64 x)) b (n.set j x) := by
  have g := heap_setCell_same w b j _ T (.int .i64 x) h
  unfold NdB
  rw [g]
  have hc : j = 0 ∨ j = 1 ∨ j = 2 ∨ j = 3 ∨ j = 4 ∨ j = 5 ∨ j = 6 ∨ j = 7 ∨ j = 8 ∨ j = 9 ∨ j = 10 ∨ j = 11 ∨ j = 12 := by omega
  rcases hc with rfl | rfl | rfl | rfl | rfl | rfl | rfl | rfl | rfl | rfl | rfl | rfl | rfl <;> rfl
/-- What is bytes is no node. -/
theorem NdB.off {T : TypeId} {w : World} {b : Nat} {n : Nd} (h : NdB T w b n) {v : Value} {xs : List Int} (hb : Bs w v xs) : ∀ a m c, v = .slice (some a) m c → 0 < m → a.block ≠ b := by
  intro a m c e h0 hab
  rcases hb with ⟨e2, _⟩ | ⟨a2, c2, e2, _, _, hcell⟩
  · rw [e2] at e; cases e
  · rw [e2] at e
    cases e
    have h1 := hcell 0 h0
    have e0 : a.add 0 = a := by unfold Addr.add; split <;> simp_all
    rw [e0] at h1
    obtain ⟨blk, off, spot⟩ := a
    simp only at hab
    subst hab
    obtain rfl : spot = none := by simpa using World.cell?_spot h1
    rw [cell_of_row w blk off _ _ _ h] at h1
    have : ∀ u ∈ (#[Value.int .i64 n.kd, .int .i64 n.lk, .int .i64 n.sz, .int .i64 n.d0, .int .i64 n.d1, .int .i64 n.d2, .int .i64 n.d3, .int .i64 n.d4, .int .i64 n.d5, .int .i64 n.d6, .int .i64 n.d7, .int .i64 n.on, .int .i64 n.tw] : Array Value), ∃ y, u = .int .i64 y := by
      intro u hu
      simp at hu
      rcases hu with rfl | rfl | rfl | rfl | rfl | rfl | rfl | rfl | rfl | rfl | rfl | rfl | rfl <;> exact ⟨_, rfl⟩
    obtain ⟨y, hy⟩ := this _ (Array.mem_of_getElem? h1)
    cases hy

/-- A whole node is stored into block r. -/
abbrev putNd (w : World) (r : Nat) (m : Nd) : World := (((((((((((((w.setCell ⟨r, 0, none⟩ (.int .i64 m.kd)).setCell ⟨r, 1, none⟩ (.int .i64 m.lk)).setCell ⟨r, 2, none⟩ (.int .i64 m.sz)).setCell ⟨r, 3, none⟩ (.int .i64 m.d0)).setCell ⟨r, 4, none⟩ (.int .i64 m.d1)).setCell ⟨r, 5, none⟩ (.int .i64 m.d2)).setCell ⟨r, 6, none⟩ (.int .i64 m.d3)).setCell ⟨r, 7, none⟩ (.int .i64 m.d4)).setCell ⟨r, 8, none⟩ (.int .i64 m.d5)).setCell ⟨r, 9, none⟩ (.int .i64 m.d6)).setCell ⟨r, 10, none⟩ (.int .i64 m.d7)).setCell ⟨r, 11, none⟩ (.int .i64 m.on)).setCell ⟨r, 12, none⟩ (.int .i64 m.tw))
theorem Chg.put1 {S : Nat → Prop} {w w' : World} (h : Chg S w w') (r j : Nat) (v : Value) (hr : S r) : Chg S w (w'.setCell ⟨r, j, none⟩ v) := h.trans (Chg.setCell (S := S) w' ⟨r, j, none⟩ v hr) (fun _ _ h => h)
theorem Nd.set_all (n m : Nd) : (((((((((((((n.set 0 m.kd).set 1 m.lk).set 2 m.sz).set 3 m.d0).set 4 m.d1).set 5 m.d2).set 6 m.d3).set 7 m.d4).set 8 m.d5).set 9 m.d6).set 10 m.d7).set 11 m.on).set 12 m.tw) = m := by
  obtain ⟨a0, a1, a2, a3, a4, a5, a6, a7, a8, a9, a10, a11, a12⟩ := m
  rfl
theorem NdB.put {T : TypeId} {w : World} {r : Nat} {n : Nd} (h : NdB T w r n) (m : Nd) : NdB T (putNd w r m) r m ∧ Chg (fun k => k = r) w (putNd w r m) := by
  have h1 := (((((((((((((h.st 0 m.kd (by omega)).st 1 m.lk (by omega)).st 2 m.sz (by omega)).st 3 m.d0 (by omega)).st 4 m.d1 (by omega)).st 5 m.d2 (by omega)).st 6 m.d3 (by omega)).st 7 m.d4 (by omega)).st 8 m.d5 (by omega)).st 9 m.d6 (by omega)).st 10 m.d7 (by omega)).st 11 m.on (by omega)).st 12 m.tw (by omega))
  rw [Nd.set_all n m] at h1
  refine ⟨h1, ?_⟩
  exact (((((((((((((((Chg.refl (fun k => k = r) w).put1 r 0 (.int .i64 m.kd) rfl).put1 r 1 (.int .i64 m.lk) rfl).put1 r 2 (.int .i64 m.sz) rfl).put1 r 3 (.int .i64 m.d0) rfl).put1 r 4 (.int .i64 m.d1) rfl).put1 r 5 (.int .i64 m.d2) rfl).put1 r 6 (.int .i64 m.d3) rfl).put1 r 7 (.int .i64 m.d4) rfl).put1 r 8 (.int .i64 m.d5) rfl).put1 r 9 (.int .i64 m.d6) rfl).put1 r 10 (.int .i64 m.d7) rfl).put1 r 11 (.int .i64 m.on) rfl).put1 r 12 (.int .i64 m.tw) rfl))
theorem most_any (w : World) : Calls Tryz.prog 41 #[] w fun e w' => e = .returned (.int .i64 8458240) ∧ w' = w := by
  go_enter Tryz.func41, Tryz.ntmps41
  go_wp2
  go_ret
  exact ⟨rfl, rfl⟩

theorem ret_eq {k : IntKind} {a b : Int} (h : a = b) : Ending.returned (.int k a) = .returned (.int k b) := by rw [h]
end Go.Proofs.YtnnaemlipahamaaGreat

namespace Go.Proofs.YtnnaemlipahamaaGreat
open Go.RowKit

/-- Number j of a block of numbers. -/
def num (xs : List Int) (j : Nat) : Int := xs.getD (4 * j) 0 + 256 * xs.getD (4 * j + 1) 0 + 65536 * xs.getD (4 * j + 2) 0 + 16777216 * xs.getD (4 * j + 3) 0
/-- .. set. -/
def setNum (xs : List Int) (j : Nat) (x : Int) : List Int := (((xs.set (4 * j) (x % 256)).set (4 * j + 1) (x / 256 % 256)).set (4 * j + 2) (x / 65536 % 256)).set (4 * j + 3) (x / 16777216 % 256)
theorem setNum_len (xs : List Int) (j : Nat) (x : Int) : (setNum xs j x).length = xs.length := by simp [setNum]
theorem getD_set_same {xs : List Int} {i : Nat} {x : Int} (h : i < xs.length) : (xs.set i x).getD i 0 = x := by simp [List.getD, h]
theorem getD_set_other {xs : List Int} {i k : Nat} {x : Int} (h : i ≠ k) : (xs.set i x).getD k 0 = xs.getD k 0 := by simp [List.getD, List.getElem?_set_ne h]
theorem num_setNum_same {xs : List Int} {j : Nat} {x : Int} (h : 4 * j + 3 < xs.length) (h0 : 0 ≤ x) (h1 : x < 4294967296) : num (setNum xs j x) j = x := by
  unfold num setNum
  rw [getD_set_other (by omega), getD_set_other (by omega), getD_set_other (by omega), getD_set_same (by omega), getD_set_other (by omega), getD_set_other (by omega), getD_set_same (by simp; omega),
    getD_set_other (by omega), getD_set_same (by simp; omega), getD_set_same (by simp; omega)]
  omega
theorem num_setNum_other {xs : List Int} {i j : Nat} {x : Int} (h : i ≠ j) : num (setNum xs i x) j = num xs j := by
  unfold num setNum
  rw [getD_set_other (by omega), getD_set_other (by omega), getD_set_other (by omega), getD_set_other (by omega), getD_set_other (by omega), getD_set_other (by omega), getD_set_other (by omega), getD_set_other (by omega),
    getD_set_other (by omega), getD_set_other (by omega), getD_set_other (by omega), getD_set_other (by omega), getD_set_other (by omega), getD_set_other (by omega), getD_set_other (by omega), getD_set_other (by omega)]
theorem isBy_set {xs : List Int} {i : Nat} {x : Int} (h : IsBy xs) (h0 : 0 ≤ x) (h1 : x < 256) : IsBy (xs.set i x) := by
  intro y hy
  rcases List.mem_or_eq_of_mem_set hy with hy | rfl
  · exact h y hy
  · exact ⟨h0, h1⟩
theorem isBy_setNum {xs : List Int} {j : Nat} {x : Int} (h : IsBy xs) : IsBy (setNum xs j x) :=
  isBy_set (isBy_set (isBy_set (isBy_set h (by omega) (by omega)) (by omega) (by omega)) (by omega) (by omega)) (by omega) (by omega)
theorem isBy_getD {xs : List Int} (h : IsBy xs) (i : Nat) : 0 ≤ xs.getD i 0 ∧ xs.getD i 0 < 256 := by
  by_cases hi : i < xs.length
  · have : xs.getD i 0 = xs[i] := by simp [List.getD, hi]
    rw [this]; exact h _ (List.getElem_mem hi)
  · have : xs.getD i 0 = 0 := by simp [List.getD, show xs.length ≤ i by omega]
    rw [this]; omega
theorem isBy_zeros (n : Nat) : IsBy (zeros n) := by
  intro x hx
  unfold zeros at hx
  rw [List.mem_replicate] at hx
  omega

/-- Keys: 2 i is block i of bytes, 1 is One, 3 is Two, 5 and 2 a is number a of those in Two. Which are live where there are m blocks of bytes. -/
def live (m k : Nat) : Prop := (k % 2 = 0 ∧ k / 2 < m) ∨ (k = 1 ∧ 8 < m) ∨ (k = 3 ∧ 136 < m) ∨ (k % 2 = 1 ∧ 5 ≤ k ∧ 136 + 64 * (k - 5) < m)
/-- A number that stands in the node. -/
def fld (k : Nat) : Prop := k = 1 ∨ k = 3 ∨ (k % 2 = 0 ∧ k < 16)
instance (k : Nat) : Decidable (fld k) := by unfold fld; infer_instance
/-- The block that another number stands in, and where. -/
def par (k : Nat) : Nat := if k % 2 = 1 then 3 else if k < 272 then 1 else 5 + 2 * ((k / 2 - 136) / 128)
def idx (k : Nat) : Nat := if k % 2 = 1 then (k - 5) / 2 else if k < 272 then k / 2 - 8 else (k / 2 - 136) % 128
theorem par_idx {k l : Nat} (hk : ¬ fld k) (hl : ¬ fld l) (hp : par k = par l) (hi : idx k = idx l) : k = l := by
  unfold fld at hk hl
  unfold par at hp
  unfold idx at hi
  repeat' (first | split at hp | split at hi)
  all_goals omega
theorem idx_lt {m k : Nat} (h : live m k) (hm : m ≤ 16520) : idx k < 128 := by
  unfold live at h
  unfold idx
  split
  · omega
  · split <;> omega
theorem live_par {m k : Nat} (hk : ¬ fld k) (h : live m k) : live m (par k) := by
  unfold fld at hk
  unfold live at *
  unfold par
  split
  · omega
  · split <;> omega
/-- The keys that begin with block i, in the order in which they are taken. -/
def begunK (i : Nat) : List Nat := if i = 8 then [1, 2 * i] else if i = 136 then [3, 5, 2 * i] else if 136 ≤ i ∧ (i - 136) % 128 = 0 then [5 + 2 * ((i - 136) / 128), 2 * i] else [2 * i]
theorem live_succ (i k : Nat) : live (i + 1) k ↔ live i k ∨ k ∈ begunK i := by
  unfold live begunK
  split
  · simp only [List.mem_cons, List.not_mem_nil, or_false]; omega
  · split
    · simp only [List.mem_cons, List.not_mem_nil, or_false]; omega
    · split
      · simp only [List.mem_cons, List.not_mem_nil, or_false]; omega
      · simp only [List.mem_cons, List.not_mem_nil, or_false]; omega
theorem begunK_new {i k : Nat} (h : k ∈ begunK i) : ¬ live i k := by
  unfold begunK at h
  unfold live
  split at h
  · simp only [List.mem_cons, List.not_mem_nil, or_false] at h; omega
  · split at h
    · simp only [List.mem_cons, List.not_mem_nil, or_false] at h; omega
    · split at h
      · simp only [List.mem_cons, List.not_mem_nil, or_false] at h; omega
      · simp only [List.mem_cons, List.not_mem_nil, or_false] at h; omega

/-- A number in the node, by its key; where it stands there. -/
def Nd.fd (n : Nd) (k : Nat) : Int := if k = 1 then n.on else if k = 3 then n.tw else n.ds.getD (k / 2) 0
def fo (k : Nat) : Nat := if k = 1 then 11 else if k = 3 then 12 else 3 + k / 2
theorem fo_lt {k : Nat} (h : fld k) : fo k < 13 := by
  unfold fld at h; unfold fo
  split
  · omega
  · split <;> omega
theorem fld_cases {k : Nat} (h : fld k) : k = 1 ∨ k = 3 ∨ k = 0 ∨ k = 2 ∨ k = 4 ∨ k = 6 ∨ k = 8 ∨ k = 10 ∨ k = 12 ∨ k = 14 := by unfold fld at h; omega
theorem Nd.fd_set (n : Nd) {k l : Nat} (hk : fld k) (hl : fld l) (x : Int) : (n.set (fo k) x).fd l = if l = k then x else n.fd l := by
  rcases fld_cases hk with rfl | rfl | rfl | rfl | rfl | rfl | rfl | rfl | rfl | rfl <;>
    rcases fld_cases hl with rfl | rfl | rfl | rfl | rfl | rfl | rfl | rfl | rfl | rfl <;> rfl
theorem Nd.fd_sz (n : Nd) (l : Nat) (x : Int) : (n.set 2 x).fd l = n.fd l := rfl
theorem NdAt.fdc {w : World} {b : Nat} {n : Nd} (h : NdAt w b n) {k : Nat} (hk : fld k) : w.cell? ⟨b, fo k, none⟩ = some (.int .i64 (n.fd k)) := by
  rcases fld_cases hk with rfl | rfl | rfl | rfl | rfl | rfl | rfl | rfl | rfl | rfl
  · exact h.c11
  · exact h.c12
  · exact h.c3
  · exact h.c4
  · exact h.c5
  · exact h.c6
  · exact h.c7
  · exact h.c8
  · exact h.c9
  · exact h.c10

/-- What stands at a key's place. -/
def slotV (V : Nat → List Int) (nd : Nd) (B : Nat → Nat) (k : Nat) : Int := if fld k then nd.fd k else num (V (B (par k))) (idx k)
theorem slotV_fld {V : Nat → List Int} {nd : Nd} {B : Nat → Nat} {k : Nat} (h : fld k) : slotV V nd B k = nd.fd k := if_pos h
theorem slotV_num {V : Nat → List Int} {nd : Nd} {B : Nat → Nat} {k : Nat} (h : ¬ fld k) : slotV V nd B k = num (V (B (par k))) (idx k) := if_neg h

/-- The shape of a file: the live keys' numbers stand at their places; a number of the node that is not live is 0; no two keys have one block. -/
structure Sh (Lv : Nat → Prop) (V : Nat → List Int) (nd : Nd) (B : Nat → Nat) : Prop where
  slot : ∀ k, Lv k → slotV V nd B k = (B k : Int)
  none : ∀ k, fld k → ¬ Lv k → nd.fd k = 0
  par : ∀ k, Lv k → ¬ fld k → Lv (par k)
  inj : ∀ k l, Lv k → Lv l → B k = B l → k = l
section
variable {Lv Lv' : Nat → Prop} {V V' : Nat → List Int} {nd : Nd} {B B' : Nat → Nat}
theorem Sh.iff (h : Sh Lv V nd B) (e : ∀ k, Lv k ↔ Lv' k) : Sh Lv' V nd B := by
  have : Lv = Lv' := funext fun k => propext (e k)
  rw [← this]; exact h
theorem Sh.congrV (h : Sh Lv V nd B) (e : ∀ k, Lv k → V' (B k) = V (B k)) : Sh Lv V' nd B := by
  refine ⟨fun k hk => ?_, h.none, h.par, h.inj⟩
  rw [← h.slot k hk]
  by_cases hf : fld k
  · rw [slotV_fld hf, slotV_fld hf]
  · rw [slotV_num hf, slotV_num hf, e _ (h.par k hk hf)]
theorem Sh.congrB (h : Sh Lv V nd B) (e : ∀ k, Lv k → B' k = B k) : Sh Lv V nd B' := by
  refine ⟨fun k hk => ?_, h.none, h.par, fun k l hk hl hb => h.inj k l hk hl (by rw [← e k hk, ← e l hl]; exact hb)⟩
  rw [e k hk, ← h.slot k hk]
  by_cases hf : fld k
  · rw [slotV_fld hf, slotV_fld hf]
  · rw [slotV_num hf, slotV_num hf, e _ (h.par k hk hf)]
theorem Sh.sz (h : Sh Lv V nd B) (x : Int) : Sh Lv V (nd.set 2 x) B :=
  ⟨fun k hk => by rw [← h.slot k hk]; rfl, fun k hf hn => h.none k hf hn, h.par, h.inj⟩
/-- A number of the node is added. -/
theorem Sh.addF (h : Sh Lv V nd B) {k x : Nat} (hf : fld k) (hk : ¬ Lv k) (hx : ∀ l, Lv l → B l ≠ x) : Sh (fun l => Lv l ∨ l = k) V (nd.set (fo k) x) (upd B k x) := by
  have hb : ∀ l, Lv l → upd B k x l = B l := fun l hl => upd_other _ _ (fun e => hk (e ▸ hl))
  refine ⟨fun l hl => ?_, fun l hl hn => ?_, fun l hl hn => ?_, fun l m hl hm e => ?_⟩
  · rcases hl with hl | rfl
    · rw [hb l hl, ← h.slot l hl]
      by_cases g : fld l
      · rw [slotV_fld g, slotV_fld g, Nd.fd_set nd hf g, if_neg (fun e : l = k => hk (e ▸ hl))]
      · rw [slotV_num g, slotV_num g, hb _ (h.par l hl g)]
    · rw [slotV_fld hf, upd_same, Nd.fd_set nd hf hf, if_pos rfl]
  · rw [Nd.fd_set nd hf hl, if_neg (fun e => hn (.inr e))]
    exact h.none l hl (fun g => hn (.inl g))
  · rcases hl with hl | rfl
    · exact .inl (h.par l hl hn)
    · exact absurd hf hn
  · rcases hl with hl | rfl <;> rcases hm with hm | rfl
    · rw [hb l hl, hb m hm] at e; exact h.inj l m hl hm e
    · rw [hb l hl, upd_same] at e; exact absurd e (hx l hl)
    · rw [hb m hm, upd_same] at e; exact absurd e.symm (hx m hm)
    · rfl
/-- A number in a block is added. -/
theorem Sh.addE (h : Sh Lv V nd B) {k x : Nat} (hf : ¬ fld k) (hk : ¬ Lv k) (hp : Lv (Go.Proofs.YtnnaemlipahamaaGreat.par k)) (hx : ∀ l, Lv l → B l ≠ x)
    (hlen : (V (B (Go.Proofs.YtnnaemlipahamaaGreat.par k))).length = 512) (hi : idx k < 128) (hs : x < 4294967296)
    (h1 : V' (B (Go.Proofs.YtnnaemlipahamaaGreat.par k)) = setNum (V (B (Go.Proofs.YtnnaemlipahamaaGreat.par k))) (idx k) x) (h2 : ∀ l, Lv l → l ≠ Go.Proofs.YtnnaemlipahamaaGreat.par k → V' (B l) = V (B l)) :
    Sh (fun l => Lv l ∨ l = k) V' nd (upd B k x) := by
  have hb : ∀ l, Lv l → upd B k x l = B l := fun l hl => upd_other _ _ (fun e => hk (e ▸ hl))
  refine ⟨fun l hl' => ?_, fun l hl hn => h.none l hl (fun g => hn (.inl g)), fun l hl hn => ?_, fun l m hl hm e => ?_⟩
  · rcases hl' with hl' | rfl
    · rw [hb l hl', ← h.slot l hl']
      by_cases g : fld l
      · rw [slotV_fld g, slotV_fld g]
      · have hpl := h.par l hl' g
        rw [slotV_num g, slotV_num g, hb _ hpl]
        by_cases e : Go.Proofs.YtnnaemlipahamaaGreat.par l = Go.Proofs.YtnnaemlipahamaaGreat.par k
        · have hne : idx k ≠ idx l := fun e2 => hk ((par_idx g hf e e2.symm) ▸ hl')
          rw [e, h1, num_setNum_other hne]
        · rw [h2 _ hpl e]
    · rw [slotV_num hf, upd_same, hb _ hp, h1, num_setNum_same (by omega) (by omega) (by omega)]
  · rcases hl with hl | rfl
    · exact .inl (h.par l hl hn)
    · exact .inl hp
  · rcases hl with hl | rfl <;> rcases hm with hm | rfl
    · rw [hb l hl, hb m hm] at e; exact h.inj l m hl hm e
    · rw [hb l hl, upd_same] at e; exact absurd e (hx l hl)
    · rw [hb m hm, upd_same] at e; exact absurd e.symm (hx m hm)
    · rfl
/-- A number of the node is taken away. -/
theorem Sh.delF (h : Sh Lv V nd B) {k : Nat} (hf : fld k) (hc : ∀ l, Lv l → ¬ fld l → Go.Proofs.YtnnaemlipahamaaGreat.par l ≠ k) : Sh (fun l => Lv l ∧ l ≠ k) V (nd.set (fo k) 0) B := by
  refine ⟨fun l hl => ?_, fun l hl hn => ?_, fun l hl hn => ⟨h.par l hl.1 hn, hc l hl.1 hn⟩, fun l m hl hm e => h.inj l m hl.1 hm.1 e⟩
  · rw [← h.slot l hl.1]
    by_cases g : fld l
    · rw [slotV_fld g, slotV_fld g, Nd.fd_set nd hf g, if_neg hl.2]
    · rw [slotV_num g, slotV_num g]
  · rw [Nd.fd_set nd hf hl]
    split
    · rfl
    · rename_i e
      exact h.none l hl (fun g => hn ⟨g, e⟩)
/-- A number in a block is taken away: it may be set or stay. -/
theorem Sh.delE (h : Sh Lv V nd B) {k : Nat} (hf : ¬ fld k) (hc : ∀ l, Lv l → ¬ fld l → Go.Proofs.YtnnaemlipahamaaGreat.par l ≠ k)
    (h1 : (∃ y, V' (B (Go.Proofs.YtnnaemlipahamaaGreat.par k)) = setNum (V (B (Go.Proofs.YtnnaemlipahamaaGreat.par k))) (idx k) y) ∨ V' (B (Go.Proofs.YtnnaemlipahamaaGreat.par k)) = V (B (Go.Proofs.YtnnaemlipahamaaGreat.par k))) (h2 : ∀ l, Lv l → l ≠ k → l ≠ Go.Proofs.YtnnaemlipahamaaGreat.par k → V' (B l) = V (B l)) :
    Sh (fun l => Lv l ∧ l ≠ k) V' nd B := by
  refine ⟨fun l hl => ?_, fun l hl hn => h.none l hl (fun g => hn ⟨g, fun e => hf (e ▸ hl)⟩), fun l hl hn => ⟨h.par l hl.1 hn, hc l hl.1 hn⟩, fun l m hl hm e => h.inj l m hl.1 hm.1 e⟩
  rw [← h.slot l hl.1]
  by_cases g : fld l
  · rw [slotV_fld g, slotV_fld g]
  · have hpl := h.par l hl.1 g
    rw [slotV_num g, slotV_num g]
    by_cases e : Go.Proofs.YtnnaemlipahamaaGreat.par l = Go.Proofs.YtnnaemlipahamaaGreat.par k
    · have hne : idx k ≠ idx l := fun e2 => hl.2 (par_idx g hf e e2.symm)
      rw [e]
      rcases h1 with ⟨y, h1⟩ | h1
      · rw [h1, num_setNum_other hne]
      · rw [h1]
    · rw [h2 _ hpl (hc l hl.1 g) e]
end

/-- The i-th block of so many bytes. -/
def blkOf (cs : List Int) (i : Nat) : List Int := (cs.drop (512 * i)).take 512
theorem blkOf_len {cs : List Int} {m i : Nat} (h : cs.length = 512 * m) (hi : i < m) : (blkOf cs i).length = 512 := by
  unfold blkOf
  rw [List.length_take, List.length_drop]; omega
/-- Bytes b in the place of as many from off on. -/
def splice (cs : List Int) (off : Nat) (b : List Int) : List Int := cs.take off ++ b ++ cs.drop (off + b.length)
theorem splice_len {cs : List Int} {off : Nat} {b : List Int} (h : off + b.length ≤ cs.length) : (splice cs off b).length = cs.length := by
  unfold splice
  simp only [List.length_append, List.length_take, List.length_drop]; omega
theorem splice_nil (cs : List Int) (off : Nat) : splice cs off [] = cs := by simp [splice]
theorem splice_get {cs : List Int} {off : Nat} {b : List Int} (h : off + b.length ≤ cs.length) (p : Nat) : (splice cs off b)[p]? = if off ≤ p ∧ p < off + b.length then b[p - off]? else cs[p]? := by
  unfold splice
  by_cases h1 : p < off
  · rw [if_neg (by omega), List.append_assoc, List.getElem?_append_left (by rw [List.length_take]; omega), List.getElem?_take_of_lt h1]
  · by_cases h2 : p < off + b.length
    · rw [if_pos ⟨by omega, h2⟩, List.getElem?_append_left (by rw [List.length_append, List.length_take]; omega), List.getElem?_append_right (by rw [List.length_take]; omega), List.length_take, Nat.min_eq_left (by omega)]
    · rw [if_neg (by omega), List.getElem?_append_right (by rw [List.length_append, List.length_take]; omega), List.length_append, List.length_take, Nat.min_eq_left (by omega), List.getElem?_drop, show off + b.length + (p - (off + b.length)) = p by omega]
theorem splice_splice {cs : List Int} {off : Nat} {b c : List Int} (h : off + b.length + c.length ≤ cs.length) : splice (splice cs off b) (off + b.length) c = splice cs off (b ++ c) := by
  apply List.ext_getElem?
  intro p
  rw [splice_get (by rw [splice_len (by omega)]; exact h), splice_get (by omega), splice_get (by rw [List.length_append]; omega), List.length_append]
  by_cases h1 : off + b.length ≤ p ∧ p < off + b.length + c.length
  · rw [if_pos h1, if_pos (by omega), List.getElem?_append_right (by omega), show p - (off + b.length) = p - off - b.length by omega]
  · rw [if_neg h1]
    by_cases h2 : off ≤ p ∧ p < off + b.length
    · rw [if_pos h2, if_pos (by omega), List.getElem?_append_left (by omega)]
    · rw [if_neg h2, if_neg (by omega)]
/-- A part of one block changed: what it does to all of them. -/
theorem blkOf_splice {cs : List Int} {m off : Nat} {b : List Int} (hl : cs.length = 512 * m) (hin : off % 512 + b.length ≤ 512) (ho : off / 512 < m) (i : Nat) (hi : i < m) :
    blkOf (splice cs off b) i = if i = off / 512 then splice (blkOf cs i) (off % 512) b else blkOf cs i := by
  have hle : off + b.length ≤ cs.length := by omega
  have hb := blkOf_len hl hi
  apply List.ext_getElem?
  intro p
  by_cases hp : p < 512
  · have e1 : ∀ ds : List Int, (blkOf ds i)[p]? = ds[512 * i + p]? := fun ds => by
      unfold blkOf
      rw [List.getElem?_take_of_lt hp, List.getElem?_drop]
    rw [e1, splice_get hle]
    split
    · rename_i h
      have : i = off / 512 := by omega
      rw [if_pos this, splice_get (by rw [hb]; omega), if_pos (by omega), show 512 * i + p - off = p - off % 512 by omega]
    · rename_i h
      split
      · rename_i e
        rw [splice_get (by rw [hb]; omega), if_neg (by omega), e1]
      · rw [e1]
  · rw [List.getElem?_eq_none (by rw [blkOf_len (m := m) (by rw [splice_len hle]; exact hl) hi]; omega)]
    split
    · rw [List.getElem?_eq_none (by rw [splice_len (by rw [hb]; omega), hb]; omega)]
    · rw [List.getElem?_eq_none (by rw [hb]; omega)]
theorem blkOf_part {cs : List Int} {off n : Nat} (hin : off % 512 + n ≤ 512) : ((blkOf cs (off / 512)).drop (off % 512)).take n = (cs.drop off).take n := by
  apply List.ext_getElem?
  intro p
  by_cases hp : p < n
  · unfold blkOf
    rw [List.getElem?_take_of_lt hp, List.getElem?_take_of_lt hp, List.getElem?_drop, List.getElem?_drop, List.getElem?_take_of_lt (by omega), List.getElem?_drop]
    congr 1; omega
  · rw [List.getElem?_eq_none (by rw [List.length_take]; omega), List.getElem?_eq_none (by rw [List.length_take]; omega)]
theorem blkOf_app {cs : List Int} {m i : Nat} (hl : cs.length = 512 * m) (hi : i ≤ m) : blkOf (cs ++ zeros 512) i = if i = m then zeros 512 else blkOf cs i := by
  unfold blkOf
  split
  · rename_i e
    subst e
    rw [List.drop_append_of_le_length (by omega), List.drop_eq_nil_of_le (by omega), List.nil_append, List.take_of_length_le (by rw [zeros_len]; omega)]
  · rw [List.drop_append_of_le_length (by omega), List.take_append_of_le_length (by rw [List.length_drop]; omega)]
theorem blkOf_take {cs : List Int} {m i : Nat} (hi : i < m) : blkOf (cs.take (512 * m)) i = blkOf cs i := by
  unfold blkOf
  rw [List.drop_take, List.take_take]
  congr 1; omega
end Go.Proofs.YtnnaemlipahamaaGreat

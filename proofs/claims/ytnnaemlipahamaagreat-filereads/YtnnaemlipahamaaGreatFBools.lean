/-
  Rows of bools in memory.
-/
import Derived.Test.YtnnaemlipahamaaGreatFDelete
namespace Go.Proofs.YtnnaemlipahamaaGreat
open Go.RowKit Go.Maps

/-- A row of n bools at the head of block g. -/
def Br (w : World) (g n : Nat) (R : Nat → Bool) : Prop := ∃ cs ty, w.heap[g]? = some (.cells cs ty (0, 0)) ∧ cs.size = n ∧ ∀ j, j < n → cs[j]? = some (.bool (R j))
theorem Br.cell {w : World} {g n : Nat} {R : Nat → Bool} (h : Br w g n R) {j : Nat} (hj : j < n) : w.cell? ⟨g, j, none⟩ = some (.bool (R j)) ∧ w.frozen? ⟨g, j, none⟩ = false := by
  obtain ⟨cs, ty, h1, h2, h3⟩ := h
  exact ⟨by simp [World.cell?, h1, h3 j hj], by simp [World.frozen?, h1]⟩
theorem Br.kept {S : Nat → Prop} {w w' : World} {g n : Nat} {R : Nat → Bool} (h : Br w g n R) (hc : Chg S w w') (hl : g < w.heap.size) (hS : ¬ S g) : Br w' g n R := by
  obtain ⟨cs, ty, h1, h2⟩ := h
  exact ⟨cs, ty, (hc.block g hl hS).trans h1, h2⟩
theorem Br.lt {w : World} {g n : Nat} {R : Nat → Bool} (h : Br w g n R) : g < w.heap.size := by
  obtain ⟨cs, ty, h1, h2⟩ := h
  exact lt_of_block h1
theorem Br.sm {X : Nat → Prop} {w w' : World} {g n : Nat} {R : Nat → Bool} (h : Br w g n R) (hs : Sm X w w') (hx : X g) : Br w' g n R := by
  obtain ⟨cs, ty, h1, h2⟩ := h
  exact ⟨cs, ty, (hs g hx).trans h1, h2⟩
theorem Br.ext {w : World} {g n : Nat} {R R' : Nat → Bool} (h : Br w g n R) (e : ∀ j, j < n → R j = R' j) : Br w g n R' := by
  obtain ⟨cs, ty, h1, h2, h3⟩ := h
  exact ⟨cs, ty, h1, h2, fun j hj => by rw [h3 j hj, e j hj]⟩
theorem Br.set {w : World} {g n : Nat} {R : Nat → Bool} (h : Br w g n R) {k : Nat} (hk : k < n) (b : Bool) : Br (w.setCell ⟨g, k, none⟩ (.bool b)) g n (upd R k b) := by
  obtain ⟨cs, ty, h1, h2, h3⟩ := h
  refine ⟨_, ty, heap_setCell_same w g k _ _ (.bool b) h1, by simpa using h2, fun j hj => ?_⟩
  by_cases e : j = k
  · subst e
    rw [upd_same, Array.getElem?_setIfInBounds, if_pos rfl, if_pos (by rw [h2]; exact hj)]
  · rw [upd_other _ _ e, Array.getElem?_setIfInBounds, if_neg (fun e2 => e e2.symm)]
    exact h3 j hj

theorem info4 : (Tryz.prog.info? 4).map (fun i => (i.zero, i.size, i.bytes)) = some (some (.bool false), 1, 1) := by kernel_rfl
theorem info4_parts : ∃ i, Tryz.prog.info? 4 = some i ∧ i.zero = some (.bool false) ∧ i.size = 1 ∧ i.bytes = 1 := by
  have h := info4
  cases hi : Tryz.prog.info? 4 with
  | none => rw [hi] at h; cases h
  | some i =>
    rw [hi] at h
    simp at h
    exact ⟨i, rfl, h.1, h.2.1, h.2.2⟩
/-- A row of n bools, all false, as it is made. -/
theorem makeBools (n : Nat) (hn : n ≤ 16384) : ∃ o : Obj, (∀ w : World, (Instr.makeSlice 77 (.int .i64 (n : Int)) (.int .i64 (n : Int))).run Tryz.prog w = .ok (.slice (some ⟨w.heap.size, 0, none⟩) n n) (w.alloc o)) ∧ ∀ w : World, Br (w.alloc o) w.heap.size n (fun _ => false) := by
  obtain ⟨i0, hi, hz0, hz1, hz2⟩ := info4_parts
  refine ⟨.cells (madeCells (Value.bool false).cells (n * 1)) 4, fun w => ?_, fun w => ⟨_, 4, heap_alloc_new _ _, by simp [size_madeCells], fun j hj => ?_⟩⟩
  · have := run_make (P := Tryz.prog) w 77 4 i0 (.bool false) Tryz.underlying77 hi hz0 .i64 .i64 n n (by omega) (by omega) (by rw [hz2]; omega) (by omega)
    rw [hz1] at this
    simpa using this
  · simp [madeCells, Value.cells, Nat.mod_one, hj]

end Go.Proofs.YtnnaemlipahamaaGreat

namespace Go.Proofs.YtnnaemlipahamaaGreat
open Go.RowKit Go.Maps

/-- A row of n bools at the head of block g, with whatever stands behind. -/
def Bw (w : World) (g n : Nat) (R : Nat → Bool) : Prop := ∃ cs ty, w.heap[g]? = some (.cells cs ty (0, 0)) ∧ n ≤ cs.size ∧ ∀ j, j < n → cs[j]? = some (.bool (R j))
theorem Br.bw {w : World} {g n : Nat} {R : Nat → Bool} (h : Br w g n R) : Bw w g n R := by
  obtain ⟨cs, ty, h1, h2, h3⟩ := h
  exact ⟨cs, ty, h1, by omega, h3⟩
theorem Bw.cell {w : World} {g n : Nat} {R : Nat → Bool} (h : Bw w g n R) {j : Nat} (hj : j < n) : w.cell? ⟨g, j, none⟩ = some (.bool (R j)) ∧ w.frozen? ⟨g, j, none⟩ = false := by
  obtain ⟨cs, ty, h1, h2, h3⟩ := h
  exact ⟨by simp [World.cell?, h1, h3 j hj], by simp [World.frozen?, h1]⟩
theorem Bw.lt {w : World} {g n : Nat} {R : Nat → Bool} (h : Bw w g n R) : g < w.heap.size := by
  obtain ⟨cs, ty, h1, h2⟩ := h
  exact lt_of_block h1
theorem Bw.kept {S : Nat → Prop} {w w' : World} {g n : Nat} {R : Nat → Bool} (h : Bw w g n R) (hc : Chg S w w') (hS : ¬ S g) : Bw w' g n R := by
  have hl := h.lt
  obtain ⟨cs, ty, h1, h2⟩ := h
  exact ⟨cs, ty, (hc.block g hl hS).trans h1, h2⟩
theorem Bw.sm {X : Nat → Prop} {w w' : World} {g n : Nat} {R : Nat → Bool} (h : Bw w g n R) (hs : Sm X w w') (hx : X g) : Bw w' g n R := by
  obtain ⟨cs, ty, h1, h2⟩ := h
  exact ⟨cs, ty, (hs g hx).trans h1, h2⟩
theorem Bw.ext {w : World} {g n : Nat} {R R' : Nat → Bool} (h : Bw w g n R) (e : ∀ j, j < n → R j = R' j) : Bw w g n R' := by
  obtain ⟨cs, ty, h1, h2, h3⟩ := h
  exact ⟨cs, ty, h1, h2, fun j hj => by rw [h3 j hj, e j hj]⟩
theorem Bw.set {w : World} {g n : Nat} {R : Nat → Bool} (h : Bw w g n R) {k : Nat} (hk : k < n) (b : Bool) : Bw (w.setCell ⟨g, k, none⟩ (.bool b)) g n (upd R k b) := by
  obtain ⟨cs, ty, h1, h2, h3⟩ := h
  refine ⟨_, ty, heap_setCell_same w g k _ _ (.bool b) h1, by simpa using h2, fun j hj => ?_⟩
  by_cases e : j = k
  · subst e
    rw [upd_same, Array.getElem?_setIfInBounds, if_pos rfl, if_pos (by omega)]
  · rw [upd_other _ _ e, Array.getElem?_setIfInBounds, if_neg (fun e2 => e e2.symm)]
    exact h3 j hj

/-- The document's pool. -/
structure RAt (w : World) (pr : Nat) (M F n : Int) (tv : Value) : Prop where
  blk : w.heap[pr]? = some (.cells #[.int .i64 M, .int .i64 F, .int .i64 n, tv] 79 (0, 0))
section
variable {w w' : World} {pr : Nat} {M F n : Int} {tv : Value}
theorem RAt.c0 (h : RAt w pr M F n tv) : w.cell? ⟨pr, 0, none⟩ = some (.int .i64 M) := by rw [cell_of_row w pr 0 _ _ _ h.blk]; rfl
theorem RAt.c1 (h : RAt w pr M F n tv) : w.cell? ⟨pr, 1, none⟩ = some (.int .i64 F) := by rw [cell_of_row w pr 1 _ _ _ h.blk]; rfl
theorem RAt.c2 (h : RAt w pr M F n tv) : w.cell? ⟨pr, 2, none⟩ = some (.int .i64 n) := by rw [cell_of_row w pr 2 _ _ _ h.blk]; rfl
theorem RAt.c3 (h : RAt w pr M F n tv) : w.cell? ⟨pr, 3, none⟩ = some tv := by rw [cell_of_row w pr 3 _ _ _ h.blk]; rfl
theorem RAt.fr (h : RAt w pr M F n tv) (j : Nat) : w.frozen? ⟨pr, j, none⟩ = false := frozen_of_row w pr j _ _ h.blk
theorem RAt.lt (h : RAt w pr M F n tv) : pr < w.heap.size := lt_of_block h.blk
theorem RAt.kept {S : Nat → Prop} (h : RAt w pr M F n tv) (hc : Chg S w w') (hS : ¬ S pr) : RAt w' pr M F n tv := ⟨(hc.block pr h.lt hS).trans h.blk⟩
theorem RAt.sm {X : Nat → Prop} (h : RAt w pr M F n tv) (hs : Sm X w w') (hx : X pr) : RAt w' pr M F n tv := ⟨(hs pr hx).trans h.blk⟩
theorem RAt.set (h : RAt w pr M F n tv) (u : Value) : RAt (w.setCell ⟨pr, 3, none⟩ u) pr M F n u := ⟨by
  rw [heap_setCell_same w pr 3 _ _ u h.blk]; rfl⟩
end

end Go.Proofs.YtnnaemlipahamaaGreat

/-
  Contracts of Begin, Read and Write of the document's log.
-/
import Derived.Test.YtkkmdmnjlncgfaaRef
import Derived.Test.YtkkmdmnjlncgfaaLists
namespace Go.Proofs.Ytkkmdmnjlncgfaa
open Go.RowKit Go.Maps

theorem made_strs (n : Nat) : (madeCells (Value.string ByteArray.empty).cells (n * 1)).toList = List.replicate n (.string ByteArray.empty) := by
  rw [Nat.mul_one]
  apply List.ext_getElem
  · simp [size_madeCells]
  · intro i h1 h2
    simp [madeCells, Value.cells, Nat.mod_one]
/-- The string of a block, or none. -/
def wstr (o : Option (List Int)) : ByteArray := match o with
  | some b => strOf b
  | none => ByteArray.empty
theorem str512 {b : List Int} (h : b.length = 512) : ((strOf b).toList == ByteArray.empty.toList) = false := by
  rw [beq_eq_false_iff_ne, ByteArray.toList_eq, ByteArray.toList_eq, strOf_list]
  intro e
  have := congrArg List.length e
  simp at this
  subst this
  simp at h
theorem strOf_size (xs : List Int) : (strOf xs).size = xs.length := by
  have := congrArg List.length (strOf_list xs)
  simpa using this

section
variable {w w' : World} {pr : Nat} {R : Rf} {lb lc db dc nb nc : Nat} {nv : Value}

set_option maxHeartbeats 1600000 in
theorem rbegin_busy (w : World) (h : RfAt w pr R lb lc db dc nb nc nv) (ho : R.op = true) : Calls Try.prog 41 #[.pointer (some ⟨pr, 0, none⟩)] w fun e w' => e = .returned (.int .i64 15) ∧ w' = w := by
  have c3 := h.c3
  rw [ho] at c3
  clear h
  go_enter Try.func41, Try.ntmps41
  go_wp2
  go_ret
  exact ⟨rfl, rfl⟩

theorem begin_facts {w1 : World} (h : RfAt w pr R lb lc db dc nb nc nv) (own1 : w1.ownsRow w.heap.size 9 1 (.slice (some ⟨(w.setCell ⟨pr, 3, none⟩ (.bool true)).heap.size, 0, none⟩) 70 70) 70 (madeCells (Value.string ByteArray.empty).cells (70 * 1)).toList) (grow1 : (w.setCell ⟨pr, 3, none⟩ (.bool true)).grownBy w1 none) :
    w1.cell? ⟨pr, 4, none⟩ = some nv ∧ w1.cell? ⟨pr, 5, none⟩ = some (.int .i64 (R.wrote : Int)) ∧ w1.frozen? ⟨pr, 4, none⟩ = false ∧ w1.frozen? ⟨pr, 5, none⟩ = false ∧
    Hid (∃ nb' nv', RfAt ((w1.setCell ⟨pr, 4, none⟩ (.slice (some ⟨w.heap.size, 0, none⟩) 70 70)).setCell ⟨pr, 5, none⟩ (.int .i64 0)) pr { R with op := true, W := fun _ => ByteArray.empty, wrote := 0 } lb lc db dc nb' 70 nv' ∧ Chg (fun b => b = pr) w ((w1.setCell ⟨pr, 4, none⟩ (.slice (some ⟨w.heap.size, 0, none⟩) 70 70)).setCell ⟨pr, 5, none⟩ (.int .i64 0)) ∧ w.heap.size ≤ nb' ∧ nb' < ((w1.setCell ⟨pr, 4, none⟩ (.slice (some ⟨w.heap.size, 0, none⟩) 70 70)).setCell ⟨pr, 5, none⟩ (.int .i64 0)).heap.size) := by
  have hs : (w.setCell ⟨pr, 3, none⟩ (.bool true)).heap.size = w.heap.size := World.size_setCell _ _ _
  rw [hs] at own1
  have hc1 : Chg (fun b => b = pr) w (w.setCell ⟨pr, 3, none⟩ (.bool true)) := Chg.setCell _ _ _ rfl
  have hc2 := Chg.of_none grow1
  have hb0 := heap_setCell_same w pr 3 _ 46 (.bool true) h.blk
  have hb1 := (hc2.block pr (by rw [hs]; exact h.lt) (fun h => h)).trans hb0
  have hw1 : w.heap.size < w1.heap.size := (own1.lt _ rfl).2
  have hrow : Row w1 w.heap.size 70 (fun _ => .string ByteArray.empty) := by
    refine Row.own own1 (fun j hj => ?_)
    rw [made_strs, List.getElem?_replicate, if_pos hj]
  have hcw : Chg (fun b => b = pr) w w1 := hc1.trans hc2 (fun _ _ h => h.elim)
  have hc3 : Chg (fun b => b = pr) w1 ((w1.setCell ⟨pr, 4, none⟩ (.slice (some ⟨w.heap.size, 0, none⟩) 70 70)).setCell ⟨pr, 5, none⟩ (.int .i64 0)) := (Chg.setCell (S := fun b => b = pr) _ _ _ rfl).trans (Chg.setCell (S := fun b => b = pr) _ _ _ rfl) (fun _ _ h => h)
  have hcc := hcw.trans hc3 (fun _ _ h => h)
  have g1 := heap_setCell_same w1 pr 4 _ 46 (.slice (some ⟨w.heap.size, 0, none⟩) 70 70) hb1
  have g2 := heap_setCell_same _ pr 5 _ 46 (.int .i64 0) g1
  have hne : w.heap.size ≠ pr := fun e => absurd h.lt (by omega)
  have hnl : w.heap.size ≠ lb := fun e => absurd h.l.lt (by omega)
  have hnd : w.heap.size ≠ db := fun e => absurd h.d.lt (by omega)
  refine ⟨?_, ?_, ?_, ?_, w.heap.size, _, ⟨by simpa using g2, h.l.kept hcc (Ne.symm h.pl), h.d.kept hcc (Ne.symm h.pd), fun _ => ⟨rfl, by omega, hrow.kept hc3 hne⟩, ⟨_, _, _, rfl⟩, h.pl, h.pd, fun _ => hne, h.ld, fun _ => ⟨hnl, hnd⟩, h.lcc, h.dcc⟩, hcc, Nat.le_refl _, ?_⟩
  · rw [cell_of_row w1 pr 4 _ _ _ hb1]; rfl
  · rw [cell_of_row w1 pr 5 _ _ _ hb1]; rfl
  · simp [World.frozen?, hb1]
  · simp [World.frozen?, hb1]
  · have := hc3.size; omega

set_option maxHeartbeats 1600000 in
set_option maxRecDepth 100000 in
theorem rbegin_any (w : World) (h : RfAt w pr R lb lc db dc nb nc nv) (ho : R.op = false) : Calls Try.prog 41 #[.pointer (some ⟨pr, 0, none⟩)] w fun e w' => e = .returned (.int .i64 0) ∧ ∃ nb' nv', RfAt w' pr { R with op := true, W := fun _ => ByteArray.empty, wrote := 0 } lb lc db dc nb' 70 nv' ∧ Chg (fun b => b = pr) w w' ∧ w.heap.size ≤ nb' ∧ nb' < w'.heap.size := by
  obtain ⟨i0, hi, hz0, hz1, hz2⟩ := info_parts info9
  have HK : Hid (RfAt w pr R lb lc db dc nb nc nv) := h
  have c0 := h.c0
  have c3 := h.c3
  have c4 := h.c4
  have c5 := h.c5
  have f3 := h.fr 3
  rw [ho] at c3
  have hpl := h.lt
  clear h
  go_enter Try.func41, Try.ntmps41
  go_wp2_with (refine wpList_make_full _ rfl _ _ 43 rfl w.heap.size 9 i0 (.string ByteArray.empty) 1 Try.underlying43 hi hz0 hz1 .i64 .i64 _ _ 70 rfl rfl (by omega) (by omega) (by rw [hz2]; omega) (by unfold maxLen; omega) (by simp) ?_; intro w1 own1 grow1; have HQ := begin_facts HK.out own1 grow1; have c4' := HQ.1; have c5' := HQ.2.1; have f4 := HQ.2.2.1; have f5 := HQ.2.2.2.1; have HE := HQ.2.2.2.2; clear HQ own1 grow1)
  go_wp2
  go_ret
  exact ⟨rfl, HE.out⟩
end
end Go.Proofs.Ytkkmdmnjlncgfaa

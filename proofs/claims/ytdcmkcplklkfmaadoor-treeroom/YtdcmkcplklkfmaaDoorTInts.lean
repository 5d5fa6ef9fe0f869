/-
  A slice of numbers; bytes that are made.
-/
import Derived.Test.YtdcmkcplklkfmaaDoorTRoomP
namespace Go.Proofs.YtdcmkcplklkfmaaDoor
open Go.RowKit Go.Maps Go.Sort

/-- A slice of numbers. -/
def Is (w : World) (v : Value) (xs : List Int) : Prop :=
  (v = .slice none 0 0 ∧ xs = []) ∨
  ∃ a c, v = .slice (some a) xs.length c ∧ xs.length ≤ c ∧ c ≤ maxLen ∧ ∀ j, j < xs.length → w.cell? (a.add j) = some (.int .i64 (xs.getD j 0))
theorem Is.form {w : World} {v : Value} {xs : List Int} (h : Is w v xs) : ∃ a c, v = .slice a xs.length c := by
  rcases h with ⟨rfl, rfl⟩ | ⟨a, c, rfl, _⟩
  · exact ⟨_, _, rfl⟩
  · exact ⟨_, _, rfl⟩
theorem Is.below {w w' : World} {v : Value} {xs : List Int} (h : Is w v xs) (hb : Below w.heap.size w w') : Is w' v xs := by
  rcases h with h | ⟨a, c, rfl, hl, hm, hcell⟩
  · exact .inl h
  · exact .inr ⟨a, c, rfl, hl, hm, fun j hj => (Chg.ofBelowC hb).cell (hcell j hj) (fun h => h)⟩
theorem Is.nth {w : World} {va : Option Addr} {n vc j : Nat} {l : List Int} (h : Is w (.slice va n vc) l) (hj : j < l.length) : ∃ b off, va = some ⟨b, off, none⟩ ∧ ∀ k, k < l.length → w.cell? ⟨b, off + k, none⟩ = some (.int .i64 (l.getD k 0)) := by
  rcases h with ⟨e, rfl⟩ | ⟨x, c', e, hl, hm, hcell⟩
  · simp at hj
  · simp at e
    obtain ⟨rfl, _, _⟩ := e
    obtain ⟨b, off, spot⟩ := x
    have h0 := hcell 0 (by omega)
    have hspot : spot = none := by simpa [Addr.add] using World.cell?_spot h0
    subst hspot
    refine ⟨b, off, rfl, fun k hk => ?_⟩
    have := hcell k hk
    unfold Addr.add at this
    split at this
    · rename_i e; subst e; simpa using this
    · exact this
theorem and4095 (n : Int) : bits .and .i64 n 4095 = n % 4096 := by
  have := and_mask n 12 (by omega)
  simpa using this
/-- Bytes 0, as they are made. -/
theorem makeZ (n : Nat) (hn : n ≤ 100000) : ∃ o : Obj, (∀ w : World, (Instr.makeSlice 33 (.int .i64 (n : Int)) (.int .i64 (n : Int))).run Tryd.prog w = .ok (.slice (some ⟨w.heap.size, 0, none⟩) n n) (w.alloc o)) ∧ ∀ w : World, Bs (w.alloc o) (.slice (some ⟨w.heap.size, 0, none⟩) n n) (List.replicate n 0) := by
  obtain ⟨i0, hi, hz0, hz1, hz2⟩ := info_parts cinfo5
  refine ⟨.cells (madeCells (Value.int .u8 0).cells (n * 1)) 5, fun w => ?_, fun w => ?_⟩
  · have := run_make (P := Tryd.prog) w 33 5 i0 _ Tryd.underlying33 hi hz0 .i64 .i64 (n : Int) (n : Int) (by omega) (by omega) (by rw [hz2]; omega) (by omega)
    rw [hz1] at this
    exact this
  · refine .inr ⟨⟨w.heap.size, 0, none⟩, n, by rw [List.length_replicate], by rw [List.length_replicate]; exact Nat.le_refl _, by unfold maxLen; omega, fun j hj => ?_⟩
    rw [List.length_replicate] at hj
    have e : (⟨w.heap.size, 0, none⟩ : Addr).add j = ⟨w.heap.size, j, none⟩ := by unfold Addr.add; split <;> simp_all
    rw [e, cell_of_row _ _ _ _ _ _ (heap_alloc_new w _)]
    have h2 : (Value.int .u8 0).cells = #[.int .u8 0] := rfl
    rw [h2]
    simp [madeCells, hj, List.getD, Nat.mod_one]
end Go.Proofs.YtdcmkcplklkfmaaDoor

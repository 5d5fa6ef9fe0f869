/-
  Bytes of one's own: a part copied over, one set, some made.
-/
import Derived.Test.YtdcmkcplklkfmaaDoorDEnc
import Derived.Laws.IdiomCopy
import Derived.Handy
namespace Go.Proofs.YtdcmkcplklkfmaaDoor
open Go.RowKit

/-- v is a slice of bytes of its own, at the head of block g, that reads xs. -/
def Mp (w : World) (g : Nat) (v : Value) (xs : List Int) : Prop :=
  (v = .slice none 0 0 ∧ xs = []) ∨
  ∃ (c : Nat) (cur : Array Value) (ty : TypeId), v = .slice (some ⟨g, 0, none⟩) xs.length c ∧ w.heap[g]? = some (.cells cur ty (0, 0)) ∧ xs.length ≤ c ∧ c ≤ maxLen ∧ ∀ j, j < xs.length → cur[j]? = some (.int .u8 (xs.getD j 0))

theorem Mp.bs {w : World} {g : Nat} {v : Value} {xs : List Int} (h : Mp w g v xs) : Bs w v xs := by
  rcases h with h | ⟨c, cur, ty, rfl, hb, hl, hm, hc⟩
  · exact .inl h
  · refine .inr ⟨⟨g, 0, none⟩, c, rfl, hl, hm, fun j hj => ?_⟩
    have e : (⟨g, 0, none⟩ : Addr).add j = ⟨g, j, none⟩ := by simp [Addr.add_lit]
    rw [e, cell_of_row _ _ _ _ _ _ hb]
    exact hc j hj
theorem Mp.kept {S : Nat → Prop} {w w' : World} {g : Nat} {v : Value} {xs : List Int} (h : Mp w g v xs) (hc : Chg S w w') (hn : ¬ S g) : Mp w' g v xs := by
  rcases h with h | ⟨c, cur, ty, rfl, hb, hl, hm, hcc⟩
  · exact .inl h
  · refine .inr ⟨c, cur, ty, rfl, ?_, hl, hm, hcc⟩
    rw [hc.block g ?_ hn]
    · exact hb
    · exact (Array.getElem?_eq_some_iff.1 hb).1
theorem Bs.formB {w : World} {v : Value} {xs : List Int} (h : Bs w v xs) : ∃ a c, v = .slice a xs.length c ∧ xs.length ≤ c := by
  rcases h with ⟨rfl, rfl⟩ | ⟨a, c, rfl, hl, _, _⟩
  · exact ⟨none, 0, rfl, Nat.le_refl _⟩
  · exact ⟨some a, c, rfl, hl⟩
/-- One byte set. -/
theorem Mp.set {w : World} {g : Nat} {v : Value} {xs : List Int} (h : Mp w g v xs) {j : Nat} (hj : j < xs.length) (y : Int) : Mp (w.setCell ⟨g, j, none⟩ (.int .u8 y)) g v (xs.set j y) := by
  rcases h with ⟨rfl, rfl⟩ | ⟨c, cur, ty, rfl, hb, hl, hm, hc⟩
  · simp at hj
  · refine .inr ⟨c, _, ty, by simp, heap_setCell_same w g j _ _ (.int .u8 y) hb, by simpa using hl, hm, fun k hk => ?_⟩
    have hk' : k < xs.length := by simpa using hk
    have h0 := hc k hk'
    have hs : k < cur.size := (Array.getElem?_eq_some_iff.1 h0).1
    by_cases e : k = j
    · subst e
      simp [List.getD, hk', hs]
    · have e1 : (xs.set j y).getD k 0 = xs.getD k 0 := by simp [List.getD, List.getElem?_set_ne (Ne.symm e)]
      rw [e1, ← h0]
      simp [Ne.symm e]
theorem Mp.ofOwns {w : World} {N : Nat} {v : Value} {n : Nat} {xs : List Int} (h : w.ownsRow N 5 1 v n (bcells xs)) : ∃ g, Mp w g v xs ∧ (∀ b, v.ownBlock = some b → b = g) := by
  have hn : xs.length = n := by have := h.1; simpa [bcells] using this
  subst hn
  rcases h.2 with ⟨rfl, h0⟩ | ⟨g, cap, cur, rfl, hb, hg, hnc, hcm, hcs, htake⟩
  · exact ⟨0, .inl ⟨rfl, List.eq_nil_of_length_eq_zero h0⟩, fun b hb => by simp [Value.ownBlock] at hb⟩
  · refine ⟨g, .inr ⟨cap, cur, 5, rfl, hg, hnc, hcm, fun j hj => ?_⟩, fun b hb => by simpa [Value.ownBlock] using hb.symm⟩
    have h1 : (cur.toList.take (xs.length * 1))[j]? = (bcells xs)[j]? := by rw [htake]
    rw [List.getElem?_take_of_lt (by omega)] at h1
    rw [← Array.getElem?_toList, h1]
    simp [bcells, List.getD, hj]

theorem Mp.cellAt {w : World} {g : Nat} {v : Value} {xs : List Int} (h : Mp w g v xs) {j : Nat} (hj : j < xs.length) : w.cell? ⟨g, j, none⟩ = some (.int .u8 (xs.getD j 0)) := by
  rcases h with ⟨rfl, rfl⟩ | ⟨c, cur, ty, rfl, hb, hl, hm, hc⟩
  · simp at hj
  · rw [cell_of_row _ _ _ _ _ _ hb]
    exact hc j hj
theorem Mp.freeAt {w : World} {g : Nat} {v : Value} {xs : List Int} (h : Mp w g v xs) (j : Nat) (hx : xs ≠ []) : w.frozen? ⟨g, j, none⟩ = false := by
  rcases h with ⟨rfl, e⟩ | ⟨c, cur, ty, rfl, hb, hl, hm, hc⟩
  · exact absurd e hx
  · simp [World.frozen?, hb]
/-- Bytes b in the place of as many from off on. -/
def splice (cs : List Int) (off : Nat) (b : List Int) : List Int := cs.take off ++ b ++ cs.drop (off + b.length)
theorem splice_len {cs : List Int} {off : Nat} {b : List Int} (h : off + b.length ≤ cs.length) : (splice cs off b).length = cs.length := by
  unfold splice
  simp only [List.length_append, List.length_take, List.length_drop]; omega
theorem splice_nil (cs : List Int) (off : Nat) : splice cs off [] = cs := by simp [splice]
theorem splice_get {cs : List Int} {off : Nat} {b : List Int} (h : off + b.length ≤ cs.length) (p : Nat) : (splice cs off b)[p]? = if off ≤ p ∧ p < off + b.length then b[p - off]? else cs[p]? := by
  unfold splice
  by_cases h1 : p < off
  · rw [if_neg (by omega), List.append_assoc, List.getElem?_append_left (by rw [List.length_take]; omega), List.getElem?_take_of_lt h1]
  · by_cases h2 : p < off + b.length
    · rw [if_pos ⟨by omega, h2⟩, List.getElem?_append_left (by rw [List.length_append, List.length_take]; omega), List.getElem?_append_right (by rw [List.length_take]; omega), List.length_take, Nat.min_eq_left (by omega)]
    · rw [if_neg (by omega), List.getElem?_append_right (by rw [List.length_append, List.length_take]; omega), List.length_append, List.length_take, Nat.min_eq_left (by omega), List.getElem?_drop, show off + b.length + (p - (off + b.length)) = p by omega]
def zeros (n : Nat) : List Int := List.replicate n 0
theorem zeros_len (n : Nat) : (zeros n).length = n := List.length_replicate
theorem bcells_nth {xs : List Int} {j : Nat} (h : j < xs.length) : (bcells xs)[j]? = some (.int .u8 (xs.getD j 0)) := by simp [bcells, List.getD, h]
theorem info5_parts : ∃ i, Tryd.prog.info? 5 = some i ∧ i.zero = some (.int .u8 0) ∧ i.size = 1 ∧ i.bytes = 1 := info_parts cinfo5
theorem made_bytes (n : Nat) : (madeCells (Value.int .u8 0).cells (n * 1)).toList = bcells (zeros n) := by
  rw [Nat.mul_one]
  apply List.ext_getElem
  · simp [size_madeCells, bcells, zeros]
  · intro i h1 h2
    simp [madeCells, Value.cells, bcells, zeros, Nat.mod_one]
/-- copy, under a name that the walk leaves shut. -/
def copyG := Builtin.copy_
theorem copyG_eq (a : Array TypeId) (t : TypeId) (vs : Array Value) : Builtin.copy_ a t vs = copyG a t vs := rfl
theorem bcells_len (xs : List Int) : (bcells xs).length = xs.length := by simp [bcells]
theorem run_copyM {w : World} {g o dl dc : Nat} {v u : Value} {xs ys : List Int} (ty : TypeId) (h : Mp w g v xs) (hu : Bs w u ys) (ho : o + min ys.length dl ≤ xs.length) :
    ∃ w', (copyG #[33, 33] ty #[.slice (some ⟨g, o, none⟩) dl dc, u]).run Tryd.prog w = .ok (.int .i64 ((min ys.length dl : Nat) : Int)) w' ∧ Mp w' g v (splice xs o (ys.take dl)) ∧ Chg (fun b => b = g) w w' := by
  obtain ⟨i0, hi, hz0, hz1, hz2⟩ := info5_parts
  have hs : (Tryd.prog.info? 5).map (·.size) = some 1 := by rw [hi]; simp [hz1]
  by_cases h0 : min ys.length dl = 0
  · have e : ys.take dl = [] := by
      apply List.eq_nil_of_length_eq_zero
      rw [List.length_take]; omega
    rw [e, splice_nil, h0]
    refine ⟨w, ?_, h, Chg.refl _ _⟩
    obtain ⟨a, c, rfl, hc⟩ := hu.formB
    have := run_copy_none (P := Tryd.prog) w 33 33 ty 5 (some ⟨g, o, none⟩) a dl dc ys.length c Tryd.underlying33 hs h0
    exact this
  · rcases hu with ⟨rfl, rfl⟩ | ⟨a, c, rfl, hl, hm, hcell⟩
    · simp at h0
    · rcases h with ⟨rfl, rfl⟩ | ⟨cv, cur, ty', rfl, hb, hl2, hm2, hcc⟩
      · rw [List.length_nil] at ho
        exact absurd (Nat.le_zero.1 (Nat.le_trans (Nat.le_add_left _ _) ho)) h0
      · have hsz : xs.length ≤ cur.size := by
          rcases Nat.eq_zero_or_pos xs.length with e | e
          · omega
          · have := hcc (xs.length - 1) (by omega)
            have := (Array.getElem?_eq_some_iff.1 this).1
            omega
        have hlen : (bcells (ys.take dl)).length = min ys.length dl := by rw [bcells_len, List.length_take]; omega
        have hr := run_copy_row Tryd.prog w 33 33 ty 5 g o dl dc a ys.length c cur ty' (bcells (ys.take dl)) Tryd.underlying33 hs hb hlen
          (fun j v hv => by
            obtain ⟨hj, rfl⟩ := bcells_get hv
            have hj2 : j < ys.length := by rw [List.length_take] at hj; omega
            have hj3 : j < dl := by rw [List.length_take] at hj; omega
            rw [hcell j hj2]
            simp [List.getD, List.getElem?_take_of_lt hj3]) (by rw [hlen]; omega) (bcells_one _)
        rw [hlen] at hr
        refine ⟨_, hr, .inr ⟨cv, _, ty', ?_, setRow_heap w g cur _ ty' _ hb, ?_, hm2, fun j hj => ?_⟩, ⟨rfl, rfl, rfl, by simp, fun k _ hk => setRow_other w g k _ (fun e => hk e)⟩⟩
        · rw [splice_len (by rw [List.length_take]; omega)]
        · rw [splice_len (by rw [List.length_take]; omega)]; exact hl2
        · rw [splice_len (by rw [List.length_take]; omega)] at hj
          have e1 := splice_get (cs := xs) (off := o) (b := ys.take dl) (by rw [List.length_take]; omega) j
          have e2 : (splice xs o (ys.take dl)).getD j 0 = ((splice xs o (ys.take dl))[j]?).getD 0 := by simp [List.getD]
          rw [e2, e1]
          have e3 : (cur.toList.take o ++ bcells (ys.take dl) ++ cur.toList.drop (o + min ys.length dl)).toArray[j]? = (cur.toList.take o ++ bcells (ys.take dl) ++ cur.toList.drop (o + min ys.length dl))[j]? := by simp
          rw [e3]
          have hto : (cur.toList.take o).length = o := by simp; omega
          have hty : (ys.take dl).length = min ys.length dl := by rw [List.length_take]; omega
          by_cases g1 : j < o
          · rw [if_neg (by omega), List.append_assoc, List.getElem?_append_left (by omega), List.getElem?_take_of_lt g1]
            have := hcc j (by omega)
            rw [← Array.getElem?_toList] at this
            rw [this]; simp [List.getD]
          · by_cases g2 : j < o + min ys.length dl
            · rw [if_pos (by omega), List.getElem?_append_left (by rw [List.length_append]; omega), List.getElem?_append_right (by omega), hto]
              have g3 : j - o < (ys.take dl).length := by omega
              rw [show (bcells (ys.take dl))[j - o]? = some (.int .u8 ((ys.take dl).getD (j - o) 0)) from bcells_nth g3]
              simp [List.getD]
            · rw [if_neg (by omega), List.getElem?_append_right (by rw [List.length_append]; omega), List.length_append, hto, hlen, List.getElem?_drop, show o + min ys.length dl + (j - (o + min ys.length dl)) = j by omega]
              have := hcc j (by omega)
              rw [← Array.getElem?_toList] at this
              rw [this]; simp [List.getD]


/-- Bytes 0, as they are made. -/
theorem makeM (z : Nat) (hz : z ≤ 16777216) : ∃ o : Obj, (∀ w : World, (Instr.makeSlice 33 (.int .i64 (z : Int)) (.int .i64 (z : Int))).run Tryd.prog w = .ok (.slice (some ⟨w.heap.size, 0, none⟩) z z) (w.alloc o)) ∧ ∀ w : World, Mp (w.alloc o) w.heap.size (.slice (some ⟨w.heap.size, 0, none⟩) z z) (zeros z) := by
  obtain ⟨i0, hi, hz0, hz1, hz2⟩ := info5_parts
  refine ⟨.cells (madeCells (Value.int .u8 0).cells (z * 1)) 5, fun w => ?_, fun w => ?_⟩
  · have := run_make (P := Tryd.prog) w 33 5 i0 (.int .u8 0) Tryd.underlying33 hi hz0 .i64 .i64 (z : Int) (z : Int) (by omega) (by omega) (by rw [hz2]; omega) (by omega)
    rw [hz1] at this
    exact this
  · refine .inr ⟨z, _, 5, by rw [zeros_len], heap_alloc_new w _, by rw [zeros_len]; exact Nat.le_refl _, by unfold maxLen; omega, fun j hj => ?_⟩
    rw [← Array.getElem?_toList, made_bytes]
    exact bcells_nth hj
end Go.Proofs.YtdcmkcplklkfmaaDoor

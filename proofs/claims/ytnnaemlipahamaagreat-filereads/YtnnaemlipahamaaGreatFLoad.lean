/-
  A part of a block's bytes copied over; load of package file: a block in memory of its own, read through the interface.
-/
import Derived.Test.YtnnaemlipahamaaGreatFNum
import Derived.Handy
import Derived.Laws.IdiomCopy
namespace Go.Proofs.YtnnaemlipahamaaGreat
open Go.RowKit Go.Maps

/-- copy, under a name that the walk leaves shut. -/
def copyG := Builtin.copy_
theorem copyG_eq (a : Array TypeId) (t : TypeId) (vs : Array Value) : Builtin.copy_ a t vs = copyG a t vs := rfl
theorem bcells_len (xs : List Int) : (bcells xs).length = xs.length := by simp [bcells]
theorem run_copyM {w : World} {g o dl dc : Nat} {v u : Value} {xs ys : List Int} (ty : TypeId) (h : Mp w g v xs) (hu : Bs w u ys) (ho : o + min ys.length dl ≤ xs.length) :
    ∃ w', (copyG #[33, 33] ty #[.slice (some ⟨g, o, none⟩) dl dc, u]).run Tryz.prog w = .ok (.int .i64 ((min ys.length dl : Nat) : Int)) w' ∧ Mp w' g v (splice xs o (ys.take dl)) ∧ Chg (fun b => b = g) w w' := by
  obtain ⟨i0, hi, hz0, hz1, hz2⟩ := info5_parts
  have hs : (Tryz.prog.info? 5).map (·.size) = some 1 := by rw [hi]; simp [hz1]
  by_cases h0 : min ys.length dl = 0
  · have e : ys.take dl = [] := by
      apply List.eq_nil_of_length_eq_zero
      rw [List.length_take]; omega
    rw [e, splice_nil, h0]
    refine ⟨w, ?_, h, Chg.refl _ _⟩
    obtain ⟨a, c, rfl, hc⟩ := hu.formB
    have := run_copy_none (P := Tryz.prog) w 33 33 ty 5 (some ⟨g, o, none⟩) a dl dc ys.length c Tryz.underlying33 hs h0
    exact this
  · rcases hu with ⟨rfl, rfl⟩ | ⟨a, c, rfl, hl, hm, hcell⟩
    · simp at h0
    · rcases h with ⟨rfl, rfl⟩ | ⟨cv, cur, ty', rfl, hb, hl2, hm2, hcc⟩
      · rw [List.length_nil] at ho
        exact absurd (Nat.le_zero.1 (Nat.le_trans (Nat.le_add_left _ _) ho)) h0
      · have hsz : xs.length ≤ cur.size := by
          rcases Nat.eq_zero_or_pos xs.length with e | e
          · omega
          · have := hcc (xs.length - 1) (by omega)
            have := (Array.getElem?_eq_some_iff.1 this).1
            omega
        have hlen : (bcells (ys.take dl)).length = min ys.length dl := by rw [bcells_len, List.length_take]; omega
        have hr := run_copy_row Tryz.prog w 33 33 ty 5 g o dl dc a ys.length c cur ty' (bcells (ys.take dl)) Tryz.underlying33 hs hb hlen
          (fun j v hv => by
            obtain ⟨hj, rfl⟩ := bcells_get hv
            have hj2 : j < ys.length := by rw [List.length_take] at hj; omega
            have hj3 : j < dl := by rw [List.length_take] at hj; omega
            rw [hcell j hj2]
            simp [List.getD, List.getElem?_take_of_lt hj3]) (by rw [hlen]; omega) (bcells_one _)
        rw [hlen] at hr
        refine ⟨_, hr, .inr ⟨cv, _, ty', ?_, setRow_heap w g cur _ ty' _ hb, ?_, hm2, fun j hj => ?_⟩, ⟨rfl, rfl, rfl, by simp, fun k _ hk => setRow_other w g k _ (fun e => hk e)⟩⟩
        · rw [splice_len (by rw [List.length_take]; omega)]
        · rw [splice_len (by rw [List.length_take]; omega)]; exact hl2
        · rw [splice_len (by rw [List.length_take]; omega)] at hj
          have e1 := splice_get (cs := xs) (off := o) (b := ys.take dl) (by rw [List.length_take]; omega) j
          have e2 : (splice xs o (ys.take dl)).getD j 0 = ((splice xs o (ys.take dl))[j]?).getD 0 := by simp [List.getD]
          rw [e2, e1]
          have e3 : (cur.toList.take o ++ bcells (ys.take dl) ++ cur.toList.drop (o + min ys.length dl)).toArray[j]? = (cur.toList.take o ++ bcells (ys.take dl) ++ cur.toList.drop (o + min ys.length dl))[j]? := by simp
          rw [e3]
          have hto : (cur.toList.take o).length = o := by simp; omega
          have hty : (ys.take dl).length = min ys.length dl := by rw [List.length_take]; omega
          by_cases g1 : j < o
          · rw [if_neg (by omega), List.append_assoc, List.getElem?_append_left (by omega), List.getElem?_take_of_lt g1]
            have := hcc j (by omega)
            rw [← Array.getElem?_toList] at this
            rw [this]; simp [List.getD]
          · by_cases g2 : j < o + min ys.length dl
            · rw [if_pos (by omega), List.getElem?_append_left (by rw [List.length_append]; omega), List.getElem?_append_right (by omega), hto]
              have g3 : j - o < (ys.take dl).length := by omega
              rw [show (bcells (ys.take dl))[j - o]? = some (.int .u8 ((ys.take dl).getD (j - o) 0)) from bcells_nth g3]
              simp [List.getD]
            · rw [if_neg (by omega), List.getElem?_append_right (by rw [List.length_append]; omega), List.length_append, hto, hlen, List.getElem?_drop, show o + min ys.length dl + (j - (o + min ys.length dl)) = j by omega]
              have := hcc j (by omega)
              rw [← Array.getElem?_toList] at this
              rw [this]; simp [List.getD]

/-- A transaction as Blocks. -/
abbrev tI (q : Nat) : Value := .iface 37 (.pointer (some ⟨q, 0, none⟩))
attribute [local go_sem ↓] copyG_eq
section
variable {L : List Nat} {X : Nat → Prop} {w0 w w1 : World} {pd pl q K : Nat} {f : Nat → List Int} {com : Nat → Option (List Int)} {pend N : Nat} {V : Nat → List Int}
theorem make512b : ∃ o : Obj, (∀ w : World, (Instr.makeSlice 33 (.int .i64 512) (.int .i64 512)).run Tryz.prog w = .ok (.slice (some ⟨w.heap.size, 0, none⟩) 512 512) (w.alloc o)) ∧ ∀ w : World, NewM w (w.alloc o) (.slice (some ⟨w.heap.size, 0, none⟩) 512 512) w.heap.size (zeros 512) := by
  obtain ⟨i0, hi, hz0, hz1, hz2⟩ := info5_parts
  refine ⟨.cells (madeCells (Value.int .u8 0).cells (512 * 1)) 5, fun w => ?_, fun w => ?_⟩
  · have := run_make (P := Tryz.prog) w 33 5 i0 (.int .u8 0) Tryz.underlying33 hi hz0 .i64 .i64 512 512 (by decide) (by decide) (by rw [hz2]; decide) (by decide)
    rw [hz1] at this
    exact this
  · refine ⟨.inr ⟨512, _, 5, by rw [zeros_len], heap_alloc_new _ _, by rw [zeros_len]; exact Nat.le_refl _, by unfold maxLen; decide, fun j hj => ?_⟩, Chg.alloc _ _ _, Nat.le_refl _, zeros_len 512, 512, rfl⟩
    rw [← Array.getElem?_toList, made_bytes]
    exact bcells_nth hj
theorem splice_all {xs ys : List Int} (h : xs.length = ys.length) : splice xs 0 ys = ys := by
  unfold splice
  rw [List.take_zero, List.nil_append, List.drop_eq_nil_of_le (by omega), List.append_nil]
set_option maxHeartbeats 1600000 in
theorem load_any (n : Nat) (h : Tv L X w0 w pd pl q K f com pend N V) (hn : n < K) :
    Calls Tryz.prog 49 #[tI q, .int .i64 (n : Int)] w fun e w' => ∃ u g, e = .returned (.tuple #[u, .int .i64 0]) ∧ NewM w w' u g (V n) := by
  have hl := h.len hn
  obtain ⟨o, hmk, hnew⟩ := make512b
  have RD : Hid (Calls Tryz.prog 68 #[.pointer (some ⟨q, 0, none⟩), .int .i64 (n : Int)] w fun e w' => ∃ ua uc, e = .returned (.tuple #[.slice ua 512 uc, .int .i64 0]) ∧ Hid (Bs w' (.slice ua 512 uc) (V n) ∧ Chg (fun _ => False) w w')) := by
    refine (tv_read n h hn).mono ?_
    rintro e w' ⟨u, rfl, fr⟩
    obtain ⟨a, c, rfl, _⟩ := fr.bs.formB
    rw [hl]
    exact ⟨a, c, rfl, by have := fr.bs; rw [hl] at this; exact this, fr.chg⟩
  have HLN : Hid ((V n).length = 512) := hl
  clear h hl
  go_enter Tryz.func49, Tryz.ntmps49
  go_wp2_with fail
  refine RD.out.mono ?_
  clear RD
  rintro e w' ⟨ua, uc, rfl, HB⟩
  have hm := hnew w'
  obtain ⟨w2, hr, hm2, hc2⟩ := run_copyM (dl := 512) (dc := 512) (o := 0) 3 hm.mp (HB.out.1.kept (Chg.alloc (fun _ => False) w' o) (fun _ _ _ _ _ h => h)) (by rw [HLN.out, zeros_len]; decide)
  have e1 : splice (zeros 512) 0 ((V n).take 512) = V n := by
    rw [List.take_of_length_le (by have := HLN.out; omega), splice_all (by rw [zeros_len]; exact HLN.out.symm)]
  rw [e1] at hm2
  have HN : Hid (NewM w w2 (.slice (some ⟨w'.heap.size, 0, none⟩) 512 512) w'.heap.size (V n)) := by
    have := hm.step hm2 HLN.out hc2 (fun _ h => h)
    exact ⟨this.mp, HB.out.2.trans this.chg (fun _ _ h => h), by have := HB.out.2.size; omega, this.len, this.form⟩
  rw [HLN.out] at hr
  clear hm hm2 hc2 e1 hnew HB
  go_wp2
  go_ret2
  exact ⟨_, _, rfl, HN.out⟩
end
end Go.Proofs.YtnnaemlipahamaaGreat

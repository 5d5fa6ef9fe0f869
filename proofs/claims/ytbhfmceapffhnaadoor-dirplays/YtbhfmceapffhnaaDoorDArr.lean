/-
  Arrays of 64 bytes: loaded, compared.
-/
import Derived.Test.YtbhfmceapffhnaaDoorDBytes
import Derived.Laws.StructEq
namespace Go.Proofs.YtbhfmceapffhnaaDoor
open Go.RowKit

theorem part5 (ys : List Int) (i : Nat) (w : World) (hy : ys.length = 64) (hi : i < 64) : (part 5 (bcells ys).toArray (i * 1)).run Tryd.prog w = .ok (.int .u8 (ys.getD i 0)) w := by
  have ha : ∀ w, (isAgg 5).run Tryd.prog w = .ok false w := fun _ => by kernel_rfl
  unfold part
  simp only [Sem.run_bind, ha, Result.andThen_ok, Bool.false_eq_true, if_false]
  have e : (bcells ys).toArray[i * 1]? = some (.int .u8 (ys.getD i 0)) := by
    rw [Nat.mul_one, List.getElem?_toArray]
    exact bcells_nth (by omega)
  rw [e]
  rfl
theorem eqArr (d : Nat) (xs bs : List Int) (w : World) (ha : xs.length = 64) (hb : bs.length = 64) :
    (Op.equalIn (d + 2) 87 (.agg (bcells xs).toArray) (.agg (bcells bs).toArray)).run Tryd.prog w = .ok (decide (xs = bs)) w := by
  have hs : ∀ w, (sizeOf 5).run Tryd.prog w = .ok 1 w := fun _ => by kernel_rfl
  rw [Op.equalIn]
  simp only [Sem.run_bind, run_underlying Tryd.underlying87, Result.andThen_ok, hs]
  rw [Std.Legacy.Range.forIn_eq_forIn_range']
  have key : ∀ l : List Nat, (∀ i ∈ l, i < 64) → Sem.run Tryd.prog (forIn l ((none : Option Bool), ()) fun i __s => do
            let __do_lift ← part 5 (bcells xs).toArray (i * 1)
            let __do_lift_1 ← part 5 (bcells bs).toArray (i * 1)
            let __do_lift ← Op.equalIn (d + 1) 5 __do_lift __do_lift_1
            if (!__do_lift) = true then pure (ForInStep.done (some false, ())) else pure (ForInStep.yield (none, ()))) w = .ok (if l.all (fun i => xs.getD i 0 == bs.getD i 0) then (none, ()) else (some false, ())) w := by
    intro l
    induction l with
    | nil => intro _; rfl
    | cons i l ih =>
      intro h
      have hi := h i (by simp)
      rw [List.forIn_cons]
      simp only [Sem.run_bind, part5 xs i w ha hi, part5 bs i w hb hi, Result.andThen_ok, run_equalIn_int w d 5 .u8 .u8 _ _ Tryd.underlying5, List.all_cons]
      have ih' := ih (fun j hj => h j (by simp [hj]))
      by_cases e : (xs.getD i 0 == bs.getD i 0) = true
      · simp only [e, Bool.not_true, Bool.false_eq_true, if_false, Sem.run_pure, Result.andThen_ok, Bool.true_and]
        exact ih'
      · have e' : (xs.getD i 0 == bs.getD i 0) = false := by simpa using e
        simp only [e', Bool.not_false, if_true, Sem.run_pure, Result.andThen_ok, Bool.false_and, Bool.false_eq_true, if_false]
  rw [key _ (fun i hi => by have := (List.mem_range'_1.1 hi).2; simpa using this)]
  by_cases h : xs = bs
  · subst h
    simp
  · have : (List.range' [:64].start [:64].size [:64].step).all (fun i => xs.getD i 0 == bs.getD i 0) = false := by
      cases e : (List.range' [:64].start [:64].size [:64].step).all (fun i => xs.getD i 0 == bs.getD i 0) with
      | false => rfl
      | true =>
        exfalso
        apply h
        refine List.ext_getElem (by omega) fun i h1 h2 => ?_
        have := List.all_eq_true.1 e i (List.mem_range'_1.2 ⟨by simp, by simp [Std.Legacy.Range.size]; omega⟩)
        have := beq_iff_eq.1 this
        simpa [List.getD, h1, h2] using this
    rw [this]
    simp [h]
theorem loadArr (w : World) (a : Addr) (bs : List Int) (hl : bs.length = 64) (hc : ∀ j, j < 64 → w.cell? (a.add j) = some (.int .u8 (bs.getD j 0))) : (Instr.loadAt 87 (.pointer (some a))).run Tryd.prog w = .ok (.agg (bcells bs).toArray) w := by
  have ha : ∀ w, (isAgg 87).run Tryd.prog w = .ok true w := fun _ => by kernel_rfl
  have hs : ∀ w, (sizeOf 87).run Tryd.prog w = .ok 64 w := fun _ => by kernel_rfl
  have h1 := run_loadCells_list (P := Tryd.prog) w a (bcells bs) (fun j u hu => by obtain ⟨hj, rfl⟩ := bcells_get hu; exact hc j (by omega))
  have e : (bcells bs).length = 64 := by simp [bcells, hl]
  rw [e] at h1
  unfold Instr.loadAt
  simp [loadVar, ha, hs, h1, Instr.sureAddr]
theorem zeroArr (w : World) : (Instr.build 87 #[]).run Tryd.prog w = .ok (.agg (bcells (zeros 64)).toArray) w := by kernel_rfl
theorem eqlArr (xs bs : List Int) (w : World) (ha : xs.length = 64) (hb : bs.length = 64) (b : Bool) (h : decide (xs = bs) = b) : (binOp BinOp.eql 87 (.agg (bcells xs).toArray) (.agg (bcells bs).toArray)).run Tryd.prog w = .ok (.bool b) w := by
  have hE := eqArr 9998 xs bs w ha hb
  rw [h] at hE
  rw [run_eql_struct, hE]
  rfl
end Go.Proofs.YtbhfmceapffhnaaDoor

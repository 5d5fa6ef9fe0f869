/-
  Two nodes compared as structs.
-/
import Derived.Test.YtcclpfcgodckgaaDoorIDec2
namespace Go.Proofs.YtcclpfcgodckgaaDoor
open Go.RowKit

theorem run_eqArr (d : Nat) (a0 a1 a2 a3 a4 a5 a6 a7 : Int) (w : World) :
    (Op.equalIn (d + 2) 22 (.agg #[.int .i64 a0, .int .i64 a1, .int .i64 a2, .int .i64 a3, .int .i64 a4, .int .i64 a5, .int .i64 a6, .int .i64 a7]) (.agg #[.int .i64 a0, .int .i64 a1, .int .i64 a2, .int .i64 a3, .int .i64 a4, .int .i64 a5, .int .i64 a6, .int .i64 a7])).run Tryd.prog w = .ok true w := by
  have hs : ∀ w, (sizeOf 3).run Tryd.prog w = .ok 1 w := fun _ => by kernel_rfl
  have p0 : ∀ w : World, (part 3 #[.int .i64 a0, .int .i64 a1, .int .i64 a2, .int .i64 a3, .int .i64 a4, .int .i64 a5, .int .i64 a6, .int .i64 a7] 0).run Tryd.prog w = .ok (.int .i64 a0) w := fun _ => by kernel_rfl
  have p1 : ∀ w : World, (part 3 #[.int .i64 a0, .int .i64 a1, .int .i64 a2, .int .i64 a3, .int .i64 a4, .int .i64 a5, .int .i64 a6, .int .i64 a7] 1).run Tryd.prog w = .ok (.int .i64 a1) w := fun _ => by kernel_rfl
  have p2 : ∀ w : World, (part 3 #[.int .i64 a0, .int .i64 a1, .int .i64 a2, .int .i64 a3, .int .i64 a4, .int .i64 a5, .int .i64 a6, .int .i64 a7] 2).run Tryd.prog w = .ok (.int .i64 a2) w := fun _ => by kernel_rfl
  have p3 : ∀ w : World, (part 3 #[.int .i64 a0, .int .i64 a1, .int .i64 a2, .int .i64 a3, .int .i64 a4, .int .i64 a5, .int .i64 a6, .int .i64 a7] 3).run Tryd.prog w = .ok (.int .i64 a3) w := fun _ => by kernel_rfl
  have p4 : ∀ w : World, (part 3 #[.int .i64 a0, .int .i64 a1, .int .i64 a2, .int .i64 a3, .int .i64 a4, .int .i64 a5, .int .i64 a6, .int .i64 a7] 4).run Tryd.prog w = .ok (.int .i64 a4) w := fun _ => by kernel_rfl
  have p5 : ∀ w : World, (part 3 #[.int .i64 a0, .int .i64 a1, .int .i64 a2, .int .i64 a3, .int .i64 a4, .int .i64 a5, .int .i64 a6, .int .i64 a7] 5).run Tryd.prog w = .ok (.int .i64 a5) w := fun _ => by kernel_rfl
  have p6 : ∀ w : World, (part 3 #[.int .i64 a0, .int .i64 a1, .int .i64 a2, .int .i64 a3, .int .i64 a4, .int .i64 a5, .int .i64 a6, .int .i64 a7] 6).run Tryd.prog w = .ok (.int .i64 a6) w := fun _ => by kernel_rfl
  have p7 : ∀ w : World, (part 3 #[.int .i64 a0, .int .i64 a1, .int .i64 a2, .int .i64 a3, .int .i64 a4, .int .i64 a5, .int .i64 a6, .int .i64 a7] 7).run Tryd.prog w = .ok (.int .i64 a7) w := fun _ => by kernel_rfl
  rw [Op.equalIn]
  simp only [Sem.run_bind, run_underlying Tryd.underlying22, Result.andThen_ok, hs]
  have hr : List.range' 0 8 = [0, 1, 2, 3, 4, 5, 6, 7] := rfl
  rw [Std.Legacy.Range.forIn_eq_forIn_range']
  simp [Std.Legacy.Range.size, hr, List.forIn_cons, p0, p1, p2, p3, p4, p5, p6, p7, run_equalIn_int w d 3 .i64 .i64 _ _ Tryd.underlying3]

theorem part0 (n : Nd) (w : World) : (part 3 #[.int .i64 n.kd, .int .i64 n.lk, .int .i64 n.sz, .int .i64 n.d0, .int .i64 n.d1, .int .i64 n.d2, .int .i64 n.d3, .int .i64 n.d4, .int .i64 n.d5, .int .i64 n.d6, .int .i64 n.d7, .int .i64 n.on, .int .i64 n.tw] 0).run Tryd.prog w = .ok (.int .i64 n.kd) w := by kernel_rfl
theorem part1 (n : Nd) (w : World) : (part 3 #[.int .i64 n.kd, .int .i64 n.lk, .int .i64 n.sz, .int .i64 n.d0, .int .i64 n.d1, .int .i64 n.d2, .int .i64 n.d3, .int .i64 n.d4, .int .i64 n.d5, .int .i64 n.d6, .int .i64 n.d7, .int .i64 n.on, .int .i64 n.tw] 1).run Tryd.prog w = .ok (.int .i64 n.lk) w := by kernel_rfl
theorem part2 (n : Nd) (w : World) : (part 3 #[.int .i64 n.kd, .int .i64 n.lk, .int .i64 n.sz, .int .i64 n.d0, .int .i64 n.d1, .int .i64 n.d2, .int .i64 n.d3, .int .i64 n.d4, .int .i64 n.d5, .int .i64 n.d6, .int .i64 n.d7, .int .i64 n.on, .int .i64 n.tw] 2).run Tryd.prog w = .ok (.int .i64 n.sz) w := by kernel_rfl
theorem part3 (n : Nd) (w : World) : (part 22 #[.int .i64 n.kd, .int .i64 n.lk, .int .i64 n.sz, .int .i64 n.d0, .int .i64 n.d1, .int .i64 n.d2, .int .i64 n.d3, .int .i64 n.d4, .int .i64 n.d5, .int .i64 n.d6, .int .i64 n.d7, .int .i64 n.on, .int .i64 n.tw] 3).run Tryd.prog w = .ok (.agg #[.int .i64 n.d0, .int .i64 n.d1, .int .i64 n.d2, .int .i64 n.d3, .int .i64 n.d4, .int .i64 n.d5, .int .i64 n.d6, .int .i64 n.d7]) w := by kernel_rfl
theorem part11 (n : Nd) (w : World) : (part 3 #[.int .i64 n.kd, .int .i64 n.lk, .int .i64 n.sz, .int .i64 n.d0, .int .i64 n.d1, .int .i64 n.d2, .int .i64 n.d3, .int .i64 n.d4, .int .i64 n.d5, .int .i64 n.d6, .int .i64 n.d7, .int .i64 n.on, .int .i64 n.tw] 11).run Tryd.prog w = .ok (.int .i64 n.on) w := by kernel_rfl
theorem part12 (n : Nd) (w : World) : (part 3 #[.int .i64 n.kd, .int .i64 n.lk, .int .i64 n.sz, .int .i64 n.d0, .int .i64 n.d1, .int .i64 n.d2, .int .i64 n.d3, .int .i64 n.d4, .int .i64 n.d5, .int .i64 n.d6, .int .i64 n.d7, .int .i64 n.on, .int .i64 n.tw] 12).run Tryd.prog w = .ok (.int .i64 n.tw) w := by kernel_rfl

theorem stoodI : Tryd.prog.stoodInHeld 24 = false := by kernel_rfl
theorem fieldsI : Tryd.prog.underlying 24 = some (.struct (Tryd.prog.fieldsOf 24)) := by kernel_rfl
theorem eqInI (n : Nd) (w : World) : (Op.equalIn 10000 24 n.v n.v).run Tryd.prog w = .ok true w := by
  rw [run_equalIn_struct w 9999 24 _ _ fieldsI stoodI]
  have e : ∀ (a : Int) (w : World), (Op.equalIn 9999 3 (.int .i64 a) (.int .i64 a)).run Tryd.prog w = .ok true w := fun a w => by rw [run_equalIn_int w 9998 3 .i64 .i64 a a Tryd.underlying3]; simp
  simp [Program.fieldsOf, Tryd.underlying24, Op.eqFields, part0, part1, part2, part3, part11, part12, run_eqArr 9997, e]
theorem neInI (n m : Nd) (w : World) (h : n.kd ≠ m.kd ∨ n.lk = m.lk ∧ n.sz ≠ m.sz) : (Op.equalIn 10000 24 n.v m.v).run Tryd.prog w = .ok false w := by
  rw [run_equalIn_struct w 9999 24 _ _ fieldsI stoodI]
  have e : ∀ (a b : Int) (w : World), (Op.equalIn 9999 3 (.int .i64 a) (.int .i64 b)).run Tryd.prog w = .ok (a == b) w := fun a b w => by rw [run_equalIn_int w 9998 3 .i64 .i64 a b Tryd.underlying3]
  by_cases h0 : n.kd = m.kd
  · obtain ⟨h1, h2⟩ : n.lk = m.lk ∧ n.sz ≠ m.sz := by
      rcases h with h | h
      · exact absurd h0 h
      · exact h
    have b0 : (n.kd == m.kd) = true := by simp [h0]
    have b1 : (n.lk == m.lk) = true := by simp [h1]
    have b2 : (n.sz == m.sz) = false := by simp [h2]
    simp [Program.fieldsOf, Tryd.underlying24, Op.eqFields, part0, part1, part2, e, b0, b1, b2]
  · have b0 : (n.kd == m.kd) = false := by simp [h0]
    simp [Program.fieldsOf, Tryd.underlying24, Op.eqFields, part0, e, b0]
theorem eqlI (n : Nd) (w : World) : (binOp .eql 24 n.v n.v).run Tryd.prog w = .ok (.bool true) w := by
  rw [run_eql_struct, eqInI]; rfl
theorem neqI (n : Nd) (w : World) : (binOp .neq 24 n.v n.v).run Tryd.prog w = .ok (.bool false) w := by
  rw [run_neq_struct, eqInI]; rfl
theorem neqNotI (n m : Nd) (w : World) (h : n.kd ≠ m.kd ∨ n.lk = m.lk ∧ n.sz ≠ m.sz) : (binOp .neq 24 n.v m.v).run Tryd.prog w = .ok (.bool true) w := by
  rw [run_neq_struct, neInI n m w h]; rfl

theorem stoodR : Tryd.prog.stoodInHeld 29 = false := by kernel_rfl
theorem fieldsR : Tryd.prog.underlying 29 = some (.struct (Tryd.prog.fieldsOf 29)) := by kernel_rfl
theorem eqInR (n : Nd) (w : World) : (Op.equalIn 10000 29 n.v n.v).run Tryd.prog w = .ok true w := by
  rw [run_equalIn_struct w 9999 29 _ _ fieldsR stoodR]
  have e : ∀ (a : Int) (w : World), (Op.equalIn 9999 3 (.int .i64 a) (.int .i64 a)).run Tryd.prog w = .ok true w := fun a w => by rw [run_equalIn_int w 9998 3 .i64 .i64 a a Tryd.underlying3]; simp
  simp [Program.fieldsOf, Tryd.underlying29, Op.eqFields, part0, part1, part2, part3, part11, part12, run_eqArr 9997, e]
theorem neInR (n m : Nd) (w : World) (h : n.kd ≠ m.kd ∨ n.lk = m.lk ∧ n.sz ≠ m.sz) : (Op.equalIn 10000 29 n.v m.v).run Tryd.prog w = .ok false w := by
  rw [run_equalIn_struct w 9999 29 _ _ fieldsR stoodR]
  have e : ∀ (a b : Int) (w : World), (Op.equalIn 9999 3 (.int .i64 a) (.int .i64 b)).run Tryd.prog w = .ok (a == b) w := fun a b w => by rw [run_equalIn_int w 9998 3 .i64 .i64 a b Tryd.underlying3]
  by_cases h0 : n.kd = m.kd
  · obtain ⟨h1, h2⟩ : n.lk = m.lk ∧ n.sz ≠ m.sz := by
      rcases h with h | h
      · exact absurd h0 h
      · exact h
    have b0 : (n.kd == m.kd) = true := by simp [h0]
    have b1 : (n.lk == m.lk) = true := by simp [h1]
    have b2 : (n.sz == m.sz) = false := by simp [h2]
    simp [Program.fieldsOf, Tryd.underlying29, Op.eqFields, part0, part1, part2, e, b0, b1, b2]
  · have b0 : (n.kd == m.kd) = false := by simp [h0]
    simp [Program.fieldsOf, Tryd.underlying29, Op.eqFields, part0, e, b0]
theorem eqlR (n : Nd) (w : World) : (binOp .eql 29 n.v n.v).run Tryd.prog w = .ok (.bool true) w := by
  rw [run_eql_struct, eqInR]; rfl
theorem neqR (n : Nd) (w : World) : (binOp .neq 29 n.v n.v).run Tryd.prog w = .ok (.bool false) w := by
  rw [run_neq_struct, eqInR]; rfl
theorem neqNotR (n m : Nd) (w : World) (h : n.kd ≠ m.kd ∨ n.lk = m.lk ∧ n.sz ≠ m.sz) : (binOp .neq 29 n.v m.v).run Tryd.prog w = .ok (.bool true) w := by
  rw [run_neq_struct, neInR n m w h]; rfl
end Go.Proofs.YtcclpfcgodckgaaDoor

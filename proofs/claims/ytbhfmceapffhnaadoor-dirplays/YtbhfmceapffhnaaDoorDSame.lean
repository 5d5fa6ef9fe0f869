/-
  Entries compared; same of the laws on dir.
-/
import Derived.Test.YtbhfmceapffhnaaDoorDFind
import Derived.Laws.StructEq
import Derived.BigQuiet
import Derived.Deep.QuietTactic
namespace Go.Proofs.YtbhfmceapffhnaaDoor
open Go.RowKit

theorem stoodE : Tryd.prog.stoodInHeld 47 = false := by kernel_rfl
theorem fieldsE : Tryd.prog.underlying 47 = some (.struct (Tryd.prog.fieldsOf 47)) := by kernel_rfl
theorem partE0 (x : En) (w : World) : (part 9 #[.string x.nm, .int .i64 x.ino] 0).run Tryd.prog w = .ok (.string x.nm) w := by kernel_rfl
theorem partE1 (x : En) (w : World) : (part 3 #[.string x.nm, .int .i64 x.ino] 1).run Tryd.prog w = .ok (.int .i64 x.ino) w := by kernel_rfl
theorem eqInE (x : En) (w : World) : (Op.equalIn 10000 47 x.v x.v).run Tryd.prog w = .ok true w := by
  rw [run_equalIn_struct w 9999 47 _ _ fieldsE stoodE]
  have e : ∀ (a : Int) (w : World), (Op.equalIn 9999 3 (.int .i64 a) (.int .i64 a)).run Tryd.prog w = .ok true w := fun a w => by rw [run_equalIn_int w 9998 3 .i64 .i64 a a Tryd.underlying3]; simp
  have e2 : ∀ (a : ByteArray) (w : World), (Op.equalIn 9999 9 (.string a) (.string a)).run Tryd.prog w = .ok true w := fun a w => by rw [run_equalIn_string w 9998 9 a a Tryd.underlying9]; simp
  simp [Program.fieldsOf, Tryd.underlying47, Op.eqFields, partE0, partE1, e, e2]
theorem eqlE (x : En) (w : World) : (binOp .eql 47 x.v x.v).run Tryd.prog w = .ok (.bool true) w := by
  rw [run_eql_struct, eqInE]; rfl
theorem neqE (x : En) (w : World) : (binOp .neq 47 x.v x.v).run Tryd.prog w = .ok (.bool false) w := by
  rw [run_neq_struct, eqInE]; rfl

set_option maxHeartbeats 1600000 in
set_option maxRecDepth 100000 in
theorem same_yes (s r : Value) (es : List En) (w : World) (hs : Es w s es) (hr : Es w r es) (hl : es.length ≤ 1000000) :
    Calls Tryd.prog 16 #[s, r] w fun e w' => e = .returned (.bool true) ∧ Below w.heap.size w w' := by
  obtain ⟨sa, sc, rfl⟩ := hs.form
  obtain ⟨ra, rc, rfl⟩ := hr.form
  go_enter Tryd.func16, Tryd.ntmps16
  go_wp2_with fail
  go_loopw [5] (fun i wr => ∃ k : Nat, k ≤ es.length ∧ i = .int .i64 k ∧ Below w.heap.size w wr) (fun i _ => es.length - (intOf i).toNat)
  case atStart => exact ⟨0, Nat.zero_le _, rfl, Below.refl _ _⟩
  case round =>
    obtain ⟨k, hk, rfl, B⟩ := hrel
    by_cases hlt : k < es.length
    · have q1 : (k : Int) < es.length := by omega
      have hs' := hs.below B
      have hr' := hr.below B
      obtain ⟨b, off, rfl, hc⟩ := hs'.nth hlt
      obtain ⟨b2, off2, rfl, hc2⟩ := hr'.nth hlt
      obtain ⟨c1, c2⟩ := hc k hlt
      obtain ⟨d1, d2⟩ := hc2 k hlt
      obtain ⟨x, hx⟩ : ∃ x, Hid (es.getD k En.fr = x) := ⟨_, rfl⟩
      rw [hx.out] at c1 c2 d1 d2
      clear hc hc2 hs' hr'
      have hne := fun w => neqE x w
      go_wp2_with fail
      go_quiet (fail)
      have B2 : Below w.heap.size w (wr.drewN nq) := B.trans ((Chg.drewN (fun _ => False) wr _).below B.size (fun _ h => h.elim))
      go_wp2_with fail
      go_roundw
      case rel => exact ⟨k + 1, by omega, by go_num, B2⟩
      case measure => simp [intOf]; omega
    · have q1 : ¬ (k : Int) < es.length := by omega
      go_wp2_with fail
      go_ret
      exact ⟨rfl, B⟩
end Go.Proofs.YtbhfmceapffhnaaDoor

/-
  WalGroups answers true: all numbers.
-/
import Derived.Test.YtkkmdmnjlncgfaaLawGroups
namespace Go.Proofs.Ytkkmdmnjlncgfaa
open Go.RowKit Go.Maps

set_option maxHeartbeats 3200000 in
set_option maxRecDepth 100000 in
theorem law_groups (n m c : Int) (v : Value) (ps : List Int) (w : World) (hv : Is w v ps) :
    Calls Try.prog 5 #[.int .i64 n, .int .i64 m, .int .i64 c, v] w fun e w' => e = .returned (.bool true) ∧ Chg (fun _ => False) w w' := by
  by_cases hin : 1 ≤ n ∧ n ≤ 20 ∧ 1 ≤ m ∧ m ≤ 60 ∧ n * m ≤ 60 ∧ ps.length ≤ 100 ∧ 0 ≤ c ∧ c ≤ 500
  · obtain ⟨h1, h2, h3, h4, h5, h6, h7, h8⟩ := hin
    obtain ⟨N, rfl⟩ := Int.eq_ofNat_of_zero_le (show 0 ≤ n by omega)
    obtain ⟨M, rfl⟩ := Int.eq_ofNat_of_zero_le (show 0 ≤ m by omega)
    refine law_groups_in N M c v ps w hv (by omega) (by omega) (by omega) (by omega) ?_ h6 h7 h8
    have : ((N * M : Nat) : Int) ≤ 60 := by simpa using h5
    omega
  · have HH : Hid (¬ (1 ≤ n ∧ n ≤ 20 ∧ 1 ≤ m ∧ m ≤ 60 ∧ n * m ≤ 60 ∧ ps.length ≤ 100 ∧ 0 ≤ c ∧ c ≤ 500)) := hin
    obtain ⟨va, vc, rfl, hvc⟩ := hv.form
    clear hin hv hvc
    go_enter Try.func5, Try.ntmps5
    go_wp2_with fail
    refine (known_any w).mono ?_
    rintro e w1 ⟨rfl, hc⟩
    have HC : Hid (Chg (fun _ => False) w w1) := hc
    clear hc
    go_wp2_with fail
    all_goals first
      | (go_ret; exact ⟨rfl, HC.out⟩)
      | (exfalso
         refine HH.out ?_
         have hb : n * m ≤ 20 * 60 := Int.mul_le_mul (by omega) (by omega) (by omega) (by omega)
         have hb2 : 0 ≤ n * m := Int.mul_nonneg (by omega) (by omega)
         generalize n * m = z at *
         refine ⟨by omega, by omega, by omega, by omega, ?_, by omega, by omega, by omega⟩
         first | omega | (rename_i hz; unfold wrap64 at hz; omega) | (simp only [wrap64] at *; omega))
end Go.Proofs.Ytkkmdmnjlncgfaa

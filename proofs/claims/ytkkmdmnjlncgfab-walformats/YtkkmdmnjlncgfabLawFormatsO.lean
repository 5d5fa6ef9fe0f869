/-
  WalFormats answers true: all arguments.
-/
import Derived.Test.YtkkmdmnjlncgfabLawFormats
namespace Go.Proofs.Ytkkmdmnjlncgfab
open Go.RowKit Go.Maps

set_option maxHeartbeats 3200000 in
set_option maxRecDepth 100000 in
theorem law_formats (v0 : Value) (c : Int) (v1 : Value) (bs ps : List Int) (w : World) (hv : Bs w v0 bs) (hp : Is w v1 ps) :
    Calls Try.prog 5 #[v0, .int .i64 c, v1] w fun e w' => e = .returned (.bool true) ∧ Chg (fun _ => False) w w' := by
  by_cases hin : 1 ≤ bs.length ∧ bs.length ≤ 60 ∧ 0 ≤ c ∧ c ≤ 500 ∧ ps.length ≤ 100
  · exact law_formats_in v0 v1 bs ps c w hv hp hin.1 hin.2.1 hin.2.2.1 hin.2.2.2.1 hin.2.2.2.2
  · have HH : Hid (¬ (1 ≤ bs.length ∧ bs.length ≤ 60 ∧ 0 ≤ c ∧ c ≤ 500 ∧ ps.length ≤ 100)) := hin
    obtain ⟨va, vc, rfl, hvc⟩ := hv.form
    obtain ⟨pa, pc, rfl, hpc⟩ := hp.form
    clear hin hv hvc hp hpc
    go_enter Try.func5, Try.ntmps5
    go_wp2_with fail
    refine (known_any w).mono ?_
    rintro e w1 ⟨rfl, hc⟩
    have HC : Hid (Chg (fun _ => False) w w1) := hc
    clear hc
    go_wp2_with fail
    all_goals first
      | (go_ret; exact ⟨rfl, HC.out⟩)
      | (exfalso
         refine HH.out ?_
         simp at *
         have h0 : bs.length ≠ 0 := by intro e; simp_all
         omega)
end Go.Proofs.Ytkkmdmnjlncgfab

/-
  AllocPlays answers true for every pool and every slice of acts.
-/
import Derived.Test.YtdcmcgdalanjjaaGreatAPlays2
import Derived.Test.YtdcmcgdalanjjaaGreatALawPlays
namespace Go.Proofs.YtdcmcgdalanjjaaGreat
open Go.RowKit Go.Maps

theorem law_aplays (M F n : Int) (v : Value) (l : List PAct) (w : World) (hv : PActs w v l) (hM : M ≤ 9223372036854775807) (hn : n ≤ 9223372036854775807) :
    Calls Tryz.prog 3 #[.agg #[.int .i64 M, .int .i64 F, .int .i64 n], v] w fun e w' => e = .returned (.bool true) ∧ Chg (fun _ => False) w w' := by
  by_cases hf : Fits M F n
  · obtain ⟨M', F', n', rfl, rfl, rfl, hp⟩ := hf.nat
    exact law_aplays_yes M' F' n' v l w hv hp
  · exact law_aplays_no M F n v l w hv hM hn hf
end Go.Proofs.YtdcmcgdalanjjaaGreat

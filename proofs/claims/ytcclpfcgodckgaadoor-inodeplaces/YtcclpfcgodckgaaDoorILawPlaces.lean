/-
  InodePlaces answers true for every argument, in every world that holds codec's table; nothing that was there has changed.
-/
import Derived.Test.YtcclpfcgodckgaaDoorIKnown
import Derived.Deep.RegionHeld
namespace Go.Proofs.YtcclpfcgodckgaaDoor
open Go.RowKit

set_option maxHeartbeats 1600000 in
set_option maxRecDepth 100000 in
theorem law_places_in (i s : Int) (w : World) (hT : Tab w) (l a b e : Int) (hP : ∀ w, Calls Tryd.prog 12 #[.int .i64 i] w fun r w' => r = .returned (.tuple #[plV l a b, .int .i64 e]) ∧ w' = w.alloc (plO 37 l a b))
    (hQ : ∀ w, Calls Tryd.prog 13 #[.int .i64 i] w fun r w' => r = .returned (.tuple #[plV l a b, .int .i64 e]) ∧ w' = w.alloc (plO 40 l a b)) :
    Calls Tryd.prog 4 #[.int .i64 i, .int .i64 s] w fun r w' => r = .returned (.bool true) ∧ Chg (fun _ => False) w w' := by
  have HP : Hid (∀ w, Calls Tryd.prog 12 #[.int .i64 i] w _) := hP
  have HQ : Hid (∀ w, Calls Tryd.prog 13 #[.int .i64 i] w _) := hQ
  clear hP hQ
  go_enter Tryd.func4, Tryd.ntmps4
  go_wp2_with fail
  refine (iknown_any w hT).mono ?_
  rintro r w1 ⟨rfl, C1⟩
  go_wp2_with fail
  refine (HP.out _).mono ?_
  rintro r w2 ⟨rfl, hw2⟩
  have C2 : Chg (fun _ => False) w w2 := by rw [hw2]; exact C1.trans (Chg.alloc _ _ _) (fun _ _ h => h)
  clear hw2 C1
  go_wp2_with fail
  refine (HQ.out _).mono ?_
  rintro r w3 ⟨rfl, hw3⟩
  go_wp2_with fail
  refine (blocks_any s _).mono ?_
  rintro r w4 ⟨rfl, hw4⟩
  have C4 : Chg (fun _ => False) w w4 := by
    rw [hw4]
    exact ((C2.trans (Chg.alloc _ _ _) (fun _ _ h => h)).trans (Chg.alloc _ _ _) (fun _ _ h => h)).trans (Chg.alloc _ _ _) (fun _ _ h => h)
  clear hw4 hw3 C2
  go_wp2_with fail
  refine (refBlocks_any s _).mono ?_
  rintro r w5 ⟨rfl, rfl⟩
  go_wp2_with fail
  refine (inner_any s _).mono ?_
  rintro r w6 ⟨rfl, C6⟩
  go_wp2_with fail
  refine (refInner_any s _).mono ?_
  rintro r w7 ⟨rfl, rfl⟩
  go_wp2_with fail
  refine (all_any s _).mono ?_
  rintro r w8 ⟨rfl, C8⟩
  go_wp2_with fail
  refine (refAll_any s _).mono ?_
  rintro r w9 ⟨rfl, rfl⟩
  go_wp2_with fail
  refine (most_any _).mono ?_
  rintro r w10 ⟨rfl, rfl⟩
  go_wp2
  go_ret
  exact ⟨rfl, (C4.trans C6 (fun _ _ h => h)).trans C8 (fun _ _ h => h)⟩
/-- InodePlaces answers true. -/
theorem law_places (i s : Int) (w : World) (hT : Tab w) :
    Calls Tryd.prog 4 #[.int .i64 i, .int .i64 s] w fun r w' => r = .returned (.bool true) ∧ Chg (fun _ => False) w w' := by
  by_cases h : inPl i
  · exact law_places_in i s w hT (plL i) (plA i) (plB i) 0 (fun w => where_in i w h) (fun w => refWhere_in i w h)
  · exact law_places_in i s w hT 0 0 0 1 (fun w => where_out i w h) (fun w => refWhere_out i w h)
end Go.Proofs.YtcclpfcgodckgaaDoor

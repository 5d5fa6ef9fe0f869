/-
  slices.Sorted(maps.Keys(m)) at a map of the log's blocks.
-/
import Derived.Test.YtkkmdmnjlncgfabKeys
namespace Go.Proofs
open Go.Shelf
def Try.keysB_ren : Go.Shelf.Ren := ⟨fun | 7 => 31 | 10 => 50 | n => n, fun | 23 => 52 | 26 => 3 | 3 => 23 | 28 => 61 | 0 => 0 | 27 => 60 | 33 => 57 | 4 => 4 | n => n, fun | n => n⟩
theorem Try.keysB : Go.Proofs.SlLaysZI.n7 Try.prog Try.keysB_ren := {
  mixed := by kernel_rfl
  f7 := ⟨Try.f31.name, by decide, Try.func31.trans (congrArg some (by kernel_rfl))⟩
  f10 := ⟨Try.f50.name, by decide, Try.func50.trans (congrArg some (by kernel_rfl))⟩
  t0 := Try.underlying0
  a0 := Try.isAgg0
  z0 := Try.sizeOf0
  v0 := Try.zeroValue0
  t4 := Try.underlying4
  a4 := Try.isAgg4
  z4 := Try.sizeOf4
  v4 := Try.zeroValue4
  t23 := Try.underlying52
  a23 := Try.isAgg52
  z23 := Try.sizeOf52
  v23 := Try.zeroValue52
  t26 := Try.underlying3
  a26 := Try.isAgg3
  z26 := Try.sizeOf3
  v26 := Try.zeroValue3
  t27 := Try.underlying60
  a27 := Try.isAgg60
  z27 := Try.sizeOf60
  v27 := Try.zeroValue60
  t28 := Try.underlying61
  a28 := Try.isAgg61
  z28 := Try.sizeOf61
  v28 := Try.zeroValue61
  t33 := Try.underlying57
  a33 := Try.isAgg57
  z33 := Try.sizeOf57
  v33 := Try.zeroValue57 }
end Go.Proofs

namespace Go.Proofs.Ytkkmdmnjlncgfab
open Go.RowKit Go.Maps Go.Sort Go.Shelf

theorem keysB_any (mb : Option Nat) (w : World) : Calls Try.prog 31 #[.map mb] w fun e w' => e = .returned (.func (.func 50) #[] #[.pointer (some ⟨w.heap.size, 0, none⟩)]) ∧ w' = w.alloc (.cells #[.map mb] 52) :=
  (callsIn_wide (n := 5)).1 (AnyZI.keys_in Try.keysB Fence.wide 5 trivial rfl mb w)

set_option maxHeartbeats 1000000 in
/-- slices.Sorted at what maps.Keys has handed back: a new slice of the keys, rising. -/
theorem sortedB_any (k m nb : Nat) (f : Nat → Option Value) (w : World) (hm : MapIs w m nb f) (hnb : nb ≤ 16384) (hk : w.heap[k]? = some (.cells #[.map (some m)] 52 (0, 0))) :
    Calls Try.prog 30 #[.func (.func 50) #[] #[.pointer (some ⟨k, 0, none⟩)]] w fun e w' => ∃ v, e = .returned v ∧ w'.ownsRow w.heap.size 3 1 v (keysOf nb f).length ((keysOf nb f).map fun n : Nat => Value.int .i64 (n : Int)) ∧ Below w.heap.size w w' := by
  obtain ⟨c, D, ho, hD⟩ := hm
  have hs := hD.size_le ho hnb
  have hkl : k < w.heap.size := (Array.getElem?_eq_some_iff.1 hk).1
  have hcell : w.cell? ⟨k, 0, none⟩ = some (.map (some m)) := by rw [cell_of_row w k 0 _ _ _ hk]; rfl
  have hseq : SeqGives Fence.wide 2 Try.prog 50 #[.pointer (some ⟨k, 0, none⟩)] encZ (fun ss => ss.Perm (intKeys D)) (Maps.size D) w :=
    AnyZI.keys_gives (ρ := Try.keysB_ren) { Try.keysB with } Fence.wide _ trivial rfl (by omega) k m c D _ hkl hcell ho
  have cS := AnyZI.sorted_in Try.sortedA Fence.wide 5 trivial trivial trivial trivial rfl (by omega) (sortsA _) (enters_of Try.func49 (by kernel_rfl) rfl) 50 #[.pointer (some ⟨k, 0, none⟩)] trivial (enters_of Try.func50 (by kernel_rfl) rfl) _ _ (by unfold maxLen; omega) (by omega) _ hseq
  change CallsIn _ _ Try.prog 30 _ _ _ at cS
  refine ((callsIn_wide (n := 5)).1 cS).mono ?_
  rintro e w' ⟨v, ss, rfl, hp, hrow, _, hb⟩
  rw [sorted_is ho hD hp] at hrow
  have hl : ss.length = (keysOf nb f).length := by
    have h1 := congrArg List.length (sorted_is ho hD hp)
    simpa using h1
  rw [hl] at hrow
  refine ⟨v, rfl, ?_, hb⟩
  rw [List.map_map] at hrow
  exact hrow
end Go.Proofs.Ytkkmdmnjlncgfab

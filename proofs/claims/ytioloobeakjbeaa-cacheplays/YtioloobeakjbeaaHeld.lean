/-
  Held of package cache: slices.Sorted(maps.Keys(m)) at the cache's map.
-/
import Derived.Test.YtioloobeakjbeaaUseR
import Derived.Test.YtioloobeakjbeaaKeys
namespace Go.Proofs
open Go.Shelf
def Try.keysB_ren : Go.Shelf.Ren := ⟨fun | 7 => 46 | 10 => 73 | n => n, fun | 23 => 74 | 26 => 3 | 3 => 75 | 28 => 89 | 0 => 0 | 27 => 88 | 33 => 82 | 4 => 4 | n => n, fun | n => n⟩
theorem Try.keysB : Go.Proofs.SlLaysZI.n7 Try.prog Try.keysB_ren := {
  mixed := by kernel_rfl
  f7 := ⟨Try.f46.name, by decide, Try.func46.trans (congrArg some (by kernel_rfl))⟩
  f10 := ⟨Try.f73.name, by decide, Try.func73.trans (congrArg some (by kernel_rfl))⟩
  t0 := Try.underlying0
  a0 := Try.isAgg0
  z0 := Try.sizeOf0
  v0 := Try.zeroValue0
  t4 := Try.underlying4
  a4 := Try.isAgg4
  z4 := Try.sizeOf4
  v4 := Try.zeroValue4
  t23 := Try.underlying74
  a23 := Try.isAgg74
  z23 := Try.sizeOf74
  v23 := Try.zeroValue74
  t26 := Try.underlying3
  a26 := Try.isAgg3
  z26 := Try.sizeOf3
  v26 := Try.zeroValue3
  t27 := Try.underlying88
  a27 := Try.isAgg88
  z27 := Try.sizeOf88
  v27 := Try.zeroValue88
  t28 := Try.underlying89
  a28 := Try.isAgg89
  z28 := Try.sizeOf89
  v28 := Try.zeroValue89
  t33 := Try.underlying82
  a33 := Try.isAgg82
  z33 := Try.sizeOf82
  v33 := Try.zeroValue82 }
end Go.Proofs

namespace Go.Proofs.Ytioloobeakjbeaa
open Go.RowKit Go.Maps Go.Sort Go.Shelf
theorem keysB_any (mb : Option Nat) (w : World) : Calls Try.prog 46 #[.map mb] w fun e w' => e = .returned (.func (.func 73) #[] #[.pointer (some ⟨w.heap.size, 0, none⟩)]) ∧ w' = w.alloc (.cells #[.map mb] 74) :=
  (callsIn_wide (n := 5)).1 (AnyZI.keys_in Try.keysB Fence.wide 5 trivial rfl mb w)

set_option maxHeartbeats 1000000 in
/-- slices.Sorted at what maps.Keys has handed back: a new slice of the keys, rising. -/
theorem sortedB_any (k m nb : Nat) (f : Nat → Option Value) (w : World) (hm : MapIs w m nb f) (hnb : nb ≤ 16384) (hk : w.heap[k]? = some (.cells #[.map (some m)] 74 (0, 0))) :
    Calls Try.prog 45 #[.func (.func 73) #[] #[.pointer (some ⟨k, 0, none⟩)]] w fun e w' => ∃ v, e = .returned v ∧ w'.ownsRow w.heap.size 3 1 v (keysOf nb f).length ((keysOf nb f).map fun n : Nat => Value.int .i64 (n : Int)) ∧ Below w.heap.size w w' := by
  obtain ⟨c, D, ho, hD⟩ := hm
  have hs := hD.size_le ho hnb
  have hkl : k < w.heap.size := (Array.getElem?_eq_some_iff.1 hk).1
  have hcell : w.cell? ⟨k, 0, none⟩ = some (.map (some m)) := by rw [cell_of_row w k 0 _ _ _ hk]; rfl
  have hseq : SeqGives Fence.wide 2 Try.prog 73 #[.pointer (some ⟨k, 0, none⟩)] encZ (fun ss => ss.Perm (intKeys D)) (Maps.size D) w :=
    AnyZI.keys_gives (ρ := Try.keysB_ren) { Try.keysB with } Fence.wide _ trivial rfl (by omega) k m c D _ hkl hcell ho
  have cS := AnyZI.sorted_in Try.sortedA Fence.wide 5 trivial trivial trivial trivial rfl (by omega) (sortsA _) (enters_of Try.func72 (by kernel_rfl) rfl) 73 #[.pointer (some ⟨k, 0, none⟩)] trivial (enters_of Try.func73 (by kernel_rfl) rfl) _ _ (by unfold maxLen; omega) (by omega) _ hseq
  change CallsIn _ _ Try.prog 45 _ _ _ at cS
  refine ((callsIn_wide (n := 5)).1 cS).mono ?_
  rintro e w' ⟨v, ss, rfl, hp, hrow, _, hb⟩
  rw [sorted_is ho hD hp] at hrow
  have hl : ss.length = (keysOf nb f).length := by
    have h1 := congrArg List.length (sorted_is ho hD hp)
    simpa using h1
  rw [hl] at hrow
  refine ⟨v, rfl, ?_, hb⟩
  rw [List.map_map] at hrow
  exact hrow

theorem held_keys {w : World} {G : Nat → Prop} {c p nb : Nat} {C : Ca} {m r : Nat} {ls : List Nat} {nd : Nat → Node} (h : CaAt w G c p nb C m r ls nd) {f : Nat → Option Value} (hf : ∀ n v, n < nb → (f n = some v ↔ ∃ a ∈ ls, (nd a).n = n ∧ v = ptr a)) : keysOf nb f = C.held nb := by
  unfold keysOf Ca.held
  refine List.filter_congr (fun n hn => ?_)
  have hn := List.mem_range.1 hn
  rw [Bool.eq_iff_iff, Option.isSome_iff_exists, Ca.has_iff]
  constructor
  · rintro ⟨v, hv⟩
    obtain ⟨a, ha, e, _⟩ := (hf n v hn).1 hv
    exact ⟨(nd a).it, h.mem ha, e⟩
  · rintro ⟨i, hi, e⟩
    rw [h.items] at hi
    obtain ⟨a, ha, rfl⟩ := List.mem_map.1 hi
    exact ⟨ptr a, (hf n _ hn).2 ⟨a, ha, e, rfl⟩⟩

set_option maxHeartbeats 800000 in
theorem held_any (G : Nat → Prop) (c p nb : Nat) (C : Ca) (m r : Nat) (ls : List Nat) (nd : Nat → Node) (w : World) (h : CaAt w G c p nb C m r ls nd) :
    Calls Try.prog 18 #[.pointer (some ⟨c, 0, none⟩)] w fun e w' => ∃ v, e = .returned v ∧ w'.ownsRow w.heap.size 3 1 v (C.held nb).length ((C.held nb).map fun n : Nat => Value.int .i64 (n : Int)) ∧ Chg (fun _ => False) w w' := by
  have c2 := h.c2
  have HH : Hid (CaAt w G c p nb C m r ls nd) := h
  clear h
  go_enter Try.func18, Try.ntmps18
  go_wp2_with fail
  refine (keysB_any (some m) w).mono ?_
  rintro e w1 ⟨rfl, hw1⟩
  obtain ⟨f, hf, hr⟩ := HH.out.map
  have hk : w1.heap[w.heap.size]? = some (.cells #[.map (some m)] 74 (0, 0)) := by rw [hw1]; exact heap_alloc_new w _
  have hc1 : Chg (fun _ => False) w w1 := by rw [hw1]; exact Chg.alloc _ _ _
  have hm1 : MapIs w1 m nb f := hf.kept (hc1.block m hf.lt (fun h => h))
  have HK : Hid (w1.heap[w.heap.size]? = some (.cells #[.map (some m)] 74 (0, 0)) ∧ MapIs w1 m nb f ∧ Chg (fun _ => False) w w1 ∧ keysOf nb f = C.held nb) := ⟨hk, hm1, hc1, held_keys HH.out hr⟩
  clear hk hc1 hm1 hw1 hf hr c2
  go_wp2_with fail
  refine (sortedB_any w.heap.size m nb f w1 HK.out.2.1 HH.out.nbt HK.out.1).mono ?_
  rintro e w2 ⟨v, rfl, ho, hb⟩
  have HO : Hid (w2.ownsRow w1.heap.size 3 1 v (keysOf nb f).length ((keysOf nb f).map fun n : Nat => Value.int .i64 (n : Int)) ∧ Below w1.heap.size w1 w2) := ⟨ho, hb⟩
  clear ho hb
  go_wp2
  go_ret
  obtain ⟨ho, hb⟩ := HO.out
  rw [HK.out.2.2.2] at ho
  have hs := HK.out.2.2.1.size
  exact ⟨v, rfl, own_mono ho hs, HK.out.2.2.1.trans ⟨hb.os, hb.tape, hb.output, hb.size, fun k hk _ => hb.block k hk⟩ (fun _ _ h => h)⟩
end Go.Proofs.Ytioloobeakjbeaa

/-
  slices.Sorted(maps.Keys(m)) at a map of nodes: the shelf's contracts laid at this program, and what they come to.
-/
import Derived.Shelf.SlIter.Nil
import Derived.Shelf.SlIter.Sorted
import Derived.Ground.GgzProg
import Derived.Sort.KeysCollected
import Derived.Test.YtdcmkcplklkfmaaDoorTDo
import Derived.Test.YtdcmkcplklkfmaaDoorDNames
namespace Go.Proofs
open Go.Shelf
def Tryd.keysN_ren : Go.Shelf.Ren := ⟨fun | 7 => 49 | 10 => 61 | n => n, fun | 23 => 53 | 26 => 9 | 3 => 56 | 28 => 93 | 0 => 0 | 27 => 92 | 33 => 104 | 4 => 4 | n => n, fun | n => n⟩
theorem Tryd.keysN : Go.Proofs.SlLaysZ.n7 Tryd.prog Tryd.keysN_ren := {
  mixed := by kernel_rfl
  f7 := ⟨Tryd.f49.name, by decide, Tryd.func49.trans (congrArg some (by kernel_rfl))⟩
  f10 := ⟨Tryd.f61.name, by decide, Tryd.func61.trans (congrArg some (by kernel_rfl))⟩
  t0 := Tryd.underlying0
  a0 := Tryd.isAgg0
  z0 := Tryd.sizeOf0
  v0 := Tryd.zeroValue0
  t4 := Tryd.underlying4
  a4 := Tryd.isAgg4
  z4 := Tryd.sizeOf4
  v4 := Tryd.zeroValue4
  t23 := Tryd.underlying53
  a23 := Tryd.isAgg53
  z23 := Tryd.sizeOf53
  v23 := Tryd.zeroValue53
  t26 := Tryd.underlying9
  a26 := Tryd.isAgg9
  z26 := Tryd.sizeOf9
  v26 := Tryd.zeroValue9
  t27 := Tryd.underlying92
  a27 := Tryd.isAgg92
  z27 := Tryd.sizeOf92
  v27 := Tryd.zeroValue92
  t28 := Tryd.underlying93
  a28 := Tryd.isAgg93
  z28 := Tryd.sizeOf93
  v28 := Tryd.zeroValue93
  t33 := Tryd.underlying104
  a33 := Tryd.isAgg104
  z33 := Tryd.sizeOf104
  v33 := Tryd.zeroValue104 }
def Tryd.sortedN_ren : Go.Shelf.Ren := ⟨fun | 6 => 48 | 8 => 59 | 9 => 60 | 11 => 67 | n => n, fun | 26 => 9 | 28 => 93 | 24 => 45 | 0 => 0 | 3 => 3 | 4 => 4 | 5 => 5 | 33 => 104 | n => n, fun | n => n⟩
theorem Tryd.sortedN : Go.Proofs.SlLaysZ.n6 Tryd.prog Tryd.sortedN_ren := {
  mixed := by kernel_rfl
  f6 := ⟨Tryd.f48.name, by decide, Tryd.func48.trans (congrArg some (by kernel_rfl))⟩
  f8 := ⟨Tryd.f59.name, by decide, Tryd.func59.trans (congrArg some (by kernel_rfl))⟩
  f11 := ⟨Tryd.f67.name, by decide, Tryd.func67.trans (congrArg some (by kernel_rfl))⟩
  t0 := Tryd.underlying0
  a0 := Tryd.isAgg0
  z0 := Tryd.sizeOf0
  v0 := Tryd.zeroValue0
  t24 := Tryd.underlying45
  a24 := Tryd.isAgg45
  z24 := Tryd.sizeOf45
  v24 := Tryd.zeroValue45
  t26 := Tryd.underlying9
  a26 := Tryd.isAgg9
  z26 := Tryd.sizeOf9
  v26 := Tryd.zeroValue9
  t28 := Tryd.underlying93
  a28 := Tryd.isAgg93
  z28 := Tryd.sizeOf93
  v28 := Tryd.zeroValue93
  i26 := by kernel_rfl }
end Go.Proofs

namespace Go.Proofs.YtdcmkcplklkfmaaDoor
open Go.RowKit Go.Maps Go.Sort Go.Shelf

theorem sortsN (k : Nat) : AnyZ.SortsIn Tryd.prog Tryd.sortedN_ren Fence.wide k :=
  ⟨fun blk off cap ss W hH hblk hsz => callsIn_wide.2 (AnyM.slices_Sort_string Tryd.sortS blk off cap ss W hH hblk hsz),
   fun p cap W => callsIn_wide.2 (AnyM.slices_Sort_string_none Tryd.sortS p cap W)⟩
theorem keysN_any (mb : Option Nat) (w : World) : Calls Tryd.prog 49 #[.map mb] w fun e w' => e = .returned (.func (.func 61) #[] #[.pointer (some ⟨w.heap.size, 0, none⟩)]) ∧ w' = w.alloc (.cells #[.map mb] 53) :=
  (callsIn_wide (n := 5)).1 (AnyZ.keys_in Tryd.keysN Fence.wide 5 trivial rfl mb w)
/-- Names, rising. -/
def nmL (kn : List ByteArray) : List (List UInt8) := sortL (kn.map fun x => x.data.toList)
theorem nmL_len (kn : List ByteArray) : (nmL kn).length = kn.length := by simp [nmL, sortL_len]
theorem toList_inj {a b : ByteArray} (h : a.data.toList = b.data.toList) : a = b := by
  obtain ⟨⟨a⟩⟩ := a
  obtain ⟨⟨b⟩⟩ := b
  simpa using h
theorem sortedN_is {w : World} {m c : Nat} {D : DataW Value} {f : ByteArray → Option Value} {kn : List ByteArray} (ho : w.ownsMap Tryd.prog 9 hold m c D) (hD : SMapD D f) (hnd : kn.Nodup) (hs : ∀ x ∈ kn, x.size ≤ 256) (hm : ∀ x, x.size ≤ 256 → ((f x).isSome = true ↔ x ∈ kn)) {ss : List (List UInt8)} (hp : ss.Perm (strKeys D)) :
    ss.mergeSort (fun x y => decide (x ≤ y)) = nmL kn := by
  obtain ⟨es, rfl, hpw, hk⟩ := ho.entries law9
  have hstr : ∀ p ∈ es, ∃ x, p.1 = .string x := fun p hpm => by
    obtain ⟨n, _, e⟩ := hD.keys p.1 (List.any_eq_true.2 ⟨p, hpm, WideAt.sameKey_self (hk p hpm)⟩)
    exact ⟨_, e⟩
  have hL : (kn.map fun x => x.data.toList).Perm (strKeys (.map es)) := by
    refine perm_strKeys hpw hstr ?_ (fun x => ?_)
    · exact List.pairwise_map.2 (hnd.imp (fun h e => h (toList_inj e)))
    · constructor
      · intro hx
        obtain ⟨n, hn, rfl⟩ := List.mem_map.1 hx
        have h1 := hD.has n (hs n hn)
        rw [(hm n (hs n hn)).2 hn] at h1
        exact h1
      · intro hx
        obtain ⟨n, hn, e⟩ := hD.keys _ hx
        have ex : x = n.data.toList := by simpa [ks] using e
        subst ex
        have h1 := hD.has n hn
        rw [show ks n = .string n.data.toList from rfl, hx] at h1
        exact List.mem_map.2 ⟨n, (hm n hn).1 h1.symm, rfl⟩
  exact mergeSort_of_perm (hp.trans hL.symm)
set_option maxHeartbeats 1000000 in
theorem sortedN_any (k m n : Nat) (f : ByteArray → Option Value) (kn : List ByteArray) (w : World) (hmm : SMap w m n f) (hn : n ≤ 100000) (hnd : kn.Nodup) (hs : ∀ x ∈ kn, x.size ≤ 256) (hm : ∀ x, x.size ≤ 256 → ((f x).isSome = true ↔ x ∈ kn)) (hk : w.heap[k]? = some (.cells #[.map (some m)] 53 (0, 0))) :
    Calls Tryd.prog 48 #[.func (.func 61) #[] #[.pointer (some ⟨k, 0, none⟩)]] w fun e w' => ∃ v, e = .returned v ∧ w'.ownsRow w.heap.size 9 1 v kn.length ((nmL kn).map encStr) ∧ Below w.heap.size w w' := by
  obtain ⟨D, ho, hD, hz⟩ := hmm
  have hkl : k < w.heap.size := (Array.getElem?_eq_some_iff.1 hk).1
  have hcell : w.cell? ⟨k, 0, none⟩ = some (.map (some m)) := by rw [cell_of_row w k 0 _ _ _ hk]; rfl
  have hseq : SeqGives Fence.wide 2 Tryd.prog 61 #[.pointer (some ⟨k, 0, none⟩)] encStr (fun ss => ss.Perm (strKeys D)) (Maps.size D) w :=
    AnyZ.keys_gives (ρ := Tryd.keysN_ren) { Tryd.keysN with } Fence.wide _ trivial rfl (by omega) k m n D _ hkl hcell ho
  have cS := AnyZ.sorted_in Tryd.sortedN Fence.wide 5 trivial trivial trivial trivial rfl (by omega) (sortsN _) (enters_of Tryd.func60 (by kernel_rfl) rfl) 61 #[.pointer (some ⟨k, 0, none⟩)] trivial (enters_of Tryd.func61 (by kernel_rfl) rfl) _ _ (by unfold maxLen; omega) (by omega) _ hseq
  change CallsIn _ _ Tryd.prog 48 _ _ _ at cS
  refine ((callsIn_wide (n := 5)).1 cS).mono ?_
  rintro e w' ⟨v, ss, rfl, hp, hrow, _, hb⟩
  have hq := sortedN_is ho hD hnd hs hm hp
  have hl : ss.length = kn.length := by
    have h1 := congrArg List.length hq
    rw [nmL_len] at h1
    simpa using h1
  rw [hq, hl] at hrow
  exact ⟨v, rfl, hrow, hb⟩
set_option maxHeartbeats 1000000 in
theorem tnames_any (b m : Nat) (A : Pth → Nat) (p : Pth) (kn : List ByteArray) (w : World) (c2 : w.cell? ⟨b, 2, none⟩ = some (.map (some m))) (hmm : SMap w m kn.length (kidF A p kn)) (hn : kn.length ≤ 100000) (hnd : kn.Nodup) (hs : ∀ x ∈ kn, x.size ≤ 256) :
    Calls Tryd.prog 31 #[ptr b] w fun e w' => ∃ v, e = .returned v ∧ w'.ownsRow w.heap.size 9 1 v kn.length ((nmL kn).map encStr) ∧ Below w.heap.size w w' := by
  have A0 := below_alloc w (.cells #[.map (some m)] 53)
  have hb := heap_alloc_new w (.cells #[.map (some m)] 53)
  have HC : Hid (Calls Tryd.prog 48 #[.func (.func 61) #[] #[.pointer (some ⟨w.heap.size, 0, none⟩)]] (w.alloc (.cells #[.map (some m)] 53)) fun e w' => ∃ v, e = .returned v ∧ w'.ownsRow w.heap.size 9 1 v kn.length ((nmL kn).map encStr) ∧ Below w.heap.size w w') := by
    refine (sortedN_any w.heap.size m kn.length (kidF A p kn) kn _ (hmm.kept ((Chg.ofBelowC A0).block m hmm.lt (fun h => h))) hn hnd hs (fun x _ => ?_) hb).mono ?_
    · unfold kidF
      rw [← inB_iff]
      cases inB x kn <;> simp
    · rintro e w' ⟨v, rfl, ho, B⟩
      exact ⟨v, rfl, ownsRow_base_a ho A0.size, A0.trans (B.mono A0.size)⟩
  clear A0 hb hmm
  go_enter Tryd.func31, Tryd.ntmps31
  go_wp2_with fail
  refine (keysN_any (some m) w).mono ?_
  rintro e w1 ⟨rfl, rfl⟩
  go_wp2_with fail
  refine HC.out.mono ?_
  rintro e w2 ⟨v, rfl, ho, B⟩
  have HO : Hid (w2.ownsRow w.heap.size 9 1 v kn.length ((nmL kn).map encStr) ∧ Below w.heap.size w w2) := ⟨ho, B⟩
  clear HC ho B
  go_wp2_with fail
  go_ret
  exact ⟨v, rfl, HO.out⟩
end Go.Proofs.YtdcmkcplklkfmaaDoor

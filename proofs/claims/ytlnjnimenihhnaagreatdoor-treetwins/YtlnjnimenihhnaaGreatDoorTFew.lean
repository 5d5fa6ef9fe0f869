/-
  slices.Sorted(maps.Keys(m)) at a map of nodes: the shelf's contracts laid at this program, and what they come to.
-/
import Derived.Shelf.SlIter.Nil
import Derived.Shelf.SlIter.Sorted
import Derived.Ground.GgzProg
import Derived.Sort.KeysCollected
import Derived.Test.YtlnjnimenihhnaaGreatDoorTGood
import Derived.Test.YtlnjnimenihhnaaGreatDoorDStr
import Derived.BigQuiet
import Derived.Deep.QuietTactic
import Derived.Lib.SlBytesConst
import Derived.Maps.RangeWalk
namespace Go.Proofs
open Go.Shelf
def Tryz.keysN_ren : Go.Shelf.Ren := ⟨fun | 7 => 79 | 10 => 95 | n => n, fun | 23 => 54 | 26 => 9 | 3 => 57 | 28 => 135 | 0 => 0 | 27 => 134 | 33 => 108 | 4 => 4 | n => n, fun | n => n⟩
theorem Tryz.keysN : Go.Proofs.SlLaysZ.n7 Tryz.prog Tryz.keysN_ren := {
  mixed := by kernel_rfl
  f7 := ⟨Tryz.f79.name, by decide, Tryz.func79.trans (congrArg some (by kernel_rfl))⟩
  f10 := ⟨Tryz.f95.name, by decide, Tryz.func95.trans (congrArg some (by kernel_rfl))⟩
  t0 := Tryz.underlying0
  a0 := Tryz.isAgg0
  z0 := Tryz.sizeOf0
  v0 := Tryz.zeroValue0
  t4 := Tryz.underlying4
  a4 := Tryz.isAgg4
  z4 := Tryz.sizeOf4
  v4 := Tryz.zeroValue4
  t23 := Tryz.underlying54
  a23 := Tryz.isAgg54
  z23 := Tryz.sizeOf54
  v23 := Tryz.zeroValue54
  t26 := Tryz.underlying9
  a26 := Tryz.isAgg9
  z26 := Tryz.sizeOf9
  v26 := Tryz.zeroValue9
  t27 := Tryz.underlying134
  a27 := Tryz.isAgg134
  z27 := Tryz.sizeOf134
  v27 := Tryz.zeroValue134
  t28 := Tryz.underlying135
  a28 := Tryz.isAgg135
  z28 := Tryz.sizeOf135
  v28 := Tryz.zeroValue135
  t33 := Tryz.underlying108
  a33 := Tryz.isAgg108
  z33 := Tryz.sizeOf108
  v33 := Tryz.zeroValue108 }
def Tryz.sortedN_ren : Go.Shelf.Ren := ⟨fun | 6 => 78 | 8 => 93 | 9 => 94 | 11 => 102 | n => n, fun | 26 => 9 | 28 => 135 | 24 => 49 | 0 => 0 | 3 => 3 | 4 => 4 | 5 => 5 | 33 => 108 | n => n, fun | n => n⟩
theorem Tryz.sortedN : Go.Proofs.SlLaysZ.n6 Tryz.prog Tryz.sortedN_ren := {
  mixed := by kernel_rfl
  f6 := ⟨Tryz.f78.name, by decide, Tryz.func78.trans (congrArg some (by kernel_rfl))⟩
  f8 := ⟨Tryz.f93.name, by decide, Tryz.func93.trans (congrArg some (by kernel_rfl))⟩
  f11 := ⟨Tryz.f102.name, by decide, Tryz.func102.trans (congrArg some (by kernel_rfl))⟩
  t0 := Tryz.underlying0
  a0 := Tryz.isAgg0
  z0 := Tryz.sizeOf0
  v0 := Tryz.zeroValue0
  t24 := Tryz.underlying49
  a24 := Tryz.isAgg49
  z24 := Tryz.sizeOf49
  v24 := Tryz.zeroValue49
  t26 := Tryz.underlying9
  a26 := Tryz.isAgg9
  z26 := Tryz.sizeOf9
  v26 := Tryz.zeroValue9
  t28 := Tryz.underlying135
  a28 := Tryz.isAgg135
  z28 := Tryz.sizeOf135
  v28 := Tryz.zeroValue135
  i26 := by kernel_rfl }
end Go.Proofs

namespace Go.Proofs.YtlnjnimenihhnaaGreatDoor
open Go.RowKit Go.Maps Go.Sort Go.Shelf

theorem sortsN (k : Nat) : AnyZ.SortsIn Tryz.prog Tryz.sortedN_ren Fence.wide k :=
  ⟨fun blk off cap ss W hH hblk hsz => callsIn_wide.2 (AnyM.slices_Sort_string Tryz.sortS blk off cap ss W hH hblk hsz),
   fun p cap W => callsIn_wide.2 (AnyM.slices_Sort_string_none Tryz.sortS p cap W)⟩
theorem keysN_any (mb : Option Nat) (w : World) : Calls Tryz.prog 79 #[.map mb] w fun e w' => e = .returned (.func (.func 95) #[] #[.pointer (some ⟨w.heap.size, 0, none⟩)]) ∧ w' = w.alloc (.cells #[.map mb] 54) :=
  (callsIn_wide (n := 5)).1 (AnyZ.keys_in Tryz.keysN Fence.wide 5 trivial rfl mb w)
/-- Names, rising. -/
def nmL (kn : List ByteArray) : List (List UInt8) := sortL (kn.map fun x => x.data.toList)
theorem nmL_len (kn : List ByteArray) : (nmL kn).length = kn.length := by simp [nmL, sortL_len]
theorem toList_inj {a b : ByteArray} (h : a.data.toList = b.data.toList) : a = b := by
  obtain ⟨⟨a⟩⟩ := a
  obtain ⟨⟨b⟩⟩ := b
  simpa using h
theorem sortedN_is {w : World} {m c : Nat} {D : DataW Value} {f : ByteArray → Option Value} {kn : List ByteArray} (ho : w.ownsMap Tryz.prog 9 hold m c D) (hD : SMapD D f) (hnd : kn.Nodup) (hs : ∀ x ∈ kn, x.size ≤ 256) (hm : ∀ x, x.size ≤ 256 → ((f x).isSome = true ↔ x ∈ kn)) {ss : List (List UInt8)} (hp : ss.Perm (strKeys D)) :
    ss.mergeSort (fun x y => decide (x ≤ y)) = nmL kn := by
  obtain ⟨es, rfl, hpw, hk⟩ := ho.entries law9
  have hstr : ∀ p ∈ es, ∃ x, p.1 = .string x := fun p hpm => by
    obtain ⟨n, _, e⟩ := hD.keys p.1 (List.any_eq_true.2 ⟨p, hpm, WideAt.sameKey_self (hk p hpm)⟩)
    exact ⟨_, e⟩
  have hL : (kn.map fun x => x.data.toList).Perm (strKeys (.map es)) := by
    refine perm_strKeys hpw hstr ?_ (fun x => ?_)
    · exact List.pairwise_map.2 (hnd.imp (fun h e => h (toList_inj e)))
    · constructor
      · intro hx
        obtain ⟨n, hn, rfl⟩ := List.mem_map.1 hx
        have h1 := hD.has n (hs n hn)
        rw [(hm n (hs n hn)).2 hn] at h1
        exact h1
      · intro hx
        obtain ⟨n, hn, e⟩ := hD.keys _ hx
        have ex : x = n.data.toList := by simpa [ks] using e
        subst ex
        have h1 := hD.has n hn
        rw [show ks n = .string n.data.toList from rfl, hx] at h1
        exact List.mem_map.2 ⟨n, (hm n hn).1 h1.symm, rfl⟩
  exact mergeSort_of_perm (hp.trans hL.symm)
set_option maxHeartbeats 1000000 in
theorem sortedN_any (k m n : Nat) (f : ByteArray → Option Value) (kn : List ByteArray) (w : World) (hmm : SMap w m n f) (hn : n ≤ 100000) (hnd : kn.Nodup) (hs : ∀ x ∈ kn, x.size ≤ 256) (hm : ∀ x, x.size ≤ 256 → ((f x).isSome = true ↔ x ∈ kn)) (hk : w.heap[k]? = some (.cells #[.map (some m)] 54 (0, 0))) :
    Calls Tryz.prog 78 #[.func (.func 95) #[] #[.pointer (some ⟨k, 0, none⟩)]] w fun e w' => ∃ v, e = .returned v ∧ w'.ownsRow w.heap.size 9 1 v kn.length ((nmL kn).map encStr) ∧ Below w.heap.size w w' := by
  obtain ⟨D, ho, hD, hz⟩ := hmm
  have hkl : k < w.heap.size := (Array.getElem?_eq_some_iff.1 hk).1
  have hcell : w.cell? ⟨k, 0, none⟩ = some (.map (some m)) := by rw [cell_of_row w k 0 _ _ _ hk]; rfl
  have hseq : SeqGives Fence.wide 2 Tryz.prog 95 #[.pointer (some ⟨k, 0, none⟩)] encStr (fun ss => ss.Perm (strKeys D)) (Maps.size D) w :=
    AnyZ.keys_gives (ρ := Tryz.keysN_ren) { Tryz.keysN with } Fence.wide _ trivial rfl (by omega) k m n D _ hkl hcell ho
  have cS := AnyZ.sorted_in Tryz.sortedN Fence.wide 5 trivial trivial trivial trivial rfl (by omega) (sortsN _) (enters_of Tryz.func94 (by kernel_rfl) rfl) 95 #[.pointer (some ⟨k, 0, none⟩)] trivial (enters_of Tryz.func95 (by kernel_rfl) rfl) _ _ (by unfold maxLen; omega) (by omega) _ hseq
  change CallsIn _ _ Tryz.prog 78 _ _ _ at cS
  refine ((callsIn_wide (n := 5)).1 cS).mono ?_
  rintro e w' ⟨v, ss, rfl, hp, hrow, _, hb⟩
  have hq := sortedN_is ho hD hnd hs hm hp
  have hl : ss.length = kn.length := by
    have h1 := congrArg List.length hq
    rw [nmL_len] at h1
    simpa using h1
  rw [hq, hl] at hrow
  exact ⟨v, rfl, hrow, hb⟩
set_option maxHeartbeats 1000000 in
theorem tnames_any (b m : Nat) (A : Pth → Nat) (p : Pth) (kn : List ByteArray) (w : World) (c2 : w.cell? ⟨b, 2, none⟩ = some (.map (some m))) (hmm : SMap w m kn.length (kidF A p kn)) (hn : kn.length ≤ 100000) (hnd : kn.Nodup) (hs : ∀ x ∈ kn, x.size ≤ 256) :
    Calls Tryz.prog 46 #[ptr b] w fun e w' => ∃ v, e = .returned v ∧ w'.ownsRow w.heap.size 9 1 v kn.length ((nmL kn).map encStr) ∧ Below w.heap.size w w' := by
  have A0 := below_alloc w (.cells #[.map (some m)] 54)
  have hb := heap_alloc_new w (.cells #[.map (some m)] 54)
  have HC : Hid (Calls Tryz.prog 78 #[.func (.func 95) #[] #[.pointer (some ⟨w.heap.size, 0, none⟩)]] (w.alloc (.cells #[.map (some m)] 54)) fun e w' => ∃ v, e = .returned v ∧ w'.ownsRow w.heap.size 9 1 v kn.length ((nmL kn).map encStr) ∧ Below w.heap.size w w') := by
    refine (sortedN_any w.heap.size m kn.length (kidF A p kn) kn _ (hmm.kept ((Chg.ofBelowC A0).block m hmm.lt (fun h => h))) hn hnd hs (fun x _ => ?_) hb).mono ?_
    · unfold kidF
      rw [← inB_iff]
      cases inB x kn <;> simp
    · rintro e w' ⟨v, rfl, ho, B⟩
      exact ⟨v, rfl, ownsRow_base_a ho A0.size, A0.trans (B.mono A0.size)⟩
  clear A0 hb hmm
  go_enter Tryz.func46, Tryz.ntmps46
  go_wp2_with fail
  refine (keysN_any (some m) w).mono ?_
  rintro e w1 ⟨rfl, rfl⟩
  go_wp2_with fail
  refine HC.out.mono ?_
  rintro e w2 ⟨v, rfl, ho, B⟩
  have HO : Hid (w2.ownsRow w.heap.size 9 1 v kn.length ((nmL kn).map encStr) ∧ Below w.heap.size w w2) := ⟨ho, B⟩
  clear HC ho B
  go_wp2_with fail
  go_ret
  exact ⟨v, rfl, HO.out⟩
end Go.Proofs.YtlnjnimenihhnaaGreatDoor

namespace Go.Proofs.YtlnjnimenihhnaaGreatDoor
open Go.RowKit Go.Maps

abbrev trO (m : Nat) (b i : Int) : Obj := .cells #[.bool false, .slice none 0 0, .map (some m), .int .i64 0, .int .i64 b, .int .i64 i] 60
def tr0 (b i : Int) : Ts := ⟨fun q => if q = [] then some (.dir 0 []) else none, b, i⟩
set_option maxHeartbeats 1600000 in
theorem new_raw (b i : Int) (w : World) (hb0 : 0 ≤ b) (hb1 : b ≤ 16384) (hi0 : 1 ≤ i) (hi1 : i ≤ 256) :
    Calls Tryz.prog 7 #[.int .i64 b, .int .i64 i] w fun e w' => e = .returned (.tuple #[ptr (w.heap.size + 2), .int .i64 0]) ∧ w' = ((w.alloc (.map #[] 0)).alloc (ndO4 false (some w.heap.size))).alloc (trO w.heap.size b (i - 1)) := by
  have q1 : ¬ b < 0 := by omega
  have q2 : ¬ 16384 < b := by omega
  have q3 : ¬ i < 1 := by omega
  have q4 : ¬ 256 < i := by omega
  have wi : IntKind.i64.wrap (i - 1) = i - 1 := by rw [IntKind.wrap_i64]; omega
  go_enter Tryz.func7, Tryz.ntmps7
  go_wp2_with fail
  refine (newDir_any w).mono ?_
  rintro e w1 ⟨rfl, rfl⟩
  go_wp2_with fail
  go_ret2
  exact ⟨rfl, rfl⟩
/-- New: an empty tree. -/
theorem new_any (b i : Int) (w : World) (hb0 : 0 ≤ b) (hb1 : b ≤ 16384) (hi0 : 1 ≤ i) (hi1 : i ≤ 256) :
    Calls Tryz.prog 7 #[.int .i64 b, .int .i64 i] w fun e w' => ∃ t A O, e = .returned (.tuple #[ptr t, .int .i64 0]) ∧ Tr w' t (tr0 b (i - 1)).F A O b (i - 1) 0 ∧ (∀ k, (O k).isSome = true → w.heap.size ≤ k) ∧ Below w.heap.size w w' := by
  refine (new_raw b i w hb0 hb1 hi0 hi1).mono ?_
  rintro e w' ⟨rfl, rfl⟩
  have B1 := below_alloc w (.map #[] 0)
  have B2 := B1.trans ((below_alloc (w.alloc (.map #[] 0)) (ndO4 false (some w.heap.size))).mono B1.size)
  have B3 := B2.trans ((below_alloc ((w.alloc (.map #[] 0)).alloc (ndO4 false (some w.heap.size))) (trO w.heap.size b (i - 1))).mono B2.size)
  have hb := heap_alloc_new ((w.alloc (.map #[] 0)).alloc (ndO4 false (some w.heap.size))) (trO w.heap.size b (i - 1))
  have z2 : ((w.alloc (.map #[] 0)).alloc (ndO4 false (some w.heap.size))).heap.size = w.heap.size + 2 := by simp
  have z3 : (((w.alloc (.map #[] 0)).alloc (ndO4 false (some w.heap.size))).alloc (trO w.heap.size b (i - 1))).heap.size = w.heap.size + 3 := by simp
  rw [z2] at hb
  have hm := SMap.new w
  have hm2 := hm.kept ((Chg.ofBelowC (below_alloc (w.alloc (.map #[] 0)) (ndO4 false (some w.heap.size)))).block _ hm.lt (fun h => h))
  have hm3 := hm2.kept ((Chg.ofBelowC (below_alloc ((w.alloc (.map #[] 0)).alloc (ndO4 false (some w.heap.size))) (trO w.heap.size b (i - 1)))).block _ hm2.lt (fun h => h))
  generalize ((w.alloc (.map #[] 0)).alloc (ndO4 false (some w.heap.size))).alloc (trO w.heap.size b (i - 1)) = w' at *
  have hF : ∀ p nd, (tr0 b (i - 1)).F p = some nd → p = [] ∧ nd = .dir 0 [] := fun p nd h => by
    by_cases e : p = []
    · subst e; exact ⟨rfl, by simpa [tr0, eq_comm] using h⟩
    · simp [tr0, e] at h
  have hO : ∀ k y, (fun k => if k = w.heap.size + 2 then some (([] : Pth), 0) else if k = w.heap.size then some ([], 1) else none) k = some y → w.heap.size ≤ k ∧ k < w.heap.size + 3 := fun k y h => by
    by_cases e : k = w.heap.size + 2
    · omega
    · by_cases e2 : k = w.heap.size
      · omega
      · simp [e, e2] at h
  refine ⟨w.heap.size + 2, fun _ => w.heap.size + 2, fun k => if k = w.heap.size + 2 then some ([], 0) else if k = w.heap.size then some ([], 1) else none, rfl, ⟨rfl, ⟨0, [], rfl⟩, fun k y h => ?_, fun p nd h => ?_, fun p nd h => ?_, fun p nd h j => ?_, fun p nm h => ?_, fun p s ns nm h hn => ?_, fun p s ns h => ?_, fun p bs h => ?_, ?_, ?_, by omega, by omega⟩, fun k h => ?_, B3⟩
  · have := hO k y h; omega
  · obtain ⟨rfl, rfl⟩ := hF p nd h; simp
  · obtain ⟨rfl, rfl⟩ := hF p nd h
    refine ⟨?_, ?_, ⟨w.heap.size, ?_, ?_, hm3.ext (fun s _ => rfl)⟩, ?_⟩
    · rw [cell_of_row _ _ _ _ _ _ hb]; rfl
    · rw [cell_of_row _ _ _ _ _ _ hb]; rfl
    · rw [cell_of_row _ _ _ _ _ _ hb]; rfl
    · simp
    · rw [cell_of_row _ _ _ _ _ _ hb]; rfl
  · simp only [World.frozen?, hb]
    simp
  · obtain ⟨nd, hn⟩ := Option.isSome_iff_exists.1 h
    have := (hF _ _ hn).1
    simp at this
  · have := (hF _ _ h).2
    cases this
    cases hn
  · have := (hF _ _ h).2
    cases this
    exact ⟨List.nodup_nil, (fun _ h => by cases h), Nat.le_refl _, Nat.le_refl _⟩
  · have := (hF _ _ h).2
    cases this
  · rw [cell_of_row _ _ _ _ _ _ hb]; rfl
  · rw [cell_of_row _ _ _ _ _ _ hb]; rfl
  · obtain ⟨y, hy⟩ := Option.isSome_iff_exists.1 h
    exact (hO k y hy).1

set_option maxHeartbeats 1600000 in
theorem free_any (t : Nat) (bl ino : Int) (w : World) (c4 : w.cell? ⟨t, 4, none⟩ = some (.int .i64 bl)) (c5 : w.cell? ⟨t, 5, none⟩ = some (.int .i64 ino)) :
    Calls Tryz.prog 20 #[ptr t] w fun e w' => e = .returned (.tuple #[.int .i64 bl, .int .i64 ino]) ∧ Below w.heap.size w w' := by
  go_enter Tryz.func20, Tryz.ntmps20
  go_wp2_with fail
  go_quiet (fail)
  go_wp2_with fail
  go_ret2
  exact ⟨rfl, by first | exact below_drewN _ _ _ | exact below_drew _ _ | exact Below.refl _ _⟩

abbrev inO (d : Bool) (s k : Int) : Obj := .cells #[.bool d, .int .i64 s, .int .i64 k] 85
abbrev inV (d : Bool) (s k : Int) : Value := .agg #[.bool d, .int .i64 s, .int .i64 k]
def In (w : World) (b : Nat) (u0 u1 u2 : Value) : Prop := w.heap[b]? = some (.cells #[u0, u1, u2] 85 (0, 0))
theorem In.c {w : World} {b : Nat} {u0 u1 u2 : Value} (h : In w b u0 u1 u2) : w.cell? ⟨b, 0, none⟩ = some u0 ∧ w.cell? ⟨b, 1, none⟩ = some u1 ∧ w.cell? ⟨b, 2, none⟩ = some u2 := by
  unfold In at h
  refine ⟨?_, ?_, ?_⟩ <;> · rw [cell_of_row _ _ _ _ _ _ h]; rfl
theorem In.lt {w : World} {b : Nat} {u0 u1 u2 : Value} (h : In w b u0 u1 u2) : b < w.heap.size := World.block_lt_of_cell? w ⟨b, 0, none⟩ h.c.1
theorem In.fr {w : World} {b : Nat} {u0 u1 u2 : Value} (h : In w b u0 u1 u2) (j : Nat) : w.frozen? ⟨b, j, none⟩ = false := by
  unfold In at h
  simp [World.frozen?, h]
theorem In.kept {S : Nat → Prop} {w w' : World} {b : Nat} {u0 u1 u2 : Value} (h : In w b u0 u1 u2) (hc : Chg S w w') (hn : ¬ S b) : In w' b u0 u1 u2 := (hc.block b h.lt hn).trans h
theorem In.put {w : World} {b : Nat} {u0 u1 u2 : Value} (h : In w b u0 u1 u2) (v0 v1 v2 : Value) : In ((((w.setCell ⟨b, 0, none⟩ v0).setCell ⟨b, 1, none⟩ v1).setCell ⟨b, 2, none⟩ v2)) b v0 v1 v2 ∧ Chg (fun k => k = b) w ((((w.setCell ⟨b, 0, none⟩ v0).setCell ⟨b, 1, none⟩ v1).setCell ⟨b, 2, none⟩ v2)) := by
  have g0 := heap_setCell_same w b 0 _ _ v0 h
  have g1 := heap_setCell_same _ b 1 _ _ v1 g0
  have g2 := heap_setCell_same _ b 2 _ _ v2 g1
  refine ⟨?_, ((Chg.setCell (S := fun k => k = b) w ⟨b, 0, none⟩ v0 rfl).trans (Chg.setCell (S := fun k => k = b) _ ⟨b, 1, none⟩ v1 rfl) (fun _ _ h => h)).trans (Chg.setCell (S := fun k => k = b) _ ⟨b, 2, none⟩ v2 rfl) (fun _ _ h => h)⟩
  unfold In
  rw [g2]
  rfl
theorem In.alloc (w : World) (d : Bool) (s k : Int) : In (w.alloc (inO d s k)) w.heap.size (.bool d) (.int .i64 s) (.int .i64 k) := heap_alloc_new w _

set_option maxHeartbeats 3200000 in
theorem info_raw (b : Nat) (f : Bool) (a : Option Addr) (n c : Nat) (mv : Option Nat) (k : Int) (w : World) (c0 : w.cell? ⟨b, 0, none⟩ = some (.bool f)) (c1 : w.cell? ⟨b, 1, none⟩ = some (.slice a n c)) (c2 : w.cell? ⟨b, 2, none⟩ = some (.map mv)) (HL : ∀ wb, Below w.heap.size w wb → (Builtin.len_ #[54] 3 #[.map mv]).run Tryz.prog wb = .ok (.int .i64 k) wb) :
    Calls Tryz.prog 73 #[ptr b] w fun e w' => e = .returned (inV (!f) n k) ∧ Below w.heap.size w w' := by
  have A0 := below_alloc w (inO false 0 0)
  have I0 := In.alloc w false 0 0
  obtain ⟨wa, hwa⟩ : ∃ wa, Hid (w.alloc (inO false 0 0) = wa) := ⟨_, rfl⟩
  rw [hwa.out] at A0 I0
  have g0 := (Chg.ofBelowC A0).cell c0 (fun h => h)
  have g1 := (Chg.ofBelowC A0).cell c1 (fun h => h)
  have g2 := (Chg.ofBelowC A0).cell c2 (fun h => h)
  have hl := HL wa.drew (A0.trans (below_drew _ _))
  obtain ⟨d0, d1, d2⟩ := I0.c
  have fr := I0.fr
  have HA : Hid (Below w.heap.size w wa ∧ In wa w.heap.size (.bool false) (.int .i64 0) (.int .i64 0)) := ⟨A0, I0⟩
  clear A0 I0 HL c0 c1 c2
  go_enter Tryz.func73, Tryz.ntmps73
  go_wp2_with fail
  rw [hwa.out]
  go_region
  obtain ⟨s1, s2⟩ := HA.out.2.put (.bool (!f)) (.int .i64 n) (.int .i64 k)
  all_goals
    go_wp2_with fail
    try simp only [Exit.inBlock, Exit.then]
    have s1' : In ((((wa.setCell ⟨w.heap.size, 0, none⟩ (.bool (!f))).setCell ⟨w.heap.size, 1, none⟩ (.int .i64 n)).setCell ⟨w.heap.size, 2, none⟩ (.int .i64 k)).drew) w.heap.size (.bool (!f)) (.int .i64 n) (.int .i64 k) := s1
    obtain ⟨e0, e1, e2⟩ := s1'.c
    refine bodyPost_ret (v := inV (!f) n k) ?_ rfl ?_
    · simp [results, Tryz.results73, go_sem, e0, e1, e2]
    · exact ⟨rfl, (HA.out.1.trans (s2.below HA.out.1.size (fun k hk => by rw [hk]; exact Nat.le_refl _))).trans (below_drew _ _)⟩
end Go.Proofs.YtlnjnimenihhnaaGreatDoor

namespace Go.Proofs.YtlnjnimenihhnaaGreatDoor
open Go.RowKit Go.Maps Go.Sort

/-- What Stat tells of a node. -/
def Nd.inf : Nd → Value
  | .file bs => inV false bs.length 0
  | .dir _ kn => inV true 0 kn.length
theorem Tr.info {w : World} {t : Nat} {F : Pth → Option Nd} {A : Pth → Nat} {O : Nat → Option (Pth × Nat)} {bl ino : Int} {K : Nat} (h : Tr w t F A O bl ino K) {p : Pth} {nd : Nd} (hp : F p = some nd) :
    Calls Tryz.prog 73 #[ptr (A p)] w fun e w' => e = .returned nd.inf ∧ Below w.heap.size w w' := by
  cases nd with
  | file bs =>
    obtain ⟨m0, ⟨v, m1, m2, m3⟩, m4, m5⟩ := h.nd _ _ hp
    obtain ⟨a, c, rfl⟩ := own_form' m2
    exact info_raw (A p) true a bs.length c none 0 w m0 m1 m4 (fun wb _ => len_nil wb)
  | dir s kn =>
    obtain ⟨m, m0, m1, m2, m3, mO, mM, htm, hAm⟩ := h.dirM hp
    exact info_raw (A p) false none 0 0 (some m) kn.length w m0 m1 m2 (fun wb hb => (mM.kept ((Chg.ofBelowC hb).block m mM.lt (fun h => h))).len 3)
set_option maxHeartbeats 1600000 in
theorem read_no {s : ByteArray} {t : Nat} {F : Pth → Option Nd} {A : Pth → Nat} {O : Nat → Option (Pth × Nat)} {bl ino : Int} {K : Nat} {w : World} (h : Tr w t F A O bl ino K) (hs : s.size ≤ 3000) {c : Int} (hE : thE F s = c) (hc : ¬ c = 0) :
    Calls Tryz.prog 18 #[ptr t, .string s] w fun e w' => e = .returned (.tuple #[.slice none 0 0, .int .i64 c]) ∧ Below w.heap.size w w' := by
  have HT : Hid (Calls Tryz.prog 44 #[ptr t, .string s] w fun e w' => e = .returned (.tuple #[.pointer none, .int .i64 c]) ∧ Below w.heap.size w w') := there_no h hs hE hc
  have hc1 : decide (c = 0) = false := by simpa using hc
  clear h hE
  go_enter Tryz.func18, Tryz.ntmps18
  go_wp2_with fail
  refine HT.out.mono ?_
  rintro e w1 ⟨rfl, B1⟩
  clear HT
  have HB : Hid (Below w.heap.size w w1) := B1
  clear B1
  go_wp2_with fail
  go_ret2
  exact ⟨rfl, HB.out⟩
set_option maxHeartbeats 1600000 in
theorem read_dir {s : ByteArray} {t : Nat} {F : Pth → Option Nd} {A : Pth → Nat} {O : Nat → Option (Pth × Nat)} {bl ino : Int} {K : Nat} {w : World} (h : Tr w t F A O bl ino K) (hs : s.size ≤ 3000) (hE : thE F s = 0) {n : Nat} {kn : List ByteArray} (hn : F (spN s) = some (.dir n kn)) :
    Calls Tryz.prog 18 #[ptr t, .string s] w fun e w' => e = .returned (.tuple #[.slice none 0 0, .int .i64 10]) ∧ Below w.heap.size w w' := by
  have HT : Hid (Calls Tryz.prog 44 #[ptr t, .string s] w fun e w' => e = .returned (.tuple #[ptr (A (spN s)), .int .i64 0]) ∧ Below w.heap.size w w') := (there_ok h hs hE).2
  have c0 := (h.nd _ _ hn).1
  clear h hE hn
  go_enter Tryz.func18, Tryz.ntmps18
  go_wp2_with fail
  refine HT.out.mono ?_
  rintro e w1 ⟨rfl, B1⟩
  have g0 := (Chg.ofBelowC B1).cell c0 (fun h => h)
  clear HT
  have HB : Hid (Below w.heap.size w w1) := B1
  clear B1
  go_wp2_with fail
  go_ret2
  exact ⟨rfl, HB.out⟩
set_option maxHeartbeats 1600000 in
theorem read_ok {s : ByteArray} {t : Nat} {F : Pth → Option Nd} {A : Pth → Nat} {O : Nat → Option (Pth × Nat)} {bl ino : Int} {K : Nat} {w : World} (h : Tr w t F A O bl ino K) (hs : s.size ≤ 3000) (hE : thE F s = 0) {bs : List Int} (hn : F (spN s) = some (.file bs)) :
    Calls Tryz.prog 18 #[ptr t, .string s] w fun e w' => ∃ v, e = .returned (.tuple #[v, .int .i64 0]) ∧ w'.ownsRow w.heap.size 5 1 v bs.length (bcells bs) ∧ Below w.heap.size w w' := by
  have HT : Hid (Calls Tryz.prog 44 #[ptr t, .string s] w fun e w' => e = .returned (.tuple #[ptr (A (spN s)), .int .i64 0]) ∧ Below w.heap.size w w') := (there_ok h hs hE).2
  obtain ⟨c0, ⟨v, c1, m2, m3⟩, m4, m5⟩ := h.nd _ _ hn
  have hl := (h.fil _ _ hn).1
  have HM : Hid (∀ wb, Below w.heap.size w wb → Calls Tryz.prog 45 #[v] wb fun e w' => ∃ u, e = .returned u ∧ w'.ownsRow wb.heap.size 5 1 u bs.length (bcells bs) ∧ Chg (fun _ => False) wb w') := fun wb hb => cloneB_any v bs wb (Bs.ofOwns (own_far m2 (Chg.ofBelowC hb) (fun _ _ h => h))) (by omega)
  obtain ⟨a, c, rfl⟩ := own_form' m2
  clear h hE hn m2 m3 m4 m5 hl
  go_enter Tryz.func18, Tryz.ntmps18
  go_wp2_with fail
  refine HT.out.mono ?_
  rintro e w1 ⟨rfl, B1⟩
  have g0 := (Chg.ofBelowC B1).cell c0 (fun h => h)
  have g1 := (Chg.ofBelowC B1).cell c1 (fun h => h)
  clear HT
  have HB : Hid (Below w.heap.size w w1) := B1
  clear B1
  go_wp2_with fail
  refine (HM.out w1 HB.out).mono ?_
  rintro e w2 ⟨u, rfl, ho, C⟩
  have HO : Hid (w2.ownsRow w.heap.size 5 1 u bs.length (bcells bs) ∧ Below w.heap.size w w2) := ⟨own_monoT ho HB.out.size, HB.out.trans (C.below HB.out.size (fun _ h => h.elim))⟩
  clear HM ho C HB
  go_wp2_with fail
  go_ret2
  exact ⟨u, rfl, HO.out⟩
set_option maxHeartbeats 1600000 in
theorem list_ok {s : ByteArray} {t : Nat} {F : Pth → Option Nd} {A : Pth → Nat} {O : Nat → Option (Pth × Nat)} {bl ino : Int} {K : Nat} {w : World} (h : Tr w t F A O bl ino K) (hK : K ≤ 90000) (hs : s.size ≤ 3000) (hE : thE F s = 0) {n : Nat} {kn : List ByteArray} (hn : F (spN s) = some (.dir n kn)) :
    Calls Tryz.prog 19 #[ptr t, .string s] w fun e w' => ∃ v, e = .returned (.tuple #[v, .int .i64 0]) ∧ w'.ownsRow w.heap.size 9 1 v kn.length ((nmL kn).map encStr) ∧ Below w.heap.size w w' := by
  have HT : Hid (Calls Tryz.prog 44 #[ptr t, .string s] w fun e w' => e = .returned (.tuple #[ptr (A (spN s)), .int .i64 0]) ∧ Below w.heap.size w w') := (there_ok h hs hE).2
  have c0 := (h.nd _ _ hn).1
  have HM : Hid (∀ wb, Below w.heap.size w wb → Calls Tryz.prog 46 #[ptr (A (spN s))] wb fun e w' => ∃ v, e = .returned v ∧ w'.ownsRow wb.heap.size 9 1 v kn.length ((nmL kn).map encStr) ∧ Below wb.heap.size wb w') := fun wb hb => by
    obtain ⟨m, m0, m1, m2, m3, mO, mM, htm, hAm⟩ := (h.below hb).dirM hn
    obtain ⟨a1, a2, a3, a4⟩ := h.nms _ _ _ hn
    exact tnames_any _ m A _ kn wb m2 mM (by omega) a1 (fun x hx => name_size (a2 x hx))
  clear h hE hn
  go_enter Tryz.func19, Tryz.ntmps19
  go_wp2_with fail
  refine HT.out.mono ?_
  rintro e w1 ⟨rfl, B1⟩
  have g0 := (Chg.ofBelowC B1).cell c0 (fun h => h)
  clear HT
  have HB : Hid (Below w.heap.size w w1) := B1
  clear B1
  go_wp2_with fail
  refine (HM.out w1 HB.out).mono ?_
  rintro e w2 ⟨v, rfl, ho, B⟩
  have HO : Hid (w2.ownsRow w.heap.size 9 1 v kn.length ((nmL kn).map encStr) ∧ Below w.heap.size w w2) := ⟨own_monoT ho HB.out.size, HB.out.trans (B.mono HB.out.size)⟩
  clear HM ho B HB
  go_wp2_with fail
  go_ret2
  exact ⟨v, rfl, HO.out⟩
end Go.Proofs.YtlnjnimenihhnaaGreatDoor

namespace Go.Proofs.YtlnjnimenihhnaaGreatDoor
open Go.RowKit Go.Maps Go.Sort

/-- A law's tree: its blocks lie from N on, and nothing under N has changed. -/
structure Lw (N : Nat) (w0 w : World) (t : Nat) (T : Ts) (K : Nat) : Prop where
  ex : ∃ A O, Tr w t T.F A O T.bl T.ino K ∧ ∀ k, (O k).isSome = true → N ≤ k
  tab : Tab w
  pos : 0 < N
  bel : Below N w0 w
  le : N ≤ w.heap.size
theorem Lw.kept {N : Nat} {w0 w w' : World} {t : Nat} {T : Ts} {K : Nat} (h : Lw N w0 w t T K) (hb : Below w.heap.size w w') : Lw N w0 w' t T K := by
  obtain ⟨A, O, h1, h2⟩ := h.ex
  exact ⟨⟨A, O, h1.below hb, h2⟩, tab_below h.tab hb, h.pos, h.bel.trans (hb.mono h.le), Nat.le_trans h.le hb.size⟩
theorem Lw.tN {N : Nat} {w0 w : World} {t : Nat} {T : Ts} {K : Nat} (h : Lw N w0 w t T K) : N ≤ t ∧ t < w.heap.size := by
  obtain ⟨A, O, h1, h2⟩ := h.ex
  exact ⟨h2 t (by rw [h1.atT]; rfl), h1.lt _ _ h1.atT⟩
theorem Lw.do_ {N : Nat} {w0 w : World} {t : Nat} {T : Ts} {K : Nat} (h : Lw N w0 w t T K) (hK : K ≤ 60000) (o : Ac) (dv : Value) (hd : Bs w dv o.d) (hB : IsB o.d) (hdt : ∀ a n c, dv = .slice (some a) n c → 0 < n → ¬ a.block = t) (hp : o.p.size ≤ 3000) (hq : o.q.size ≤ 3000) {c : Int} {T' : Ts} (hr : doR T o = (c, T')) :
    Calls Tryz.prog 9 #[ptr t, .agg #[.int .i64 o.k, .string o.p, .string o.q, dv, .int .i64 o.n]] w fun e w' => e = .returned (.int .i64 c) ∧ Lw N w0 w' t T' (K + 2) ∧ Chg (fun b => N ≤ b ∧ b < w.heap.size) w w' := by
  obtain ⟨A, O, h1, h2⟩ := h.ex
  have hO0 : O 0 = none := by
    cases e : O 0 with
    | none => rfl
    | some z => have := h2 0 (by rw [e]; rfl); have := h.pos; omega
  refine (do_any (N := N) h1 h.tab hK hO0 o dv hd hB hdt hp hq h.le).mono ?_
  rintro e w' ⟨rfl, A', O', g1, g2, g3⟩
  rw [hr] at g1
  have g2' : Chg (fun b => N ≤ b ∧ b < w.heap.size) w w' := g2.mono (fun b _ hb => ⟨h2 b hb, by assumption⟩)
  refine ⟨by rw [hr], ⟨⟨A', O', g1, fun k hk => (g3 k hk).elim (h2 k) id⟩, fun j hj => g2'.cell (h.tab j hj) (fun e => ?_), h.pos, h.bel.trans (g2'.below h.le (fun k hk => hk.1)), Nat.le_trans h.le g2.size⟩, g2'⟩
  have h0 : N ≤ 0 := e.1
  have := h.pos
  omega
theorem Lw.new (b i : Int) (w : World) (hT : Tab w) (hb0 : 0 ≤ b) (hb1 : b ≤ 16384) (hi0 : 1 ≤ i) (hi1 : i ≤ 256) :
    Calls Tryz.prog 7 #[.int .i64 b, .int .i64 i] w fun e w' => ∃ t, e = .returned (.tuple #[ptr t, .int .i64 0]) ∧ Lw w.heap.size w w' t (tr0 b (i - 1)) 0 := by
  refine (new_any b i w hb0 hb1 hi0 hi1).mono ?_
  rintro e w' ⟨t, A, O, rfl, h1, h2, B⟩
  have hpos : 0 < w.heap.size := World.block_lt_of_cell? w ⟨0, 0, none⟩ (hT 0 (by omega))
  exact ⟨t, rfl, ⟨A, O, h1, h2⟩, tab_below hT B, hpos, B, B.size⟩
theorem Lw.free {N : Nat} {w0 w : World} {t : Nat} {T : Ts} {K : Nat} (h : Lw N w0 w t T K) :
    Calls Tryz.prog 20 #[ptr t] w fun e w' => e = .returned (.tuple #[.int .i64 T.bl, .int .i64 T.ino]) ∧ Below w.heap.size w w' := by
  obtain ⟨A, O, h1, h2⟩ := h.ex
  exact free_any t _ _ w h1.cbl h1.cin
theorem Lw.read {N : Nat} {w0 w : World} {t : Nat} {T : Ts} {K : Nat} (h : Lw N w0 w t T K) {s : ByteArray} (hs : s.size ≤ 3000) (hE : thE T.F s = 0) {bs : List Int} (hn : T.F (spN s) = some (.file bs)) :
    Calls Tryz.prog 18 #[ptr t, .string s] w fun e w' => ∃ v, e = .returned (.tuple #[v, .int .i64 0]) ∧ w'.ownsRow w.heap.size 5 1 v bs.length (bcells bs) ∧ Below w.heap.size w w' := by
  obtain ⟨A, O, h1, h2⟩ := h.ex
  exact read_ok h1 hs hE hn
theorem Lw.list {N : Nat} {w0 w : World} {t : Nat} {T : Ts} {K : Nat} (h : Lw N w0 w t T K) (hK : K ≤ 90000) {s : ByteArray} (hs : s.size ≤ 3000) (hE : thE T.F s = 0) {n : Nat} {kn : List ByteArray} (hn : T.F (spN s) = some (.dir n kn)) :
    Calls Tryz.prog 19 #[ptr t, .string s] w fun e w' => ∃ v, e = .returned (.tuple #[v, .int .i64 0]) ∧ w'.ownsRow w.heap.size 9 1 v kn.length ((nmL kn).map encStr) ∧ Below w.heap.size w w' := by
  obtain ⟨A, O, h1, h2⟩ := h.ex
  exact list_ok h1 hK hs hE hn
theorem Lw.donil {N : Nat} {w0 w : World} {t : Nat} {T : Ts} {K : Nat} (h : Lw N w0 w t T K) (hK : K ≤ 60000) (k : Int) (p q : ByteArray) (hp : p.size ≤ 3000) (hq : q.size ≤ 3000) {c : Int} {T' : Ts} (hr : doR T ⟨k, p, q, [], 0⟩ = (c, T')) :
    Calls Tryz.prog 9 #[ptr t, .agg #[.int .i64 k, .string p, .string q, .slice none 0 0, .int .i64 0]] w fun e w' => e = .returned (.int .i64 c) ∧ Lw N w0 w' t T' (K + 2) ∧ Chg (fun b => N ≤ b ∧ b < w.heap.size) w w' :=
  h.do_ hK ⟨k, p, q, [], 0⟩ (.slice none 0 0) (.inl ⟨rfl, rfl⟩) (fun _ h => by cases h) (fun a n c e _ => by cases e) hp hq hr

def kT1 : Ts := (doR (tr0 10 9) ⟨1, ⟨#[47, 97]⟩, ⟨#[]⟩, [], 0⟩).2
def kT2 : Ts := (doR kT1 ⟨3, ⟨#[47, 97]⟩, ⟨#[]⟩, [120, 121], 0⟩).2
def kT3 : Ts := (doR kT2 ⟨1, ⟨#[47, 98]⟩, ⟨#[]⟩, [], 0⟩).2
def kT4 : Ts := (doR kT3 ⟨7, ⟨#[47, 97]⟩, ⟨#[47, 98]⟩, [], 0⟩).2
theorem pair_of {α β : Type} {x : α × β} {a : α} (h : x.1 = a) : x = (a, x.2) := by rw [← h]
theorem kk1 : doR (tr0 10 9) ⟨1, ⟨#[47, 97]⟩, ⟨#[]⟩, [], 0⟩ = (0, kT1) := pair_of (by kernel_rfl)
theorem kk2 : doR kT1 ⟨3, ⟨#[47, 97]⟩, ⟨#[]⟩, [120, 121], 0⟩ = (0, kT2) := pair_of (by kernel_rfl)
theorem kk3 : doR kT2 ⟨1, ⟨#[47, 98]⟩, ⟨#[]⟩, [], 0⟩ = (0, kT3) := pair_of (by kernel_rfl)
theorem kk4 : doR kT3 ⟨7, ⟨#[47, 97]⟩, ⟨#[47, 98]⟩, [], 0⟩ = (0, kT4) := pair_of (by kernel_rfl)
theorem kk5 : thE kT4.F ⟨#[47, 98]⟩ = 0 := by kernel_rfl
theorem kk6 : kT4.F (spN ⟨#[47, 98]⟩) = some (.file [120, 121]) := by kernel_rfl
theorem kk7 : thE kT4.F ⟨#[47]⟩ = 0 := by kernel_rfl
theorem kk8 : kT4.F (spN ⟨#[47]⟩) = some (.dir 2 [⟨#[98]⟩]) := by kernel_rfl
theorem kk9 : kT4.bl = 8 := by kernel_rfl
theorem kk10 : kT4.ino = 8 := by kernel_rfl
theorem kk11 : strC [120, 121] = ⟨#[120, 121]⟩ := by kernel_rfl
set_option maxHeartbeats 3200000 in
set_option maxRecDepth 100000 in
theorem known_any (w : World) (hT : Tab w) : Calls Tryz.prog 5 #[] w fun e w' => e = .returned (.bool true) ∧ Below w.heap.size w w' := by
  have kc := fun (w : World) (C : Array Value) (n c : Nat) => Lib.run_convert_bytes_const (P := Tryz.prog) w 33 5 C n c Tryz.underlying33 Tryz.underlying5
  go_enter Tryz.func5, Tryz.ntmps5
  go_wp2_with fail
  refine (Lw.new 10 10 w hT (by omega) (by omega) (by omega) (by omega)).mono ?_
  rintro e w1 ⟨t, rfl, L1⟩
  have H1 : Hid (Lw w.heap.size w w1 t (tr0 10 9) 0) := L1
  clear L1
  go_wp2_with fail
  refine (H1.out.donil (by omega) 1 ⟨#[47, 97]⟩ ⟨#[]⟩ (by decide) (by decide) kk1).mono ?_
  clear H1
  rintro e w2 ⟨rfl, L, _⟩
  have H2 : Hid (Lw w.heap.size w w2 t kT1 2) := L
  clear L
  go_wp2_with fail
  have BL := below_alloc w2 (.cells #[.int .u8 120, .int .u8 121] 5 (2, 3))
  have hB : Bs (w2.alloc (.cells #[.int .u8 120, .int .u8 121] 5 (2, 3))) (.slice (some ⟨w2.heap.size, 0, none⟩) 2 2) [120, 121] := Bs.litC w2 [120, 121] (2, 3) (by decide)
  have htl := H2.out.tN.2
  refine ((H2.out.kept BL).do_ (by omega) ⟨3, ⟨#[47, 97]⟩, ⟨#[]⟩, [120, 121], 0⟩ (.slice (some ⟨w2.heap.size, 0, none⟩) 2 2) hB (fun x hx => by simp at hx; omega) (fun a n c e _ => by cases e; show ¬ w2.heap.size = t; omega) (by decide) (by decide) kk2).mono ?_
  clear H2 BL hB htl
  rintro e w3 ⟨rfl, L, _⟩
  have H3 : Hid (Lw w.heap.size w w3 t kT2 4) := L
  clear L kc
  go_wp2_with fail
  refine (H3.out.donil (by omega) 1 ⟨#[47, 98]⟩ ⟨#[]⟩ (by decide) (by decide) kk3).mono ?_
  clear H3
  rintro e w4 ⟨rfl, L, _⟩
  have H4 : Hid (Lw w.heap.size w w4 t kT3 6) := L
  clear L
  go_wp2_with fail
  refine (H4.out.donil (by omega) 7 ⟨#[47, 97]⟩ ⟨#[47, 98]⟩ (by decide) (by decide) kk4).mono ?_
  clear H4
  rintro e w5 ⟨rfl, L, _⟩
  have H5 : Hid (Lw w.heap.size w w5 t kT4 8) := L
  clear L
  go_wp2_with fail
  refine (H5.out.read (s := ⟨#[47, 98]⟩) (by decide) kk5 kk6).mono ?_
  rintro e w6 ⟨v, rfl, hv, B6⟩
  have H6 : Hid (Lw w.heap.size w w6 t kT4 8 ∧ Bs w6 v [120, 121]) := ⟨H5.out.kept B6, Bs.ofOwns hv⟩
  obtain ⟨a6, c6, rfl⟩ := own_form' hv
  clear H5 hv B6
  go_wp2_with fail
  refine (H6.out.1.list (s := ⟨#[47]⟩) (by omega) (by decide) kk7 kk8).mono ?_
  rintro e w7 ⟨v7, rfl, hv, B7⟩
  obtain ⟨a7, c7, rfl⟩ := own_sl1 hv
  have H7 : Hid (Lw w.heap.size w w7 t kT4 8 ∧ Bs w7 (.slice a6 [120, 121].length c6) [120, 121]) := ⟨H6.out.1.kept B7, H6.out.2.kept (Chg.ofBelowC B7) (fun _ _ _ _ _ h => h)⟩
  clear H6 hv B7
  go_wp2_with fail
  refine H7.out.1.free.mono ?_
  rw [kk9, kk10]
  rintro e w8 ⟨rfl, B8⟩
  have hr := run_strC (H7.out.2.kept (Chg.ofBelowC B8) (fun _ _ _ _ _ h => h))
  rw [kk11] at hr
  change (convert 33 9 (.slice a6 2 c6)).run Tryz.prog w8 = _ at hr
  have H8 : Hid (Below w.heap.size w w8) := H7.out.1.bel.trans (B8.mono H7.out.1.le)
  clear H7 B8
  go_wp2_with fail
  go_ret
  exact ⟨rfl, H8.out⟩
end Go.Proofs.YtlnjnimenihhnaaGreatDoor

namespace Go.Proofs.YtlnjnimenihhnaaGreatDoor
open Go.RowKit Go.Maps Go.Sort

/-- An act as it lies in memory. -/
structure AcD where
  o : Ac
  dv : Value
def AcD.z : AcD := ⟨⟨0, ⟨#[]⟩, ⟨#[]⟩, [], 0⟩, .slice none 0 0⟩
def OpAt (w : World) (b o : Nat) (d : AcD) : Prop :=
  w.cell? ⟨b, o, none⟩ = some (.int .i64 d.o.k) ∧ w.cell? ⟨b, o + 1, none⟩ = some (.string d.o.p) ∧ w.cell? ⟨b, o + 2, none⟩ = some (.string d.o.q) ∧ w.cell? ⟨b, o + 3, none⟩ = some d.dv ∧ w.cell? ⟨b, o + 4, none⟩ = some (.int .i64 d.o.n) ∧ Bs w d.dv d.o.d ∧ IsB d.o.d
theorem OpAt.below {w w' : World} {b o : Nat} {d : AcD} (h : OpAt w b o d) (hb : Below w.heap.size w w') : OpAt w' b o d := by
  have hg := Chg.ofBelowC hb
  obtain ⟨h0, h1, h2, h3, h4, h5, h6⟩ := h
  exact ⟨hg.cell h0 (fun h => h), hg.cell h1 (fun h => h), hg.cell h2 (fun h => h), hg.cell h3 (fun h => h), hg.cell h4 (fun h => h), h5.kept hg (fun _ _ _ _ _ h => h), h6⟩
/-- v is a slice of acts that reads l. -/
def Ops (w : World) (v : Value) (l : List AcD) : Prop :=
  ∃ a c, v = .slice a l.length c ∧ (0 < l.length → ∃ b off, a = some ⟨b, off, none⟩ ∧ ∀ j, j < l.length → OpAt w b (off + j * 5) (l.getD j AcD.z))
theorem Ops.form {w : World} {v : Value} {l : List AcD} (h : Ops w v l) : ∃ a c, v = .slice a l.length c := by
  obtain ⟨a, c, e, _⟩ := h
  exact ⟨a, c, e⟩
theorem Ops.nth {w : World} {a : Option Addr} {n c k : Nat} {l : List AcD} (h : Ops w (.slice a n c) l) (hk : k < l.length) : ∃ b off, a = some ⟨b, off, none⟩ ∧ OpAt w b (off + k * 5) (l.getD k AcD.z) := by
  obtain ⟨a', c', e, hx⟩ := h
  injection e with e1 e2 e3
  subst e1
  obtain ⟨b, off, e4, h4⟩ := hx (by omega)
  exact ⟨b, off, e4, h4 k hk⟩
theorem Ops.below {w w' : World} {v : Value} {l : List AcD} (h : Ops w v l) (hb : Below w.heap.size w w') : Ops w' v l := by
  obtain ⟨a, c, e, hx⟩ := h
  refine ⟨a, c, e, fun h0 => ?_⟩
  obtain ⟨b, off, e1, hc⟩ := hx h0
  exact ⟨b, off, e1, fun j hj => (hc j hj).below hb⟩
/-- Few acts, short texts, few bytes. -/
def FewO (l : List AcD) : Prop := l.length ≤ 150 ∧ ∀ j, j < l.length → (l.getD j AcD.z).o.d.length ≤ 8192 ∧ (l.getD j AcD.z).o.p.size ≤ 600 ∧ (l.getD j AcD.z).o.q.size ≤ 600
set_option maxHeartbeats 1600000 in
set_option maxRecDepth 100000 in
theorem Few_any (v : Value) (l : List AcD) (w : World) (hv : Ops w v l) :
    Calls Tryz.prog 6 #[v] w fun e w' => Hid (w' = w) ∧ (e = .returned (.bool false) ∨ (e = .returned (.bool true) ∧ Hid (FewO l))) := by
  obtain ⟨a, c, rfl⟩ := hv.form
  go_enter Tryz.func6, Tryz.ntmps6
  by_cases h1 : 150 < l.length
  · have k1 : 150 < (l.length : Int) := by omega
    go_wp2_with fail
    go_ret
    exact ⟨rfl, .inl rfl⟩
  have k1 : ¬ (150 < (l.length : Int)) := by omega
  go_wp2_with fail
  go_loopw [3, 4] (fun s i wr => ∃ (k : Nat) (S : Int), k ≤ l.length ∧ s = .int .i64 S ∧ i = .int .i64 k ∧ wr = w ∧ Hid (0 ≤ S ∧ S ≤ 8192 * k ∧ ∀ j, j < k → (l.getD j AcD.z).o.d.length ≤ 8192 ∧ (l.getD j AcD.z).o.p.size ≤ 600 ∧ (l.getD j AcD.z).o.q.size ≤ 600)) (fun _ i _ => l.length - (intOf i).toNat)
  case atStart => exact ⟨0, 0, Nat.zero_le _, rfl, rfl, rfl, by omega, by omega, fun j h => by omega⟩
  case round =>
    obtain ⟨k, S, hk, rfl, rfl, rfl, HJ⟩ := hrel
    by_cases hlt : k < l.length
    · have q1 : (k : Int) < l.length := by omega
      obtain ⟨b, off, rfl, hc⟩ := hv.nth hlt
      obtain ⟨x, hx⟩ : ∃ x, Hid (l.getD k AcD.z = x) := ⟨_, rfl⟩
      rw [hx.out] at hc
      obtain ⟨c0, c1, c2, c3, c4, c5, c6⟩ := hc
      obtain ⟨da, dc, hdv⟩ := c5.form'
      obtain ⟨L, hL⟩ : ∃ L, x.o.d.length = L := ⟨_, rfl⟩
      rw [hL] at hdv
      rw [hdv] at c3
      clear c0 c4 c5 c6
      by_cases ha : 8192 < L
      · have k2 : 8192 < (L : Int) := by omega
        go_wp2_with fail
        go_ret
        exact ⟨rfl, .inl rfl⟩
      have k2 : ¬ (8192 < (L : Int)) := by omega
      by_cases hp : 600 < x.o.p.size
      · have k3 : 600 < (x.o.p.size : Int) := by omega
        go_wp2_with fail
        go_ret
        exact ⟨rfl, .inl rfl⟩
      have k3 : ¬ (600 < (x.o.p.size : Int)) := by omega
      by_cases hq : 600 < x.o.q.size
      · have k4 : 600 < (x.o.q.size : Int) := by omega
        go_wp2_with fail
        go_ret
        exact ⟨rfl, .inl rfl⟩
      have k4 : ¬ (600 < (x.o.q.size : Int)) := by omega
      have wS : IntKind.i64.wrap (S + L) = S + L := by
        have := HJ.out
        rw [IntKind.wrap_i64]; omega
      go_wp2_with fail
      go_roundw
      case rel =>
        have h0 := HJ.out
        refine ⟨k + 1, S + L, by omega, rfl, by go_num, trivial, by omega, by omega, fun j hj => ?_⟩
        rcases (by omega : j < k ∨ j = k) with h | rfl
        · exact h0.2.2 j h
        · rw [hx.out]; exact ⟨by omega, by omega, by omega⟩
      case measure => simp [intOf]; omega
    · have q1 : ¬ (k : Int) < l.length := by omega
      by_cases hS : S ≤ 32768
      · go_wp2_with fail
        go_ret
        exact ⟨rfl, .inr ⟨by simp, by omega, fun j hj => HJ.out.2.2 j (by omega)⟩⟩
      · go_wp2_with fail
        go_ret
        exact ⟨rfl, .inl (by simp)⟩
end Go.Proofs.YtlnjnimenihhnaaGreatDoor

namespace Go.Proofs.YtlnjnimenihhnaaGreatDoor
open Go.RowKit Go.Maps Go.Sort

def updG (g : ByteArray → Bool) (s : ByteArray) : ByteArray → Bool := fun x => if x = s then false else g x
/-- Block r ranges over the map f at block m; g: what is still to come. -/
def Rng (w : World) (m r : Nat) (f : ByteArray → Option Value) (g : ByteArray → Bool) (cnt : Nat) : Prop :=
  ∃ c D left, w.ranges Tryz.prog 9 hold m r c D left cnt ∧ SMapD D f ∧ (∀ s, s.size ≤ 256 → left (ks s) = g s) ∧ ∀ k, left k = true → has D k = true
theorem Rng.left {w : World} {m r cnt : Nat} {f : ByteArray → Option Value} {g : ByteArray → Bool} (h : Rng w m r f g cnt) : w.rangeLeft m r = cnt := by
  obtain ⟨c, D, left, h1, _⟩ := h
  exact h1.left_eq
theorem Rng.lt {w : World} {m r cnt : Nat} {f : ByteArray → Option Value} {g : ByteArray → Bool} (h : Rng w m r f g cnt) : r < w.heap.size := by
  obtain ⟨c, D, left, h1, _⟩ := h
  exact h1.lt
theorem Rng.kept {w w' : World} {m r cnt : Nat} {f : ByteArray → Option Value} {g : ByteArray → Bool} (h : Rng w m r f g cnt) (hm : w'.heap[m]? = w.heap[m]?) (hr : w'.heap[r]? = w.heap[r]?) : Rng w' m r f g cnt := by
  obtain ⟨c, D, left, ⟨es, clock, since, seen, c0, hb, F, hs, hD, hr', rest⟩, r2⟩ := h
  exact ⟨c, D, left, ⟨es, clock, since, seen, c0, hm.trans hb, F, hs, hD, hr.trans hr', rest⟩, r2⟩
/-- A range begins, at the operation. -/
theorem wpList_range_s (w : World) {ops : Array Oper} {rest : List Oper} {o : Oper} {a : Act} {Q : Exit → Act → World → Prop} (hg : o.guard = none) (x : Operand) (hop : o.op = Op.range 54 x) (m n : Nat) (f : ByteArray → Option Value) (hm : a.eval x = .map (some m)) (h : SMap w m n f)
    (hK : ∀ w' cnt, Rng w' m w.heap.size f (fun s => (f s).isSome) cnt → w.grownBy w' none → w'.heap.size = w.heap.size + 1 → wpList Tryz.prog ops Q rest (a.put o.dst (.pointer (some ⟨w.heap.size, 0, none⟩))) w') :
    wpList Tryz.prog ops Q (o :: rest) a w := by
  obtain ⟨D, ho, hD, _⟩ := h
  exact wpList_range_own w hg x 54 hop 9 57 law9 Tryz.underlying54 hold m n D hm ho (fun w' h1 h2 h3 => hK w' _ ⟨n, D, _, h1, hD, fun s hs => hD.has s hs, fun k hk => hk⟩ h2 h3)
theorem keyOf_str_inv {key : Value} {kl : Lit} (h : keyOf Tryz.prog 9 key = some kl) : ∃ s : ByteArray, key = .string s ∧ kl = ks s := by
  obtain ⟨x, h1, h2, _⟩ := Maps.keyOf_str Tryz.underlying9 h
  exact ⟨⟨x.toArray⟩, h1.trans rfl, h2.trans rfl⟩
/-- A step of the range at the operation. -/
theorem wpList_next_s (w : World) {ops : Array Oper} {rest : List Oper} {o : Oper} {a : Act} {Q : Exit → Act → World → Prop} (hg : o.guard = none) (it : Operand) (hop : o.op = Op.next it false) (m r : Nat) (f : ByteArray → Option Value) (g : ByteArray → Bool) (cnt : Nat)
    (hit : a.eval it = .pointer (some ⟨r, 0, none⟩)) (h : Rng w m r f g cnt)
    (hDone : (∀ s, s.size ≤ 256 → g s = false) → wpList Tryz.prog ops Q rest (a.put o.dst (.tuple #[.bool false])) w)
    (hMore : ∀ (s : ByteArray) (v : Value) (w' : World) (cnt' : Nat), s.size ≤ 256 → g s = true → f s = some v → Rng w' m r f (updG g s) cnt' → cnt' < cnt → w.grownBy w' (some r) → w'.heap.size = w.heap.size →
      (Instr.entry (.pointer (some ⟨r, 0, none⟩))).run Tryz.prog w' = .ok (.tuple #[.string s, v]) w' → wpList Tryz.prog ops Q rest (a.put o.dst (.tuple #[.bool true, .string s, v])) w') :
    wpList Tryz.prog ops Q (o :: rest) a w := by
  obtain ⟨c, D, left, h1, h2, h3, h4⟩ := h
  refine wpList_next_ranges w hg it hop 9 law9 hold Value.string id (fun key kl hkey => by obtain ⟨x, rfl, _⟩ := keyOf_str_inv hkey; exact ⟨x, rfl⟩) (fun v _ _ => ⟨v, rfl⟩) m r c D left cnt hit h1 (fun _ hl => hDone (fun n hn => by rw [← h3 n hn]; exact hl _)) ?_
  intro x v kl y w' cnt' hkey hlk hv hat hrg hlt hgr hsz hen
  obtain ⟨x', ex, rfl⟩ := keyOf_str_inv hkey
  cases ex
  obtain ⟨s, hs, e⟩ := h2.keys _ (h4 _ hlk)
  obtain rfl := ks_inj e
  have hh : has D (ks x) = true := h4 _ hlk
  obtain ⟨u, hu⟩ : ∃ u, f x = some u := by
    have := h2.has x hs
    rw [hh] at this
    exact Option.isSome_iff_exists.1 this.symm
  have hvu : v = u := by
    have h5 := h2.at' x u hs hu .nil
    have h6 := hat .nil
    rw [h5] at h6
    simp [hold] at hv
    rw [← hv] at h6
    cases h6; rfl
  subst hvu
  refine hMore x v w' cnt' hs (by rw [← h3 x hs]; exact hlk) hu ⟨c, D, _, hrg, h2, fun j hj => ?_, fun k hk => ?_⟩ hlt hgr hsz hen
  · unfold updG
    by_cases e : j = x
    · subst e
      rw [if_pos rfl, WideAt.sameKey_self (ks_key hj)]; simp
    · rw [if_neg e, ← h3 j hj, sameKey_ne (fun he => e (ks_inj he))]; simp
  · simp at hk
    exact h4 k hk.1
end Go.Proofs.YtlnjnimenihhnaaGreatDoor

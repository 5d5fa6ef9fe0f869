/-
  slices.Sorted(maps.Keys(m)) at a map of the log's blocks.
-/
import Derived.Test.YtnnaemlipahamaaGreatKeys
namespace Go.Proofs
open Go.Shelf
def Tryz.keysB_ren : Go.Shelf.Ren := ⟨fun | 7 => 72 | 10 => 104 | n => n, fun | 23 => 81 | 26 => 3 | 3 => 33 | 28 => 132 | 0 => 0 | 27 => 131 | 33 => 124 | 4 => 4 | n => n, fun | n => n⟩
theorem Tryz.keysB : Go.Proofs.SlLaysZI.n7 Tryz.prog Tryz.keysB_ren := {
  mixed := by kernel_rfl
  f7 := ⟨Tryz.f72.name, by decide, Tryz.func72.trans (congrArg some (by kernel_rfl))⟩
  f10 := ⟨Tryz.f104.name, by decide, Tryz.func104.trans (congrArg some (by kernel_rfl))⟩
  t0 := Tryz.underlying0
  a0 := Tryz.isAgg0
  z0 := Tryz.sizeOf0
  v0 := Tryz.zeroValue0
  t4 := Tryz.underlying4
  a4 := Tryz.isAgg4
  z4 := Tryz.sizeOf4
  v4 := Tryz.zeroValue4
  t23 := Tryz.underlying81
  a23 := Tryz.isAgg81
  z23 := Tryz.sizeOf81
  v23 := Tryz.zeroValue81
  t26 := Tryz.underlying3
  a26 := Tryz.isAgg3
  z26 := Tryz.sizeOf3
  v26 := Tryz.zeroValue3
  t27 := Tryz.underlying131
  a27 := Tryz.isAgg131
  z27 := Tryz.sizeOf131
  v27 := Tryz.zeroValue131
  t28 := Tryz.underlying132
  a28 := Tryz.isAgg132
  z28 := Tryz.sizeOf132
  v28 := Tryz.zeroValue132
  t33 := Tryz.underlying124
  a33 := Tryz.isAgg124
  z33 := Tryz.sizeOf124
  v33 := Tryz.zeroValue124 }
end Go.Proofs

namespace Go.Proofs.YtnnaemlipahamaaGreat
open Go.RowKit Go.Maps Go.Sort Go.Shelf

theorem keysB_any (mb : Option Nat) (w : World) : Calls Tryz.prog 72 #[.map mb] w fun e w' => e = .returned (.func (.func 104) #[] #[.pointer (some ⟨w.heap.size, 0, none⟩)]) ∧ w' = w.alloc (.cells #[.map mb] 81) :=
  (callsIn_wide (n := 5)).1 (AnyZI.keys_in Tryz.keysB Fence.wide 5 trivial rfl mb w)

set_option maxHeartbeats 1000000 in
/-- slices.Sorted at what maps.Keys has handed back: a new slice of the keys, rising. -/
theorem sortedB_any (k m nb : Nat) (f : Nat → Option Value) (w : World) (hm : MapIs w m nb f) (hnb : nb ≤ 16384) (hk : w.heap[k]? = some (.cells #[.map (some m)] 81 (0, 0))) :
    Calls Tryz.prog 71 #[.func (.func 104) #[] #[.pointer (some ⟨k, 0, none⟩)]] w fun e w' => ∃ v, e = .returned v ∧ w'.ownsRow w.heap.size 3 1 v (keysOf nb f).length ((keysOf nb f).map fun n : Nat => Value.int .i64 (n : Int)) ∧ Below w.heap.size w w' := by
  obtain ⟨c, D, ho, hD⟩ := hm
  have hs := hD.size_le ho hnb
  have hkl : k < w.heap.size := (Array.getElem?_eq_some_iff.1 hk).1
  have hcell : w.cell? ⟨k, 0, none⟩ = some (.map (some m)) := by rw [cell_of_row w k 0 _ _ _ hk]; rfl
  have hseq : SeqGives Fence.wide 2 Tryz.prog 104 #[.pointer (some ⟨k, 0, none⟩)] encZ (fun ss => ss.Perm (intKeys D)) (Maps.size D) w :=
    AnyZI.keys_gives (ρ := Tryz.keysB_ren) { Tryz.keysB with } Fence.wide _ trivial rfl (by omega) k m c D _ hkl hcell ho
  have cS := AnyZI.sorted_in Tryz.sortedA Fence.wide 5 trivial trivial trivial trivial rfl (by omega) (sortsA _) (enters_of Tryz.func103 (by kernel_rfl) rfl) 104 #[.pointer (some ⟨k, 0, none⟩)] trivial (enters_of Tryz.func104 (by kernel_rfl) rfl) _ _ (by unfold maxLen; omega) (by omega) _ hseq
  change CallsIn _ _ Tryz.prog 71 _ _ _ at cS
  refine ((callsIn_wide (n := 5)).1 cS).mono ?_
  rintro e w' ⟨v, ss, rfl, hp, hrow, _, hb⟩
  rw [sorted_is ho hD hp] at hrow
  have hl : ss.length = (keysOf nb f).length := by
    have h1 := congrArg List.length (sorted_is ho hD hp)
    simpa using h1
  rw [hl] at hrow
  refine ⟨v, rfl, ?_, hb⟩
  rw [List.map_map] at hrow
  exact hrow
end Go.Proofs.YtnnaemlipahamaaGreat

namespace Go.Proofs.YtnnaemlipahamaaGreat
open Go.RowKit Go.Maps

theorem zeroB (w : World) : (zeroValue 33).run Tryz.prog w = .ok (.slice none 0 0) w := by kernel_rfl

theorem MapIs.lookB {w : World} {m nb n : Nat} {f : Nat → Option Value} (h : MapIs w m nb f) (hnb : nb ≤ 16384) (hn : n < nb) :
    (Instr.lookup 81 (.map (some m)) (.int .i64 (n : Int)) false).run Tryz.prog w = .ok ((f n).getD (.slice none 0 0)) w := by
  obtain ⟨c, D, ho, hD⟩ := h
  obtain ⟨v, ps, hrun, hv⟩ := ho.lookup law3 Tryz.underlying81 (zeroB w) (show hold (.slice none 0 0) = some (.held (.slice none 0 0), []) from rfl) (key3 (show n < 16384 by omega))
  rw [hrun]
  have e : DataW.held v = D.atKey (kn n) (.held (.slice none 0 0)) := by simpa [hold] using congrArg (Option.map Prod.fst) hv
  cases hf : f n with
  | some u =>
    rw [hD.at' n u hn hf] at e
    cases e; rfl
  | none =>
    have h0 := hD.has n hn
    rw [hf] at h0
    rw [atKey_of_not_has (by simpa using h0)] at e
    cases e; rfl

theorem MapIs.storeB {w : World} {m nb n : Nat} {f : Nat → Option Value} (h : MapIs w m nb f) (hnb : nb ≤ 16384) (hn : n < nb) (v : Value) :
    ∃ w', (Instr.mapUpdate 81 (.map (some m)) (.int .i64 (n : Int)) v).run Tryz.prog w = .ok () w' ∧ MapIs w' m nb (upd f n (some v)) ∧ w.grownBy w' (some m) ∧ w'.heap.size = w.heap.size := by
  obtain ⟨c, D, ho, hD⟩ := h
  have hs := hD.size_le ho hnb
  obtain ⟨w', hrun, ho', ht⟩ := (own_size ho).store law3 Tryz.underlying81 (by unfold maxLen; omega) (key3 (show n < 16384 by omega)) (show hold v = some (.held v, []) from rfl)
  refine ⟨w', hrun, ⟨_, _, ho', hD.put ho hnb hn v⟩, ht.grown, ?_⟩
  obtain ⟨_, _, _, _, _, rfl⟩ := ht
  simp [ChangeMaps.setBlock]

theorem MapIs.deleteB {w : World} {m nb n : Nat} {f : Nat → Option Value} (h : MapIs w m nb f) (hnb : nb ≤ 16384) (hn : n < nb) (ty : TypeId) :
    ∃ w', (Builtin.delete_ #[81, 3] ty #[.map (some m), .int .i64 (n : Int)]).run Tryz.prog w = .ok (.tuple #[]) w' ∧ MapIs w' m nb (upd f n none) ∧ w.grownBy w' (some m) ∧ w'.heap.size = w.heap.size ∧
      ∀ r g cnt, Rng w m r nb f g cnt → ∃ cnt', Rng w' m r nb (upd f n none) (upd g n false) cnt' ∧ cnt' ≤ cnt := by
  obtain ⟨c, D, ho, hD⟩ := h
  obtain ⟨w', hrun, ho', ht⟩ := ho.drop law3 Tryz.underlying81 (key3 (show n < 16384 by omega)) ty
  refine ⟨w', hrun, ⟨_, _, ho', hD.del⟩, ht.grown, ?_, ?_⟩
  · obtain ⟨_, _, _, _, _, rfl⟩ := ht
    simp [ChangeMaps.setBlock]
  · rintro r g cnt ⟨c2, D2, left, h1, h2, h3, h4⟩
    obtain ⟨w2, cnt', hrun2, r1, r2, _⟩ := h1.drop law3 Tryz.underlying81 (key3 (show n < 16384 by omega)) ty
    obtain rfl : w' = w2 := by rw [hrun] at hrun2; injection hrun2
    refine ⟨cnt', ⟨c2, _, _, r1, h2.del, fun j hj => ?_, fun k hk => ?_⟩, r2⟩
    · by_cases e : j = n
      · subst e; rw [upd_same, WideAt.sameKey_self (kn_key (by omega))]; simp
      · rw [upd_other _ _ e, ← h3 j hj, sameKey_ne (fun he => e (kn_inj he))]; simp
    · simp at hk
      have hne : k ≠ kn n := fun e => by
        have := hk.2; rw [e, WideAt.sameKey_self (kn_key (by omega))] at this; cases this
      rw [has_del_other hne]; exact h4 k hk.1

/-- 'range m' at the operation. -/
theorem wpList_range_isB (w : World) {ops : Array Oper} {rest : List Oper} {o : Oper} {a : Act} {Q : Exit → Act → World → Prop} (hg : o.guard = none) (x : Operand) (hop : o.op = Op.range 81 x) (m nb : Nat) (f : Nat → Option Value)
    (hm : a.eval x = .map (some m)) (h : MapIs w m nb f)
    (hK : ∀ w' cnt, Rng w' m w.heap.size nb f (fun n => (f n).isSome) cnt → w.grownBy w' none → w'.heap.size = w.heap.size + 1 → wpList Tryz.prog ops Q rest (a.put o.dst (.pointer (some ⟨w.heap.size, 0, none⟩))) w') :
    wpList Tryz.prog ops Q (o :: rest) a w := by
  obtain ⟨c, D, ho, hD⟩ := h
  exact wpList_range_own w hg x 81 hop 3 33 law3 Tryz.underlying81 hold m c D hm ho (fun w' h1 h2 h3 => hK w' _ ⟨c, D, _, h1, hD, fun n hn => hD.has n hn, fun k hk => hk⟩ h2 h3)


theorem MapIs.lookB2 {w : World} {m nb n : Nat} {f : Nat → Option Value} (h : MapIs w m nb f) (hnb : nb ≤ 16384) (hn : n < nb) :
    (Instr.lookup 81 (.map (some m)) (.int .i64 (n : Int)) true).run Tryz.prog w = .ok (.tuple #[(f n).getD (.slice none 0 0), .bool (f n).isSome]) w := by
  obtain ⟨c, D, ho, hD⟩ := h
  obtain ⟨v, ps, hrun, hv⟩ := ho.look_ok law3 Tryz.underlying81 (zeroB w) (show hold (.slice none 0 0) = some (.held (.slice none 0 0), []) from rfl) (key3 (show n < 16384 by omega))
  rw [hrun, hD.has n hn]
  have e : DataW.held v = D.atKey (kn n) (.held (.slice none 0 0)) := by simpa [hold] using congrArg (Option.map Prod.fst) hv
  cases hf : f n with
  | some u =>
    rw [hD.at' n u hn hf] at e
    cases e; rfl
  | none =>
    have h0 := hD.has n hn
    rw [hf] at h0
    rw [atKey_of_not_has (by simpa using h0)] at e
    cases e; rfl

theorem MapIs.size {w : World} {m c nb : Nat} {D : DataW Value} {f : Nat → Option Value} (ho : w.ownsMap Tryz.prog 3 hold m c D) (hD : MapD D nb f) : Maps.size D = (keysOf nb f).length := by
  have h1 := congrArg List.length (sorted_is ho hD (List.Perm.refl _))
  obtain ⟨es, rfl, hpw, hk⟩ := ho.entries law3
  have hint : ∀ p ∈ es, ∃ x, p.1 = .int .i64 x := fun p hpm => by
    obtain ⟨n, _, e⟩ := hD.keys p.1 (List.any_eq_true.2 ⟨p, hpm, WideAt.sameKey_self (hk p hpm)⟩)
    exact ⟨_, e⟩
  have h2 : (intKeys (.map es)).length = es.length := by
    have : ∀ l : List (Lit × DataW Value), (∀ p ∈ l, ∃ x, p.1 = .int .i64 x) → (intKeys (.map l)).length = l.length := by
      intro l
      induction l with
      | nil => intro _; rfl
      | cons p r ih =>
        intro hl
        obtain ⟨x, hx⟩ := hl p (by simp)
        have h3 := ih (fun q hq => hl q (by simp [hq]))
        obtain ⟨p1, p2⟩ := p
        simp only at hx
        subst hx
        unfold intKeys at h3 ⊢
        simp at h3 ⊢
    exact this es hint
  simp at h1
  simp [Maps.size]
  omega
theorem MapIs.lenB {w : World} {m nb : Nat} {f : Nat → Option Value} (h : MapIs w m nb f) (ty : TypeId) :
    (Builtin.len_ #[81] ty #[.map (some m)]).run Tryz.prog w = .ok (.int .i64 ((keysOf nb f).length : Int)) w := by
  obtain ⟨c, D, ho, hD⟩ := h
  rw [ho.len Tryz.underlying81 ty, MapIs.size ho hD]
end Go.Proofs.YtnnaemlipahamaaGreat

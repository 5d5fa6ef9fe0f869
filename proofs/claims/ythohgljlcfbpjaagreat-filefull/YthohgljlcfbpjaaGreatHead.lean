/-
  The contract of layHead of package wal: new memory that holds the head which names the given blocks.
-/
import Derived.Test.YthohgljlcfbpjaaGreatFixed
import Derived.Test.YthohgljlcfbpjaaGreatReader
import Derived.Test.YthohgljlcfbpjaaGreatSync
import Derived.Lib.SlBytesConst
import Derived.Test.YthohgljlcfbpjaaGreatKeys
import Derived.Test.YthohgljlcfbpjaaGreatHelp
namespace Go.Proofs.YthohgljlcfbpjaaGreat
open Go.RowKit Go.Maps

/-- A writer that was made since w0; nothing that was there has changed. -/
structure WrN (w0 w : World) (p : Nat) (v : Value) (xs : List Int) : Prop where
  wr : Wr w0.heap.size w p v xs
  chg : Chg (fun _ => False) w0 w
theorem WrN.step {w0 w w' : World} {p : Nat} {v v' : Value} {xs xs' : List Int} (h : WrN w0 w p v xs) (t : WrTo w0.heap.size p w v w' v' xs') : WrN w0 w' p v' xs' := by
  refine ⟨t.wr, h.chg.trans t.chg (fun i hi e => ?_)⟩
  rcases e with e | e
  · have := h.wr.le; omega
  · have := (h.wr.own.lt i e).1; omega
theorem WrN.alloc {w0 w : World} {p : Nat} {v : Value} {xs : List Int} (h : WrN w0 w p v xs) (o : Obj) : WrN w0 (w.alloc o) p v xs :=
  ⟨⟨h.wr.le, (Below.heap_alloc w o p h.wr.lt).trans h.wr.blk, h.wr.own.alloc o, h.wr.ne⟩, h.chg.trans (Chg.alloc (fun _ => False) w o) (fun _ _ h => h)⟩
theorem WrN.chgd {w0 w w' : World} {p : Nat} {v : Value} {xs : List Int} (h : WrN w0 w p v xs) (hc : Chg (fun _ => False) w w') : WrN w0 w' p v xs :=
  ⟨⟨h.wr.le, (hc.block p h.wr.lt (fun h => h)).trans h.wr.blk, own_same h.wr.own (fun g hg => hc.block g (h.wr.own.lt g hg).2 (fun h => h)), h.wr.ne⟩, h.chg.trans hc (fun _ _ h => h)⟩

/-- Bytes that stand in the text. -/
theorem Bs.lit (w : World) (xs : List Int) (fr : Nat × Nat) (hl : xs.length ≤ maxLen) : Bs (w.alloc (.cells (bcells xs).toArray 5 fr)) (.slice (some ⟨w.heap.size, 0, none⟩) xs.length xs.length) xs := by
  refine .inr ⟨⟨w.heap.size, 0, none⟩, xs.length, rfl, Nat.le_refl _, hl, fun j hj => ?_⟩
  have e : (⟨w.heap.size, 0, none⟩ : Addr).add j = ⟨w.heap.size, j, none⟩ := by unfold Addr.add; split <;> simp_all
  rw [e, cell_of_row _ _ _ _ _ _ (heap_alloc_new w _)]
  simp [bcells, List.getD, hj]
theorem Bs.mark (w : World) : Bs (w.alloc (.cells #[.int .u8 109, .int .u8 97, .int .u8 105, .int .u8 108, .int .u8 98, .int .u8 97, .int .u8 103, .int .u8 32, .int .u8 108, .int .u8 111, .int .u8 103, .int .u8 32, .int .u8 49] 5 (13, 14))) (.slice (some ⟨w.heap.size, 0, none⟩) 13 13) markB :=
  Bs.lit w markB (13, 14) (by unfold maxLen markB; decide)
theorem fixB_mark : fixB markB 13 = markB := by decide
theorem numsB_len : ∀ hs : List Nat, (numsB hs).length = 2 * hs.length
  | [] => rfl
  | n :: hs => by
    have := numsB_len hs
    unfold numsB at this ⊢
    rw [List.flatMap_cons, List.length_append, this, leTo_len, List.length_cons]; omega
theorem numsB_take (hs : List Nat) {i n : Nat} (h : hs[i]? = some n) : numsB (hs.take (i + 1)) = numsB (hs.take i) ++ leTo (n : Int) 2 := by
  have e : hs.take (i + 1) = hs.take i ++ [n] := by rw [List.take_add_one, h]; rfl
  rw [e]; simp [numsB]

set_option maxHeartbeats 1600000 in
set_option maxRecDepth 100000 in
theorem layHead_any (v : Value) (hs : List Nat) (w : World) (hi : Is w v (hs.map fun n : Nat => (n : Int))) (hl : hs.length ≤ 63) :
    Calls Tryz.prog 60 #[v] w fun e w' => ∃ u, e = .returned u ∧ w'.ownsRow w.heap.size 5 1 u 512 (bcells (headB hs)) ∧ Chg (fun _ => False) w w' := by
  obtain ⟨va, vc, rfl, hvc⟩ := hi.form
  rw [List.length_map] at hvc ⊢
  have kc := fun (w : World) (C : Array Value) (n c : Nat) => Lib.run_convert_bytes_const (P := Tryz.prog) w 33 5 C n c Tryz.underlying33 Tryz.underlying5
  go_enter Tryz.func60, Tryz.ntmps60
  go_wp2_with fail
  refine (newWriter_any w.heap.size w (Nat.le_refl _)).mono ?_
  rintro e w1 ⟨rfl, h1, rfl⟩
  have W1 : WrN w (w.alloc (.cells #[.slice none 0 0] 172)) w.heap.size (.slice none 0 0) [] := ⟨h1, Chg.alloc _ _ _⟩
  clear h1
  obtain ⟨w1, hw1⟩ : ∃ w1, w.alloc (.cells #[.slice none 0 0] 172) = w1 := ⟨_, rfl⟩
  rw [hw1] at W1 ⊢
  clear hw1
  have HB := Bs.mark w1
  have W2 := W1.alloc (.cells #[.int .u8 109, .int .u8 97, .int .u8 105, .int .u8 108, .int .u8 98, .int .u8 97, .int .u8 103, .int .u8 32, .int .u8 108, .int .u8 111, .int .u8 103, .int .u8 32, .int .u8 49] 5 (13, 14))
  go_wp2_with fail
  refine (fixed_any w.heap.size w.heap.size _ _ 13 [] markB _ W2.wr HB (by simp)).mono ?_
  rintro e w2 ⟨rfl, v2, t2⟩
  rw [fixB_mark, List.nil_append] at t2
  have W3 := W2.step t2
  clear t2 W2 HB W1 kc
  have hml : markB.length = 13 := rfl
  have HI : Hid (Is w (.slice va hs.length vc) (hs.map fun n : Nat => (n : Int))) := by rw [List.length_map] at hi; exact hi
  clear hi
  go_wp2_with fail
  refine (u16_any w.heap.size w.heap.size (hs.length : Int) v2 markB _ W3.wr (by rw [hml]; omega)).mono ?_
  rintro e w4 ⟨rfl, v4, t4⟩
  have W4 := W3.step t4
  clear t4 W3
  obtain ⟨pre, hpre⟩ : ∃ pre, markB ++ leTo (hs.length : Int) 2 = pre := ⟨_, rfl⟩
  have hpl : pre.length = 15 := by rw [← hpre, List.length_append, leTo_len]; rfl
  rw [hpre] at W4
  have HP : Hid (markB ++ leTo (hs.length : Int) 2 = pre) := hpre
  have HL : Hid (pre.length = 15) := hpl
  have HW : Hid (WrN w w4 w.heap.size v4 pre) := W4
  clear hpre hpl hml W4
  go_wp2
  go_loopw [5, 18] (fun _ x wr => ∃ i : Nat, i ≤ hs.length ∧ x = .int .i64 (i : Int) ∧ ∃ v', Hid (WrN w wr w.heap.size v' (pre ++ numsB (hs.take i)))) (fun _ x _ => hs.length - (intOf x).toNat)
  case atStart => exact ⟨0, Nat.zero_le _, rfl, v4, by simpa [numsB] using HW⟩
  case round =>
    obtain ⟨i, hile, rfl, v', HV⟩ := hrel
    clear HW
    have hnl : (pre ++ numsB (hs.take i)).length ≤ 1000 := by rw [List.length_append, HL.out, numsB_len, List.length_take]; omega
    have HNL : Hid ((pre ++ numsB (hs.take i)).length ≤ 1000) := hnl
    clear hnl
    by_cases hlt : i < hs.length
    · obtain ⟨n, hn⟩ : ∃ n, hs[i]? = some n := ⟨hs[i], List.getElem?_eq_getElem hlt⟩
      have his : Is wr (.slice va hs.length vc) (hs.map fun n : Nat => (n : Int)) := HI.out.kept HV.out.chg (fun _ _ h => h)
      obtain ⟨b, off, rfl, hcs⟩ := his.nth (j := i) (by simpa using hlt)
      have hc := hcs i (by simpa using hlt)
      have hg : (hs.map fun n : Nat => (n : Int)).getD i 0 = (n : Int) := by simp [List.getD, hn]
      rw [hg] at hc
      have hki : (i : Int) < (hs.length : Int) := by omega
      have HN : Hid (hs[i]? = some n) := hn
      clear hcs his hg hn
      go_wp2_with fail
      refine (u16_any w.heap.size w.heap.size (n : Int) v' _ _ HV.out.wr (by have := HNL.out; omega)).mono ?_
      rintro e w5 ⟨rfl, v5, t5⟩
      have HV5 : Hid (WrN w w5 w.heap.size v5 (pre ++ numsB (hs.take (i + 1)))) := by
        have := HV.out.step t5
        rw [List.append_assoc, ← numsB_take hs HN.out] at this
        exact this
      clear t5 HV hc
      go_wp2
      go_roundw
      case rel => exact ⟨i + 1, by omega, by go_num, v5, HV5⟩
      case measure => simp [intOf]; omega
    · have hie : i = hs.length := by omega
      subst hie
      rw [List.take_length] at HV HNL
      have hki : ¬ ((hs.length : Int) < (hs.length : Int)) := by omega
      have hwz : w.heap.size ≤ wr.heap.size := HV.out.chg.size
      go_wp2_with fail
      refine (newWriter_any w.heap.size wr hwz).mono ?_
      rintro e w6 ⟨rfl, h6, rfl⟩
      have W6 : WrN w (wr.alloc (.cells #[.slice none 0 0] 172)) wr.heap.size (.slice none 0 0) [] := ⟨h6, HV.out.chg.trans (Chg.alloc (fun _ => False) _ _) (fun _ _ h => h)⟩
      have W5 := HV.out.alloc (.cells #[.slice none 0 0] 172)
      clear h6 HV
      obtain ⟨w6, hw6⟩ : ∃ w6, wr.alloc (.cells #[.slice none 0 0] 172) = w6 := ⟨_, rfl⟩
      rw [hw6] at W6 W5 ⊢
      clear hw6
      go_wp2_with fail
      refine (done_any w.heap.size w.heap.size v' _ _ W5.wr (by have := HNL.out; omega)).mono ?_
      rintro e w7 ⟨u, rfl, hF⟩
      have W7 := W6.chgd hF.2.1
      have hub := Bs.ofOwns hF.1
      clear hF W5 W6
      go_wp2_with fail
      refine (fixed_any w.heap.size wr.heap.size _ u 512 [] _ _ W7.wr hub (by simp)).mono ?_
      rintro e w8 ⟨rfl, v8, t8⟩
      have W8 := W7.step t8
      have e8 : [] ++ fixB (pre ++ numsB hs) 512 = headB hs := by rw [List.nil_append, ← HP.out]; rfl
      rw [e8] at W8
      clear t8 W7 hub e8
      go_wp2_with fail
      refine (done_any w.heap.size wr.heap.size v8 _ _ W8.wr (by rw [headB_len]; omega)).mono ?_
      rintro e w9 ⟨u9, rfl, h9⟩
      have HQ : Hid (w9.ownsRow w.heap.size 5 1 u9 512 (bcells (headB hs)) ∧ Chg (fun _ => False) w w9) := by
        have h := h9.1
        rw [headB_len] at h
        exact ⟨h, W8.chg.trans h9.2.1 (fun _ _ h => h)⟩
      clear h9 W8
      go_wp2
      go_ret
      exact ⟨u9, rfl, HQ.out⟩
end Go.Proofs.YthohgljlcfbpjaaGreat

namespace Go.Proofs
open Go.Shelf
def Tryz.keysB_ren : Go.Shelf.Ren := ⟨fun | 7 => 75 | 10 => 107 | n => n, fun | 23 => 83 | 26 => 3 | 3 => 33 | 28 => 133 | 0 => 0 | 27 => 132 | 33 => 125 | 4 => 4 | n => n, fun | n => n⟩
theorem Tryz.keysB : Go.Proofs.SlLaysZI.n7 Tryz.prog Tryz.keysB_ren := {
  mixed := by kernel_rfl
  f7 := ⟨Tryz.f75.name, by decide, Tryz.func75.trans (congrArg some (by kernel_rfl))⟩
  f10 := ⟨Tryz.f107.name, by decide, Tryz.func107.trans (congrArg some (by kernel_rfl))⟩
  t0 := Tryz.underlying0
  a0 := Tryz.isAgg0
  z0 := Tryz.sizeOf0
  v0 := Tryz.zeroValue0
  t4 := Tryz.underlying4
  a4 := Tryz.isAgg4
  z4 := Tryz.sizeOf4
  v4 := Tryz.zeroValue4
  t23 := Tryz.underlying83
  a23 := Tryz.isAgg83
  z23 := Tryz.sizeOf83
  v23 := Tryz.zeroValue83
  t26 := Tryz.underlying3
  a26 := Tryz.isAgg3
  z26 := Tryz.sizeOf3
  v26 := Tryz.zeroValue3
  t27 := Tryz.underlying132
  a27 := Tryz.isAgg132
  z27 := Tryz.sizeOf132
  v27 := Tryz.zeroValue132
  t28 := Tryz.underlying133
  a28 := Tryz.isAgg133
  z28 := Tryz.sizeOf133
  v28 := Tryz.zeroValue133
  t33 := Tryz.underlying125
  a33 := Tryz.isAgg125
  z33 := Tryz.sizeOf125
  v33 := Tryz.zeroValue125 }
end Go.Proofs

namespace Go.Proofs.YthohgljlcfbpjaaGreat
open Go.RowKit Go.Maps Go.Sort Go.Shelf

theorem keysB_any (mb : Option Nat) (w : World) : Calls Tryz.prog 75 #[.map mb] w fun e w' => e = .returned (.func (.func 107) #[] #[.pointer (some ⟨w.heap.size, 0, none⟩)]) ∧ w' = w.alloc (.cells #[.map mb] 83) :=
  (callsIn_wide (n := 5)).1 (AnyZI.keys_in Tryz.keysB Fence.wide 5 trivial rfl mb w)

set_option maxHeartbeats 1000000 in
/-- slices.Sorted at what maps.Keys has handed back: a new slice of the keys, rising. -/
theorem sortedB_any (k m nb : Nat) (f : Nat → Option Value) (w : World) (hm : MapIs w m nb f) (hnb : nb ≤ 16384) (hk : w.heap[k]? = some (.cells #[.map (some m)] 83 (0, 0))) :
    Calls Tryz.prog 74 #[.func (.func 107) #[] #[.pointer (some ⟨k, 0, none⟩)]] w fun e w' => ∃ v, e = .returned v ∧ w'.ownsRow w.heap.size 3 1 v (keysOf nb f).length ((keysOf nb f).map fun n : Nat => Value.int .i64 (n : Int)) ∧ Below w.heap.size w w' := by
  obtain ⟨c, D, ho, hD⟩ := hm
  have hs := hD.size_le ho hnb
  have hkl : k < w.heap.size := (Array.getElem?_eq_some_iff.1 hk).1
  have hcell : w.cell? ⟨k, 0, none⟩ = some (.map (some m)) := by rw [cell_of_row w k 0 _ _ _ hk]; rfl
  have hseq : SeqGives Fence.wide 2 Tryz.prog 107 #[.pointer (some ⟨k, 0, none⟩)] encZ (fun ss => ss.Perm (intKeys D)) (Maps.size D) w :=
    AnyZI.keys_gives (ρ := Tryz.keysB_ren) { Tryz.keysB with } Fence.wide _ trivial rfl (by omega) k m c D _ hkl hcell ho
  have cS := AnyZI.sorted_in Tryz.sortedA Fence.wide 5 trivial trivial trivial trivial rfl (by omega) (sortsA _) (enters_of Tryz.func106 (by kernel_rfl) rfl) 107 #[.pointer (some ⟨k, 0, none⟩)] trivial (enters_of Tryz.func107 (by kernel_rfl) rfl) _ _ (by unfold maxLen; omega) (by omega) _ hseq
  change CallsIn _ _ Tryz.prog 74 _ _ _ at cS
  refine ((callsIn_wide (n := 5)).1 cS).mono ?_
  rintro e w' ⟨v, ss, rfl, hp, hrow, _, hb⟩
  rw [sorted_is ho hD hp] at hrow
  have hl : ss.length = (keysOf nb f).length := by
    have h1 := congrArg List.length (sorted_is ho hD hp)
    simpa using h1
  rw [hl] at hrow
  refine ⟨v, rfl, ?_, hb⟩
  rw [List.map_map] at hrow
  exact hrow
end Go.Proofs.YthohgljlcfbpjaaGreat

namespace Go.Proofs.YthohgljlcfbpjaaGreat
open Go.RowKit Go.Maps

theorem zeroB (w : World) : (zeroValue 33).run Tryz.prog w = .ok (.slice none 0 0) w := by kernel_rfl

theorem MapIs.lookB {w : World} {m nb n : Nat} {f : Nat → Option Value} (h : MapIs w m nb f) (hnb : nb ≤ 16384) (hn : n < nb) :
    (Instr.lookup 83 (.map (some m)) (.int .i64 (n : Int)) false).run Tryz.prog w = .ok ((f n).getD (.slice none 0 0)) w := by
  obtain ⟨c, D, ho, hD⟩ := h
  obtain ⟨v, ps, hrun, hv⟩ := ho.lookup law3 Tryz.underlying83 (zeroB w) (show hold (.slice none 0 0) = some (.held (.slice none 0 0), []) from rfl) (key3 (show n < 16384 by omega))
  rw [hrun]
  have e : DataW.held v = D.atKey (kn n) (.held (.slice none 0 0)) := by simpa [hold] using congrArg (Option.map Prod.fst) hv
  cases hf : f n with
  | some u =>
    rw [hD.at' n u hn hf] at e
    cases e; rfl
  | none =>
    have h0 := hD.has n hn
    rw [hf] at h0
    rw [atKey_of_not_has (by simpa using h0)] at e
    cases e; rfl

theorem MapIs.storeB {w : World} {m nb n : Nat} {f : Nat → Option Value} (h : MapIs w m nb f) (hnb : nb ≤ 16384) (hn : n < nb) (v : Value) :
    ∃ w', (Instr.mapUpdate 83 (.map (some m)) (.int .i64 (n : Int)) v).run Tryz.prog w = .ok () w' ∧ MapIs w' m nb (upd f n (some v)) ∧ w.grownBy w' (some m) ∧ w'.heap.size = w.heap.size := by
  obtain ⟨c, D, ho, hD⟩ := h
  have hs := hD.size_le ho hnb
  obtain ⟨w', hrun, ho', ht⟩ := (own_size ho).store law3 Tryz.underlying83 (by unfold maxLen; omega) (key3 (show n < 16384 by omega)) (show hold v = some (.held v, []) from rfl)
  refine ⟨w', hrun, ⟨_, _, ho', hD.put ho hnb hn v⟩, ht.grown, ?_⟩
  obtain ⟨_, _, _, _, _, rfl⟩ := ht
  simp [ChangeMaps.setBlock]

theorem MapIs.deleteB {w : World} {m nb n : Nat} {f : Nat → Option Value} (h : MapIs w m nb f) (hnb : nb ≤ 16384) (hn : n < nb) (ty : TypeId) :
    ∃ w', (Builtin.delete_ #[83, 3] ty #[.map (some m), .int .i64 (n : Int)]).run Tryz.prog w = .ok (.tuple #[]) w' ∧ MapIs w' m nb (upd f n none) ∧ w.grownBy w' (some m) ∧ w'.heap.size = w.heap.size ∧
      ∀ r g cnt, Rng w m r nb f g cnt → ∃ cnt', Rng w' m r nb (upd f n none) (upd g n false) cnt' ∧ cnt' ≤ cnt := by
  obtain ⟨c, D, ho, hD⟩ := h
  obtain ⟨w', hrun, ho', ht⟩ := ho.drop law3 Tryz.underlying83 (key3 (show n < 16384 by omega)) ty
  refine ⟨w', hrun, ⟨_, _, ho', hD.del⟩, ht.grown, ?_, ?_⟩
  · obtain ⟨_, _, _, _, _, rfl⟩ := ht
    simp [ChangeMaps.setBlock]
  · rintro r g cnt ⟨c2, D2, left, h1, h2, h3, h4⟩
    obtain ⟨w2, cnt', hrun2, r1, r2, _⟩ := h1.drop law3 Tryz.underlying83 (key3 (show n < 16384 by omega)) ty
    obtain rfl : w' = w2 := by rw [hrun] at hrun2; injection hrun2
    refine ⟨cnt', ⟨c2, _, _, r1, h2.del, fun j hj => ?_, fun k hk => ?_⟩, r2⟩
    · by_cases e : j = n
      · subst e; rw [upd_same, WideAt.sameKey_self (kn_key (by omega))]; simp
      · rw [upd_other _ _ e, ← h3 j hj, sameKey_ne (fun he => e (kn_inj he))]; simp
    · simp at hk
      have hne : k ≠ kn n := fun e => by
        have := hk.2; rw [e, WideAt.sameKey_self (kn_key (by omega))] at this; cases this
      rw [has_del_other hne]; exact h4 k hk.1

/-- 'range m' at the operation. -/
theorem wpList_range_isB (w : World) {ops : Array Oper} {rest : List Oper} {o : Oper} {a : Act} {Q : Exit → Act → World → Prop} (hg : o.guard = none) (x : Operand) (hop : o.op = Op.range 83 x) (m nb : Nat) (f : Nat → Option Value)
    (hm : a.eval x = .map (some m)) (h : MapIs w m nb f)
    (hK : ∀ w' cnt, Rng w' m w.heap.size nb f (fun n => (f n).isSome) cnt → w.grownBy w' none → w'.heap.size = w.heap.size + 1 → wpList Tryz.prog ops Q rest (a.put o.dst (.pointer (some ⟨w.heap.size, 0, none⟩))) w') :
    wpList Tryz.prog ops Q (o :: rest) a w := by
  obtain ⟨c, D, ho, hD⟩ := h
  exact wpList_range_own w hg x 83 hop 3 33 law3 Tryz.underlying83 hold m c D hm ho (fun w' h1 h2 h3 => hK w' _ ⟨c, D, _, h1, hD, fun n hn => hD.has n hn, fun k hk => hk⟩ h2 h3)


theorem MapIs.lookB2 {w : World} {m nb n : Nat} {f : Nat → Option Value} (h : MapIs w m nb f) (hnb : nb ≤ 16384) (hn : n < nb) :
    (Instr.lookup 83 (.map (some m)) (.int .i64 (n : Int)) true).run Tryz.prog w = .ok (.tuple #[(f n).getD (.slice none 0 0), .bool (f n).isSome]) w := by
  obtain ⟨c, D, ho, hD⟩ := h
  obtain ⟨v, ps, hrun, hv⟩ := ho.look_ok law3 Tryz.underlying83 (zeroB w) (show hold (.slice none 0 0) = some (.held (.slice none 0 0), []) from rfl) (key3 (show n < 16384 by omega))
  rw [hrun, hD.has n hn]
  have e : DataW.held v = D.atKey (kn n) (.held (.slice none 0 0)) := by simpa [hold] using congrArg (Option.map Prod.fst) hv
  cases hf : f n with
  | some u =>
    rw [hD.at' n u hn hf] at e
    cases e; rfl
  | none =>
    have h0 := hD.has n hn
    rw [hf] at h0
    rw [atKey_of_not_has (by simpa using h0)] at e
    cases e; rfl

theorem MapIs.size {w : World} {m c nb : Nat} {D : DataW Value} {f : Nat → Option Value} (ho : w.ownsMap Tryz.prog 3 hold m c D) (hD : MapD D nb f) : Maps.size D = (keysOf nb f).length := by
  have h1 := congrArg List.length (sorted_is ho hD (List.Perm.refl _))
  obtain ⟨es, rfl, hpw, hk⟩ := ho.entries law3
  have hint : ∀ p ∈ es, ∃ x, p.1 = .int .i64 x := fun p hpm => by
    obtain ⟨n, _, e⟩ := hD.keys p.1 (List.any_eq_true.2 ⟨p, hpm, WideAt.sameKey_self (hk p hpm)⟩)
    exact ⟨_, e⟩
  have h2 : (intKeys (.map es)).length = es.length := by
    have : ∀ l : List (Lit × DataW Value), (∀ p ∈ l, ∃ x, p.1 = .int .i64 x) → (intKeys (.map l)).length = l.length := by
      intro l
      induction l with
      | nil => intro _; rfl
      | cons p r ih =>
        intro hl
        obtain ⟨x, hx⟩ := hl p (by simp)
        have h3 := ih (fun q hq => hl q (by simp [hq]))
        obtain ⟨p1, p2⟩ := p
        simp only at hx
        subst hx
        unfold intKeys at h3 ⊢
        simp at h3 ⊢
    exact this es hint
  simp at h1
  simp [Maps.size]
  omega
theorem MapIs.lenB {w : World} {m nb : Nat} {f : Nat → Option Value} (h : MapIs w m nb f) (ty : TypeId) :
    (Builtin.len_ #[83] ty #[.map (some m)]).run Tryz.prog w = .ok (.int .i64 ((keysOf nb f).length : Int)) w := by
  obtain ⟨c, D, ho, hD⟩ := h
  rw [ho.len Tryz.underlying83 ty, MapIs.size ho hD]
end Go.Proofs.YthohgljlcfbpjaaGreat

namespace Go.Proofs.YthohgljlcfbpjaaGreat
open Go.RowKit Go.Maps

/-- What a map of blocks holds. -/
def vf (f : Nat → Option (List Int)) (V : Nat → Value) (n : Nat) : Option Value := if (f n).isSome then some (V n) else none
theorem vf_none {f : Nat → Option (List Int)} {V : Nat → Value} {n : Nat} (h : f n = none) : vf f V n = none := by simp [vf, h]
theorem vf_some {f : Nat → Option (List Int)} {V : Nat → Value} {n : Nat} {b : List Int} (h : f n = some b) : vf f V n = some (V n) := by simp [vf, h]
theorem vf_upd (f : Nat → Option (List Int)) (V : Nat → Value) (n : Nat) (b : List Int) (v : Value) : vf (upd f n (some b)) (upd V n v) = upd (vf f V) n (some v) := by
  funext k
  by_cases e : k = n
  · subst e; simp [vf, upd_same]
  · simp [vf, upd_other _ _ e]
theorem vf_del (f : Nat → Option (List Int)) (V : Nat → Value) (n : Nat) : vf (upd f n none) V = upd (vf f V) n none := by
  funext k
  by_cases e : k = n
  · subst e; simp [vf, upd_same]
  · simp [vf, upd_other _ _ e]

/-- The map m of the blocks f; their bytes lie in blocks of G. -/
structure Mb (w : World) (G : Nat → Prop) (K m : Nat) (f : Nat → Option (List Int)) (V : Nat → Value) : Prop where
  map : MapIs w m K (vf f V)
  row : ∀ n b, f n = some b → n < K ∧ b.length = 512 ∧ ∃ g c, V n = .slice (some ⟨g, 0, none⟩) 512 c ∧ w.ownsRow 0 5 1 (V n) 512 (bcells b) ∧ G g
  fm : G m
theorem Mb.kept {w w' : World} {G E : Nat → Prop} {K m : Nat} {f : Nat → Option (List Int)} {V : Nat → Value} (h : Mb w G K m f V) (hc : Chg E w w') (hm : ¬ E m) (hr : ∀ g, G g → (∃ cur, w.heap[g]? = some (.cells cur 5 (0, 0))) → ¬ E g) : Mb w' G K m f V := by
  refine ⟨h.map.kept (hc.block m h.map.lt hm), fun n b hb => ?_, h.fm⟩
  obtain ⟨h1, h2, g, c, e, ho, hg⟩ := h.row n b hb
  rw [e] at ho ⊢
  exact ⟨h1, h2, g, c, rfl, own_same ho (fun g' hg' => by cases hg'; exact hc.block g (ho.lt g rfl).2 (hr g hg (own_obj ho rfl))), hg⟩
theorem Mb.mono {w : World} {G G' : Nat → Prop} {K m : Nat} {f : Nat → Option (List Int)} {V : Nat → Value} (h : Mb w G K m f V) (hG : ∀ b, G b → G' b) : Mb w G' K m f V :=
  ⟨h.map, fun n b hb => by obtain ⟨h1, h2, g, c, e, ho, hg⟩ := h.row n b hb; exact ⟨h1, h2, g, c, e, ho, hG g hg⟩, hG _ h.fm⟩
theorem Mb.bs {w : World} {G : Nat → Prop} {K m n : Nat} {f : Nat → Option (List Int)} {V : Nat → Value} {b : List Int} (h : Mb w G K m f V) (hb : f n = some b) : Bs w (V n) b := by
  obtain ⟨h1, h2, g, c, e, ho, hg⟩ := h.row n b hb
  exact Bs.ofOwns (by rw [← h2] at ho; exact ho)

/-- The log at pl, over the disk at pd. -/
structure LgAt (w : World) (G : Nat → Prop) (pd pl K : Nat) (com : Nat → Option (List Int)) (pend : Nat) (ov : Value) (m : Nat) (V : Nat → Value) : Prop where
  blk : w.heap[pl]? = some (.cells #[.pointer (some ⟨pd, 0, none⟩), .map (some m), .int .i64 (pend : Int), ov] 85 (0, 0))
  mb : Mb w G K m com V
  fp : G pl
  lt : ∀ b, G b → b < w.heap.size
/-- A transaction of the log at pl. -/
structure TxAt (w : World) (G : Nat → Prop) (pl q K : Nat) (own : Nat → Option (List Int)) (wrote m : Nat) (V : Nat → Value) : Prop where
  blk : w.heap[q]? = some (.cells #[.pointer (some ⟨pl, 0, none⟩), .map (some m), .int .i64 (wrote : Int)] 87 (0, 0))
  mb : Mb w G K m own V
  fp : G q
  lt : ∀ b, G b → b < w.heap.size
section
variable {w w' : World} {G E : Nat → Prop} {pd pl q K : Nat} {com own : Nat → Option (List Int)} {pend wrote : Nat} {ov : Value} {m : Nat} {V : Nat → Value}
theorem LgAt.c0 (h : LgAt w G pd pl K com pend ov m V) : w.cell? ⟨pl, 0, none⟩ = some (.pointer (some ⟨pd, 0, none⟩)) := by rw [cell_of_row w pl 0 _ _ _ h.blk]; rfl
theorem LgAt.c1 (h : LgAt w G pd pl K com pend ov m V) : w.cell? ⟨pl, 1, none⟩ = some (.map (some m)) := by rw [cell_of_row w pl 1 _ _ _ h.blk]; rfl
theorem LgAt.c2 (h : LgAt w G pd pl K com pend ov m V) : w.cell? ⟨pl, 2, none⟩ = some (.int .i64 (pend : Int)) := by rw [cell_of_row w pl 2 _ _ _ h.blk]; rfl
theorem LgAt.c3 (h : LgAt w G pd pl K com pend ov m V) : w.cell? ⟨pl, 3, none⟩ = some ov := by rw [cell_of_row w pl 3 _ _ _ h.blk]; rfl
theorem LgAt.fr (h : LgAt w G pd pl K com pend ov m V) (i : Nat) : w.frozen? ⟨pl, i, none⟩ = false := by simp [World.frozen?, h.blk]
theorem LgAt.pl_lt (h : LgAt w G pd pl K com pend ov m V) : pl < w.heap.size := h.lt _ h.fp
theorem TxAt.c0 (h : TxAt w G pl q K own wrote m V) : w.cell? ⟨q, 0, none⟩ = some (.pointer (some ⟨pl, 0, none⟩)) := by rw [cell_of_row w q 0 _ _ _ h.blk]; rfl
theorem TxAt.c1 (h : TxAt w G pl q K own wrote m V) : w.cell? ⟨q, 1, none⟩ = some (.map (some m)) := by rw [cell_of_row w q 1 _ _ _ h.blk]; rfl
theorem TxAt.c2 (h : TxAt w G pl q K own wrote m V) : w.cell? ⟨q, 2, none⟩ = some (.int .i64 (wrote : Int)) := by rw [cell_of_row w q 2 _ _ _ h.blk]; rfl
theorem TxAt.fr (h : TxAt w G pl q K own wrote m V) (i : Nat) : w.frozen? ⟨q, i, none⟩ = false := by simp [World.frozen?, h.blk]
theorem LgAt.kept (h : LgAt w G pd pl K com pend ov m V) (hc : Chg E w w') (hE : ∀ b, G b → ¬ E b) : LgAt w' G pd pl K com pend ov m V :=
  ⟨(hc.block pl h.pl_lt (hE pl h.fp)).trans h.blk, h.mb.kept hc (hE m h.mb.fm) (fun g hg _ => hE g hg), h.fp, fun b hb => Nat.lt_of_lt_of_le (h.lt b hb) hc.size⟩
theorem TxAt.kept (h : TxAt w G pl q K own wrote m V) (hc : Chg E w w') (hE : ∀ b, G b → ¬ E b) : TxAt w' G pl q K own wrote m V :=
  ⟨(hc.block q (h.lt q h.fp) (hE q h.fp)).trans h.blk, h.mb.kept hc (hE m h.mb.fm) (fun g hg _ => hE g hg), h.fp, fun b hb => Nat.lt_of_lt_of_le (h.lt b hb) hc.size⟩
theorem LgAt.mono (h : LgAt w G pd pl K com pend ov m V) {G' : Nat → Prop} (hG : ∀ b, G b → G' b) (hl : ∀ b, G' b → b < w.heap.size) : LgAt w G' pd pl K com pend ov m V := ⟨h.blk, h.mb.mono hG, hG _ h.fp, hl⟩
theorem TxAt.mono (h : TxAt w G pl q K own wrote m V) {G' : Nat → Prop} (hG : ∀ b, G b → G' b) (hl : ∀ b, G' b → b < w.heap.size) : TxAt w G' pl q K own wrote m V := ⟨h.blk, h.mb.mono hG, hG _ h.fp, hl⟩
/-- Only the struct and the map of the log have changed: the transaction stays. -/
theorem TxAt.beside {mt : Nat} {Vt : Nat → Value} (h : TxAt w G pl q K own wrote mt Vt) (hl : LgAt w G pd pl K com pend ov m V) (hmm : mt ≠ m) (hc : Chg (fun b => b = pl ∨ b = m) w w') : TxAt w' G pl q K own wrote mt Vt := by
  have hql : q ≠ pl := fun e => by subst e; have := hl.blk; rw [h.blk] at this; simp at this
  obtain ⟨es, cl, hom⟩ := hl.mb.map.obj
  have hqm : q ≠ m := fun e => by subst e; rw [h.blk] at hom; simp at hom
  obtain ⟨et, ct, homt⟩ := h.mb.map.obj
  have hmp : mt ≠ pl := fun e => by subst e; rw [hl.blk] at homt; simp at homt
  refine ⟨(hc.block q (h.lt q h.fp) (fun e => by rcases e with e | e; exact hql e; exact hqm e)).trans h.blk, h.mb.kept hc (fun e => by rcases e with e | e; exact hmp e; exact hmm e) (fun g hg ⟨cur, ho⟩ e => ?_), h.fp, fun b hb => Nat.lt_of_lt_of_le (h.lt b hb) hc.size⟩
  rcases e with e | e
  · subst e; rw [hl.blk] at ho; simp at ho
  · subst e; rw [hom] at ho; simp at ho
end
end Go.Proofs.YthohgljlcfbpjaaGreat

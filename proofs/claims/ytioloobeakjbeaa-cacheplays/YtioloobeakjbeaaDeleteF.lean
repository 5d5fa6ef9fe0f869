/-
  The contract of slices.DeleteFunc at what Dirty of package cache hands it, and of Dirty.
-/
import Derived.Test.YtioloobeakjbeaaDirty
namespace Go.Proofs.Ytioloobeakjbeaa
open Go.RowKit Go.Maps

theorem setCells_row {g : Nat} {t : TypeId} : ∀ (vs : List Value) (o : Nat) (w : World) (cur : Array Value), w.heap[g]? = some (.cells cur t (0, 0)) → ∃ cur', (w.setCells g o vs).heap[g]? = some (.cells cur' t (0, 0)) ∧ cur'.size = cur.size ∧ ∀ k, k ≤ o → cur'.toList.take k = cur.toList.take k
  | [], _, _, cur, h => ⟨cur, h, rfl, fun _ _ => rfl⟩
  | v :: vs, o, w, cur, h => by
    have h1 := heap_setCell_same w g o _ _ v h
    obtain ⟨cur', h2, h3, h4⟩ := setCells_row vs (o + 1) _ _ h1
    refine ⟨cur', h2, by rw [h3]; simp, fun k hk => ?_⟩
    rw [h4 k (by omega)]
    simp only [Array.toList_setIfInBounds]
    rw [List.take_set_of_le (by omega)]
theorem setCells_chg {g : Nat} : ∀ (vs : List Value) (o : Nat) (w : World), Chg (fun b => b = g) w (w.setCells g o vs)
  | [], _, w => Chg.refl _ w
  | v :: vs, o, w => (Chg.setCell (S := fun b => b = g) w ⟨g, o, none⟩ v rfl).trans (setCells_chg vs (o + 1) _) (fun _ _ h => h)

/-- What stays of the first j. -/
def kept (C : Ca) (L : List Nat) (j : Nat) : List Nat := (L.take j).filter fun n => C.isDirty n
theorem kept_succ {C : Ca} {L : List Nat} {j : Nat} (h : j < L.length) : kept C L (j + 1) = kept C L j ++ (if C.isDirty (L.getD j 0) then [L.getD j 0] else []) := by
  unfold kept
  rw [List.take_add_one, List.filter_append]
  congr 1
  have : L[j]? = some (L.getD j 0) := by simp [List.getD, h]
  rw [this]
  generalize L.getD j 0 = x
  cases hd : C.isDirty x <;> simp [hd]
/-- The row on its way. -/
structure Way (C : Ca) (L : List Nat) (i j : Nat) (X : List Nat) : Prop where
  eq : ∃ M, X = kept C L j ++ M ++ L.drop j ∧ M.length + i = j ∧ 0 < M.length
  len : (kept C L j).length = i
theorem drop_head {L : List Nat} {j : Nat} (h : j < L.length) : L.drop j = L.getD j 0 :: L.drop (j + 1) := by
  rw [List.drop_eq_getElem_cons h]
  simp [List.getD, h]
theorem Way.skip {C : Ca} {L : List Nat} {i j : Nat} {X : List Nat} (h : Way C L i j X) (hj : j < L.length) (hd : C.isDirty (L.getD j 0) = false) : Way C L i (j + 1) X := by
  obtain ⟨⟨M, e, hm, h0⟩, hl⟩ := h
  refine ⟨⟨M ++ [L.getD j 0], ?_, by simp; omega, by simp⟩, ?_⟩
  · rw [e, kept_succ hj, hd, drop_head hj]; simp
  · rw [kept_succ hj, hd]; simpa using hl
theorem Way.keep {C : Ca} {L : List Nat} {i j : Nat} {X : List Nat} (h : Way C L i j X) (hj : j < L.length) (hd : C.isDirty (L.getD j 0) = true) : Way C L (i + 1) (j + 1) (X.set i (L.getD j 0)) := by
  obtain ⟨⟨M, e, hm, h0⟩, hl⟩ := h
  cases M with
  | nil => simp at h0
  | cons x M =>
    refine ⟨⟨M ++ [L.getD j 0], ?_, by simp at hm ⊢; omega, by simp⟩, ?_⟩
    · rw [e, kept_succ hj, hd, drop_head hj, ← hl]
      simp
    · rw [kept_succ hj, hd]; simp [hl]
theorem Way.at {C : Ca} {L : List Nat} {i j : Nat} {X : List Nat} (h : Way C L i j X) (hj : j < L.length) : X.length = L.length ∧ X.getD j 0 = L.getD j 0 ∧ i < j := by
  obtain ⟨⟨M, e, hm, h0⟩, hl⟩ := h
  have hp : (kept C L j ++ M).length = j := by rw [List.length_append]; omega
  refine ⟨?_, ?_, by omega⟩
  · rw [e, List.length_append, hp, List.length_drop]; omega
  · rw [e, List.getD_eq_getElem?_getD, List.getElem?_append_right (by omega), hp, Nat.sub_self, drop_head hj]; rfl

set_option maxHeartbeats 3200000 in
set_option maxRecDepth 100000 in
theorem deleteF_any (G : Nat → Prop) (c p nb : Nat) (C : Ca) (m r : Nat) (ls : List Nat) (nd : Nat → Node) (B N g cap : Nat) (L : List Nat) (w : World) (h : DirtW w G c p nb C m r ls nd B) (hL : ∀ n ∈ L, C.has n = true) (hl : L.length ≤ 1099511627776)
    (hown : w.ownsRow N 3 1 (.slice (some ⟨g, 0, none⟩) L.length cap) L.length (icells L)) (hgG : ¬ G g) (hgB : g ≠ B) :
    Calls Try.prog 48 #[.slice (some ⟨g, 0, none⟩) L.length cap, .func (.func 49) #[] #[.pointer (some ⟨B, 0, none⟩)]] w fun e w' => ∃ v, e = .returned v ∧ w'.ownsRow N 3 1 v (L.filter fun n => C.isDirty n).length (icells (L.filter fun n => C.isDirty n)) ∧ Chg (fun b => b = g) w w' := by
  have hcap : L.length ≤ cap := by
    rcases hown.2 with ⟨e, _⟩ | ⟨_, _, _, e, _, _, h1, _⟩
    · cases e
    · cases e; exact h1
  have hcells : ∀ (W : World) (X : List Nat), W.ownsRow N 3 1 (.slice (some ⟨g, 0, none⟩) L.length cap) L.length (icells X) → ∀ j, j < X.length → W.cell? ⟨g, j, none⟩ = some (.int .i64 ((X.getD j 0 : Nat) : Int)) := fun W X hW j hj => by
    have := hW.cells (g := g) rfl j _ (icells_get hj)
    rwa [add_zero_off] at this
  have HI := index_any G c p nb C m r ls nd B g cap L w h hL hl (hcells w L hown) hcap
  have HII : Hid _ := HI
  have HH : Hid (DirtW w G c p nb C m r ls nd B) := h
  have HL : Hid (∀ n ∈ L, C.has n = true) := hL
  have HO : Hid (w.ownsRow N 3 1 (.slice (some ⟨g, 0, none⟩) L.length cap) L.length (icells L)) := hown
  have HC : Hid (∀ (W : World) (X : List Nat), W.ownsRow N 3 1 (.slice (some ⟨g, 0, none⟩) L.length cap) L.length (icells X) → ∀ j, j < X.length → W.cell? ⟨g, j, none⟩ = some (.int .i64 ((X.getD j 0 : Nat) : Int))) := hcells
  have hzv := Try.zeroValue3
  clear h hL hown HI hcells
  go_enter Try.func48, Try.ntmps48
  go_wp2_with fail
  refine (show Calls _ _ _ _ _ from HII.out).mono ?_
  clear HII
  rintro e w1 ⟨hw1, hcase⟩
  subst hw1
  rcases hcase with ⟨rfl, hall⟩ | ⟨k, hk, rfl, hkd, hkb⟩
  · have HA : Hid (∀ n ∈ L, C.isDirty n = true) := hall
    clear hall
    go_wp2
    go_ret
    have e : (L.filter fun n => C.isDirty n) = L := List.filter_eq_self.2 (fun n hn => HA.out n hn)
    rw [e]
    exact ⟨_, rfl, HO.out, Chg.refl _ _⟩
  · have hne1 : ((k : Int) == -1) = false := beq_eq_false_iff_ne.2 (by omega)
    have HW0 : Hid (Way C L k (k + 1) L) := by
      have hkk : kept C L k = L.take k := List.filter_eq_self.2 (fun n hn => hkb n hn)
      have hks : kept C L (k + 1) = L.take k := by rw [kept_succ hk, hkd, hkk]; simp
      refine ⟨⟨[L.getD k 0], ?_, by simp; omega, by simp⟩, by rw [hks]; simp; omega⟩
      rw [hks]
      conv => lhs; rw [← List.take_append_drop k L, drop_head hk]
      simp
    clear hkd hkb
    go_wp2_with fail
    go_loopg [5, 6, 7] (L.length) (fun gg s5 s6 _ wr => ∃ (i j : Nat) (X : List Nat), s5 = .int .i64 (i : Int) ∧ s6 = .int .i64 (j : Int) ∧ j ≤ L.length ∧ i < j ∧ L.length - j ≤ gg ∧ Hid (Way C L i j X ∧ wr.ownsRow N 3 1 (.slice (some ⟨g, 0, none⟩) L.length cap) L.length (icells X) ∧ Chg (fun b => b = g) w1 wr))
    case atStart => exact ⟨k, k + 1, L, rfl, by go_num, by omega, by omega, by omega, HW0.out, HO.out, Chg.refl _ _⟩
    case round =>
      clear HW0 hne1 hk
      obtain ⟨i, j, X, rfl, rfl, hj, hij, hgg, HX⟩ := hrel
      by_cases hlt : j < L.length
      · have k1 : decide ((j : Int) < (L.length : Int)) = true := by simp; omega
        have k1' : (j : Int) < (L.length : Int) := by omega
        obtain ⟨hXl, hXj, _⟩ := HX.out.1.at hlt
        have cj := HC.out wr X HX.out.2.1 j (by rw [hXl]; exact hlt)
        have ci := HC.out wr X HX.out.2.1 i (by rw [hXl]; omega)
        rw [hXj] at cj
        have hmem : L.getD j 0 ∈ L := by
          have : L.getD j 0 = L[j] := by simp [List.getD, hlt]
          rw [this]; exact List.getElem_mem hlt
        have hDW : DirtW wr G c p nb C m r ls nd B := HH.out.kept HX.out.2.2 (fun b hb e => hgG (e ▸ hb)) (fun e => hgB e.symm)
        have hcall := dirty1_any G c p nb C m r ls nd B (L.getD j 0) wr hDW (HL.out _ hmem)
        have fi : wr.frozen? ⟨g, i, none⟩ = false := by
          obtain ⟨cu, hcu⟩ := own_obj HX.out.2.1 rfl
          simp [World.frozen?, hcu]
        have st := HX.out.2.1.stored i (.int .i64 ((L.getD j 0 : Nat) : Int))
        have hset : (icells X).set i (.int .i64 ((L.getD j 0 : Nat) : Int)) = icells (X.set i (L.getD j 0)) := by simp [icells, List.map_set]
        rw [hset] at st
        cases hd : C.isDirty (L.getD j 0) with
        | true =>
          have HN : Hid (Way C L (i + 1) (j + 1) (X.set i (L.getD j 0)) ∧ (wr.setCell ⟨g, i, none⟩ (.int .i64 ((L.getD j 0 : Nat) : Int))).ownsRow N 3 1 (.slice (some ⟨g, 0, none⟩) L.length cap) L.length (icells (X.set i (L.getD j 0))) ∧ Chg (fun b => b = g) w1 (wr.setCell ⟨g, i, none⟩ (.int .i64 ((L.getD j 0 : Nat) : Int)))) :=
            ⟨HX.out.1.keep hlt hd, st.1, HX.out.2.2.trans (Chg.setCell (S := fun b => b = g) _ _ _ rfl) (fun _ _ h => h)⟩
          rw [hd] at hcall
          have HCC : Hid _ := hcall
          generalize X.set i (L.getD j 0) = X' at *
          generalize ((L.getD j 0 : Nat) : Int) = nn at *
          generalize ((X.getD i 0 : Nat) : Int) = oo at *
          clear hcall st hset hd hDW hmem hXj hXl HX HH HL HO HC
          go_wp2_with fail
          refine (show Calls _ _ _ _ _ from HCC.out).mono ?_
          rintro e w2 ⟨rfl, rfl⟩
          clear HCC
          go_wp2
          go_roundg (L.length - (j + 1))
          case measure => omega
          case rel => exact ⟨i + 1, j + 1, X', by go_num, by go_num, by omega, by omega, Nat.le_refl _, HN.out⟩
        | false =>
          have HN : Hid (Way C L i (j + 1) X ∧ wr.ownsRow N 3 1 (.slice (some ⟨g, 0, none⟩) L.length cap) L.length (icells X) ∧ Chg (fun b => b = g) w1 wr) := ⟨HX.out.1.skip hlt hd, HX.out.2⟩
          rw [hd] at hcall
          have HCC : Hid _ := hcall
          generalize ((L.getD j 0 : Nat) : Int) = nn at *
          clear hcall st hset hd hDW hmem hXj hXl HX HH HL HO HC ci fi
          go_wp2_with fail
          refine (show Calls _ _ _ _ _ from HCC.out).mono ?_
          rintro e w2 ⟨rfl, rfl⟩
          clear HCC
          go_wp2
          go_roundg (L.length - (j + 1))
          case measure => omega
          case rel => exact ⟨i, j + 1, X, rfl, by go_num, by omega, by omega, Nat.le_refl _, HN.out⟩
      · have hje : j = L.length := by omega
        subst hje
        have k1 : decide ((L.length : Int) < (L.length : Int)) = false := by simp
        have hk : kept C L L.length = L.filter fun n => C.isDirty n := by unfold kept; rw [List.take_length]
        obtain ⟨⟨⟨M, hXe, hm, hM0⟩, hki⟩, ho, hch⟩ := HX.out
        rw [List.drop_length, List.append_nil] at hXe
        have hXl : X.length = L.length := by rw [hXe, List.length_append]; omega
        have hcl := fun ty => Lib.run_clear_slice (P := Try.prog) wr 40 3 ty (.int .i64 0) Try.underlying40 Try.zeroValue3 rfl rfl g i (L.length - i) (cap - i) (by omega)
          (fun t ht => by rw [HC.out wr X ho (i + t) (by omega)]; rfl)
          (fun t ht => by obtain ⟨cu, hcu⟩ := own_obj ho rfl; simp [World.frozen?, hcu])
        have HF : Hid ((wr.setCells g i (List.replicate (L.length - i) (.int .i64 0))).ownsRow N 3 1 (.slice (some ⟨g, 0, none⟩) i cap) (L.filter fun n => C.isDirty n).length (icells (L.filter fun n => C.isDirty n)) ∧ Chg (fun b => b = g) w1 (wr.setCells g i (List.replicate (L.length - i) (.int .i64 0)))) := by
          rw [hk] at hki hXe
          refine ⟨?_, hch.trans (setCells_chg _ _ _) (fun _ _ h => h)⟩
          rcases ho.2 with ⟨e, _⟩ | ⟨g', cap', cur, e, h0, h1, h2, h3, h4, h5⟩
          · cases e
          · cases e
            obtain ⟨cur', c1, c2, c3⟩ := setCells_row (List.replicate (L.length - i) (.int .i64 0)) i wr cur h1
            refine ⟨by simp [icells], .inr ⟨g, cap, cur', by rw [hki], h0, c1, by omega, h3, by rw [c2]; exact h4, ?_⟩⟩
            rw [Nat.mul_one, hki, c3 i (Nat.le_refl _)]
            have h6 : (cur.toList.take (L.length * 1)).take i = cur.toList.take i := by rw [List.take_take]; congr 1; omega
            rw [← h6, h5, hXe]
            unfold icells
            rw [List.map_append, List.take_left' (by simp [hki])]
        have hiL : (i : Int) ≤ (L.length : Int) := by omega
        clear HX HH HL HO HC ho hch hXe hm hM0 hki hXl hk
        go_wp2
        go_ret
        exact ⟨_, rfl, HF.out⟩

theorem dirties_eq (C : Ca) (nb : Nat) : (C.held nb).filter (fun n => C.isDirty n) = C.dirties nb := by
  unfold Ca.held Ca.dirties
  rw [List.filter_filter]
  refine List.filter_congr (fun n _ => ?_)
  cases h : C.isDirty n with
  | false => rfl
  | true =>
    unfold Ca.isDirty at h
    obtain ⟨i, hi, hc⟩ := List.any_eq_true.1 h
    simp only [Bool.and_eq_true, beq_iff_eq] at hc
    rw [Ca.has_iff.2 ⟨i, hi, hc.1⟩]; rfl

set_option maxHeartbeats 800000 in
theorem deleteF_nil (f : Fn) (a b : Array Value) (w : World) : Calls Try.prog 48 #[.slice none 0 0, .func f a b] w fun e w' => e = .returned (.slice none 0 0) ∧ w' = w := by
  have hi : Calls Try.prog 74 #[.slice none 0 0, .func f a b] w fun e w' => e = .returned (.int .i64 (-1)) ∧ w' = w := by
    go_enter Try.func74, Try.ntmps74
    go_wp2_with fail
    refine wp_loop_rounds 1 ?_
    rw [rounds_succ]
    go_wp2
    go_ret
    exact ⟨rfl, rfl⟩
  have HI : Hid _ := hi
  clear hi
  go_enter Try.func48, Try.ntmps48
  go_wp2_with fail
  refine (show Calls _ _ _ _ _ from HI.out).mono ?_
  rintro e w1 ⟨rfl, rfl⟩
  go_wp2
  go_ret
  exact ⟨rfl, rfl⟩

set_option maxHeartbeats 800000 in
theorem dirty_any (G : Nat → Prop) (c p nb : Nat) (C : Ca) (m r : Nat) (ls : List Nat) (nd : Nat → Node) (w : World) (h : CaAt w G c p nb C m r ls nd) :
    Calls Try.prog 20 #[.pointer (some ⟨c, 0, none⟩)] w fun e w' => ∃ v, e = .returned v ∧ w'.ownsRow w.heap.size 3 1 v (C.dirties nb).length (icells (C.dirties nb)) ∧ Chg (fun _ => False) w w' := by
  have hmf : ∀ (fn : Fn) (first cap : Array Value) (w : World), (Instr.makeFunc fn first cap).run Try.prog w = .ok (.func fn first cap) w := fun _ _ _ _ => rfl
  obtain ⟨w1, hw1⟩ : ∃ w1, w.alloc (.cells #[.pointer (some ⟨c, 0, none⟩)] 32) = w1 := ⟨_, rfl⟩
  have cg1 : Chg (fun _ => False) w w1 := by rw [← hw1]; exact Chg.alloc _ _ _
  have bx1 : w1.cell? ⟨w.heap.size, 0, none⟩ = some (.pointer (some ⟨c, 0, none⟩)) := by rw [← hw1]; exact cell_one_new w _ 32 0 _ rfl
  have bs1 : w.heap.size < w1.heap.size := by rw [← hw1]; simp
  have ca1 := h.kept cg1 (fun _ _ h => h)
  have HC : Hid (CaAt w1 G c p nb C m r ls nd ∧ Chg (fun _ => False) w w1 ∧ (∀ b, G b → b < w.heap.size) ∧ w1.cell? ⟨w.heap.size, 0, none⟩ = some (.pointer (some ⟨c, 0, none⟩)) ∧ w.heap.size < w1.heap.size) := ⟨ca1, cg1, h.lt, bx1, bs1⟩
  clear h cg1 ca1 bs1
  go_enter Try.func20, Try.ntmps20
  go_wp2_with fail
  refine (held_any G c p nb C m r ls nd w1 HC.out.1).mono ?_
  rintro e w2 ⟨v, rfl, ho, hc⟩
  have HO : Hid (w2.ownsRow w1.heap.size 3 1 v (C.held nb).length (icells (C.held nb)) ∧ Chg (fun _ => False) w1 w2) := ⟨ho, hc⟩
  clear ho hc bx1 hw1
  rcases HO.out.1.2 with ⟨hv, h0⟩ | ⟨g, cap, cur, hv, hg, _⟩
  · have hnil : C.held nb = [] := List.eq_nil_of_length_eq_zero h0
    have HD : Hid (C.dirties nb = []) := (show C.dirties nb = [] by rw [← dirties_eq, hnil]; rfl)
    subst hv
    go_wp2_with fail
    refine (deleteF_nil _ _ _ w2).mono ?_
    rintro e w3 ⟨rfl, rfl⟩
    go_wp2
    go_ret
    rw [HD.out]
    exact ⟨_, rfl, World.ownsRow_nil _ _ _ _, HC.out.2.1.trans HO.out.2 (fun _ _ h => h)⟩
  · have hl : (C.held nb).length ≤ 1099511627776 := by
      have h1 : (C.held nb).length ≤ nb := by
        have := List.length_filter_le (fun n => C.has n) (List.range nb)
        rwa [List.length_range] at this
      have := HC.out.1.nbt
      omega
    have hDW : DirtW w2 G c p nb C m r ls nd w.heap.size := ⟨HC.out.1.kept HO.out.2 (fun _ _ h => h), HO.out.2.cell HC.out.2.2.2.1 (fun h => h)⟩
    have hs1 := HC.out.2.2.2.2
    have ho := HO.out.1
    rw [hv] at ho
    have hdel := deleteF_any G c p nb C m r ls nd w.heap.size w1.heap.size g cap (C.held nb) w2 hDW (fun n hn => (List.mem_filter.1 hn).2) hl ho (fun hgG => by have := HC.out.2.2.1 g hgG; omega) (by omega)
    rw [dirties_eq] at hdel
    have HDL : Hid _ := hdel
    have HG : Hid (w1.heap.size ≤ g) := hg
    subst hv
    clear hdel ho hDW hl hs1 hg
    go_wp2_with fail
    refine (show Calls _ _ _ _ _ from HDL.out).mono ?_
    rintro e w3 ⟨v3, rfl, o3, c3⟩
    have H3 : Hid (w3.ownsRow w1.heap.size 3 1 v3 (C.dirties nb).length (icells (C.dirties nb)) ∧ Chg (fun b => b = g) w2 w3) := ⟨o3, c3⟩
    clear o3 c3 HDL
    go_wp2
    go_ret
    have hcc := HC.out.2.1.trans HO.out.2 (fun _ _ h => h)
    refine ⟨v3, rfl, own_mono H3.out.1 HC.out.2.1.size, hcc.trans H3.out.2 (fun i hi e => ?_)⟩
    have := HG.out
    have := HC.out.2.1.size
    omega
end Go.Proofs.Ytioloobeakjbeaa

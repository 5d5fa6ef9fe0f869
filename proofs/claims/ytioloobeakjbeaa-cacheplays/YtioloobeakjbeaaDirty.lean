/-
  The contracts of slices.IndexFunc and slices.DeleteFunc at what Dirty of package cache hands them, and of Dirty.
-/
import Derived.Test.YtioloobeakjbeaaHeld
import Derived.Lib.SliceRun
namespace Go.Proofs.Ytioloobeakjbeaa
open Go.RowKit Go.Maps

/-- Numbers as cells. -/
def icells (L : List Nat) : List Value := L.map fun n : Nat => Value.int .i64 (n : Int)
theorem icells_len (L : List Nat) : (icells L).length = L.length := by simp [icells]
theorem icells_get {L : List Nat} {j : Nat} (h : j < L.length) : (icells L)[j]? = some (.int .i64 ((L.getD j 0 : Nat) : Int)) := by simp [icells, List.getD, h]

/-- The world in which the closure of Dirty is called. -/
structure DirtW (W : World) (G : Nat → Prop) (c p nb : Nat) (C : Ca) (m r : Nat) (ls : List Nat) (nd : Nat → Node) (B : Nat) : Prop where
  ca : CaAt W G c p nb C m r ls nd
  box : W.cell? ⟨B, 0, none⟩ = some (.pointer (some ⟨c, 0, none⟩))
theorem DirtW.kept {W W' : World} {G E : Nat → Prop} {c p nb : Nat} {C : Ca} {m r : Nat} {ls : List Nat} {nd : Nat → Node} {B : Nat} (h : DirtW W G c p nb C m r ls nd B) (hc : Chg E W W') (hG : ∀ b, G b → ¬ E b) (hB : ¬ E B) : DirtW W' G c p nb C m r ls nd B :=
  ⟨h.ca.kept hc hG, hc.cell h.box hB⟩

theorem isDirty_of {w : World} {G : Nat → Prop} {c p nb : Nat} {C : Ca} {m r : Nat} {ls : List Nat} {nd : Nat → Node} (h : CaAt w G c p nb C m r ls nd) {a : Nat} (ha : a ∈ ls) : C.isDirty (nd a).n = (nd a).d := by
  unfold Ca.isDirty
  rw [Bool.eq_iff_iff, List.any_eq_true]
  constructor
  · rintro ⟨i, hi, hc⟩
    simp only [Bool.and_eq_true, beq_iff_eq] at hc
    rw [h.same_item ha hi hc.1] at hc
    exact hc.2
  · intro hd
    exact ⟨(nd a).it, h.mem ha, by simp only [Bool.and_eq_true, beq_iff_eq]; exact ⟨rfl, hd⟩⟩

set_option maxHeartbeats 800000 in
theorem dirty1_any (G : Nat → Prop) (c p nb : Nat) (C : Ca) (m r : Nat) (ls : List Nat) (nd : Nat → Node) (B n : Nat) (W : World) (h : DirtW W G c p nb C m r ls nd B) (hn : C.has n = true) :
    Calls Try.prog 49 #[.int .i64 (n : Int), .pointer (some ⟨B, 0, none⟩)] W fun e w' => e = .returned (.bool (!C.isDirty n)) ∧ w' = W := by
  obtain ⟨i, hi, hin⟩ := Ca.has_iff.1 hn
  rw [h.ca.items] at hi
  obtain ⟨a, ha, hai⟩ := List.mem_map.1 hi
  have han : (nd a).n = n := by rw [← hin, ← hai]; rfl
  subst han
  have hd := isDirty_of h.ca ha
  have c2 := h.ca.c2
  have bx := h.box
  have lk0 := h.ca.map.look h.ca.nbt ha (h.ca.nlt ha)
  have lk : (Instr.lookup 74 (.map (some m)) (.int .i64 ((nd a).n : Int)) false).run Try.prog W = .ok (.pointer (some ⟨a, 0, none⟩)) W := lk0
  have a2 := (h.ca.nodes a (List.mem_cons_of_mem _ ha)).c2
  rw [hd]
  clear h lk0 hi hin hai ha hn hd
  generalize (((nd a).n : Nat) : Int) = nn at *
  go_enter Try.func49, Try.ntmps49
  go_wp2
  go_ret
  exact ⟨rfl, rfl⟩

set_option maxHeartbeats 1600000 in
set_option maxRecDepth 100000 in
/-- slices.IndexFunc: the first that is not dirty. -/
theorem index_any (G : Nat → Prop) (c p nb : Nat) (C : Ca) (m r : Nat) (ls : List Nat) (nd : Nat → Node) (B g cap : Nat) (L : List Nat) (w : World) (h : DirtW w G c p nb C m r ls nd B) (hL : ∀ n ∈ L, C.has n = true) (hl : L.length ≤ 1099511627776)
    (hrow : ∀ j, j < L.length → w.cell? ⟨g, j, none⟩ = some (.int .i64 ((L.getD j 0 : Nat) : Int))) (_hcap : L.length ≤ cap) :
    Calls Try.prog 74 #[.slice (some ⟨g, 0, none⟩) L.length cap, .func (.func 49) #[] #[.pointer (some ⟨B, 0, none⟩)]] w fun e w' => w' = w ∧
      ((e = .returned (.int .i64 (-1)) ∧ ∀ n ∈ L, C.isDirty n = true) ∨ ∃ k, k < L.length ∧ e = .returned (.int .i64 (k : Int)) ∧ C.isDirty (L.getD k 0) = false ∧ ∀ n ∈ L.take k, C.isDirty n = true) := by
  have HH : Hid (DirtW w G c p nb C m r ls nd B) := h
  have HL : Hid (∀ n ∈ L, C.has n = true) := hL
  have HR : Hid (∀ j, j < L.length → w.cell? ⟨g, j, none⟩ = some (.int .i64 ((L.getD j 0 : Nat) : Int))) := hrow
  clear h hL hrow
  go_enter Try.func74, Try.ntmps74
  go_wp2_with fail
  go_loopg [5, 8] (L.length) (fun gg _ x wr => ∃ j : Nat, j ≤ L.length ∧ x = .int .i64 (j : Int) ∧ wr = w ∧ L.length - j ≤ gg ∧ Hid (∀ n ∈ L.take j, C.isDirty n = true))
  case atStart => exact ⟨0, Nat.zero_le _, rfl, rfl, by omega, (show ∀ n ∈ L.take 0, C.isDirty n = true by simp)⟩
  case round =>
    obtain ⟨j, hj, rfl, rfl, hg, HX⟩ := hrel
    by_cases hlt : j < L.length
    · have k1 : decide ((j : Int) < (L.length : Int)) = true := by simp; omega
      have k1' : (j : Int) < (L.length : Int) := by omega
      have hc := HR.out j hlt
      have hmem : L.getD j 0 ∈ L := by
        have : L.getD j 0 = L[j] := by simp [List.getD, hlt]
        rw [this]; exact List.getElem_mem hlt
      have hcall := dirty1_any G c p nb C m r ls nd B (L.getD j 0) wr HH.out (HL.out _ hmem)
      have htk : L.take (j + 1) = L.take j ++ [L.getD j 0] := by
        rw [List.take_add_one]
        congr 1
        simp [List.getD, hlt]
      have HT : Hid (L.take (j + 1) = L.take j ++ [L.getD j 0]) := htk
      obtain ⟨nn, hnn⟩ : ∃ nn, L.getD j 0 = nn := ⟨_, rfl⟩
      rw [hnn] at hc hcall
      have HN : Hid (L.getD j 0 = nn) := hnn
      have HC : Hid _ := hcall
      clear hmem htk hnn hcall
      generalize hni : ((nn : Nat) : Int) = ni at *
      cases hd : C.isDirty nn with
      | true =>
        have HD : Hid (C.isDirty nn = true) := hd
        rw [hd] at HC
        clear hd
        go_wp2_with fail
        refine (show Calls _ _ _ _ _ from HC.out).mono ?_
        rintro e w2 ⟨rfl, rfl⟩
        clear HC
        go_wp2
        go_roundg (L.length - (j + 1))
        case measure => omega
        case rel =>
          refine ⟨j + 1, by omega, by go_num, rfl, Nat.le_refl _, (show ∀ n ∈ L.take (j + 1), C.isDirty n = true from fun n hn => ?_)⟩
          rw [HT.out, HN.out] at hn
          rcases List.mem_append.1 hn with h | h
          · exact HX.out n h
          · simp at h; rw [h]; exact HD.out
      | false =>
        have HD : Hid (C.isDirty nn = false) := hd
        rw [hd] at HC
        clear hd
        go_wp2_with fail
        refine (show Calls _ _ _ _ _ from HC.out).mono ?_
        rintro e w2 ⟨rfl, rfl⟩
        clear HC
        go_wp2
        go_ret
        exact ⟨rfl, .inr ⟨j, hlt, rfl, by rw [HN.out]; exact HD.out, HX.out⟩⟩
    · have hje : j = L.length := by omega
      subst hje
      have k1 : decide ((L.length : Int) < (L.length : Int)) = false := by simp
      go_wp2
      go_ret
      refine ⟨rfl, .inl ⟨rfl, ?_⟩⟩
      have := HX.out
      rwa [List.take_length] at this
end Go.Proofs.Ytioloobeakjbeaa

namespace Go.Proofs.Ytioloobeakjbeaa
open Go.RowKit Go.Maps

theorem setCells_row {g : Nat} {t : TypeId} : ∀ (vs : List Value) (o : Nat) (w : World) (cur : Array Value), w.heap[g]? = some (.cells cur t (0, 0)) → ∃ cur', (w.setCells g o vs).heap[g]? = some (.cells cur' t (0, 0)) ∧ cur'.size = cur.size ∧ ∀ k, k ≤ o → cur'.toList.take k = cur.toList.take k
  | [], _, _, cur, h => ⟨cur, h, rfl, fun _ _ => rfl⟩
  | v :: vs, o, w, cur, h => by
    have h1 := heap_setCell_same w g o _ _ v h
    obtain ⟨cur', h2, h3, h4⟩ := setCells_row vs (o + 1) _ _ h1
    refine ⟨cur', h2, by rw [h3]; simp, fun k hk => ?_⟩
    rw [h4 k (by omega)]
    simp only [Array.toList_setIfInBounds]
    rw [List.take_set_of_le (by omega)]
theorem setCells_chg {g : Nat} : ∀ (vs : List Value) (o : Nat) (w : World), Chg (fun b => b = g) w (w.setCells g o vs)
  | [], _, w => Chg.refl _ w
  | v :: vs, o, w => (Chg.setCell (S := fun b => b = g) w ⟨g, o, none⟩ v rfl).trans (setCells_chg vs (o + 1) _) (fun _ _ h => h)

/-- What stays of the first j. -/
def kept (C : Ca) (L : List Nat) (j : Nat) : List Nat := (L.take j).filter fun n => C.isDirty n
theorem kept_succ {C : Ca} {L : List Nat} {j : Nat} (h : j < L.length) : kept C L (j + 1) = kept C L j ++ (if C.isDirty (L.getD j 0) then [L.getD j 0] else []) := by
  unfold kept
  rw [List.take_add_one, List.filter_append]
  congr 1
  have : L[j]? = some (L.getD j 0) := by simp [List.getD, h]
  rw [this]
  generalize L.getD j 0 = x
  cases hd : C.isDirty x <;> simp [hd]
/-- The row on its way. -/
structure Way (C : Ca) (L : List Nat) (i j : Nat) (X : List Nat) : Prop where
  eq : ∃ M, X = kept C L j ++ M ++ L.drop j ∧ M.length + i = j ∧ 0 < M.length
  len : (kept C L j).length = i
theorem drop_head {L : List Nat} {j : Nat} (h : j < L.length) : L.drop j = L.getD j 0 :: L.drop (j + 1) := by
  rw [List.drop_eq_getElem_cons h]
  simp [List.getD, h]
theorem Way.skip {C : Ca} {L : List Nat} {i j : Nat} {X : List Nat} (h : Way C L i j X) (hj : j < L.length) (hd : C.isDirty (L.getD j 0) = false) : Way C L i (j + 1) X := by
  obtain ⟨⟨M, e, hm, h0⟩, hl⟩ := h
  refine ⟨⟨M ++ [L.getD j 0], ?_, by simp; omega, by simp⟩, ?_⟩
  · rw [e, kept_succ hj, hd, drop_head hj]; simp
  · rw [kept_succ hj, hd]; simpa using hl
theorem Way.keep {C : Ca} {L : List Nat} {i j : Nat} {X : List Nat} (h : Way C L i j X) (hj : j < L.length) (hd : C.isDirty (L.getD j 0) = true) : Way C L (i + 1) (j + 1) (X.set i (L.getD j 0)) := by
  obtain ⟨⟨M, e, hm, h0⟩, hl⟩ := h
  cases M with
  | nil => simp at h0
  | cons x M =>
    refine ⟨⟨M ++ [L.getD j 0], ?_, by simp at hm ⊢; omega, by simp⟩, ?_⟩
    · rw [e, kept_succ hj, hd, drop_head hj, ← hl]
      simp
    · rw [kept_succ hj, hd]; simp [hl]
theorem Way.at {C : Ca} {L : List Nat} {i j : Nat} {X : List Nat} (h : Way C L i j X) (hj : j < L.length) : X.length = L.length ∧ X.getD j 0 = L.getD j 0 ∧ i < j := by
  obtain ⟨⟨M, e, hm, h0⟩, hl⟩ := h
  have hp : (kept C L j ++ M).length = j := by rw [List.length_append]; omega
  refine ⟨?_, ?_, by omega⟩
  · rw [e, List.length_append, hp, List.length_drop]; omega
  · rw [e, List.getD_eq_getElem?_getD, List.getElem?_append_right (by omega), hp, Nat.sub_self, drop_head hj]; rfl

set_option maxHeartbeats 3200000 in
set_option maxRecDepth 100000 in
theorem deleteF_any (G : Nat → Prop) (c p nb : Nat) (C : Ca) (m r : Nat) (ls : List Nat) (nd : Nat → Node) (B N g cap : Nat) (L : List Nat) (w : World) (h : DirtW w G c p nb C m r ls nd B) (hL : ∀ n ∈ L, C.has n = true) (hl : L.length ≤ 1099511627776)
    (hown : w.ownsRow N 3 1 (.slice (some ⟨g, 0, none⟩) L.length cap) L.length (icells L)) (hgG : ¬ G g) (hgB : g ≠ B) :
    Calls Try.prog 48 #[.slice (some ⟨g, 0, none⟩) L.length cap, .func (.func 49) #[] #[.pointer (some ⟨B, 0, none⟩)]] w fun e w' => ∃ v, e = .returned v ∧ w'.ownsRow N 3 1 v (L.filter fun n => C.isDirty n).length (icells (L.filter fun n => C.isDirty n)) ∧ Chg (fun b => b = g) w w' := by
  have hcap : L.length ≤ cap := by
    rcases hown.2 with ⟨e, _⟩ | ⟨_, _, _, e, _, _, h1, _⟩
    · cases e
    · cases e; exact h1
  have hcells : ∀ (W : World) (X : List Nat), W.ownsRow N 3 1 (.slice (some ⟨g, 0, none⟩) L.length cap) L.length (icells X) → ∀ j, j < X.length → W.cell? ⟨g, j, none⟩ = some (.int .i64 ((X.getD j 0 : Nat) : Int)) := fun W X hW j hj => by
    have := hW.cells (g := g) rfl j _ (icells_get hj)
    rwa [add_zero_off] at this
  have HI := index_any G c p nb C m r ls nd B g cap L w h hL hl (hcells w L hown) hcap
  have HII : Hid _ := HI
  have HH : Hid (DirtW w G c p nb C m r ls nd B) := h
  have HL : Hid (∀ n ∈ L, C.has n = true) := hL
  have HO : Hid (w.ownsRow N 3 1 (.slice (some ⟨g, 0, none⟩) L.length cap) L.length (icells L)) := hown
  have HC : Hid (∀ (W : World) (X : List Nat), W.ownsRow N 3 1 (.slice (some ⟨g, 0, none⟩) L.length cap) L.length (icells X) → ∀ j, j < X.length → W.cell? ⟨g, j, none⟩ = some (.int .i64 ((X.getD j 0 : Nat) : Int))) := hcells
  have hzv := Try.zeroValue3
  clear h hL hown HI hcells
  go_enter Try.func48, Try.ntmps48
  go_wp2_with fail
  refine (show Calls _ _ _ _ _ from HII.out).mono ?_
  clear HII
  rintro e w1 ⟨hw1, hcase⟩
  subst hw1
  rcases hcase with ⟨rfl, hall⟩ | ⟨k, hk, rfl, hkd, hkb⟩
  · have HA : Hid (∀ n ∈ L, C.isDirty n = true) := hall
    clear hall
    go_wp2
    go_ret
    have e : (L.filter fun n => C.isDirty n) = L := List.filter_eq_self.2 (fun n hn => HA.out n hn)
    rw [e]
    exact ⟨_, rfl, HO.out, Chg.refl _ _⟩
  · have hne1 : ((k : Int) == -1) = false := beq_eq_false_iff_ne.2 (by omega)
    have HW0 : Hid (Way C L k (k + 1) L) := by
      have hkk : kept C L k = L.take k := List.filter_eq_self.2 (fun n hn => hkb n hn)
      have hks : kept C L (k + 1) = L.take k := by rw [kept_succ hk, hkd, hkk]; simp
      refine ⟨⟨[L.getD k 0], ?_, by simp; omega, by simp⟩, by rw [hks]; simp; omega⟩
      rw [hks]
      conv => lhs; rw [← List.take_append_drop k L, drop_head hk]
      simp
    clear hkd hkb
    go_wp2_with fail
    go_loopg [5, 6, 7] (L.length) (fun gg s5 s6 _ wr => ∃ (i j : Nat) (X : List Nat), s5 = .int .i64 (i : Int) ∧ s6 = .int .i64 (j : Int) ∧ j ≤ L.length ∧ i < j ∧ L.length - j ≤ gg ∧ Hid (Way C L i j X ∧ wr.ownsRow N 3 1 (.slice (some ⟨g, 0, none⟩) L.length cap) L.length (icells X) ∧ Chg (fun b => b = g) w1 wr))
    case atStart => exact ⟨k, k + 1, L, rfl, by go_num, by omega, by omega, by omega, HW0.out, HO.out, Chg.refl _ _⟩
    case round =>
      clear HW0 hne1 hk
      obtain ⟨i, j, X, rfl, rfl, hj, hij, hgg, HX⟩ := hrel
      by_cases hlt : j < L.length
      · have k1 : decide ((j : Int) < (L.length : Int)) = true := by simp; omega
        have k1' : (j : Int) < (L.length : Int) := by omega
        obtain ⟨hXl, hXj, _⟩ := HX.out.1.at hlt
        have cj := HC.out wr X HX.out.2.1 j (by rw [hXl]; exact hlt)
        have ci := HC.out wr X HX.out.2.1 i (by rw [hXl]; omega)
        rw [hXj] at cj
        have hmem : L.getD j 0 ∈ L := by
          have : L.getD j 0 = L[j] := by simp [List.getD, hlt]
          rw [this]; exact List.getElem_mem hlt
        have hDW : DirtW wr G c p nb C m r ls nd B := HH.out.kept HX.out.2.2 (fun b hb e => hgG (e ▸ hb)) (fun e => hgB e.symm)
        have hcall := dirty1_any G c p nb C m r ls nd B (L.getD j 0) wr hDW (HL.out _ hmem)
        have fi : wr.frozen? ⟨g, i, none⟩ = false := by
          obtain ⟨cu, hcu⟩ := own_obj HX.out.2.1 rfl
          simp [World.frozen?, hcu]
        have st := HX.out.2.1.stored i (.int .i64 ((L.getD j 0 : Nat) : Int))
        have hset : (icells X).set i (.int .i64 ((L.getD j 0 : Nat) : Int)) = icells (X.set i (L.getD j 0)) := by simp [icells, List.map_set]
        rw [hset] at st
        cases hd : C.isDirty (L.getD j 0) with
        | true =>
          have HN : Hid (Way C L (i + 1) (j + 1) (X.set i (L.getD j 0)) ∧ (wr.setCell ⟨g, i, none⟩ (.int .i64 ((L.getD j 0 : Nat) : Int))).ownsRow N 3 1 (.slice (some ⟨g, 0, none⟩) L.length cap) L.length (icells (X.set i (L.getD j 0))) ∧ Chg (fun b => b = g) w1 (wr.setCell ⟨g, i, none⟩ (.int .i64 ((L.getD j 0 : Nat) : Int)))) :=
            ⟨HX.out.1.keep hlt hd, st.1, HX.out.2.2.trans (Chg.setCell (S := fun b => b = g) _ _ _ rfl) (fun _ _ h => h)⟩
          rw [hd] at hcall
          have HCC : Hid _ := hcall
          generalize X.set i (L.getD j 0) = X' at *
          generalize ((L.getD j 0 : Nat) : Int) = nn at *
          generalize ((X.getD i 0 : Nat) : Int) = oo at *
          clear hcall st hset hd hDW hmem hXj hXl HX HH HL HO HC
          go_wp2_with fail
          refine (show Calls _ _ _ _ _ from HCC.out).mono ?_
          rintro e w2 ⟨rfl, rfl⟩
          clear HCC
          go_wp2
          go_roundg (L.length - (j + 1))
          case measure => omega
          case rel => exact ⟨i + 1, j + 1, X', by go_num, by go_num, by omega, by omega, Nat.le_refl _, HN.out⟩
        | false =>
          have HN : Hid (Way C L i (j + 1) X ∧ wr.ownsRow N 3 1 (.slice (some ⟨g, 0, none⟩) L.length cap) L.length (icells X) ∧ Chg (fun b => b = g) w1 wr) := ⟨HX.out.1.skip hlt hd, HX.out.2⟩
          rw [hd] at hcall
          have HCC : Hid _ := hcall
          generalize ((L.getD j 0 : Nat) : Int) = nn at *
          clear hcall st hset hd hDW hmem hXj hXl HX HH HL HO HC ci fi
          go_wp2_with fail
          refine (show Calls _ _ _ _ _ from HCC.out).mono ?_
          rintro e w2 ⟨rfl, rfl⟩
          clear HCC
          go_wp2
          go_roundg (L.length - (j + 1))
          case measure => omega
          case rel => exact ⟨i, j + 1, X, rfl, by go_num, by omega, by omega, Nat.le_refl _, HN.out⟩
      · have hje : j = L.length := by omega
        subst hje
        have k1 : decide ((L.length : Int) < (L.length : Int)) = false := by simp
        have hk : kept C L L.length = L.filter fun n => C.isDirty n := by unfold kept; rw [List.take_length]
        obtain ⟨⟨⟨M, hXe, hm, hM0⟩, hki⟩, ho, hch⟩ := HX.out
        rw [List.drop_length, List.append_nil] at hXe
        have hXl : X.length = L.length := by rw [hXe, List.length_append]; omega
        have hcl := fun ty => Lib.run_clear_slice (P := Try.prog) wr 40 3 ty (.int .i64 0) Try.underlying40 Try.zeroValue3 rfl rfl g i (L.length - i) (cap - i) (by omega)
          (fun t ht => by rw [HC.out wr X ho (i + t) (by omega)]; rfl)
          (fun t ht => by obtain ⟨cu, hcu⟩ := own_obj ho rfl; simp [World.frozen?, hcu])
        have HF : Hid ((wr.setCells g i (List.replicate (L.length - i) (.int .i64 0))).ownsRow N 3 1 (.slice (some ⟨g, 0, none⟩) i cap) (L.filter fun n => C.isDirty n).length (icells (L.filter fun n => C.isDirty n)) ∧ Chg (fun b => b = g) w1 (wr.setCells g i (List.replicate (L.length - i) (.int .i64 0)))) := by
          rw [hk] at hki hXe
          refine ⟨?_, hch.trans (setCells_chg _ _ _) (fun _ _ h => h)⟩
          rcases ho.2 with ⟨e, _⟩ | ⟨g', cap', cur, e, h0, h1, h2, h3, h4, h5⟩
          · cases e
          · cases e
            obtain ⟨cur', c1, c2, c3⟩ := setCells_row (List.replicate (L.length - i) (.int .i64 0)) i wr cur h1
            refine ⟨by simp [icells], .inr ⟨g, cap, cur', by rw [hki], h0, c1, by omega, h3, by rw [c2]; exact h4, ?_⟩⟩
            rw [Nat.mul_one, hki, c3 i (Nat.le_refl _)]
            have h6 : (cur.toList.take (L.length * 1)).take i = cur.toList.take i := by rw [List.take_take]; congr 1; omega
            rw [← h6, h5, hXe]
            unfold icells
            rw [List.map_append, List.take_left' (by simp [hki])]
        have hiL : (i : Int) ≤ (L.length : Int) := by omega
        clear HX HH HL HO HC ho hch hXe hm hM0 hki hXl hk
        go_wp2
        go_ret
        exact ⟨_, rfl, HF.out⟩

theorem dirties_eq (C : Ca) (nb : Nat) : (C.held nb).filter (fun n => C.isDirty n) = C.dirties nb := by
  unfold Ca.held Ca.dirties
  rw [List.filter_filter]
  refine List.filter_congr (fun n _ => ?_)
  cases h : C.isDirty n with
  | false => rfl
  | true =>
    unfold Ca.isDirty at h
    obtain ⟨i, hi, hc⟩ := List.any_eq_true.1 h
    simp only [Bool.and_eq_true, beq_iff_eq] at hc
    rw [Ca.has_iff.2 ⟨i, hi, hc.1⟩]; rfl

set_option maxHeartbeats 800000 in
theorem deleteF_nil (f : Fn) (a b : Array Value) (w : World) : Calls Try.prog 48 #[.slice none 0 0, .func f a b] w fun e w' => e = .returned (.slice none 0 0) ∧ w' = w := by
  have hi : Calls Try.prog 74 #[.slice none 0 0, .func f a b] w fun e w' => e = .returned (.int .i64 (-1)) ∧ w' = w := by
    go_enter Try.func74, Try.ntmps74
    go_wp2_with fail
    refine wp_loop_rounds 1 ?_
    rw [rounds_succ]
    go_wp2
    go_ret
    exact ⟨rfl, rfl⟩
  have HI : Hid _ := hi
  clear hi
  go_enter Try.func48, Try.ntmps48
  go_wp2_with fail
  refine (show Calls _ _ _ _ _ from HI.out).mono ?_
  rintro e w1 ⟨rfl, rfl⟩
  go_wp2
  go_ret
  exact ⟨rfl, rfl⟩

set_option maxHeartbeats 800000 in
theorem dirty_any (G : Nat → Prop) (c p nb : Nat) (C : Ca) (m r : Nat) (ls : List Nat) (nd : Nat → Node) (w : World) (h : CaAt w G c p nb C m r ls nd) :
    Calls Try.prog 20 #[.pointer (some ⟨c, 0, none⟩)] w fun e w' => ∃ v, e = .returned v ∧ w'.ownsRow w.heap.size 3 1 v (C.dirties nb).length (icells (C.dirties nb)) ∧ Chg (fun _ => False) w w' := by
  have hmf : ∀ (fn : Fn) (first cap : Array Value) (w : World), (Instr.makeFunc fn first cap).run Try.prog w = .ok (.func fn first cap) w := fun _ _ _ _ => rfl
  obtain ⟨w1, hw1⟩ : ∃ w1, w.alloc (.cells #[.pointer (some ⟨c, 0, none⟩)] 32) = w1 := ⟨_, rfl⟩
  have cg1 : Chg (fun _ => False) w w1 := by rw [← hw1]; exact Chg.alloc _ _ _
  have bx1 : w1.cell? ⟨w.heap.size, 0, none⟩ = some (.pointer (some ⟨c, 0, none⟩)) := by rw [← hw1]; exact cell_one_new w _ 32 0 _ rfl
  have bs1 : w.heap.size < w1.heap.size := by rw [← hw1]; simp
  have ca1 := h.kept cg1 (fun _ _ h => h)
  have HC : Hid (CaAt w1 G c p nb C m r ls nd ∧ Chg (fun _ => False) w w1 ∧ (∀ b, G b → b < w.heap.size) ∧ w1.cell? ⟨w.heap.size, 0, none⟩ = some (.pointer (some ⟨c, 0, none⟩)) ∧ w.heap.size < w1.heap.size) := ⟨ca1, cg1, h.lt, bx1, bs1⟩
  clear h cg1 ca1 bs1
  go_enter Try.func20, Try.ntmps20
  go_wp2_with fail
  refine (held_any G c p nb C m r ls nd w1 HC.out.1).mono ?_
  rintro e w2 ⟨v, rfl, ho, hc⟩
  have HO : Hid (w2.ownsRow w1.heap.size 3 1 v (C.held nb).length (icells (C.held nb)) ∧ Chg (fun _ => False) w1 w2) := ⟨ho, hc⟩
  clear ho hc bx1 hw1
  rcases HO.out.1.2 with ⟨hv, h0⟩ | ⟨g, cap, cur, hv, hg, _⟩
  · have hnil : C.held nb = [] := List.eq_nil_of_length_eq_zero h0
    have HD : Hid (C.dirties nb = []) := (show C.dirties nb = [] by rw [← dirties_eq, hnil]; rfl)
    subst hv
    go_wp2_with fail
    refine (deleteF_nil _ _ _ w2).mono ?_
    rintro e w3 ⟨rfl, rfl⟩
    go_wp2
    go_ret
    rw [HD.out]
    exact ⟨_, rfl, World.ownsRow_nil _ _ _ _, HC.out.2.1.trans HO.out.2 (fun _ _ h => h)⟩
  · have hl : (C.held nb).length ≤ 1099511627776 := by
      have h1 : (C.held nb).length ≤ nb := by
        have := List.length_filter_le (fun n => C.has n) (List.range nb)
        rwa [List.length_range] at this
      have := HC.out.1.nbt
      omega
    have hDW : DirtW w2 G c p nb C m r ls nd w.heap.size := ⟨HC.out.1.kept HO.out.2 (fun _ _ h => h), HO.out.2.cell HC.out.2.2.2.1 (fun h => h)⟩
    have hs1 := HC.out.2.2.2.2
    have ho := HO.out.1
    rw [hv] at ho
    have hdel := deleteF_any G c p nb C m r ls nd w.heap.size w1.heap.size g cap (C.held nb) w2 hDW (fun n hn => (List.mem_filter.1 hn).2) hl ho (fun hgG => by have := HC.out.2.2.1 g hgG; omega) (by omega)
    rw [dirties_eq] at hdel
    have HDL : Hid _ := hdel
    have HG : Hid (w1.heap.size ≤ g) := hg
    subst hv
    clear hdel ho hDW hl hs1 hg
    go_wp2_with fail
    refine (show Calls _ _ _ _ _ from HDL.out).mono ?_
    rintro e w3 ⟨v3, rfl, o3, c3⟩
    have H3 : Hid (w3.ownsRow w1.heap.size 3 1 v3 (C.dirties nb).length (icells (C.dirties nb)) ∧ Chg (fun b => b = g) w2 w3) := ⟨o3, c3⟩
    clear o3 c3 HDL
    go_wp2
    go_ret
    have hcc := HC.out.2.1.trans HO.out.2 (fun _ _ h => h)
    refine ⟨v3, rfl, own_mono H3.out.1 HC.out.2.1.size, hcc.trans H3.out.2 (fun i hi e => ?_)⟩
    have := HG.out
    have := HC.out.2.1.size
    omega
end Go.Proofs.Ytioloobeakjbeaa

namespace Go.Proofs.Ytioloobeakjbeaa
open Go.RowKit Go.Maps

theorem dirties_le (C : Ca) (nb : Nat) : (C.dirties nb).length ≤ nb := by
  have := List.length_filter_le (fun n => C.isDirty n) (List.range nb)
  rwa [List.length_range] at this
theorem dirties_has {C : Ca} {nb n : Nat} (h : n ∈ C.dirties nb) : C.has n = true := by
  have h1 := (List.mem_filter.1 h).2
  unfold Ca.isDirty at h1
  obtain ⟨i, hi, hc⟩ := List.any_eq_true.1 h1
  simp only [Bool.and_eq_true, beq_iff_eq] at hc
  exact Ca.has_iff.2 ⟨i, hi, hc.1⟩
theorem mod_has {C : Ca} {n k : Nat} {f : It → It} (hf : ∀ i, (f i).n = i.n) : (C.mod k f).has n = C.has n := by
  unfold Ca.has Ca.mod
  rw [List.any_map]
  congr 1
  funext i
  simp only [Function.comp]
  split
  · rw [hf]
  · rfl

theorem own_cells {W : World} {N g len cap : Nat} {X : List Nat} (hW : W.ownsRow N 3 1 (.slice (some ⟨g, 0, none⟩) len cap) len (icells X)) : ∀ j, j < X.length → W.cell? ⟨g, j, none⟩ = some (.int .i64 ((X.getD j 0 : Nat) : Int)) := fun j hj => by
  have := hW.cells (g := g) rfl j _ (icells_get hj)
  rwa [add_zero_off] at this

set_option maxHeartbeats 3200000 in
set_option maxRecDepth 100000 in
theorem flush_any (F G : Nat → Prop) (c p : Nat) (S : St) (C : Ca) (w : World) (h : Cc w F G c p S C) (hx : S.writes + 16384 < 1099511627776) :
    Calls Try.prog 27 #[.pointer (some ⟨c, 0, none⟩)] w fun e w' => e = .returned (.int .i64 (flush S C).e) ∧ CTo F G c p w w' (flush S C).S (flush S C).C := by
  obtain ⟨m, r, ls, nd, h⟩ := h
  have hnb := h.ca.nbt
  have hdl := dirties_le C S.nb
  have HD := dirty_any G c p S.nb C m r ls nd w h.ca
  have HDD : Hid _ := HD
  have HK : Hid (Ck w F G c p S C m r ls nd) := h
  have HFl : Hid (flush S C = if (flushTo S C (C.dirties S.nb)).e ≠ 0 then flushTo S C (C.dirties S.nb) else ⟨(flushTo S C (C.dirties S.nb)).S.syncE, (flushTo S C (C.dirties S.nb)).S.sync, (flushTo S C (C.dirties S.nb)).C⟩) := (show flush S C = _ from rfl)
  have HLH : Hid (∀ n ∈ C.dirties S.nb, C.has n = true) := (show ∀ n ∈ C.dirties S.nb, C.has n = true from fun n hn => dirties_has hn)
  generalize C.dirties S.nb = L at *
  clear h HD
  go_enter Try.func27, Try.ntmps27
  go_wp2_with fail
  refine (show Calls _ _ _ _ _ from HDD.out).mono ?_
  clear HDD
  rintro e w1 ⟨v, rfl, ho, hc⟩
  have K1 : Ck w1 F G c p S C m r ls nd := ⟨HK.out.dk.kept hc (fun _ _ h => h), HK.out.ca.kept hc (fun _ _ h => h), HK.out.no⟩
  have HK1 : Hid (Ck w1 F G c p S C m r ls nd ∧ Gr F G w w1 F G) := ⟨K1, Gr.new hc⟩
  have hvn : ∀ g, v.ownBlock = some g → ¬ F g ∧ ¬ G g ∧ g < w1.heap.size := fun g hg => by
    obtain ⟨h1, h2⟩ := ho.lt g hg
    exact ⟨fun e => by have := HK.out.dk.lt g e; omega, fun e => by have := HK.out.ca.lt g e; omega, h2⟩
  have HVN : Hid (∀ g, v.ownBlock = some g → ¬ F g ∧ ¬ G g ∧ g < w1.heap.size) := hvn
  have HV : Hid (w1.ownsRow w.heap.size 3 1 v L.length (icells L)) := ho
  obtain ⟨va, vc, hvf, _⟩ : ∃ a cp, v = .slice a L.length cp ∧ L.length ≤ cp := by
    rcases ho.2 with ⟨hv, h0⟩ | ⟨g, cap, cur, hv, _, _, h1, _⟩
    · exact ⟨none, 0, by rw [hv, h0], by omega⟩
    · exact ⟨_, _, hv, h1⟩
  subst hvf
  clear ho hc K1 hvn
  go_wp2_with fail
  go_loopg [4, 5, 9] (L.length) (fun gg _ _ x wr => ∃ (j : Nat) (Sj : St) (Cj : Ca) (Fj : Nat → Prop) (ndj : Nat → Node), j ≤ L.length ∧ x = .int .i64 (j : Int) ∧ L.length - j ≤ gg ∧
    Hid (Ck wr Fj G c p Sj Cj m r ls ndj ∧ Gr F G w1 wr Fj G ∧ flushTo S C L = flushTo Sj Cj (L.drop j) ∧ Sj.nb = S.nb ∧ Sj.writes ≤ S.writes + j ∧ ∀ n ∈ L, Cj.has n = true))
  case atStart => exact ⟨0, S, C, F, nd, Nat.zero_le _, rfl, by omega, HK1.out.1, Gr.refl _ _ _, rfl, rfl, Nat.le_refl _, HLH.out⟩
  case round =>
    obtain ⟨j, Sj, Cj, Fj, ndj, hj, rfl, hgg, HX⟩ := hrel
    have c2 := HX.out.1.ca.c2
    have c0 := HX.out.1.ca.c0
    by_cases hlt : j < L.length
    · have k1 : decide ((j : Int) < (L.length : Int)) = true := by simp; omega
      have k1' : (j : Int) < (L.length : Int) := by omega
      -- the number
      obtain ⟨g, hva⟩ : ∃ g, va = some ⟨g, 0, none⟩ := by
        rcases HV.out.2 with ⟨e, h0⟩ | ⟨g, cap, cur, e, _⟩
        · omega
        · simp at e; exact ⟨g, e.1⟩
      subst hva
      have hrow : w1.cell? ⟨g, j, none⟩ = some (.int .i64 ((L.getD j 0 : Nat) : Int)) := own_cells HV.out j hlt
      obtain ⟨n1, n2, n3⟩ := HVN.out g rfl
      have hcell : wr.cell? ⟨g, j, none⟩ = some (.int .i64 ((L.getD j 0 : Nat) : Int)) := HX.out.2.1.chg.cell hrow (fun e => by
        rcases e with e | e
        · exact n1 e
        · exact n2 e)
      have hmem : L.getD j 0 ∈ L := by
        have : L.getD j 0 = L[j] := by simp [List.getD, hlt]
        rw [this]; exact List.getElem_mem hlt
      obtain ⟨i, hi, hin⟩ := Ca.has_iff.1 (HX.out.2.2.2.2.2 _ hmem)
      rw [HX.out.1.ca.items] at hi
      obtain ⟨a, ha, hai⟩ := List.mem_map.1 hi
      have han : (ndj a).n = L.getD j 0 := by rw [← hin, ← hai]; rfl
      have lk0 := HX.out.1.ca.map.look HX.out.1.ca.nbt ha (HX.out.1.ca.nlt ha)
      rw [han] at lk0
      have lk : (Instr.lookup 74 (.map (some m)) (.int .i64 ((L.getD j 0 : Nat) : Int)) false).run Try.prog wr = .ok (.pointer (some ⟨a, 0, none⟩)) wr := lk0
      have hitem : Cj.item (L.getD j 0) = (ndj a).it := by rw [← han]; exact Ca.item_of HX.out.1.ca.wf (HX.out.1.ca.mem ha)
      have hft : flushTo S C L = if cleanE Sj (ndj a).it ≠ 0 then ⟨cleanE Sj (ndj a).it, cleanS Sj (ndj a).it, Cj⟩ else flushTo (cleanS Sj (ndj a).it) (Cj.mod (ndj a).n fun i => { i with dirty := false }) (L.drop (j + 1)) := by
        rw [HX.out.2.2.1, drop_head hlt]
        show (if cleanE Sj (Cj.item (L.getD j 0)) ≠ 0 then _ else _) = _
        rw [hitem, han]
      have HFT : Hid (flushTo S C L = if cleanE Sj (ndj a).it ≠ 0 then ⟨cleanE Sj (ndj a).it, cleanS Sj (ndj a).it, Cj⟩ else flushTo (cleanS Sj (ndj a).it) (Cj.mod (ndj a).n fun i => { i with dirty := false }) (L.drop (j + 1))) := hft
      have hcl := clean_any Fj G c p Sj Cj m r ls ndj a wr HX.out.1 ha (by have := HX.out.2.2.2.2.1; omega)
      have HCL : Hid _ := hcl
      generalize ((L.getD j 0 : Nat) : Int) = nn at *
      clear hft hcl hitem lk0 han hai hi hin ha hmem hrow n1 n2 n3
      go_wp2_with fail
      refine (show Calls _ _ _ _ _ from HCL.out).mono ?_
      rintro e w2 ⟨rfl, F2, d, k2, g2⟩
      have H2 : Hid (Ck w2 F2 G c p (cleanS Sj (ndj a).it) (cleanC Sj Cj (ndj a).it) m r ls (setD ndj a d) ∧ Gr Fj G wr w2 F2 G) := ⟨k2, g2⟩
      clear k2 g2 HCL lk hcell c2 c0
      obtain ⟨ce, hce⟩ : ∃ ce, cleanE Sj (ndj a).it = ce := ⟨_, rfl⟩
      have HCE : Hid (cleanE Sj (ndj a).it = ce) := hce
      rw [hce]
      clear hce
      by_cases hc0 : ce = 0
      · subst hc0
        go_wp2
        go_roundg (L.length - (j + 1))
        case measure => omega
        case rel =>
          have hCC : cleanC Sj Cj (ndj a).it = Cj.mod (ndj a).n fun i => { i with dirty := false } := by unfold cleanC; rw [if_pos HCE.out]; rfl
          have k2 := H2.out.1
          rw [hCC] at k2
          refine ⟨j + 1, cleanS Sj (ndj a).it, _, F2, _, by omega, by go_num, Nat.le_refl _, k2, HX.out.2.1.trans H2.out.2, ?_, (cleanS_nb _ _).trans HX.out.2.2.2.1, ?_, fun n hn => ?_⟩
          · rw [HFT.out, if_neg (by rw [HCE.out]; decide)]
          · have := cleanS_writes Sj (ndj a).it
            have := HX.out.2.2.2.2.1
            omega
          · rw [mod_has (f := fun i => { i with dirty := false }) (fun _ => rfl)]; exact HX.out.2.2.2.2.2 n hn
      · have hce0 : (ce == 0) = false := by simpa using hc0
        go_wp2
        go_ret
        have hCC : cleanC Sj Cj (ndj a).it = Cj := by unfold cleanC; rw [if_neg (by rw [HCE.out]; exact hc0)]
        have k2 := H2.out.1
        rw [hCC] at k2
        have hf : flushTo S C L = ⟨ce, cleanS Sj (ndj a).it, Cj⟩ := by rw [HFT.out, if_pos (by rw [HCE.out]; exact hc0), HCE.out]
        rw [HFl.out, hf, if_pos hc0]
        exact ⟨rfl, F2, G, ⟨_, _, _, _, k2⟩, (HK1.out.2.trans HX.out.2.1).trans H2.out.2⟩
    · have hje : j = L.length := by omega
      subst hje
      have k1 : decide ((L.length : Int) < (L.length : Int)) = false := by simp
      have hf : flushTo S C L = ⟨0, Sj, Cj⟩ := by rw [HX.out.2.2.1, List.drop_length]; rfl
      have HF : Hid (flush S C = ⟨Sj.syncE, Sj.sync, Cj⟩) := (show flush S C = ⟨Sj.syncE, Sj.sync, Cj⟩ by rw [HFl.out, hf, if_neg (by simp)])
      have hw : Sj.writes < 1099511627776 := by have := HX.out.2.2.2.2.1; omega
      clear c2 hf HFl
      go_wp2_with fail
      refine (sync_any Fj p Sj wr HX.out.1.dk hw).mono ?_
      rintro e w2 ⟨rfl, F2, d2, c2, f2⟩
      have H2 : Hid (Dk w2 F2 p Sj.sync ∧ Chg Fj wr w2 ∧ ∀ b, F2 b → Fj b ∨ wr.heap.size ≤ b) := ⟨d2, c2, f2⟩
      clear d2 c2 f2 c0
      go_wp2
      go_ret
      rw [HF.out]
      obtain ⟨d2, c2, f2⟩ := H2.out
      refine ⟨rfl, F2, G, ⟨m, r, ls, ndj, d2, ?_, fun b hb hg => ?_⟩, (HK1.out.2.trans HX.out.2.1).trans (Gr.ofTo c2 f2)⟩
      · rw [St.sync_nb]
        exact HX.out.1.ca.kept c2 (fun b hg hf => HX.out.1.no b hf hg)
      · rcases f2 b hb with e | e
        · exact HX.out.1.no b e hg
        · have := HX.out.1.ca.lt b hg; omega
end Go.Proofs.Ytioloobeakjbeaa

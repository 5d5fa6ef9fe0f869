/-
  The contract of readHead of package wal, at a block whose numbers are known.
-/
import Derived.Test.YtkkmdmnjlncgfaaStrs
namespace Go.Proofs.Ytkkmdmnjlncgfaa
open Go.RowKit Go.Maps

/-- The numbers that are read out of x are hs. -/
structure Heads (K : Nat) (x : List Int) (hs : List Nat) : Prop where
  len : x.length = 512
  isB : IsB x
  cnt : valB ((x.drop 13).take 2) = (hs.length : Int)
  num : ∀ (i n : Nat), hs[i]? = some n → valB ((x.drop (15 + 2 * i)).take 2) = (n : Int)
  small : hs.length ≤ 63
  lt : ∀ n ∈ hs, n < K

theorem take2 (n : Int) (r : List Int) : (leTo n 2 ++ r).take 2 = leTo n 2 := by
  have h := leTo_len n 2
  rw [List.take_append_of_le_length (by omega), List.take_of_length_le (by omega)]
theorem valB_le (n : Nat) (h : n < 65536) : valB (leTo (n : Int) 2) = (n : Int) := by
  have : leTo (n : Int) 2 = [(n : Int) % 256, (n : Int) / 256 % 256] := by simp [leTo, List.range_succ]
  rw [this]
  simp [valB]
  omega
theorem leTo_isB (n : Int) (k : Nat) : IsB (leTo n k) := by
  intro x hx
  obtain ⟨i, _, rfl⟩ := List.mem_map.1 hx
  exact ⟨Int.emod_nonneg _ (by decide), Int.emod_lt_of_pos _ (by decide)⟩
theorem IsB.app {xs ys : List Int} (hx : IsB xs) (hy : IsB ys) : IsB (xs ++ ys) := fun x h => by
  rcases List.mem_append.1 h with h | h
  · exact hx x h
  · exact hy x h
theorem zeros_isB (n : Nat) : IsB (zeros n) := fun x h => by
  have := List.eq_of_mem_replicate h
  subst this; exact ⟨by decide, by decide⟩
theorem numsB_isB (hs : List Nat) : IsB (numsB hs) := fun x h => by
  obtain ⟨n, _, h⟩ := List.mem_flatMap.1 h
  exact leTo_isB _ _ x h
theorem markB_isB : IsB markB := by
  intro x hx
  have h : ∀ x ∈ markB, 0 ≤ x ∧ x < 256 := by decide
  exact h x hx
theorem headB_eq {hs : List Nat} (h : hs.length ≤ 63) : headB hs = markB ++ (leTo (hs.length : Int) 2 ++ (numsB hs ++ zeros (497 - 2 * hs.length))) := by
  have hl : (markB ++ leTo (hs.length : Int) 2 ++ numsB hs).length = 15 + 2 * hs.length := by
    rw [List.length_append, List.length_append, leTo_len, numsB_len]; rfl
  unfold headB fixB
  have e : (min (512 : Int) 65536).toNat = 512 := rfl
  rw [e, List.take_of_length_le (by omega), hl]
  have e2 : 512 - (15 + 2 * hs.length) = 497 - 2 * hs.length := by omega
  rw [e2]
  simp [zeros, List.append_assoc]
theorem headB_isB {hs : List Nat} (h : hs.length ≤ 63) : IsB (headB hs) := by
  rw [headB_eq h]
  exact markB_isB.app ((leTo_isB _ _).app ((numsB_isB hs).app (zeros_isB _)))
theorem numsB_split (hs : List Nat) : ∀ {i n : Nat}, hs[i]? = some n → ∃ r, numsB hs = numsB (hs.take i) ++ (leTo (n : Int) 2 ++ r) := by
  intro i n h
  have e : hs = hs.take i ++ n :: hs.drop (i + 1) := by
    obtain ⟨h1, h2⟩ := List.getElem?_eq_some_iff.1 h
    have h3 : hs.drop i = n :: hs.drop (i + 1) := by rw [List.drop_eq_getElem_cons h1, h2]
    rw [← h3, List.take_append_drop]
  refine ⟨numsB (hs.drop (i + 1)), ?_⟩
  conv => lhs; rw [e]
  simp [numsB]
/-- A head that was laid tells what it names. -/
theorem headB_heads {K : Nat} {hs : List Nat} (h : Valid K hs) (hK : K ≤ 16384) : Heads K (headB hs) hs := by
  have hm : markB.length = 13 := rfl
  refine ⟨headB_len hs, headB_isB h.len, ?_, fun i n hn => ?_, h.len, h.lt⟩
  · rw [headB_eq h.len, ← hm, List.drop_left, take2]
    exact valB_le _ (by have := h.len; omega)
  · have hil := (List.getElem?_eq_some_iff.1 hn).1
    obtain ⟨r, hr⟩ := numsB_split hs hn
    rw [headB_eq h.len, hr]
    have e : markB ++ (leTo (hs.length : Int) 2 ++ (numsB (hs.take i) ++ (leTo (n : Int) 2 ++ r) ++ zeros (497 - 2 * hs.length))) = (markB ++ leTo (hs.length : Int) 2 ++ numsB (hs.take i)) ++ (leTo (n : Int) 2 ++ (r ++ zeros (497 - 2 * hs.length))) := by simp [List.append_assoc]
    have hl : 15 + 2 * i = (markB ++ leTo (hs.length : Int) 2 ++ numsB (hs.take i)).length := by
      rw [List.length_append, List.length_append, leTo_len, numsB_len, List.length_take, hm]; omega
    rw [e, hl, List.drop_left, take2]
    exact valB_le _ (by have := h.lt n (List.mem_of_getElem? hn); omega)
theorem zeros_heads (K : Nat) : Heads K (zeros 512) [] := by
  refine ⟨zeros_len 512, zeros_isB 512, ?_, fun i n h => (by simp at h), by simp, by simp⟩
  have : ((zeros 512).drop 13).take 2 = [0, 0] := by unfold zeros; rw [List.drop_replicate, List.take_replicate]; rfl
  rw [this]; rfl
theorem zeros_ne : zeros 512 ≠ headB [] := fun e => by
  rw [headB_eq (by simp)] at e
  have h1 : (zeros 512).head? = some 0 := rfl
  rw [e] at h1
  have h2 : (markB ++ (leTo (([] : List Nat).length : Int) 2 ++ (numsB [] ++ zeros (497 - 2 * ([] : List Nat).length)))).head? = some 109 := rfl
  rw [h2] at h1
  simp at h1

/-- The first i numbers, the others 0. -/
def hTo (hs : List Nat) (i : Nat) : List Nat := hs.take i ++ List.replicate (hs.length - i) 0
theorem hTo_zero (hs : List Nat) : hTo hs 0 = List.replicate hs.length 0 := by simp [hTo]
theorem hTo_end (hs : List Nat) : hTo hs hs.length = hs := by simp [hTo]
theorem hTo_len {hs : List Nat} {i : Nat} (h : i ≤ hs.length) : (hTo hs i).length = hs.length := by simp [hTo]; omega
theorem hTo_succ {hs : List Nat} {i n : Nat} (h : hs[i]? = some n) : (hTo hs i).set i n = hTo hs (i + 1) := by
  have hil := (List.getElem?_eq_some_iff.1 h).1
  apply List.ext_getElem?
  intro j
  rw [List.getElem?_set, hTo_len (by omega)]
  by_cases e : i = j
  · subst e
    rw [if_pos rfl, if_pos hil]
    have h2 : (hTo hs (i + 1))[i]? = hs[i]? := by
      unfold hTo
      rw [List.getElem?_append_left (by rw [List.length_take]; omega), List.getElem?_take_of_lt (by omega)]
    rw [h2, h]
  · rw [if_neg e]
    by_cases hj : j < i
    · simp [hTo, List.getElem?_append, List.length_take, show j < min (i + 1) hs.length by omega, show j < min i hs.length by omega]
    · simp [hTo, List.getElem?_append, List.length_take, show ¬ j < min (i + 1) hs.length by omega, show ¬ j < min i hs.length by omega, List.getElem?_replicate]
      by_cases hjl : j < hs.length
      · rw [if_pos (by omega), if_pos (by omega)]
      · rw [if_neg (by omega), if_neg (by omega)]
def icells (hs : List Nat) : List Value := hs.map fun n : Nat => Value.int .i64 (n : Int)
theorem made_ints (n : Nat) : (madeCells (Value.int .i64 0).cells (n * 1)).toList = icells (List.replicate n 0) := by
  rw [Nat.mul_one]
  apply List.ext_getElem
  · simp [size_madeCells, icells]
  · intro i h1 h2
    simp [madeCells, Value.cells, icells, Nat.mod_one]
theorem Is.ofI {w : World} {N : Nat} {v : Value} {hs : List Nat} {n : Nat} (h : w.ownsRow N 3 1 v n (icells hs)) : Is w v (hs.map fun n : Nat => (n : Int)) := by
  refine Is.ofOwns (N := N) (n := n) ?_
  rw [List.map_map]
  exact h

section
variable {F G : Nat → Prop} {pd pl K : Nat} {S : St} {com : Nat → Option (List Int)} {pend : Nat} {ov : Value} {m : Nat} {V : Nat → Value}
/-- What readHead tells. -/
def RhTo (x : List Int) (hs : List Nat) (w : World) (e : Ending) (w' : World) : Prop :=
  Chg (fun _ => False) w w' ∧ ((x = headB hs ∧ ∃ u, e = .returned (.tuple #[u, .int .i64 0]) ∧ w'.ownsRow w.heap.size 3 1 u hs.length (icells hs)) ∨ (x ≠ headB hs ∧ e = .returned (.tuple #[.slice none 0 0, .int .i64 3])))

set_option maxHeartbeats 3200000 in
set_option maxRecDepth 100000 in
theorem readHead_any (x : List Int) (hs : List Nat) (w : World) (h : Lk w F G pd pl K S com pend ov m V) (hoff : S.off = false) (hx : S.writes < 1099511627776) (hd : S.last 0 = x) (R : Heads K x hs) :
    Calls Try.prog 54 #[.pointer (some ⟨pl, 0, none⟩)] w fun e w' => RhTo x hs w e w' := by
  obtain ⟨i0, hi, hz0, hz1, hz2⟩ := info_parts info3
  have c0 := h.lg.c0
  have e1 : S.readE ((0 : Nat) : Int) = 0 := by
    have := h.nb
    unfold St.readE; rw [if_neg (by simp [hoff]), if_pos (by omega)]
  have e2 : S.readV ((0 : Nat) : Int) = x := by unfold St.readV; rw [if_pos e1]; exact hd
  have RD : Hid (Calls Try.prog 63 #[.pointer (some ⟨pd, 0, none⟩), .int .i64 ((0 : Nat) : Int)] w fun e w' => ∃ u, e = .returned (.tuple #[u, .int .i64 0]) ∧ Fresh w w' u x) := by
    have := read_any F pd S ((0 : Nat) : Int) w h.dk hx
    rw [e1, e2] at this
    exact this
  have HK : Hid (Lk w F G pd pl K S com pend ov m V) := h
  have HR : Hid (Heads K x hs) := R
  have hxl := R.len
  have hsm := R.small
  clear h e1 e2 hd R
  go_enter Try.func54, Try.ntmps54
  go_wp2_with fail
  refine RD.out.mono ?_
  rintro e w1 ⟨u, rfl, f1⟩
  clear RD
  obtain ⟨ua, uc, hu⟩ := cown_slice f1.own
  rw [hxl] at hu
  subst hu
  have H1 : Hid (Fresh w w1 (.slice ua 512 uc) x) := f1
  clear f1
  go_wp2_with fail
  refine (newReader_any w.heap.size (.slice ua 512 uc) x w1 H1.out.bs (by omega) H1.out.chg.size).mono ?_
  rintro e w2 ⟨p, v2, rfl, r2, hc2, hp2⟩
  have H2 : Hid (RdS w.heap.size w2 p v2 ⟨x, 0⟩ ∧ Chg (fun _ => False) w w2 ∧ Bs w2 (.slice ua 512 uc) x ∧ w.heap.size ≤ p) :=
    ⟨r2, H1.out.chg.trans hc2 (fun _ _ h => h), H1.out.bs.kept hc2 (fun _ _ _ _ _ h => h), by have := H1.out.chg.size; omega⟩
  have HA : Hid (∀ a n c, Value.slice ua 512 uc = .slice (some a) n c → a.block ≠ p) := fun a n c e => by
    have : a.block < w1.heap.size := (H1.out.own.lt a.block (by rw [e]; rfl)).2
    omega
  clear r2 hc2 H1 hp2
  go_wp2_with fail
  refine (rfixed_any w.heap.size p v2 ⟨x, 0⟩ 13 w2 H2.out.1 (by show x.length ≤ _; omega)).mono ?_
  rintro e w3 ⟨u3, rfl, ⟨v3, t3⟩, _⟩
  have t3' : RdSTo w.heap.size p w2 w3 v3 ⟨x.drop 13, 0⟩ := by
    have e : tkS (fxI ⟨x, 0⟩ 13) 13 = ⟨x.drop 13, 0⟩ := by
      have : ¬ ((x.length : Int) < 13) := by omega
      simp [tkS, fxI, this]
    rw [e] at t3; exact t3
  have H3 : Hid (RdS w.heap.size w3 p v3 ⟨x.drop 13, 0⟩ ∧ Chg (fun _ => False) w w3 ∧ Bs w3 (.slice ua 512 uc) x) :=
    ⟨t3'.rd, H2.out.2.1.trans t3'.chg (fun i hi e => by have := H2.out.2.2.2; omega), H2.out.2.2.1.kept t3'.chg (fun a n c e _ => HA.out a n c e)⟩
  have HP : Hid (w.heap.size ≤ p) := H2.out.2.2.2
  clear t3 t3' H2
  go_wp2_with fail
  refine (ru16_any w.heap.size p v3 ⟨x.drop 13, 0⟩ w3 H3.out.1 (HR.out.isB.drop 13)).mono ?_
  rintro e w4 ⟨rfl, v4, t4⟩
  have ev : valB (tkV ⟨x.drop 13, 0⟩ 2) = (hs.length : Int) := by
    have h1 : ¬ (((x.drop 13).length : Int) < 2) := by rw [List.length_drop, hxl]; decide
    have e : tkV ⟨x.drop 13, 0⟩ 2 = (x.drop 13).take 2 := by unfold tkV; rw [if_pos rfl, if_neg h1]; rfl
    rw [e]; exact HR.out.cnt
  have es : tkS ⟨x.drop 13, 0⟩ 2 = ⟨x.drop 15, 0⟩ := by
    have h1 : ¬ (((x.drop 13).length : Int) < 2) := by rw [List.length_drop, hxl]; decide
    unfold tkS; rw [if_pos rfl, if_neg h1]
    show (⟨(x.drop 13).drop 2, 0⟩ : RS) = _
    rw [List.drop_drop]
  rw [ev]
  rw [es] at t4
  have H4 : Hid (RdS w.heap.size w4 p v4 ⟨x.drop 15, 0⟩ ∧ Chg (fun _ => False) w w4 ∧ Bs w4 (.slice ua 512 uc) x) :=
    ⟨t4.rd, H3.out.2.1.trans t4.chg (fun i hi e => by have := HP.out; omega), H3.out.2.2.kept t4.chg (fun a n c e _ => HA.out a n c e)⟩
  clear t4 H3 ev es
  have k63 : ¬ ((63 : Int) < (hs.length : Int)) := by omega
  have hpl4 : p < w4.heap.size := H4.out.1.lt
  go_wp2_with (refine wpList_make_full _ rfl _ _ 50 rfl w4.heap.size 3 i0 (.int .i64 0) 1 Try.underlying50 hi hz0 hz1 .i64 .i64 _ _ hs.length rfl rfl (by omega) (by omega) (by rw [hz2]; omega) (by unfold maxLen; omega) (Nat.le_refl _) ?_; intro w5 own5 grow5)
  rw [made_ints, ← hTo_zero] at own5
  have hc5 := Chg.of_none grow5
  have H5 : Hid (RdS w.heap.size w5 p v4 ⟨x.drop 15, 0⟩ ∧ Chg (fun _ => False) w w5 ∧ Bs w5 (.slice ua 512 uc) x ∧ w5.ownsRow w4.heap.size 3 1 (.slice (some ⟨w4.heap.size, 0, none⟩) hs.length hs.length) hs.length (icells (hTo hs 0))) :=
    ⟨H4.out.1.kept hc5 (fun h => h) (fun _ _ _ _ _ h => h), H4.out.2.1.trans hc5 (fun _ _ h => h), H4.out.2.2.kept hc5 (fun _ _ _ _ _ h => h), own5⟩
  have hw4 : w.heap.size ≤ w4.heap.size := H4.out.2.1.size
  have HA4 : Hid (∀ a n c, Value.slice ua 512 uc = .slice (some a) n c → 0 < n → a.block < w4.heap.size) := fun a n c e h0 => by
    rcases H4.out.2.2 with ⟨h2, _⟩ | ⟨a2, c2, h2, _, _, hcell⟩
    · rw [h2] at e; cases e
    · rw [h2] at e; cases e
      have := World.block_lt_of_cell? w4 _ (hcell 0 h0)
      exact this
  clear own5 grow5 hc5 H4
  go_wp2
  go_loopw [9, 33] (fun _ y wr => ∃ i vi, i ≤ hs.length ∧ y = .int .i64 (i : Int) ∧ Hid (RdS w.heap.size wr p vi ⟨x.drop (15 + 2 * i), 0⟩ ∧ Chg (fun _ => False) w wr ∧ Bs wr (.slice ua 512 uc) x ∧ wr.ownsRow w4.heap.size 3 1 (.slice (some ⟨w4.heap.size, 0, none⟩) hs.length hs.length) hs.length (icells (hTo hs i)))) (fun _ y _ => hs.length - (intOf y).toNat)
  case atStart => exact ⟨0, v4, Nat.zero_le _, rfl, H5⟩
  case round =>
    obtain ⟨i, vi, hil, rfl, HI⟩ := hrel
    clear H5
    by_cases hlt : i < hs.length
    · obtain ⟨n, hn⟩ : ∃ n, hs[i]? = some n := ⟨hs[i], List.getElem?_eq_getElem hlt⟩
      have HN : Hid (hs[i]? = some n) := hn
      have hnK : n < K := HR.out.lt n (List.mem_of_getElem? hn)
      have kd : decide (0 ≤ (n : Int) ∧ (n : Int) < K) = true := by simp; omega
      have hki : (i : Int) < (hs.length : Int) := by omega
      have hki2 : (i : Nat) < hs.length := hlt
      clear hn
      go_wp2_with fail
      refine (ru16_any w.heap.size p vi ⟨x.drop (15 + 2 * i), 0⟩ wr HI.out.1 (HR.out.isB.drop _)).mono ?_
      rintro e w6 ⟨rfl, v6, t6⟩
      have h1 : ¬ (((x.drop (15 + 2 * i)).length : Int) < 2) := by rw [List.length_drop, hxl]; omega
      have ev : valB (tkV ⟨x.drop (15 + 2 * i), 0⟩ 2) = (n : Int) := by
        have e : tkV ⟨x.drop (15 + 2 * i), 0⟩ 2 = (x.drop (15 + 2 * i)).take 2 := by unfold tkV; rw [if_pos rfl, if_neg h1]; rfl
        rw [e]; exact HR.out.num i n HN.out
      have es : tkS ⟨x.drop (15 + 2 * i), 0⟩ 2 = ⟨x.drop (15 + 2 * (i + 1)), 0⟩ := by
        unfold tkS; rw [if_pos rfl, if_neg h1]
        show (⟨(x.drop (15 + 2 * i)).drop 2, 0⟩ : RS) = _
        rw [List.drop_drop]
        congr 2
      rw [ev]
      rw [es] at t6
      have own6 : w6.ownsRow w4.heap.size 3 1 (.slice (some ⟨w4.heap.size, 0, none⟩) hs.length hs.length) hs.length (icells (hTo hs i)) := own_same HI.out.2.2.2 (fun g hg => t6.chg.block g (HI.out.2.2.2.lt g hg).2 (fun e => by have := own_at hg; omega))
      have H6 : Hid (RdS w.heap.size w6 p v6 ⟨x.drop (15 + 2 * (i + 1)), 0⟩ ∧ Chg (fun _ => False) w w6 ∧ Bs w6 (.slice ua 512 uc) x) :=
        ⟨t6.rd, HI.out.2.1.trans t6.chg (fun i hi e => by have := HP.out; omega), HI.out.2.2.1.kept t6.chg (fun a n c e _ => HA.out a n c e)⟩
      have hcw : w6.cell? ⟨w4.heap.size, i, none⟩ = some (.int .i64 (((hTo hs i).getD i 0 : Nat) : Int)) := by
        have oc := own6.cells (g := w4.heap.size) rfl i (.int .i64 (((hTo hs i).getD i 0 : Nat) : Int)) (by
          have : i < (hTo hs i).length := by rw [hTo_len (by omega)]; exact hlt
          simp [icells, List.getD, this])
        rwa [add_zero_off] at oc
      have hfz : w6.frozen? ⟨w4.heap.size, i, none⟩ = false := by
        obtain ⟨cu, hcu⟩ := own_obj own6 rfl
        simp [World.frozen?, hcu]
      have st := own6.stored i (.int .i64 (n : Int))
      have hn2 : icells (hTo hs (i + 1)) = (icells (hTo hs i)).set i (.int .i64 (n : Int)) := by
        rw [← hTo_succ HN.out]; simp [icells, List.map_set]
      rw [← hn2] at st
      have hcs := Chg.of_grown st.2
      have H7 : Hid (RdS w.heap.size (w6.setCell ⟨w4.heap.size, i, none⟩ (.int .i64 (n : Int))) p v6 ⟨x.drop (15 + 2 * (i + 1)), 0⟩ ∧ Chg (fun _ => False) w (w6.setCell ⟨w4.heap.size, i, none⟩ (.int .i64 (n : Int))) ∧ Bs (w6.setCell ⟨w4.heap.size, i, none⟩ (.int .i64 (n : Int))) (.slice ua 512 uc) x ∧ (w6.setCell ⟨w4.heap.size, i, none⟩ (.int .i64 (n : Int))).ownsRow w4.heap.size 3 1 (.slice (some ⟨w4.heap.size, 0, none⟩) hs.length hs.length) hs.length (icells (hTo hs (i + 1)))) := by
        refine ⟨H6.out.1.kept hcs (fun e => by omega) (fun a n c e h0 e2 => ?_), H6.out.2.1.trans hcs (fun k hk e => by omega), H6.out.2.2.kept hcs (fun a n c e h0 e2 => ?_), st.1⟩
        · have := H6.out.1.ne a n c e h0; omega
        · have := HA4.out a n c e h0; omega
      have LKs : Hid (Lk (w6.setCell ⟨w4.heap.size, i, none⟩ (.int .i64 (n : Int))) F G pd pl K S com pend ov m V) := HK.out.kept H7.out.2.1
      have hcl : (w6.setCell ⟨w4.heap.size, i, none⟩ (.int .i64 (n : Int))).cell? ⟨w4.heap.size, i, none⟩ = some (.int .i64 (n : Int)) := by
        have oc := st.1.cells (g := w4.heap.size) rfl i (.int .i64 (n : Int)) (by
          rw [hn2]
          have : i < (icells (hTo hs i)).length := by rw [icells, List.length_map, hTo_len (by omega)]; exact hlt
          simp [this])
        rwa [add_zero_off] at oc
      generalize ((((hTo hs i).getD i 0 : Nat)) : Int) = y0 at *
      clear t6 own6 H6 HI st hn2 hcs ev es h1
      go_wp2_with fail
      refine (lhas_any (n : Int) _ LKs.out).mono ?_
      rintro e w7 ⟨rfl, rfl⟩
      rw [kd]
      clear LKs hcl hcw hfz
      go_wp2
      go_roundw
      case rel => exact ⟨i + 1, v6, by omega, by go_num, H7⟩
      case measure => simp [intOf]; omega
    · have hie : i = hs.length := by omega
      subst hie
      have hki : ¬ ((hs.length : Int) < (hs.length : Int)) := by omega
      rw [hTo_end] at HI
      go_wp2_with fail
      refine (layHead_any _ hs wr (Is.ofI HI.out.2.2.2) hsm).mono ?_
      rintro e w6 ⟨u6, rfl, ho6, hc6⟩
      have hb6 : Bs w6 u6 (headB hs) := Bs.ofOwns ho6
      have H6 : Hid (Chg (fun _ => False) w w6 ∧ Bs w6 (.slice ua 512 uc) x ∧ w6.ownsRow w.heap.size 3 1 (.slice (some ⟨w4.heap.size, 0, none⟩) hs.length hs.length) hs.length (icells hs)) :=
        ⟨HI.out.2.1.trans hc6 (fun _ _ h => h), HI.out.2.2.1.kept hc6 (fun _ _ _ _ _ h => h), own_mono (own_same HI.out.2.2.2 (fun g hg => hc6.block g (HI.out.2.2.2.lt g hg).2 (fun h => h))) hw4⟩
      by_cases hxe : x = headB hs
      · have EQ : Hid (Calls Try.prog 77 #[.slice ua 512 uc, u6] w6 fun e w' => e = .returned (.bool true) ∧ w' = w6) := equal_same _ _ x w6 H6.out.2.1 (by rw [hxe]; exact hb6)
        have HQ : Hid (RhTo x hs w (.returned (.tuple #[.slice (some ⟨w4.heap.size, 0, none⟩) hs.length hs.length, .int .i64 0])) w6) := ⟨H6.out.1, .inl ⟨hxe, _, rfl, H6.out.2.2⟩⟩
        clear ho6 hc6 hb6 HI H6 hxe
        go_wp2_with fail
        refine EQ.out.mono ?_
        rintro e w7 ⟨rfl, rfl⟩
        clear EQ
        go_wp2
        go_ret2
        exact HQ.out
      · have EQ : Hid (Calls Try.prog 77 #[.slice ua 512 uc, u6] w6 fun e w' => e = .returned (.bool false) ∧ w' = w6) := equal_not _ _ x (headB hs) w6 H6.out.2.1 hb6 HR.out.isB (headB_isB hsm) hxe
        have HQ : Hid (RhTo x hs w (.returned (.tuple #[.slice none 0 0, .int .i64 3])) w6) := ⟨H6.out.1, .inr ⟨hxe, rfl⟩⟩
        clear ho6 hc6 hb6 HI H6 hxe
        go_wp2_with fail
        refine EQ.out.mono ?_
        rintro e w7 ⟨rfl, rfl⟩
        clear EQ
        go_wp2
        go_ret2
        exact HQ.out
end
end Go.Proofs.Ytkkmdmnjlncgfaa

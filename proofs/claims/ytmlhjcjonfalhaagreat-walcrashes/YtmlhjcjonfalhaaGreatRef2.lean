/-
  Contracts of Begin, Read and Write of the document's log.
-/
import Derived.Test.YtmlhjcjonfalhaaGreatRef
import Derived.Test.YtmlhjcjonfalhaaGreatLists
namespace Go.Proofs.YtmlhjcjonfalhaaGreat
open Go.RowKit Go.Maps

theorem made_strs (n : Nat) : (madeCells (Value.string ByteArray.empty).cells (n * 1)).toList = List.replicate n (.string ByteArray.empty) := by
  rw [Nat.mul_one]
  apply List.ext_getElem
  · simp [size_madeCells]
  · intro i h1 h2
    simp [madeCells, Value.cells, Nat.mod_one]
/-- The string of a block, or none. -/
def wstr (o : Option (List Int)) : ByteArray := match o with
  | some b => strOf b
  | none => ByteArray.empty
theorem str512 {b : List Int} (h : b.length = 512) : ((strOf b).toList == ByteArray.empty.toList) = false := by
  rw [beq_eq_false_iff_ne, ByteArray.toList_eq, ByteArray.toList_eq, strOf_list]
  intro e
  have := congrArg List.length e
  simp at this
  subst this
  simp at h
theorem strOf_size (xs : List Int) : (strOf xs).size = xs.length := by
  have := congrArg List.length (strOf_list xs)
  simpa using this

section
variable {w w' : World} {pr : Nat} {R : Rf} {lb lc db dc nb nc : Nat} {nv : Value}

set_option maxHeartbeats 1600000 in
theorem rbegin_busy (w : World) (h : RfAt w pr R lb lc db dc nb nc nv) (ho : R.op = true) : Calls Tryz.prog 69 #[.pointer (some ⟨pr, 0, none⟩)] w fun e w' => e = .returned (.int .i64 15) ∧ w' = w := by
  have c3 := h.c3
  rw [ho] at c3
  clear h
  go_enter Tryz.func69, Tryz.ntmps69
  go_wp2
  go_ret
  exact ⟨rfl, rfl⟩

theorem begin_facts {w1 : World} (h : RfAt w pr R lb lc db dc nb nc nv) (own1 : w1.ownsRow w.heap.size 9 1 (.slice (some ⟨(w.setCell ⟨pr, 3, none⟩ (.bool true)).heap.size, 0, none⟩) 70 70) 70 (madeCells (Value.string ByteArray.empty).cells (70 * 1)).toList) (grow1 : (w.setCell ⟨pr, 3, none⟩ (.bool true)).grownBy w1 none) :
    w1.cell? ⟨pr, 4, none⟩ = some nv ∧ w1.cell? ⟨pr, 5, none⟩ = some (.int .i64 (R.wrote : Int)) ∧ w1.frozen? ⟨pr, 4, none⟩ = false ∧ w1.frozen? ⟨pr, 5, none⟩ = false ∧
    Hid (∃ nb' nv', RfAt ((w1.setCell ⟨pr, 4, none⟩ (.slice (some ⟨w.heap.size, 0, none⟩) 70 70)).setCell ⟨pr, 5, none⟩ (.int .i64 0)) pr { R with op := true, W := fun _ => ByteArray.empty, wrote := 0 } lb lc db dc nb' 70 nv' ∧ Chg (fun b => b = pr) w ((w1.setCell ⟨pr, 4, none⟩ (.slice (some ⟨w.heap.size, 0, none⟩) 70 70)).setCell ⟨pr, 5, none⟩ (.int .i64 0)) ∧ w.heap.size ≤ nb' ∧ nb' < ((w1.setCell ⟨pr, 4, none⟩ (.slice (some ⟨w.heap.size, 0, none⟩) 70 70)).setCell ⟨pr, 5, none⟩ (.int .i64 0)).heap.size) := by
  have hs : (w.setCell ⟨pr, 3, none⟩ (.bool true)).heap.size = w.heap.size := World.size_setCell _ _ _
  rw [hs] at own1
  have hc1 : Chg (fun b => b = pr) w (w.setCell ⟨pr, 3, none⟩ (.bool true)) := Chg.setCell _ _ _ rfl
  have hc2 := Chg.of_none grow1
  have hb0 := heap_setCell_same w pr 3 _ 48 (.bool true) h.blk
  have hb1 := (hc2.block pr (by rw [hs]; exact h.lt) (fun h => h)).trans hb0
  have hw1 : w.heap.size < w1.heap.size := (own1.lt _ rfl).2
  have hrow : Row w1 w.heap.size 70 (fun _ => .string ByteArray.empty) := by
    refine Row.own own1 (fun j hj => ?_)
    rw [made_strs, List.getElem?_replicate, if_pos hj]
  have hcw : Chg (fun b => b = pr) w w1 := hc1.trans hc2 (fun _ _ h => h.elim)
  have hc3 : Chg (fun b => b = pr) w1 ((w1.setCell ⟨pr, 4, none⟩ (.slice (some ⟨w.heap.size, 0, none⟩) 70 70)).setCell ⟨pr, 5, none⟩ (.int .i64 0)) := (Chg.setCell (S := fun b => b = pr) _ _ _ rfl).trans (Chg.setCell (S := fun b => b = pr) _ _ _ rfl) (fun _ _ h => h)
  have hcc := hcw.trans hc3 (fun _ _ h => h)
  have g1 := heap_setCell_same w1 pr 4 _ 48 (.slice (some ⟨w.heap.size, 0, none⟩) 70 70) hb1
  have g2 := heap_setCell_same _ pr 5 _ 48 (.int .i64 0) g1
  have hne : w.heap.size ≠ pr := fun e => absurd h.lt (by omega)
  have hnl : w.heap.size ≠ lb := fun e => absurd h.l.lt (by omega)
  have hnd : w.heap.size ≠ db := fun e => absurd h.d.lt (by omega)
  refine ⟨?_, ?_, ?_, ?_, w.heap.size, _, ⟨by simpa using g2, h.l.kept hcc (Ne.symm h.pl), h.d.kept hcc (Ne.symm h.pd), fun _ => ⟨rfl, by omega, hrow.kept hc3 hne⟩, ⟨_, _, _, rfl⟩, h.pl, h.pd, fun _ => hne, h.ld, fun _ => ⟨hnl, hnd⟩, h.lcc, h.dcc⟩, hcc, Nat.le_refl _, ?_⟩
  · rw [cell_of_row w1 pr 4 _ _ _ hb1]; rfl
  · rw [cell_of_row w1 pr 5 _ _ _ hb1]; rfl
  · simp [World.frozen?, hb1]
  · simp [World.frozen?, hb1]
  · have := hc3.size; omega

set_option maxHeartbeats 1600000 in
set_option maxRecDepth 100000 in
theorem rbegin_any (w : World) (h : RfAt w pr R lb lc db dc nb nc nv) (ho : R.op = false) : Calls Tryz.prog 69 #[.pointer (some ⟨pr, 0, none⟩)] w fun e w' => e = .returned (.int .i64 0) ∧ ∃ nb' nv', RfAt w' pr { R with op := true, W := fun _ => ByteArray.empty, wrote := 0 } lb lc db dc nb' 70 nv' ∧ Chg (fun b => b = pr) w w' ∧ w.heap.size ≤ nb' ∧ nb' < w'.heap.size := by
  obtain ⟨i0, hi, hz0, hz1, hz2⟩ := info_parts info9
  have HK : Hid (RfAt w pr R lb lc db dc nb nc nv) := h
  have c0 := h.c0
  have c3 := h.c3
  have c4 := h.c4
  have c5 := h.c5
  have f3 := h.fr 3
  rw [ho] at c3
  have hpl := h.lt
  clear h
  go_enter Tryz.func69, Tryz.ntmps69
  go_wp2_with (refine wpList_make_full _ rfl _ _ 45 rfl w.heap.size 9 i0 (.string ByteArray.empty) 1 Tryz.underlying45 hi hz0 hz1 .i64 .i64 _ _ 70 rfl rfl (by omega) (by omega) (by rw [hz2]; omega) (by unfold maxLen; omega) (by simp) ?_; intro w1 own1 grow1; have HQ := begin_facts HK.out own1 grow1; have c4' := HQ.1; have c5' := HQ.2.1; have f4 := HQ.2.2.1; have f5 := HQ.2.2.2.1; have HE := HQ.2.2.2.2; clear HQ own1 grow1)
  go_wp2
  go_ret
  exact ⟨rfl, HE.out⟩
end
end Go.Proofs.YtmlhjcjonfalhaaGreat

namespace Go.Proofs.YtmlhjcjonfalhaaGreat
open Go.RowKit Go.Maps

section
variable {w w' : World} {pr : Nat} {R : Rf} {lb lc db dc nb nc : Nat} {nv : Value}

set_option maxHeartbeats 1600000 in
theorem rwrite_out (n : Int) (b : ByteArray) (w : World) (h : RfAt w pr R lb lc db dc nb nc nv) (hn : ¬ (0 ≤ n ∧ n < 70)) : Calls Tryz.prog 70 #[.pointer (some ⟨pr, 0, none⟩), .int .i64 n, .string b] w fun e w' => e = .returned (.int .i64 1) ∧ w' = w := by
  have HK : Hid (RfAt w pr R lb lc db dc nb nc nv) := h
  clear h
  have kd : decide (0 ≤ n ∧ n < 70) = false := by simpa using hn
  clear hn
  go_enter Tryz.func70, Tryz.ntmps70
  go_wp2_with fail
  refine (ris_any n w HK.out).mono ?_
  rintro e w1 ⟨rfl, rfl⟩
  rw [kd]
  go_wp2
  go_ret
  exact ⟨rfl, rfl⟩

set_option maxHeartbeats 1600000 in
theorem rwrite_shut (n : Nat) (b : ByteArray) (w : World) (h : RfAt w pr R lb lc db dc nb nc nv) (hn : n < 70) (hb : b.size = 512) (ho : R.op = false) : Calls Tryz.prog 70 #[.pointer (some ⟨pr, 0, none⟩), .int .i64 (n : Int), .string b] w fun e w' => e = .returned (.int .i64 15) ∧ w' = w := by
  have HK : Hid (RfAt w pr R lb lc db dc nb nc nv) := h
  have c3 := h.c3
  rw [ho] at c3
  clear h
  have kd : decide (0 ≤ (n : Int) ∧ (n : Int) < 70) = true := by simp; omega
  go_enter Tryz.func70, Tryz.ntmps70
  go_wp2_with fail
  refine (ris_any n w HK.out).mono ?_
  rintro e w1 ⟨rfl, rfl⟩
  rw [kd]
  go_wp2
  go_ret
  exact ⟨rfl, rfl⟩

set_option maxHeartbeats 1600000 in
theorem rwrite_full (n : Nat) (b : ByteArray) (w : World) (h : RfAt w pr R lb lc db dc nb nc nv) (hn : n < 70) (hb : b.size = 512) (ho : R.op = true) (hW : (R.W n).toList.isEmpty = true) (hf : R.wrote = 63) : Calls Tryz.prog 70 #[.pointer (some ⟨pr, 0, none⟩), .int .i64 (n : Int), .string b] w fun e w' => e = .returned (.int .i64 7) ∧ w' = w := by
  have HK : Hid (RfAt w pr R lb lc db dc nb nc nv) := h
  have c3 := h.c3
  have c4 := h.c4
  have c5 := h.c5
  obtain ⟨hnv, hnc, hrow⟩ := h.n ho
  have cl := hrow.cell hn
  rw [ho] at c3
  rw [hf] at c5
  subst hnv
  clear h hrow
  have kd : decide (0 ≤ (n : Int) ∧ (n : Int) < 70) = true := by simp; omega
  go_enter Tryz.func70, Tryz.ntmps70
  go_wp2_with fail
  refine (ris_any n w HK.out).mono ?_
  rintro e w1 ⟨rfl, rfl⟩
  rw [kd]
  go_wp2
  go_ret
  exact ⟨rfl, rfl⟩

theorem put_facts (n : Nat) (b : ByteArray) (m : Nat) (h : RfAt w pr R lb lc db dc nb nc nv) (hn : n < 70) (ho : R.op = true) (hw : Chg (fun x => x = pr) w w') (hb : w'.heap[pr]? = some (.cells #[.slice (some ⟨lb, 0, none⟩) 70 lc, .slice (some ⟨db, 0, none⟩) 70 dc, .int .i64 (R.pend : Int), .bool R.op, nv, .int .i64 (m : Int), .int .i64 (R.syncs : Int)] 48 (0, 0))) :
    RfAt (w'.setCell ⟨nb, n, none⟩ (.string b)) pr { R with W := upd R.W n b, wrote := m } lb lc db dc nb nc nv ∧ Chg (fun x => x = pr ∨ x = nb) w (w'.setCell ⟨nb, n, none⟩ (.string b)) := by
  have hc : Chg (fun x => x = nb) w' (w'.setCell ⟨nb, n, none⟩ (.string b)) := Chg.setCell _ _ _ rfl
  have hl : pr < w'.heap.size := (Array.getElem?_eq_some_iff.1 hb).1
  have hcc : Chg (fun x => x = pr ∨ x = nb) w (w'.setCell ⟨nb, n, none⟩ (.string b)) := (hw.mono (fun _ _ h => .inl h)).trans hc (fun _ _ h => .inr h)
  obtain ⟨h1, h2, h3⟩ := h.n ho
  obtain ⟨h4, h5⟩ := h.nl ho
  refine ⟨⟨(hc.block pr hl (Ne.symm (h.pn ho))).trans hb, h.l.kept hcc ?_, h.d.kept hcc ?_, fun _ => ⟨h1, h2, ((h3.kept hw (h.pn ho)).set hn (.string b)).congr (fun k _ => ?_)⟩, h.nvf, h.pl, h.pd, h.pn, h.ld, h.nl, h.lcc, h.dcc⟩, hcc⟩
  · rintro (e | e)
    · exact h.pl e.symm
    · exact h4 e.symm
  · rintro (e | e)
    · exact h.pd e.symm
    · exact h5 e.symm
  · by_cases e : k = n
    · subst e; simp [upd_same]
    · simp [upd_other _ _ e]

set_option maxHeartbeats 1600000 in
theorem rwrite_new (n : Nat) (b : ByteArray) (w : World) (h : RfAt w pr R lb lc db dc nb nc nv) (hn : n < 70) (hb : b.size = 512) (ho : R.op = true) (hW : (R.W n).toList.isEmpty = true) (hf : R.wrote < 63) : Calls Tryz.prog 70 #[.pointer (some ⟨pr, 0, none⟩), .int .i64 (n : Int), .string b] w fun e w' => e = .returned (.int .i64 0) ∧ RfAt w' pr { R with W := upd R.W n b, wrote := R.wrote + 1 } lb lc db dc nb nc nv ∧ Chg (fun x => x = pr ∨ x = nb) w w' := by
  have HK : Hid (RfAt w pr R lb lc db dc nb nc nv) := h
  have c3 := h.c3
  have c4 := h.c4
  have c5 := h.c5
  have f5 := h.fr 5
  obtain ⟨hnv, hnc, hrow⟩ := h.n ho
  have cl := hrow.cell hn
  have fz := hrow.fr n
  have HQ : Hid (RfAt ((w.setCell ⟨pr, 5, none⟩ (.int .i64 ((R.wrote : Int) + 1))).setCell ⟨nb, n, none⟩ (.string b)) pr { R with W := upd R.W n b, wrote := R.wrote + 1 } lb lc db dc nb nc nv ∧ Chg (fun x => x = pr ∨ x = nb) w ((w.setCell ⟨pr, 5, none⟩ (.int .i64 ((R.wrote : Int) + 1))).setCell ⟨nb, n, none⟩ (.string b))) := by
    refine put_facts n b (R.wrote + 1) h hn ho (Chg.setCell _ _ _ rfl) ?_
    have := heap_setCell_same w pr 5 _ 48 (.int .i64 ((R.wrote : Int) + 1)) h.blk
    simpa using this
  have hpn := h.pn ho
  have hnp := Ne.symm hpn
  rw [ho] at c3
  subst hnv
  clear h hrow
  have kd : decide (0 ≤ (n : Int) ∧ (n : Int) < 70) = true := by simp; omega
  have kw : ¬ ((R.wrote : Int) = 63) := by omega
  go_enter Tryz.func70, Tryz.ntmps70
  go_wp2_with fail
  refine (ris_any n w HK.out).mono ?_
  rintro e w1 ⟨rfl, rfl⟩
  rw [kd]
  go_wp2
  go_ret
  exact ⟨rfl, HQ.out⟩

set_option maxHeartbeats 1600000 in
theorem rwrite_old (n : Nat) (b : ByteArray) (w : World) (h : RfAt w pr R lb lc db dc nb nc nv) (hn : n < 70) (hb : b.size = 512) (ho : R.op = true) (hW : (R.W n).toList.isEmpty = false) : Calls Tryz.prog 70 #[.pointer (some ⟨pr, 0, none⟩), .int .i64 (n : Int), .string b] w fun e w' => e = .returned (.int .i64 0) ∧ RfAt w' pr { R with W := upd R.W n b } lb lc db dc nb nc nv ∧ Chg (fun x => x = pr ∨ x = nb) w w' := by
  have HK : Hid (RfAt w pr R lb lc db dc nb nc nv) := h
  have c3 := h.c3
  have c4 := h.c4
  obtain ⟨hnv, hnc, hrow⟩ := h.n ho
  have cl := hrow.cell hn
  have fz := hrow.fr n
  have HQ : Hid (RfAt (w.setCell ⟨nb, n, none⟩ (.string b)) pr { R with W := upd R.W n b } lb lc db dc nb nc nv ∧ Chg (fun x => x = pr ∨ x = nb) w (w.setCell ⟨nb, n, none⟩ (.string b))) :=
    put_facts n b R.wrote h hn ho (Chg.refl _ _) h.blk
  rw [ho] at c3
  subst hnv
  clear h hrow
  have kd : decide (0 ≤ (n : Int) ∧ (n : Int) < 70) = true := by simp; omega
  go_enter Tryz.func70, Tryz.ntmps70
  go_wp2_with fail
  refine (ris_any n w HK.out).mono ?_
  rintro e w1 ⟨rfl, rfl⟩
  rw [kd]
  go_wp2
  go_ret
  exact ⟨rfl, HQ.out⟩

set_option maxHeartbeats 1600000 in
theorem rread_out (n : Int) (w : World) (h : RfAt w pr R lb lc db dc nb nc nv) (hn : ¬ (0 ≤ n ∧ n < 70)) : Calls Tryz.prog 77 #[.pointer (some ⟨pr, 0, none⟩), .int .i64 n] w fun e w' => e = .returned (.tuple #[.string ByteArray.empty, .int .i64 1]) ∧ w' = w := by
  have HK : Hid (RfAt w pr R lb lc db dc nb nc nv) := h
  clear h
  have kd : decide (0 ≤ n ∧ n < 70) = false := by simpa using hn
  clear hn
  go_enter Tryz.func77, Tryz.ntmps77
  go_wp2_with fail
  refine (ris_any n w HK.out).mono ?_
  rintro e w1 ⟨rfl, rfl⟩
  rw [kd]
  go_wp2
  go_ret2
  exact ⟨rfl, rfl⟩

set_option maxHeartbeats 1600000 in
theorem rread_any (n : Nat) (w : World) (h : RfAt w pr R lb lc db dc nb nc nv) (hn : n < 70) (ho : R.op = true) : Calls Tryz.prog 77 #[.pointer (some ⟨pr, 0, none⟩), .int .i64 (n : Int)] w fun e w' => e = .returned (.tuple #[.string (if (R.W n).toList.isEmpty = true then R.L n else R.W n), .int .i64 0]) ∧ w' = w := by
  have HK : Hid (RfAt w pr R lb lc db dc nb nc nv) := h
  have c0 := h.c0
  have c4 := h.c4
  obtain ⟨hnv, hnc, hrow⟩ := h.n ho
  have cl := hrow.cell hn
  have cl2 := h.l.cell hn
  have hlc := h.lcc
  subst hnv
  clear h hrow
  have kd : decide (0 ≤ (n : Int) ∧ (n : Int) < 70) = true := by simp; omega
  by_cases hW : (R.W n).toList.isEmpty = true
  · rw [if_pos hW]
    go_enter Tryz.func77, Tryz.ntmps77
    go_wp2_with fail
    refine (ris_any n w HK.out).mono ?_
    rintro e w1 ⟨rfl, rfl⟩
    rw [kd]
    go_wp2
    go_ret2
    exact ⟨rfl, rfl⟩
  · rw [if_neg hW]
    have hW2 : (R.W n).toList.isEmpty = false := by simpa using hW
    go_enter Tryz.func77, Tryz.ntmps77
    go_wp2_with fail
    refine (ris_any n w HK.out).mono ?_
    rintro e w1 ⟨rfl, rfl⟩
    rw [kd]
    go_wp2
    go_ret2
    exact ⟨rfl, rfl⟩
end
end Go.Proofs.YtmlhjcjonfalhaaGreat

namespace Go.Proofs.YtmlhjcjonfalhaaGreat
open Go.RowKit Go.Maps

/-- Is block n dirty, or written by the open one? -/
def rtg (R : Rf) (n : Nat) : Bool := R.D n || !(R.W n).toList.isEmpty
section
variable {w w' : World} {pr : Nat} {R : Rf} {lb lc db dc nb nc : Nat} {nv : Value}

set_option maxHeartbeats 1600000 in
set_option maxRecDepth 100000 in
theorem rtog_any (w : World) (h : RfAt w pr R lb lc db dc nb nc nv) (ho : R.op = true) : Calls Tryz.prog 85 #[.pointer (some ⟨pr, 0, none⟩)] w fun e w' => e = .returned (.int .i64 (cntF 70 (rtg R) : Int)) ∧ w' = w := by
  have HK : Hid (RfAt w pr R lb lc db dc nb nc nv) := h
  have hdc := h.dcc
  have c0 := h.c0
  have c1 := h.c1
  have c4 := h.c4
  obtain ⟨hnv, hnc, _⟩ := h.n ho
  subst hnv
  clear h
  go_enter Tryz.func85, Tryz.ntmps85
  go_wp2
  go_loopw [3, 4] (fun x y wr => ∃ i, i ≤ 70 ∧ x = .int .i64 ((cntF i (rtg R) : Nat) : Int) ∧ y = .int .i64 ((i : Nat) : Int) ∧ wr = w) (fun _ y _ => 70 - (intOf y).toNat)
  case atStart => exact ⟨0, by omega, rfl, rfl, rfl⟩
  case round =>
    obtain ⟨i, hi, rfl, rfl, rfl⟩ := hrel
    by_cases hlt : i < 70
    · have hki : (i : Int) < 70 := by omega
      have cl := HK.out.d.cell hlt
      have cl2 := (HK.out.n ho).2.2.cell hlt
      have hcs := cntF_succ i (rtg R)
      have hle := cntF_le i (rtg R)
      have htg : rtg R i = (R.D i || !(R.W i).toList.isEmpty) := rfl
      obtain ⟨k, hk⟩ : ∃ k, cntF i (rtg R) = k := ⟨_, rfl⟩
      obtain ⟨b1, hb1⟩ : ∃ b, R.D i = b := ⟨_, rfl⟩
      obtain ⟨b2, hb2⟩ : ∃ b, (R.W i).toList.isEmpty = b := ⟨_, rfl⟩
      rw [hb1, hb2] at htg
      rw [htg] at hcs
      rw [hk] at hcs hle ⊢
      rw [hb1] at cl
      cases b1
      · cases b2
        · have HC : Hid (cntF (i + 1) (rtg R) = k + 1) := by show cntF (i + 1) (rtg R) = k + 1; simpa using hcs
          clear hcs htg hk
          go_wp2
          go_roundw
          case rel => exact ⟨i + 1, by omega, by rw [HC.out]; go_num, by go_num, trivial⟩
          case measure => simp [intOf]; omega
        · have HC : Hid (cntF (i + 1) (rtg R) = k) := by show cntF (i + 1) (rtg R) = k; simpa using hcs
          clear hcs htg hk
          go_wp2
          go_roundw
          case rel => exact ⟨i + 1, by omega, by rw [HC.out], by go_num, trivial⟩
          case measure => simp [intOf]; omega
      · have HC : Hid (cntF (i + 1) (rtg R) = k + 1) := by show cntF (i + 1) (rtg R) = k + 1; simpa using hcs
        clear hcs htg hk
        go_wp2
        go_roundw
        case rel => exact ⟨i + 1, by omega, by rw [HC.out]; go_num, by go_num, trivial⟩
        case measure => simp [intOf]; omega
    · have hie : i = 70 := by omega
      subst hie
      go_wp2
      go_ret
      exact ⟨rfl, rfl⟩
/-- Sync, of the document's log. -/
def rsyn (R : Rf) : Rf := { R with D := fun _ => false, pend := 0, syncs := R.syncs + 1 }
/-- Commit, behind the Sync: its first i rounds. -/
def rmid (R : Rf) (i : Nat) : Rf := { R with op := false, L := fun n => if n < i ∧ (R.W n).toList.isEmpty = false then R.W n else R.L n, D := fun n => if n < i then rtg R n else R.D n }
/-- Commit, behind the Sync. -/
def rcom1 (R : Rf) : Rf := { R with op := false, L := fun n => if (R.W n).toList.isEmpty = false then R.W n else R.L n, D := rtg R, pend := R.pend + 1 }
/-- Commit. -/
def rcom (R : Rf) : Rf := if 63 < cntF 70 (rtg R) then rcom1 (rsyn R) else rcom1 R
theorem rmid_zero (R : Rf) : rmid R 0 = { R with op := false } := by simp [rmid]
theorem rmid_empty {R : Rf} {i : Nat} (h : (R.W i).toList.isEmpty = true) : rmid R (i + 1) = rmid R i := by
  unfold rmid
  congr 1
  · funext n
    by_cases e : n = i
    · subst e; simp [h]
    · have : (n < i + 1) = (n < i) := by simp; omega
      simp [this]
  · funext n
    by_cases e : n = i
    · subst e; simp [rtg, h]
    · have : (n < i + 1) = (n < i) := by simp; omega
      simp [this]
theorem commit_start {w1 : World} {R1 : Rf} (h : RfAt w1 pr R1 lb lc db dc nb nc nv) (ho : R1.op = true) (hc : Chg (fun b => b = pr ∨ b = lb ∨ b = db) w w1) :
    RfAt (w1.setCell ⟨pr, 3, none⟩ (.bool false)) pr { R1 with op := false } lb lc db dc nb nc nv ∧ Row (w1.setCell ⟨pr, 3, none⟩ (.bool false)) nb 70 (fun n => .string (R1.W n)) ∧ Chg (fun b => b = pr ∨ b = lb ∨ b = db) w (w1.setCell ⟨pr, 3, none⟩ (.bool false)) := by
  have hcs : Chg (fun b => b = pr) w1 (w1.setCell ⟨pr, 3, none⟩ (.bool false)) := Chg.setCell _ _ _ rfl
  refine ⟨h.restruct hcs ?_ rfl rfl rfl (fun h => by cases h), (h.n ho).2.2.kept hcs (h.pn ho), hc.trans hcs (fun _ _ h => .inl h)⟩
  have := heap_setCell_same w1 pr 3 _ 48 (.bool false) h.blk
  simpa using this
theorem commit_put {R1 : Rf} {i : Nat} (hi : i < 70) (hW : (R1.W i).toList.isEmpty = false) (h1 : nb ≠ lb) (h2 : nb ≠ db) (h : RfAt w' pr (rmid R1 i) lb lc db dc nb nc nv) (hr : Row w' nb 70 (fun n => .string (R1.W n))) (hc : Chg (fun b => b = pr ∨ b = lb ∨ b = db) w w') :
    RfAt ((w'.setCell ⟨lb, i, none⟩ (.string (R1.W i))).setCell ⟨db, i, none⟩ (.bool true)) pr (rmid R1 (i + 1)) lb lc db dc nb nc nv ∧ Row ((w'.setCell ⟨lb, i, none⟩ (.string (R1.W i))).setCell ⟨db, i, none⟩ (.bool true)) nb 70 (fun n => .string (R1.W n)) ∧ Chg (fun b => b = pr ∨ b = lb ∨ b = db) w ((w'.setCell ⟨lb, i, none⟩ (.string (R1.W i))).setCell ⟨db, i, none⟩ (.bool true)) := by
  have k1 : Chg (fun b => b = lb) w' (w'.setCell ⟨lb, i, none⟩ (.string (R1.W i))) := Chg.setCell _ _ _ rfl
  have k2 : Chg (fun b => b = db) (w'.setCell ⟨lb, i, none⟩ (.string (R1.W i))) ((w'.setCell ⟨lb, i, none⟩ (.string (R1.W i))).setCell ⟨db, i, none⟩ (.bool true)) := Chg.setCell _ _ _ rfl
  have k : Chg (fun b => b = lb ∨ b = db) w' ((w'.setCell ⟨lb, i, none⟩ (.string (R1.W i))).setCell ⟨db, i, none⟩ (.bool true)) := (k1.mono (fun _ _ h => .inl h)).trans k2 (fun _ _ h => .inr h)
  have hnk : ¬ (nb = lb ∨ nb = db) := by rintro (e | e); exact h1 e; exact h2 e
  have hpk : ¬ (pr = lb ∨ pr = db) := by rintro (e | e); exact h.pl e; exact h.pd e
  refine ⟨⟨(k.block pr h.lt hpk).trans h.blk, ((h.l.set hi (.string (R1.W i))).kept k2 h.ld).congr (fun n _ => ?_), ((h.d.kept k1 (Ne.symm h.ld)).set hi (.bool true)).congr (fun n _ => ?_), fun ho => (by cases ho), h.nvf, h.pl, h.pd, fun ho => (by cases ho), h.ld, fun ho => (by cases ho), h.lcc, h.dcc⟩, hr.kept k hnk, hc.trans k (fun _ _ h => .inr h)⟩
  · by_cases e : n = i
    · subst e; rw [upd_same]; show _ = Value.string (if n < n + 1 ∧ (R1.W n).toList.isEmpty = false then R1.W n else R1.L n); rw [if_pos ⟨by omega, hW⟩]
    · have : (n < i + 1) = (n < i) := by simp; omega
      rw [upd_other _ _ e]; simp [rmid, this]
  · by_cases e : n = i
    · subst e; rw [upd_same]; simp [rmid, rtg, hW]
    · have : (n < i + 1) = (n < i) := by simp; omega
      rw [upd_other _ _ e]; simp [rmid, this]
theorem commit_last {R1 : Rf} (h : RfAt w' pr (rmid R1 70) lb lc db dc nb nc nv) (hc : Chg (fun b => b = pr ∨ b = lb ∨ b = db) w w') :
    RfAt (w'.setCell ⟨pr, 2, none⟩ (.int .i64 ((R1.pend : Int) + 1))) pr (rcom1 R1) lb lc db dc nb nc nv ∧ Chg (fun b => b = pr ∨ b = lb ∨ b = db) w (w'.setCell ⟨pr, 2, none⟩ (.int .i64 ((R1.pend : Int) + 1))) := by
  have hcs : Chg (fun b => b = pr) w' (w'.setCell ⟨pr, 2, none⟩ (.int .i64 ((R1.pend : Int) + 1))) := Chg.setCell _ _ _ rfl
  have g := heap_setCell_same w' pr 2 _ 48 (.int .i64 ((R1.pend : Int) + 1)) h.blk
  refine ⟨⟨by simpa [rcom1, rmid] using g, (h.l.kept hcs (Ne.symm h.pl)).congr (fun n hn => by simp [rmid, rcom1, hn]), (h.d.kept hcs (Ne.symm h.pd)).congr (fun n hn => by simp [rmid, rcom1, hn]), fun ho => (by cases ho), h.nvf, h.pl, h.pd, fun ho => (by cases ho), h.ld, fun ho => (by cases ho), h.lcc, h.dcc⟩, hc.trans hcs (fun _ _ h => .inl h)⟩

set_option maxHeartbeats 1600000 in
theorem rcommit_shut (w : World) (h : RfAt w pr R lb lc db dc nb nc nv) (ho : R.op = false) : Calls Tryz.prog 71 #[.pointer (some ⟨pr, 0, none⟩)] w fun e w' => e = .returned (.int .i64 15) ∧ w' = w := by
  have c3 := h.c3
  rw [ho] at c3
  clear h
  go_enter Tryz.func71, Tryz.ntmps71
  go_wp2
  go_ret
  exact ⟨rfl, rfl⟩

set_option maxHeartbeats 3200000 in
set_option maxRecDepth 100000 in
theorem rcommit_few (w : World) (h : RfAt w pr R lb lc db dc nb nc nv) (ho : R.op = true) (hp : R.pend < 1000000) (hf : cntF 70 (rtg R) ≤ 63) : Calls Tryz.prog 71 #[.pointer (some ⟨pr, 0, none⟩)] w fun e w' => e = .returned (.int .i64 0) ∧ ∃ nv', nv' = nv ∧ RfAt w' pr (rcom R) lb lc db dc nb nc nv' ∧ Chg (fun b => b = pr ∨ b = lb ∨ b = db) w w' := by
  have HK : Hid (RfAt w pr R lb lc db dc nb nc nv) := h
  have c3 := h.c3
  rw [ho] at c3
  clear h
  have hR : rcom R = rcom1 R := by unfold rcom; rw [if_neg (by omega)]
  go_enter Tryz.func71, Tryz.ntmps71
  go_wp2_with fail
  refine (rtog_any w HK.out ho).mono ?_
  rintro e w1 ⟨rfl, rfl⟩
  obtain ⟨k, hk⟩ : ∃ k, cntF 70 (rtg R) = k := ⟨_, rfl⟩
  rw [hk] at hf ⊢
  have kf : ¬ ((63 : Int) < (k : Int)) := by omega
  obtain ⟨R1, hR1⟩ : ∃ R1, R1 = R := ⟨_, rfl⟩
  have H1 : Hid (RfAt w1 pr R1 lb lc db dc nb nc nv ∧ Chg (fun b => b = pr ∨ b = lb ∨ b = db) w1 w1) := by rw [hR1]; exact ⟨HK.out, Chg.refl _ _⟩
  have ho1 : R1.op = true := by rw [hR1]; exact ho
  have hp1 : R1.pend < 1000000 := by rw [hR1]; exact hp
  replace hR : rcom R = rcom1 R1 := by rw [hR1]; exact hR
  clear hk hR1 c3 hp
  have HL : Hid (RfAt (w1.setCell ⟨pr, 3, none⟩ (.bool false)) pr { R1 with op := false } lb lc db dc nb nc nv ∧ Row (w1.setCell ⟨pr, 3, none⟩ (.bool false)) nb 70 (fun n => .string (R1.W n)) ∧ Chg (fun b => b = pr ∨ b = lb ∨ b = db) w1 (w1.setCell ⟨pr, 3, none⟩ (.bool false))) := commit_start H1.out.1 ho1 H1.out.2
  have HN : Hid (nb ≠ lb ∧ nb ≠ db ∧ nb ≠ pr) := ⟨(H1.out.1.nl ho1).1, (H1.out.1.nl ho1).2, H1.out.1.pn ho1⟩
  have c3 := H1.out.1.c3
  have f3 := H1.out.1.fr 3
  have hnv := (H1.out.1.n ho1).1
  have hnc := (H1.out.1.n ho1).2.1
  have hlc := H1.out.1.lcc
  have hdc := H1.out.1.dcc
  rw [ho1] at c3
  subst hnv
  clear H1 HK
  go_wp2
  go_loopw [3] (fun x wr => ∃ i, i ≤ 70 ∧ x = .int .i64 ((i : Nat) : Int) ∧ Hid (RfAt wr pr (rmid R1 i) lb lc db dc nb nc (.slice (some ⟨nb, 0, none⟩) 70 nc) ∧ Row wr nb 70 (fun n => .string (R1.W n)) ∧ Chg (fun b => b = pr ∨ b = lb ∨ b = db) w1 wr)) (fun x _ => 70 - (intOf x).toNat)
  case atStart => exact ⟨0, by omega, rfl, by rw [rmid_zero]; exact HL.out.1, HL.out.2.1, HL.out.2.2⟩
  case round =>
    obtain ⟨i, hi, rfl, HR⟩ := hrel
    clear HL
    have c0 := HR.out.1.c0
    by_cases hlt : i < 70
    · have hki : (i : Int) < 70 := by omega
      have c1 := HR.out.1.c1
      have c4 := HR.out.1.c4
      have cl := HR.out.2.1.cell hlt
      have cl1 := HR.out.1.l.cell hlt
      have cl2 := HR.out.1.d.cell hlt
      have fl1 := HR.out.1.l.fr i
      have fl2 := HR.out.1.d.fr i
      have hld := HR.out.1.ld
      have hdl := Ne.symm hld
      obtain ⟨t0, ht0⟩ : ∃ t, (rmid R1 i).L i = t := ⟨_, rfl⟩
      obtain ⟨t1, ht1⟩ : ∃ t, (rmid R1 i).D i = t := ⟨_, rfl⟩
      obtain ⟨t2, ht2⟩ : ∃ t, R1.W i = t := ⟨_, rfl⟩
      rw [ht0] at cl1
      rw [ht1] at cl2
      rw [ht2] at cl
      by_cases hW : t2.toList.isEmpty = true
      · have H2 : Hid (RfAt wr pr (rmid R1 (i + 1)) lb lc db dc nb nc (.slice (some ⟨nb, 0, none⟩) 70 nc) ∧ Row wr nb 70 (fun n => .string (R1.W n)) ∧ Chg (fun b => b = pr ∨ b = lb ∨ b = db) w1 wr) := by
          rw [rmid_empty (by rw [ht2]; exact hW)]
          exact HR.out
        clear HR ht0 ht1 ht2
        go_wp2
        go_roundw
        case rel => exact ⟨i + 1, by omega, by go_num, H2⟩
        case measure => simp [intOf]; omega
      · have hW2 : t2.toList.isEmpty = false := by simpa using hW
        have q0 : (wr.drew.setCell ⟨lb, i, none⟩ (.string t2)).cell? ⟨pr, 0, none⟩ = some (.slice (some ⟨lb, 0, none⟩) 70 lc) := (Chg.setCell (S := fun b => b = lb) wr.drew ⟨lb, i, none⟩ _ rfl).cell c0 HR.out.1.pl
        have q4 : (wr.drew.setCell ⟨lb, i, none⟩ (.string t2)).cell? ⟨pr, 4, none⟩ = some (.slice (some ⟨nb, 0, none⟩) 70 nc) := (Chg.setCell (S := fun b => b = lb) wr.drew ⟨lb, i, none⟩ _ rfl).cell c4 HR.out.1.pl
        have ql : (wr.drew.setCell ⟨lb, i, none⟩ (.string t2)).cell? ⟨nb, i, none⟩ = some (.string t2) := (Chg.setCell (S := fun b => b = lb) wr.drew ⟨lb, i, none⟩ _ rfl).cell cl HN.out.1
        have hpl := HR.out.1.pl
        have hpd := HR.out.1.pd
        have H2 : Hid (RfAt ((wr.drew.setCell ⟨lb, i, none⟩ (.string t2)).setCell ⟨db, i, none⟩ (.bool true)) pr (rmid R1 (i + 1)) lb lc db dc nb nc (.slice (some ⟨nb, 0, none⟩) 70 nc) ∧ Row ((wr.drew.setCell ⟨lb, i, none⟩ (.string t2)).setCell ⟨db, i, none⟩ (.bool true)) nb 70 (fun n => .string (R1.W n)) ∧ Chg (fun b => b = pr ∨ b = lb ∨ b = db) w1 ((wr.drew.setCell ⟨lb, i, none⟩ (.string t2)).setCell ⟨db, i, none⟩ (.bool true))) := by
          rw [← ht2]
          exact commit_put hlt (by rw [ht2]; exact hW2) HN.out.1 HN.out.2.1 (HR.out.1.kept (Chg.drew (fun _ => False) wr) (fun h => h) (fun h => h) (fun h => h) (fun _ h => h)) (HR.out.2.1.kept (Chg.drew (fun _ => False) wr) (fun h => h)) (HR.out.2.2.trans (Chg.drew (fun _ => False) wr) (fun _ _ h => h.elim))
        clear HR ht0 ht1 ht2 hW
        go_wp2_with fail
        go_region_held (fun w' => w'.cell? ⟨pr, 0, none⟩ = some (.slice (some ⟨lb, 0, none⟩) 70 lc) ∧ w'.cell? ⟨pr, 4, none⟩ = some (.slice (some ⟨nb, 0, none⟩) 70 nc) ∧ w'.cell? ⟨nb, i, none⟩ = some (.string t2))
          (first | assumption | exact ⟨c0, c4, cl⟩ | exact ⟨q0, q4, ql⟩)
          (fail)
        all_goals
          clear q0 q4 ql
          go_wp2
          go_roundw
          case rel => exact ⟨i + 1, by omega, by go_num, H2⟩
          case measure => simp [intOf]; omega
    · have hie : i = 70 := by omega
      subst hie
      have c2 := HR.out.1.c2
      have f2 := HR.out.1.fr 2
      have hp0 : (rmid R1 70).pend = R1.pend := rfl
      rw [hp0] at c2
      have HQ : Hid (RfAt (wr.setCell ⟨pr, 2, none⟩ (.int .i64 ((R1.pend : Int) + 1))) pr (rcom1 R1) lb lc db dc nb nc (.slice (some ⟨nb, 0, none⟩) 70 nc) ∧ Chg (fun b => b = pr ∨ b = lb ∨ b = db) w1 (wr.setCell ⟨pr, 2, none⟩ (.int .i64 ((R1.pend : Int) + 1)))) := commit_last HR.out.1 HR.out.2.2
      clear HR
      go_wp2
      go_ret
      refine ⟨rfl, ?_⟩
      rw [hR]
      exact ⟨_, rfl, HQ.out⟩


set_option maxHeartbeats 3200000 in
set_option maxRecDepth 100000 in
theorem rcommit_many (w : World) (h : RfAt w pr R lb lc db dc nb nc nv) (ho : R.op = true) (hs : R.syncs < 1000000) (hf : 63 < cntF 70 (rtg R)) : Calls Tryz.prog 71 #[.pointer (some ⟨pr, 0, none⟩)] w fun e w' => e = .returned (.int .i64 0) ∧ ∃ nv', nv' = nv ∧ RfAt w' pr (rcom R) lb lc db dc nb nc nv' ∧ Chg (fun b => b = pr ∨ b = lb ∨ b = db) w w' := by
  have HK : Hid (RfAt w pr R lb lc db dc nb nc nv) := h
  have c3 := h.c3
  rw [ho] at c3
  clear h
  have hR : rcom R = rcom1 (rsyn R) := by unfold rcom; rw [if_pos (by omega)]
  go_enter Tryz.func71, Tryz.ntmps71
  go_wp2_with fail
  refine (rtog_any w HK.out ho).mono ?_
  rintro e w0 ⟨rfl, rfl⟩
  obtain ⟨k, hk⟩ : ∃ k, cntF 70 (rtg R) = k := ⟨_, rfl⟩
  rw [hk] at hf ⊢
  have kf : (63 : Int) < (k : Int) := by omega
  clear hk c3
  go_wp2_with fail
  refine (rsync_any w0 HK.out (by omega)).mono ?_
  rintro e w1 ⟨rfl, h1, hc1⟩
  obtain ⟨R1, hR1⟩ : ∃ R1, R1 = rsyn R := ⟨_, rfl⟩
  have H1 : Hid (RfAt w1 pr R1 lb lc db dc nb nc nv ∧ Chg (fun b => b = pr ∨ b = lb ∨ b = db) w0 w1) := by
    rw [hR1]
    refine ⟨h1, hc1.mono (fun _ _ h => ?_)⟩
    rcases h with h | h
    · exact .inl h
    · exact .inr (.inr h)
  have ho1 : R1.op = true := by rw [hR1]; exact ho
  have hp1 : R1.pend < 1000000 := by rw [hR1]; show 0 < 1000000; omega
  replace hR : rcom R = rcom1 R1 := by rw [hR1]; exact hR
  clear hR1 h1 hc1
  have HL : Hid (RfAt (w1.setCell ⟨pr, 3, none⟩ (.bool false)) pr { R1 with op := false } lb lc db dc nb nc nv ∧ Row (w1.setCell ⟨pr, 3, none⟩ (.bool false)) nb 70 (fun n => .string (R1.W n)) ∧ Chg (fun b => b = pr ∨ b = lb ∨ b = db) w0 (w1.setCell ⟨pr, 3, none⟩ (.bool false))) := commit_start H1.out.1 ho1 H1.out.2
  have HN : Hid (nb ≠ lb ∧ nb ≠ db ∧ nb ≠ pr) := ⟨(H1.out.1.nl ho1).1, (H1.out.1.nl ho1).2, H1.out.1.pn ho1⟩
  have c3 := H1.out.1.c3
  have f3 := H1.out.1.fr 3
  have hnv := (H1.out.1.n ho1).1
  have hnc := (H1.out.1.n ho1).2.1
  have hlc := H1.out.1.lcc
  have hdc := H1.out.1.dcc
  rw [ho1] at c3
  subst hnv
  clear H1 HK
  go_wp2
  go_loopw [3] (fun x wr => ∃ i, i ≤ 70 ∧ x = .int .i64 ((i : Nat) : Int) ∧ Hid (RfAt wr pr (rmid R1 i) lb lc db dc nb nc (.slice (some ⟨nb, 0, none⟩) 70 nc) ∧ Row wr nb 70 (fun n => .string (R1.W n)) ∧ Chg (fun b => b = pr ∨ b = lb ∨ b = db) w0 wr)) (fun x _ => 70 - (intOf x).toNat)
  case atStart => exact ⟨0, by omega, rfl, by rw [rmid_zero]; exact HL.out.1, HL.out.2.1, HL.out.2.2⟩
  case round =>
    obtain ⟨i, hi, rfl, HR⟩ := hrel
    clear HL
    have c0 := HR.out.1.c0
    by_cases hlt : i < 70
    · have hki : (i : Int) < 70 := by omega
      have c1 := HR.out.1.c1
      have c4 := HR.out.1.c4
      have cl := HR.out.2.1.cell hlt
      have cl1 := HR.out.1.l.cell hlt
      have cl2 := HR.out.1.d.cell hlt
      have fl1 := HR.out.1.l.fr i
      have fl2 := HR.out.1.d.fr i
      have hld := HR.out.1.ld
      have hdl := Ne.symm hld
      obtain ⟨t0, ht0⟩ : ∃ t, (rmid R1 i).L i = t := ⟨_, rfl⟩
      obtain ⟨t1, ht1⟩ : ∃ t, (rmid R1 i).D i = t := ⟨_, rfl⟩
      obtain ⟨t2, ht2⟩ : ∃ t, R1.W i = t := ⟨_, rfl⟩
      rw [ht0] at cl1
      rw [ht1] at cl2
      rw [ht2] at cl
      by_cases hW : t2.toList.isEmpty = true
      · have H2 : Hid (RfAt wr pr (rmid R1 (i + 1)) lb lc db dc nb nc (.slice (some ⟨nb, 0, none⟩) 70 nc) ∧ Row wr nb 70 (fun n => .string (R1.W n)) ∧ Chg (fun b => b = pr ∨ b = lb ∨ b = db) w0 wr) := by
          rw [rmid_empty (by rw [ht2]; exact hW)]
          exact HR.out
        clear HR ht0 ht1 ht2
        go_wp2
        go_roundw
        case rel => exact ⟨i + 1, by omega, by go_num, H2⟩
        case measure => simp [intOf]; omega
      · have hW2 : t2.toList.isEmpty = false := by simpa using hW
        have q0 : (wr.drew.setCell ⟨lb, i, none⟩ (.string t2)).cell? ⟨pr, 0, none⟩ = some (.slice (some ⟨lb, 0, none⟩) 70 lc) := (Chg.setCell (S := fun b => b = lb) wr.drew ⟨lb, i, none⟩ _ rfl).cell c0 HR.out.1.pl
        have q4 : (wr.drew.setCell ⟨lb, i, none⟩ (.string t2)).cell? ⟨pr, 4, none⟩ = some (.slice (some ⟨nb, 0, none⟩) 70 nc) := (Chg.setCell (S := fun b => b = lb) wr.drew ⟨lb, i, none⟩ _ rfl).cell c4 HR.out.1.pl
        have ql : (wr.drew.setCell ⟨lb, i, none⟩ (.string t2)).cell? ⟨nb, i, none⟩ = some (.string t2) := (Chg.setCell (S := fun b => b = lb) wr.drew ⟨lb, i, none⟩ _ rfl).cell cl HN.out.1
        have hpl := HR.out.1.pl
        have hpd := HR.out.1.pd
        have H2 : Hid (RfAt ((wr.drew.setCell ⟨lb, i, none⟩ (.string t2)).setCell ⟨db, i, none⟩ (.bool true)) pr (rmid R1 (i + 1)) lb lc db dc nb nc (.slice (some ⟨nb, 0, none⟩) 70 nc) ∧ Row ((wr.drew.setCell ⟨lb, i, none⟩ (.string t2)).setCell ⟨db, i, none⟩ (.bool true)) nb 70 (fun n => .string (R1.W n)) ∧ Chg (fun b => b = pr ∨ b = lb ∨ b = db) w0 ((wr.drew.setCell ⟨lb, i, none⟩ (.string t2)).setCell ⟨db, i, none⟩ (.bool true))) := by
          rw [← ht2]
          exact commit_put hlt (by rw [ht2]; exact hW2) HN.out.1 HN.out.2.1 (HR.out.1.kept (Chg.drew (fun _ => False) wr) (fun h => h) (fun h => h) (fun h => h) (fun _ h => h)) (HR.out.2.1.kept (Chg.drew (fun _ => False) wr) (fun h => h)) (HR.out.2.2.trans (Chg.drew (fun _ => False) wr) (fun _ _ h => h.elim))
        clear HR ht0 ht1 ht2 hW
        go_wp2_with fail
        go_region_held (fun w' => w'.cell? ⟨pr, 0, none⟩ = some (.slice (some ⟨lb, 0, none⟩) 70 lc) ∧ w'.cell? ⟨pr, 4, none⟩ = some (.slice (some ⟨nb, 0, none⟩) 70 nc) ∧ w'.cell? ⟨nb, i, none⟩ = some (.string t2))
          (first | assumption | exact ⟨c0, c4, cl⟩ | exact ⟨q0, q4, ql⟩)
          (fail)
        all_goals
          clear q0 q4 ql
          go_wp2
          go_roundw
          case rel => exact ⟨i + 1, by omega, by go_num, H2⟩
          case measure => simp [intOf]; omega
    · have hie : i = 70 := by omega
      subst hie
      have c2 := HR.out.1.c2
      have f2 := HR.out.1.fr 2
      have hp0 : (rmid R1 70).pend = R1.pend := rfl
      rw [hp0] at c2
      have HQ : Hid (RfAt (wr.setCell ⟨pr, 2, none⟩ (.int .i64 ((R1.pend : Int) + 1))) pr (rcom1 R1) lb lc db dc nb nc (.slice (some ⟨nb, 0, none⟩) 70 nc) ∧ Chg (fun b => b = pr ∨ b = lb ∨ b = db) w0 (wr.setCell ⟨pr, 2, none⟩ (.int .i64 ((R1.pend : Int) + 1)))) := commit_last HR.out.1 HR.out.2.2
      clear HR
      go_wp2
      go_ret
      refine ⟨rfl, ?_⟩
      rw [hR]
      exact ⟨_, rfl, HQ.out⟩
end
end Go.Proofs.YtmlhjcjonfalhaaGreat

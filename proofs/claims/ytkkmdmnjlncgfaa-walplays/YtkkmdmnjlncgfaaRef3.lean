/-
  Contracts of Read and Write of the document's log.
-/
import Derived.Test.YtkkmdmnjlncgfaaRef2
namespace Go.Proofs.Ytkkmdmnjlncgfaa
open Go.RowKit Go.Maps

section
variable {w w' : World} {pr : Nat} {R : Rf} {lb lc db dc nb nc : Nat} {nv : Value}

set_option maxHeartbeats 1600000 in
theorem rwrite_out (n : Int) (b : ByteArray) (w : World) (h : RfAt w pr R lb lc db dc nb nc nv) (hn : ¬ (0 ≤ n ∧ n < 70)) : Calls Try.prog 42 #[.pointer (some ⟨pr, 0, none⟩), .int .i64 n, .string b] w fun e w' => e = .returned (.int .i64 1) ∧ w' = w := by
  have HK : Hid (RfAt w pr R lb lc db dc nb nc nv) := h
  clear h
  have kd : decide (0 ≤ n ∧ n < 70) = false := by simpa using hn
  clear hn
  go_enter Try.func42, Try.ntmps42
  go_wp2_with fail
  refine (ris_any n w HK.out).mono ?_
  rintro e w1 ⟨rfl, rfl⟩
  rw [kd]
  go_wp2
  go_ret
  exact ⟨rfl, rfl⟩

set_option maxHeartbeats 1600000 in
theorem rwrite_shut (n : Nat) (b : ByteArray) (w : World) (h : RfAt w pr R lb lc db dc nb nc nv) (hn : n < 70) (hb : b.size = 512) (ho : R.op = false) : Calls Try.prog 42 #[.pointer (some ⟨pr, 0, none⟩), .int .i64 (n : Int), .string b] w fun e w' => e = .returned (.int .i64 15) ∧ w' = w := by
  have HK : Hid (RfAt w pr R lb lc db dc nb nc nv) := h
  have c3 := h.c3
  rw [ho] at c3
  clear h
  have kd : decide (0 ≤ (n : Int) ∧ (n : Int) < 70) = true := by simp; omega
  go_enter Try.func42, Try.ntmps42
  go_wp2_with fail
  refine (ris_any n w HK.out).mono ?_
  rintro e w1 ⟨rfl, rfl⟩
  rw [kd]
  go_wp2
  go_ret
  exact ⟨rfl, rfl⟩

set_option maxHeartbeats 1600000 in
theorem rwrite_full (n : Nat) (b : ByteArray) (w : World) (h : RfAt w pr R lb lc db dc nb nc nv) (hn : n < 70) (hb : b.size = 512) (ho : R.op = true) (hW : (R.W n).toList.isEmpty = true) (hf : R.wrote = 63) : Calls Try.prog 42 #[.pointer (some ⟨pr, 0, none⟩), .int .i64 (n : Int), .string b] w fun e w' => e = .returned (.int .i64 7) ∧ w' = w := by
  have HK : Hid (RfAt w pr R lb lc db dc nb nc nv) := h
  have c3 := h.c3
  have c4 := h.c4
  have c5 := h.c5
  obtain ⟨hnv, hnc, hrow⟩ := h.n ho
  have cl := hrow.cell hn
  rw [ho] at c3
  rw [hf] at c5
  subst hnv
  clear h hrow
  have kd : decide (0 ≤ (n : Int) ∧ (n : Int) < 70) = true := by simp; omega
  go_enter Try.func42, Try.ntmps42
  go_wp2_with fail
  refine (ris_any n w HK.out).mono ?_
  rintro e w1 ⟨rfl, rfl⟩
  rw [kd]
  go_wp2
  go_ret
  exact ⟨rfl, rfl⟩

theorem put_facts (n : Nat) (b : ByteArray) (m : Nat) (h : RfAt w pr R lb lc db dc nb nc nv) (hn : n < 70) (ho : R.op = true) (hw : Chg (fun x => x = pr) w w') (hb : w'.heap[pr]? = some (.cells #[.slice (some ⟨lb, 0, none⟩) 70 lc, .slice (some ⟨db, 0, none⟩) 70 dc, .int .i64 (R.pend : Int), .bool R.op, nv, .int .i64 (m : Int), .int .i64 (R.syncs : Int)] 46 (0, 0))) :
    RfAt (w'.setCell ⟨nb, n, none⟩ (.string b)) pr { R with W := upd R.W n b, wrote := m } lb lc db dc nb nc nv ∧ Chg (fun x => x = pr ∨ x = nb) w (w'.setCell ⟨nb, n, none⟩ (.string b)) := by
  have hc : Chg (fun x => x = nb) w' (w'.setCell ⟨nb, n, none⟩ (.string b)) := Chg.setCell _ _ _ rfl
  have hl : pr < w'.heap.size := (Array.getElem?_eq_some_iff.1 hb).1
  have hcc : Chg (fun x => x = pr ∨ x = nb) w (w'.setCell ⟨nb, n, none⟩ (.string b)) := (hw.mono (fun _ _ h => .inl h)).trans hc (fun _ _ h => .inr h)
  obtain ⟨h1, h2, h3⟩ := h.n ho
  obtain ⟨h4, h5⟩ := h.nl ho
  refine ⟨⟨(hc.block pr hl (Ne.symm (h.pn ho))).trans hb, h.l.kept hcc ?_, h.d.kept hcc ?_, fun _ => ⟨h1, h2, ((h3.kept hw (h.pn ho)).set hn (.string b)).congr (fun k _ => ?_)⟩, h.nvf, h.pl, h.pd, h.pn, h.ld, h.nl, h.lcc, h.dcc⟩, hcc⟩
  · rintro (e | e)
    · exact h.pl e.symm
    · exact h4 e.symm
  · rintro (e | e)
    · exact h.pd e.symm
    · exact h5 e.symm
  · by_cases e : k = n
    · subst e; simp [upd_same]
    · simp [upd_other _ _ e]

set_option maxHeartbeats 1600000 in
theorem rwrite_new (n : Nat) (b : ByteArray) (w : World) (h : RfAt w pr R lb lc db dc nb nc nv) (hn : n < 70) (hb : b.size = 512) (ho : R.op = true) (hW : (R.W n).toList.isEmpty = true) (hf : R.wrote < 63) : Calls Try.prog 42 #[.pointer (some ⟨pr, 0, none⟩), .int .i64 (n : Int), .string b] w fun e w' => e = .returned (.int .i64 0) ∧ RfAt w' pr { R with W := upd R.W n b, wrote := R.wrote + 1 } lb lc db dc nb nc nv ∧ Chg (fun x => x = pr ∨ x = nb) w w' := by
  have HK : Hid (RfAt w pr R lb lc db dc nb nc nv) := h
  have c3 := h.c3
  have c4 := h.c4
  have c5 := h.c5
  have f5 := h.fr 5
  obtain ⟨hnv, hnc, hrow⟩ := h.n ho
  have cl := hrow.cell hn
  have fz := hrow.fr n
  have HQ : Hid (RfAt ((w.setCell ⟨pr, 5, none⟩ (.int .i64 ((R.wrote : Int) + 1))).setCell ⟨nb, n, none⟩ (.string b)) pr { R with W := upd R.W n b, wrote := R.wrote + 1 } lb lc db dc nb nc nv ∧ Chg (fun x => x = pr ∨ x = nb) w ((w.setCell ⟨pr, 5, none⟩ (.int .i64 ((R.wrote : Int) + 1))).setCell ⟨nb, n, none⟩ (.string b))) := by
    refine put_facts n b (R.wrote + 1) h hn ho (Chg.setCell _ _ _ rfl) ?_
    have := heap_setCell_same w pr 5 _ 46 (.int .i64 ((R.wrote : Int) + 1)) h.blk
    simpa using this
  have hpn := h.pn ho
  have hnp := Ne.symm hpn
  rw [ho] at c3
  subst hnv
  clear h hrow
  have kd : decide (0 ≤ (n : Int) ∧ (n : Int) < 70) = true := by simp; omega
  have kw : ¬ ((R.wrote : Int) = 63) := by omega
  go_enter Try.func42, Try.ntmps42
  go_wp2_with fail
  refine (ris_any n w HK.out).mono ?_
  rintro e w1 ⟨rfl, rfl⟩
  rw [kd]
  go_wp2
  go_ret
  exact ⟨rfl, HQ.out⟩

set_option maxHeartbeats 1600000 in
theorem rwrite_old (n : Nat) (b : ByteArray) (w : World) (h : RfAt w pr R lb lc db dc nb nc nv) (hn : n < 70) (hb : b.size = 512) (ho : R.op = true) (hW : (R.W n).toList.isEmpty = false) : Calls Try.prog 42 #[.pointer (some ⟨pr, 0, none⟩), .int .i64 (n : Int), .string b] w fun e w' => e = .returned (.int .i64 0) ∧ RfAt w' pr { R with W := upd R.W n b } lb lc db dc nb nc nv ∧ Chg (fun x => x = pr ∨ x = nb) w w' := by
  have HK : Hid (RfAt w pr R lb lc db dc nb nc nv) := h
  have c3 := h.c3
  have c4 := h.c4
  obtain ⟨hnv, hnc, hrow⟩ := h.n ho
  have cl := hrow.cell hn
  have fz := hrow.fr n
  have HQ : Hid (RfAt (w.setCell ⟨nb, n, none⟩ (.string b)) pr { R with W := upd R.W n b } lb lc db dc nb nc nv ∧ Chg (fun x => x = pr ∨ x = nb) w (w.setCell ⟨nb, n, none⟩ (.string b))) :=
    put_facts n b R.wrote h hn ho (Chg.refl _ _) h.blk
  rw [ho] at c3
  subst hnv
  clear h hrow
  have kd : decide (0 ≤ (n : Int) ∧ (n : Int) < 70) = true := by simp; omega
  go_enter Try.func42, Try.ntmps42
  go_wp2_with fail
  refine (ris_any n w HK.out).mono ?_
  rintro e w1 ⟨rfl, rfl⟩
  rw [kd]
  go_wp2
  go_ret
  exact ⟨rfl, HQ.out⟩

set_option maxHeartbeats 1600000 in
theorem rread_out (n : Int) (w : World) (h : RfAt w pr R lb lc db dc nb nc nv) (hn : ¬ (0 ≤ n ∧ n < 70)) : Calls Try.prog 47 #[.pointer (some ⟨pr, 0, none⟩), .int .i64 n] w fun e w' => e = .returned (.tuple #[.string ByteArray.empty, .int .i64 1]) ∧ w' = w := by
  have HK : Hid (RfAt w pr R lb lc db dc nb nc nv) := h
  clear h
  have kd : decide (0 ≤ n ∧ n < 70) = false := by simpa using hn
  clear hn
  go_enter Try.func47, Try.ntmps47
  go_wp2_with fail
  refine (ris_any n w HK.out).mono ?_
  rintro e w1 ⟨rfl, rfl⟩
  rw [kd]
  go_wp2
  go_ret2
  exact ⟨rfl, rfl⟩

set_option maxHeartbeats 1600000 in
theorem rread_any (n : Nat) (w : World) (h : RfAt w pr R lb lc db dc nb nc nv) (hn : n < 70) (ho : R.op = true) : Calls Try.prog 47 #[.pointer (some ⟨pr, 0, none⟩), .int .i64 (n : Int)] w fun e w' => e = .returned (.tuple #[.string (if (R.W n).toList.isEmpty = true then R.L n else R.W n), .int .i64 0]) ∧ w' = w := by
  have HK : Hid (RfAt w pr R lb lc db dc nb nc nv) := h
  have c0 := h.c0
  have c4 := h.c4
  obtain ⟨hnv, hnc, hrow⟩ := h.n ho
  have cl := hrow.cell hn
  have cl2 := h.l.cell hn
  have hlc := h.lcc
  subst hnv
  clear h hrow
  have kd : decide (0 ≤ (n : Int) ∧ (n : Int) < 70) = true := by simp; omega
  by_cases hW : (R.W n).toList.isEmpty = true
  · rw [if_pos hW]
    go_enter Try.func47, Try.ntmps47
    go_wp2_with fail
    refine (ris_any n w HK.out).mono ?_
    rintro e w1 ⟨rfl, rfl⟩
    rw [kd]
    go_wp2
    go_ret2
    exact ⟨rfl, rfl⟩
  · rw [if_neg hW]
    have hW2 : (R.W n).toList.isEmpty = false := by simpa using hW
    go_enter Try.func47, Try.ntmps47
    go_wp2_with fail
    refine (ris_any n w HK.out).mono ?_
    rintro e w1 ⟨rfl, rfl⟩
    rw [kd]
    go_wp2
    go_ret2
    exact ⟨rfl, rfl⟩
end
end Go.Proofs.Ytkkmdmnjlncgfaa

/-
  The acts of a play: Read of the log.
-/
import Derived.Test.YtkkmdmnjlncgfaaPlay5
namespace Go.Proofs.Ytkkmdmnjlncgfaa
open Go.RowKit Go.Maps

section
variable {X : Nat → Prop} {w0 w w' : World} {pd pp pl q pr : Nat} {tv : Value} {R : Rf} {lb lc db dc nb nc : Nat} {nv : Value} {f f' : Nat → List Int} {com own com' : Nat → Option (List Int)} {pend wrote N k : Nat} {live : Bool}

theorem readU (n : Nat) (h : Up X w0 w pd pl tv f com pend live own wrote N) (hn : n < 70) (hx : N < 1000000000) :
    Calls Try.prog 28 #[.pointer (some ⟨pl, 0, none⟩), .int .i64 (n : Int)] w fun e w' => ∃ u, e = .returned (.tuple #[u, .int .i64 0]) ∧ Fresh w w' u (ovr f com n) := by
  rcases h with ⟨_, _, h⟩ | ⟨q, _, h⟩
  · exact read_up n h hn hx
  · exact read_upT n h hn hx
theorem read_outU (n : Int) (h : Up X w0 w pd pl tv f com pend live own wrote N) (hn : ¬ (0 ≤ n ∧ n < 70)) :
    Calls Try.prog 28 #[.pointer (some ⟨pl, 0, none⟩), .int .i64 n] w fun e w' => e = .returned (.tuple #[.slice none 0 0, .int .i64 1]) ∧ w' = w := by
  rcases h with ⟨_, _, h⟩ | ⟨q, _, h⟩
  · exact read_out_up n h hn
  · exact read_outT n h hn
theorem ovr_len (h : Up X w0 w pd pl tv f com pend live own wrote N) {n : Nat} (hn : n < 70) : (ovr f com n).length = 512 := by
  have hf : (f n).length = 512 := by
    rcases h with ⟨_, _, h⟩ | ⟨q, _, F, G, S, m, V, mt, Vt, h1, h2, _⟩
    · exact h.flen n hn
    · rw [← h2.last hn]
      exact St.last_len h2.wf (by have := h2.nb; omega)
  unfold ovr
  cases hc : com n with
  | none => exact hf
  | some b => exact (h.lt n b hc).2

set_option maxHeartbeats 1600000 in
set_option maxRecDepth 100000 in
theorem pstep_read (n : Int) (bv : Value) (w : World) (h : Pl w0 w pd pp k) (hk : k < 1000) :
    Calls Try.prog 13 #[.pointer (some ⟨pp, 0, none⟩), .agg #[.int .i64 6, .int .i64 n, bv]] w fun e w' => e = .returned (.bool true) ∧ Pl w0 w' pd pp (k + 1) := by
  have HP : Hid (Pl w0 w pd pp k) := h
  obtain ⟨X, pl, tv, pr, R, lb, lc, db, dc, nb, nc, nv, f, com, pend, live, own, wrote, p1, u1, c1, b1, b2, x1, x2, x3⟩ := h.enter (.cells #[.int .i64 6, .int .i64 n, bv] 41)
  obtain ⟨w1, hw1⟩ : ∃ w1, w.alloc (.cells #[.int .i64 6, .int .i64 n, bv] 41) = w1 := ⟨_, rfl⟩
  have HW : Hid (Chg (fun _ => False) w w1) := by rw [← hw1]; exact Chg.alloc (fun _ => False) w _
  have d0 := p1.c0
  have cN : w1.cell? ⟨w.heap.size, 1, none⟩ = some (.int .i64 n) := by rw [← hw1, cell_of_row _ _ 1 _ _ _ (heap_alloc_new w _)]; rfl
  have HW1 : Hid (w.alloc (.cells #[.int .i64 6, .int .i64 n, bv] 41) = w1) := hw1
  rw [hw1] at p1 u1
  have HK : Hid (PlAt X w0 w1 pp pl tv pr R lb lc db dc nb nc nv ∧ Up X w0 w1 pd pl tv f com pend live own wrote (1000 + 128 * k) ∧ Cor R f com pend live own wrote) := ⟨p1, u1, c1⟩
  clear h p1 c1 x1 x2 x3 u1 b1 b2 hw1
  by_cases hn : 0 ≤ n ∧ n < 70
  · obtain ⟨m, rfl⟩ : ∃ m : Nat, n = (m : Int) := ⟨n.toNat, by omega⟩
    have hm : m < 70 := by omega
    have kd : decide (0 ≤ (m : Int) ∧ (m : Int) < 70) = true := by simp; omega
    clear hn
    have RD : Hid (Calls Try.prog 28 #[.pointer (some ⟨pl, 0, none⟩), .int .i64 (m : Int)] w1.drew fun e w2 => ∃ ua uc, e = .returned (.tuple #[.slice ua 512 uc, .int .i64 0]) ∧ w2.cell? ⟨pp, 0, none⟩ = some (.pointer (some ⟨pl, 0, none⟩)) ∧ w2.cell? ⟨w.heap.size, 1, none⟩ = some (.int .i64 (m : Int)) ∧ Hid (Fresh w1.drew w2 (.slice ua 512 uc) (ovr f com m))) := by
      have kd := Chg.drew (fun _ => False) w1
      refine (readU m (HK.out.2.1.more kd) hm (by omega)).mono ?_
      rintro e w2 ⟨u, rfl, fr⟩
      obtain ⟨ua, uc, rfl⟩ := fr.form512 (ovr_len HK.out.2.1 hm)
      exact ⟨ua, uc, rfl, ((HK.out.1.kept kd).kept fr.chg).c0, fr.chg.cell (kd.cell cN (fun h => h)) (fun h => h), fr⟩
    go_enter Try.func13, Try.ntmps13
    go_wp2_with fail
    rw [HW1.out]
    rw [HW1.out] at d0
    go_region_held (fun w' => w'.cell? ⟨pp, 0, none⟩ = some (.pointer (some ⟨pl, 0, none⟩)) ∧ w'.cell? ⟨w.heap.size, 1, none⟩ = some (.int .i64 (m : Int)))
      (first | assumption | exact ⟨d0, cN⟩ | exact ⟨q0, q1⟩)
      (first | (go_at_call 28; refine RD.out.mono ?_; clear RD; rintro e w2 ⟨ua, uc, rfl, q0, q1, FR⟩))
    have fr := FR.out
    have hch : Chg (fun _ => False) w1 w2 := (Chg.drew (fun _ => False) w1).trans fr.chg (fun _ _ h => h)
    have p2 := HK.out.1.kept hch
    have d2 := p2.c2
    have e0 := p2.rf.c0
    have el := p2.rf.l.cell hm
    rw [HK.out.2.2.l m hm] at el
    have hlc := p2.rf.lcc
    obtain ⟨t, ht⟩ : ∃ t, strOf (ovr f com m) = t := ⟨_, rfl⟩
    have s1 := run_str (fr.bs.kept ((Chg.drew (fun _ => False) w2).trans (Chg.drew (fun _ => False) w2.drew) (fun _ _ h => h)) (fun _ _ _ _ _ h => h))
    rw [ht] at s1 el
    have hse := str_same t
    have HQ : Hid (Pl w0 w2 pd pp (k + 1) ∧ PlAt X w0 w2 pp pl tv pr R lb lc db dc nb nc nv) := ⟨(HP.out.more (HW.out.trans hch (fun _ _ h => h))).up (by omega), p2⟩
    have IS : Hid (Calls Try.prog 46 #[.pointer (some ⟨pr, 0, none⟩), .int .i64 (m : Int)] w2.drew fun e w' => e = .returned (.bool true) ∧ w' = w2.drew) := (ris_any (m : Int) w2.drew (p2.kept (Chg.drew (fun _ => False) w2)).rf).mono (by rintro e w' ⟨rfl, rfl⟩; exact ⟨by rw [kd], rfl⟩)
    clear fr p2 HK HP HW ht d0 cN FR hch q0 kd
    go_wp2_with fail
    go_region_held (fun w' => w'.cell? ⟨pp, 2, none⟩ = some (.pointer (some ⟨pr, 0, none⟩)) ∧ w'.cell? ⟨w.heap.size, 1, none⟩ = some (.int .i64 (m : Int)))
      (first | assumption | exact ⟨d2, q1⟩)
      (first | (go_at_call 46; refine IS.out.mono ?_; clear IS; rintro e w3 ⟨rfl, rfl⟩))
    go_wp2_with fail
    go_region_held (fun w' => (convert 39 9 (.slice ua 512 uc)).run Try.prog w' = .ok (.string t) w' ∧ w'.cell? ⟨pp, 2, none⟩ = some (.pointer (some ⟨pr, 0, none⟩)) ∧ w'.cell? ⟨w.heap.size, 1, none⟩ = some (.int .i64 (m : Int)) ∧ w'.cell? ⟨pr, 0, none⟩ = some (.slice (some ⟨lb, 0, none⟩) 70 lc) ∧ w'.cell? ⟨lb, m, none⟩ = some (.string t))
      (first | assumption | exact ⟨s1, d2, q1, e0, el⟩)
      (fail)
    all_goals
      go_wp2
      go_ret
      exact ⟨rfl, HQ.out.1.more ((Chg.drew (fun _ => False) w2).trans (Chg.drew (fun _ => False) w2.drew) (fun _ _ h => h))⟩
  · have kd : decide (0 ≤ n ∧ n < 70) = false := by simpa using hn
    have RD : Hid (Calls Try.prog 28 #[.pointer (some ⟨pl, 0, none⟩), .int .i64 n] w1.drew fun e w2 => e = .returned (.tuple #[.slice none 0 0, .int .i64 1]) ∧ w2 = w1.drew) := read_outU n (HK.out.2.1.more (Chg.drew (fun _ => False) w1)) hn
    have d2 := HK.out.1.c2
    have IS : Hid (Calls Try.prog 46 #[.pointer (some ⟨pr, 0, none⟩), .int .i64 n] w1.drew.drew fun e w' => e = .returned (.bool false) ∧ w' = w1.drew.drew) := (ris_any n _ ((HK.out.1.kept (Chg.drew (fun _ => False) w1)).kept (Chg.drew (fun _ => False) w1.drew)).rf).mono (by rintro e w' ⟨rfl, rfl⟩; exact ⟨by rw [kd], rfl⟩)
    have HQ : Hid (Pl w0 w1.drew.drew pd pp (k + 1)) := (HP.out.more (HW.out.trans ((Chg.drew (fun _ => False) w1).trans (Chg.drew (fun _ => False) w1.drew) (fun _ _ h => h)) (fun _ _ h => h))).up (by omega)
    clear hn HK HP HW kd
    go_enter Try.func13, Try.ntmps13
    go_wp2_with fail
    rw [HW1.out]
    rw [HW1.out] at d0
    go_region_held (fun w' => w'.cell? ⟨pp, 0, none⟩ = some (.pointer (some ⟨pl, 0, none⟩)) ∧ w'.cell? ⟨w.heap.size, 1, none⟩ = some (.int .i64 n))
      (first | assumption | exact ⟨d0, cN⟩)
      (first | (go_at_call 28; refine RD.out.mono ?_; clear RD; rintro e w2 ⟨rfl, rfl⟩))
    go_wp2_with fail
    go_region_held (fun w' => w'.cell? ⟨pp, 2, none⟩ = some (.pointer (some ⟨pr, 0, none⟩)) ∧ w'.cell? ⟨w.heap.size, 1, none⟩ = some (.int .i64 n))
      (first | assumption | exact ⟨d2, cN⟩)
      (first | (go_at_call 46; refine IS.out.mono ?_; clear IS; rintro e w3 ⟨rfl, rfl⟩))
    go_wp2
    go_ret
    exact ⟨rfl, HQ.out⟩
end
end Go.Proofs.Ytkkmdmnjlncgfaa

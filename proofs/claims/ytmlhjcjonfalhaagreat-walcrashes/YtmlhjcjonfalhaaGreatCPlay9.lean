/-
  The acts of a play: Write.
-/
import Derived.Test.YtmlhjcjonfalhaaGreatCPlay5
namespace Go.Proofs.YtmlhjcjonfalhaaGreat.C
open Go.RowKit Go.Maps

section
variable {T : (Nat → List Int) → (Nat → Option (List Int)) → Nat → Prop} {Y : Nat → Prop} {wY : World} {dv mv cv : Value} {X : Nat → Prop} {w0 w w' : World} {pd pp pl q pr g : Nat} {tv : Value} {R : Rf} {lb lc db dc nb nc : Nat} {nv : Value} {f f' : Nat → List Int} {com own com' : Nat → Option (List Int)} {pend wrote N k : Nat} {live : Bool}

set_option maxHeartbeats 3200000 in
set_option maxRecDepth 100000 in
theorem pstep_write2 (n : Int) (bv : Value) (bs : List Int) (w : World) (h : Pl T Y wY dv mv cv w0 w pd pp k) (hb : Bs w0 bv bs) (hl : bs.length ≤ 64) :
    Calls Tryz.prog 56 #[.pointer (some ⟨pp, 1, none⟩), .agg #[.int .i64 2, .int .i64 n, bv]] w fun e w' => e = .returned (.bool true) ∧ Pl T Y wY dv mv cv w0 w' pd pp (k + 1) := by
  have HP : Hid (Pl T Y wY dv mv cv w0 w pd pp k) := h
  obtain ⟨ba, bc, rfl, _⟩ := hb.form
  obtain ⟨X, pl, tv, pr, R, lb, lc, db, dc, nb, nc, nv, f, com, pend, live, own, wrote, p1, u1, c1, b1, b2, bT, x1, x2, x3⟩ := h.enter (.cells #[.int .i64 2, .int .i64 n, .slice ba bs.length bc] 52)
  obtain ⟨w1, hw1⟩ : ∃ w1, w.alloc (.cells #[.int .i64 2, .int .i64 n, .slice ba bs.length bc] 52) = w1 := ⟨_, rfl⟩
  have HW : Hid (Chg (fun _ => False) w w1) := by rw [← hw1]; exact Chg.alloc (fun _ => False) w _
  have d1 := p1.c1
  have HW1 : Hid (w.alloc (.cells #[.int .i64 2, .int .i64 n, .slice ba bs.length bc] 52) = w1) := hw1
  have hg : w1.heap[w.heap.size]? = some (.cells #[.int .i64 2, .int .i64 n, .slice ba bs.length bc] 52 (0, 0)) := by rw [← hw1]; exact heap_alloc_new w _
  rw [hw1] at p1 u1
  rcases u1 with ⟨rfl, e, l1⟩ | ⟨q, rfl, t1⟩
  · have hq := eqT_nn
    have HQ : Hid (Pl T Y wY dv mv cv w0 w1 pd pp (k + 1)) := (HP.out.more HW.out).up (by omega)
    clear h p1 c1 x1 x2 x3 l1 b1 b2 HP HW hw1 hg bT
    go_enter Tryz.func56, Tryz.ntmps56
    go_wp2
    go_ret
    rw [HW1.out]
    exact ⟨rfl, HQ.out⟩
  · have hq := eqT_some ⟨q, 0, none⟩
    have HPW : Hid (PW T Y wY dv mv cv w0 w1 pd pp q k w.heap.size (.cells #[.int .i64 2, .int .i64 n, .slice ba bs.length bc] 52 (0, 0))) := ⟨X, pl, pr, R, lb, lc, db, dc, nb, nc, nv, f, com, pend, live, own, wrote, p1, t1, c1, b1, b2, bT, x1, x2, hg⟩
    have HBS : Hid (Bs w0 (.slice ba bs.length bc) bs) := hb
    obtain ⟨g, hgg⟩ : ∃ g, w.heap.size = g := ⟨_, rfl⟩
    have HG : Hid (w.heap.size = g) := hgg
    rw [hgg] at HPW
    clear h p1 c1 x1 x2 x3 t1 b1 b2 HP HW hw1 hg hb hgg bT
    go_enter Tryz.func56, Tryz.ntmps56
    go_wp2
    rw [HW1.out, HG.out]
    clear HW1 HG d1
    go_loopw [9, 10] (fun x _ wr => ∃ i, i ≤ 1 ∧ x = .int .i64 ((i : Nat) : Int) ∧ Hid (PW T Y wY dv mv cv w0 wr pd pp q k g (.cells #[.int .i64 2, .int .i64 n, .slice ba bs.length bc] 52 (0, 0)))) (fun x _ _ => 1 - (intOf x).toNat)
    case atStart => exact ⟨0, by omega, rfl, HPW⟩
    case round =>
      obtain ⟨i, hi, rfl, HR⟩ := hrel
      clear HPW
      by_cases hlt : i < 1
      · have hki : (i : Int) < ((1 : Nat) : Int) := by omega
        obtain ⟨X, pl, pr, R, lb, lc, db, dc, nb, nc, nv, f, com, pend, live, own, wrote, p1, t1, c1, b1, b2, bT, x1, x2, hg⟩ := HR.out
        have hn0 : wr.cell? ⟨g, 0, none⟩ = some (.int .i64 2) := by rw [cell_of_row wr g 0 _ _ _ hg]; rfl
        have hn1 : wr.cell? ⟨g, 1, none⟩ = some (.int .i64 n) := by rw [cell_of_row wr g 1 _ _ _ hg]; rfl
        have s0 : Sees wr.drew pp q pr g (.slice ba bs.length bc) := p1.sees hg
        have kd := Chg.drew (fun _ => False) wr
        have WB : Hid _ := write_both 2 n (.slice ba bs.length bc) bs wr.drew (p1.kept kd) (t1.more kd) c1 b1 b2 bT x1 x2 hg HBS.out hl
        clear p1 t1 c1 b1 b2 bT x1 x2 hg kd HR
        go_wp2_with fail
        go_region_held (fun w' => w'.cell? ⟨pp, 2, none⟩ = some (.pointer (some ⟨q, 0, none⟩)) ∧ w'.cell? ⟨pp, 3, none⟩ = some (.pointer (some ⟨pr, 0, none⟩)) ∧ w'.cell? ⟨g, 2, none⟩ = some (.slice ba bs.length bc))
          (first | assumption | exact s0 | exact s2 | exact s3 | exact s4 | exact s5)
          (first
            | (go_at_call 15; refine (show Calls _ _ _ _ _ from WB.out).mono ?_; clear WB; rintro e w2 ⟨ua, uc, rfl, s2, WT⟩)
            | (go_at_call 14; refine (show Calls _ _ _ _ _ from WT.out _).mono ?_; clear WT; rintro e w3 ⟨E, rfl, s3, WF⟩)
            | (go_at_call 15; refine (show Calls _ _ _ _ _ from WF.out).mono ?_; clear WF; rintro e w4 ⟨va, vc, t, rfl, hcv, s4, WR⟩)
            | (go_at_call 70; refine (show Calls _ _ _ _ _ from WR.out).mono ?_; clear WR; rintro e w5 ⟨rfl, s5, HQ⟩))
        all_goals
          clear s0 s2 s3 s4 s5 hcv hn0 hn1
          go_wp2
          go_roundw
          case rel => exact ⟨i + 1, by omega, by go_num, HQ⟩
          case measure => simp [intOf]; omega
      · have hie : i = 1 := by omega
        subst hie
        have HQ : Hid (Pl T Y wY dv mv cv w0 wr pd pp (k + 1)) := HR.out.play
        clear HR
        go_wp2
        go_ret
        exact ⟨rfl, HQ.out⟩

end
end Go.Proofs.YtmlhjcjonfalhaaGreat.C

namespace Go.Proofs.YtmlhjcjonfalhaaGreat.C
open Go.RowKit Go.Maps

section
variable {T : (Nat → List Int) → (Nat → Option (List Int)) → Nat → Prop} {Y : Nat → Prop} {wY : World} {dv mv cv : Value} {X : Nat → Prop} {w0 w w' : World} {pd pp pl q pr g : Nat} {tv : Value} {R : Rf} {lb lc db dc nb nc : Nat} {nv : Value} {f f' : Nat → List Int} {com own com' : Nat → Option (List Int)} {pend wrote N k : Nat} {live : Bool}

set_option maxHeartbeats 3200000 in
set_option maxRecDepth 100000 in
theorem pstep_write8 (n : Int) (bv : Value) (bs : List Int) (w : World) (h : Pl T Y wY dv mv cv w0 w pd pp k) (hb : Bs w0 bv bs) (hl : bs.length ≤ 64) :
    Calls Tryz.prog 56 #[.pointer (some ⟨pp, 1, none⟩), .agg #[.int .i64 8, .int .i64 n, bv]] w fun e w' => e = .returned (.bool true) ∧ Pl T Y wY dv mv cv w0 w' pd pp (k + 1) := by
  have HP : Hid (Pl T Y wY dv mv cv w0 w pd pp k) := h
  obtain ⟨ba, bc, rfl, _⟩ := hb.form
  obtain ⟨X, pl, tv, pr, R, lb, lc, db, dc, nb, nc, nv, f, com, pend, live, own, wrote, p1, u1, c1, b1, b2, bT, x1, x2, x3⟩ := h.enter (.cells #[.int .i64 8, .int .i64 n, .slice ba bs.length bc] 52)
  obtain ⟨w1, hw1⟩ : ∃ w1, w.alloc (.cells #[.int .i64 8, .int .i64 n, .slice ba bs.length bc] 52) = w1 := ⟨_, rfl⟩
  have HW : Hid (Chg (fun _ => False) w w1) := by rw [← hw1]; exact Chg.alloc (fun _ => False) w _
  have d1 := p1.c1
  have HW1 : Hid (w.alloc (.cells #[.int .i64 8, .int .i64 n, .slice ba bs.length bc] 52) = w1) := hw1
  have hg : w1.heap[w.heap.size]? = some (.cells #[.int .i64 8, .int .i64 n, .slice ba bs.length bc] 52 (0, 0)) := by rw [← hw1]; exact heap_alloc_new w _
  rw [hw1] at p1 u1
  rcases u1 with ⟨rfl, e, l1⟩ | ⟨q, rfl, t1⟩
  · have hq := eqT_nn
    have HQ : Hid (Pl T Y wY dv mv cv w0 w1 pd pp (k + 1)) := (HP.out.more HW.out).up (by omega)
    clear h p1 c1 x1 x2 x3 l1 b1 b2 HP HW hw1 hg bT
    go_enter Tryz.func56, Tryz.ntmps56
    go_wp2
    go_ret
    rw [HW1.out]
    exact ⟨rfl, HQ.out⟩
  · have hq := eqT_some ⟨q, 0, none⟩
    have HPW : Hid (PW T Y wY dv mv cv w0 w1 pd pp q k w.heap.size (.cells #[.int .i64 8, .int .i64 n, .slice ba bs.length bc] 52 (0, 0))) := ⟨X, pl, pr, R, lb, lc, db, dc, nb, nc, nv, f, com, pend, live, own, wrote, p1, t1, c1, b1, b2, bT, x1, x2, hg⟩
    have HBS : Hid (Bs w0 (.slice ba bs.length bc) bs) := hb
    obtain ⟨g, hgg⟩ : ∃ g, w.heap.size = g := ⟨_, rfl⟩
    have HG : Hid (w.heap.size = g) := hgg
    rw [hgg] at HPW
    clear h p1 c1 x1 x2 x3 t1 b1 b2 HP HW hw1 hg hb hgg bT
    obtain ⟨y, hy⟩ : ∃ y : Nat, n % 64 = (y : Int) := ⟨(n % 64).toNat, by omega⟩
    obtain ⟨z, hz⟩ : ∃ z : Nat, n % 32 = (z : Int) := ⟨(n % 32).toNat, by omega⟩
    have hy64 : y < 64 := by omega
    have hz32 : z < 32 := by omega
    have ha := and63 n
    have ha2 := and31 n
    rw [hy] at ha
    rw [hz] at ha2
    clear hy hz
    go_enter Tryz.func56, Tryz.ntmps56
    go_wp2
    rw [HW1.out, HG.out]
    clear HW1 HG d1
    go_loopw [9, 10] (fun x _ wr => ∃ i, i ≤ (z + 1) ∧ x = .int .i64 ((i : Nat) : Int) ∧ Hid (PW T Y wY dv mv cv w0 wr pd pp q k g (.cells #[.int .i64 8, .int .i64 n, .slice ba bs.length bc] 52 (0, 0)))) (fun x _ _ => (z + 1) - (intOf x).toNat)
    case atStart => exact ⟨0, by omega, rfl, HPW⟩
    case round =>
      obtain ⟨i, hi, rfl, HR⟩ := hrel
      clear HPW
      by_cases hlt : i < (z + 1)
      · have hki : (i : Int) < (((z + 1) : Nat) : Int) := by omega
        obtain ⟨X, pl, pr, R, lb, lc, db, dc, nb, nc, nv, f, com, pend, live, own, wrote, p1, t1, c1, b1, b2, bT, x1, x2, hg⟩ := HR.out
        have hn0 : wr.cell? ⟨g, 0, none⟩ = some (.int .i64 8) := by rw [cell_of_row wr g 0 _ _ _ hg]; rfl
        have hn1 : wr.cell? ⟨g, 1, none⟩ = some (.int .i64 n) := by rw [cell_of_row wr g 1 _ _ _ hg]; rfl
        have s0 : Sees wr.drew pp q pr g (.slice ba bs.length bc) := p1.sees hg
        have kd := Chg.drew (fun _ => False) wr
        have WB : Hid _ := write_both 8 n (.slice ba bs.length bc) bs wr.drew (p1.kept kd) (t1.more kd) c1 b1 b2 bT x1 x2 hg HBS.out hl
        clear p1 t1 c1 b1 b2 bT x1 x2 hg kd HR
        go_wp2_with fail
        go_region_held (fun w' => w'.cell? ⟨pp, 2, none⟩ = some (.pointer (some ⟨q, 0, none⟩)) ∧ w'.cell? ⟨pp, 3, none⟩ = some (.pointer (some ⟨pr, 0, none⟩)) ∧ w'.cell? ⟨g, 2, none⟩ = some (.slice ba bs.length bc))
          (first | assumption | exact s0 | exact s2 | exact s3 | exact s4 | exact s5)
          (first
            | (go_at_call 15; refine (show Calls _ _ _ _ _ from WB.out).mono ?_; clear WB; rintro e w2 ⟨ua, uc, rfl, s2, WT⟩)
            | (go_at_call 14; refine (show Calls _ _ _ _ _ from WT.out _).mono ?_; clear WT; rintro e w3 ⟨E, rfl, s3, WF⟩)
            | (go_at_call 15; refine (show Calls _ _ _ _ _ from WF.out).mono ?_; clear WF; rintro e w4 ⟨va, vc, t, rfl, hcv, s4, WR⟩)
            | (go_at_call 70; refine (show Calls _ _ _ _ _ from WR.out).mono ?_; clear WR; rintro e w5 ⟨rfl, s5, HQ⟩))
        all_goals
          clear s0 s2 s3 s4 s5 hcv hn0 hn1
          go_wp2
          go_roundw
          case rel => exact ⟨i + 1, by omega, by go_num, HQ⟩
          case measure => simp [intOf]; omega
      · have hie : i = (z + 1) := by omega
        subst hie
        have HQ : Hid (Pl T Y wY dv mv cv w0 wr pd pp (k + 1)) := HR.out.play
        clear HR
        go_wp2
        go_ret
        exact ⟨rfl, HQ.out⟩

end
end Go.Proofs.YtmlhjcjonfalhaaGreat.C

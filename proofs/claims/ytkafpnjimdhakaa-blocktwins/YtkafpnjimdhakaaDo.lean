/-
  The acts of a play as calls of a value, and the contract of the function that BlockTwins does them with.
-/
import Derived.Test.YtkafpnjimdhakaaActs
namespace Go.Proofs.Ytkafpnjimdhakaa
open Go.RowKit Go.Maps
attribute [local go_sem ↓] Go.wp_at_zero Go.wp_at_succ

namespace St
def act (S : St) (d : ActD) : St := if d.op = 1 then S.write d.n (full d.bs) else if d.op = 3 then S.sync else if d.op = 4 then S.armed d.n d.ps else if d.op = 5 then S.cut d.ps else if d.op = 6 then S.on else S
def actE (S : St) (d : ActD) : Int := if d.op = 1 then S.writeE d.n (full d.bs) else if d.op = 3 then S.syncE else 0
theorem cut_picks (S : St) (ps : List Int) : (S.cut ps).picks.length ≤ S.picks.length := by
  unfold cut; split
  · exact Nat.le_refl _
  · exact Nat.zero_le _
theorem write_picks (S : St) (n : Int) (b : List Int) : (S.write n b).picks.length ≤ S.picks.length := by
  unfold write; split
  · exact Nat.le_refl _
  · split
    · exact Nat.le_refl _
    · split
      · exact cut_picks _ _
      · exact Nat.le_refl _
theorem sync_picks (S : St) : S.sync.picks = S.picks := by unfold sync; split <;> rfl
theorem act_writes (S : St) (d : ActD) : (S.act d).writes ≤ S.writes + 1 := by
  unfold act
  split
  · exact write_writes_le _ _ _
  · split
    · rw [sync_writes]; omega
    · split
      · exact Nat.le_succ _
      · split
        · rw [cut_writes]; omega
        · split
          · exact Nat.le_succ _
          · exact Nat.le_succ _
theorem act_nb (S : St) (d : ActD) : (S.act d).nb = S.nb := by
  unfold act
  split
  · exact write_nb _ _ _
  · split
    · exact sync_nb _
    · split
      · rfl
      · split
        · exact cut_nb _ _
        · split <;> rfl
theorem act_picks (S : St) (d : ActD) : (S.act d).picks.length ≤ Nat.max S.picks.length d.ps.length := by
  unfold act
  split
  · exact Nat.le_trans (write_picks _ _ _) (Nat.le_max_left _ _)
  · split
    · rw [sync_picks]; exact Nat.le_max_left _ _
    · split
      · exact Nat.le_max_right _ _
      · split
        · exact Nat.le_trans (cut_picks _ _) (Nat.le_max_left _ _)
        · split
          · exact Nat.zero_le _
          · exact Nat.le_max_left _ _
end St

/-- Full of an act's bytes, then Write of it: all that the function meets. -/
theorem full_writeT {w : World} {F : Nat → Prop} {p : Nat} {S : St} {b o : Nat} {d : ActD} (h : Dk w F p S) (ha : ActAt w b o d) (hbF : ¬ F b) (hl : d.bs.length ≤ 512) (hx : S.writes < 1099511627776) :
    Calls Try.prog 22 #[d.bv] w.drew fun e w1 => ∃ ub ud, e = .returned (.slice ub 512 ud) ∧ w1.cell? ⟨b, o + 1, none⟩ = some (.int .i64 d.n) ∧ w1.cell? ⟨b, o + 2, none⟩ = some d.bv ∧
      Hid (Calls Try.prog 21 #[.pointer (some ⟨p, 0, none⟩), .int .i64 d.n, .slice ub 512 ud] w1 fun e w2 => e = .returned (.int .i64 (S.writeE d.n (full d.bs))) ∧ w2.cell? ⟨b, o + 1, none⟩ = some (.int .i64 d.n) ∧ w2.cell? ⟨b, o + 2, none⟩ = some d.bv ∧
        Hid (To F p w w2 (S.write d.n (full d.bs)))) := by
  have c0 := Chg.drew (fun _ => False) w
  have h0 : Dk w.drew F p S := h.kept c0 (fun _ _ h => h)
  refine (full_any d.bv d.bs w.drew (ha.bs.kept c0 (fun _ _ _ _ _ h => h)) (by omega)).mono ?_
  rintro e w1 ⟨u, rfl, fr⟩
  obtain ⟨ub, ud, rfl, hu⟩ := fr.form
  have c1 : Chg (fun _ => False) w w1 := c0.trans fr.chg (fun _ _ h => h)
  have a1 := ha.kept c1
  refine ⟨ub, ud, rfl, a1.n, a1.bc, ?_⟩
  refine (write_any F p S d.n _ (full d.bs) w1 (h0.kept fr.chg (fun _ _ h => h)) fr.bs (Bs.off h0 (Chg.refl _ _) fr) hx).mono ?_
  rintro e w2 ⟨rfl, h2⟩
  obtain ⟨F2, d2, c2, f2⟩ := h2
  exact ⟨rfl, c2.cell a1.n hbF, c2.cell a1.bc hbF, To.after c1 ⟨F2, d2, c2, f2⟩⟩

set_option maxHeartbeats 1600000 in
set_option maxRecDepth 100000 in
theorem do_any (F : Nat → Prop) (p : Nat) (S : St) (d : ActD) (w : World) (h : Dk w F p S) (hb : Bs w d.bv d.bs) (hp : Is w d.pv d.ps) (hv : d.ps ≠ [] → ∀ g, d.pv.ownBlock = some g → ¬ F g) (hn0 : -9223372036854775808 ≤ d.n) (hn1 : d.n < 9223372036854775808)
    (hl : d.bs.length ≤ 512) (hpl : d.ps.length ≤ 100) (hx : S.writes < 1099511627776) :
    Calls Try.prog 27 #[.pointer (some ⟨p, 0, none⟩), .agg #[.int .i64 d.op, .int .i64 d.n, d.bv, d.pv]] w fun e w' => e = .returned (.int .i64 (S.actE d)) ∧ To F p w w' (S.act d) := by
  obtain ⟨o, hdo⟩ : ∃ o, Obj.cells #[.int .i64 d.op, .int .i64 d.n, d.bv, d.pv] 35 = o := ⟨_, rfl⟩
  have ca := Chg.alloc (fun _ => False) w o
  have nf : ¬ F w.heap.size := fun hf => by have := h.lt _ hf; omega
  have ha : ActAt (w.alloc o) w.heap.size 0 d := by
    rw [← hdo]
    refine ⟨?_, ?_, ?_, ?_, hb.kept (Chg.alloc (fun _ => False) w _) (fun _ _ _ _ _ h => h), hp.kept (Chg.alloc (fun _ => False) w _) (fun _ _ h => h), hn0, hn1⟩ <;> (rw [World.cell?_alloc_at _ _ _ _ rfl]; rfl)
  have q0 := ha.op
  have q1 := ha.n
  have q2 := ha.bc
  have q3 := ha.pc
  have HH : Hid (Dk (w.alloc o) F p S ∧ ActAt (w.alloc o) w.heap.size 0 d ∧ Chg (fun _ => False) w (w.alloc o)) := ⟨h.kept ca (fun _ _ h => h), ha, ca⟩
  have HV : Hid ((d.ps ≠ [] → ∀ g, d.pv.ownBlock = some g → ¬ F g) ∧ -9223372036854775808 ≤ d.n ∧ d.n < 9223372036854775808) := ⟨hv, hn0, hn1⟩
  have FW := full_writeT HH.out.1 HH.out.2.1 nf hl hx
  have HA : Hid (S.actE d = (if d.op = 1 then S.writeE d.n (full d.bs) else if d.op = 3 then S.syncE else 0) ∧ S.act d = if d.op = 1 then S.write d.n (full d.bs) else if d.op = 3 then S.sync else if d.op = 4 then S.armed d.n d.ps else if d.op = 5 then S.cut d.ps else if d.op = 6 then S.on else S) := ⟨rfl, rfl⟩
  obtain ⟨E, hE⟩ : ∃ E, S.actE d = E := ⟨_, rfl⟩
  obtain ⟨S', hS'⟩ : ∃ S', S.act d = S' := ⟨_, rfl⟩
  rw [hE, hS'] at HA
  rw [hE, hS']
  clear h hb hp hv hn0 hn1 ha ca nf hE hS'
  go_enter Try.func27, Try.ntmps27
  by_cases o1 : d.op = 1
  · have HF : Hid (Calls Try.prog 22 #[d.bv] (w.alloc o).drew fun e w1 => ∃ ub ud, e = .returned (.slice ub 512 ud) ∧ w1.cell? ⟨w.heap.size, 1, none⟩ = some (.int .i64 d.n) ∧ w1.cell? ⟨w.heap.size, 2, none⟩ = some d.bv ∧
      Hid (Calls Try.prog 21 #[.pointer (some ⟨p, 0, none⟩), .int .i64 d.n, .slice ub 512 ud] w1 fun e w2 => e = .returned (.int .i64 E) ∧ w2.cell? ⟨w.heap.size, 1, none⟩ = some (.int .i64 d.n) ∧ w2.cell? ⟨w.heap.size, 2, none⟩ = some d.bv ∧
        Hid (To F p (w.alloc o) w2 S'))) := by
      have e1 := HA.out.1
      have e2 := HA.out.2
      rw [if_pos o1] at e1 e2
      rw [e1, e2]
      simp only [Nat.zero_add] at FW
      exact FW
    clear FW HA
    generalize d.n = dn at *
    generalize d.bv = dv at *
    generalize d.pv = dp at *
    generalize d.op = dop at *
    subst o1
    go_wp2_with fail
    go_region_held (fun w' => w'.cell? ⟨w.heap.size, 1, none⟩ = some (.int .i64 dn) ∧ w'.cell? ⟨w.heap.size, 2, none⟩ = some dv)
      (first | exact ⟨q1, q2⟩ | exact ⟨x1, x2⟩ | exact ⟨y1, y2⟩)
      (first | (go_at_call 22; refine HF.out.mono ?_; clear HF; rintro e w7 ⟨ub, ud, rfl, x1, x2, HM⟩) | (go_at_call 21; refine HM.out.mono ?_; clear HM; rintro e w8 ⟨rfl, y1, y2, HE⟩))
    all_goals
      go_wp2
      go_ret
      exact ⟨rfl, To.after HH.out.2.2 HE.out⟩
  clear FW
  by_cases o3 : d.op = 3
  · have e1 := HA.out.1
    have e2 := HA.out.2
    rw [if_neg o1, if_pos o3] at e1 e2
    have HE : Hid (E = S.syncE ∧ S' = S.sync) := ⟨e1, e2⟩
    clear HA e1 e2 o1
    generalize d.n = dn at *
    generalize d.bv = dv at *
    generalize d.pv = dp at *
    generalize d.op = dop at *
    subst o3
    go_wp2_with fail
    refine (sync_any F p S _ HH.out.1 hx).mono ?_
    rintro e w1 ⟨rfl, h1⟩
    rw [← HE.out.1]
    rw [← HE.out.2] at h1
    go_wp2
    go_ret
    exact ⟨rfl, To.after HH.out.2.2 h1⟩
  by_cases o4 : d.op = 4
  · have e1 := HA.out.1
    have e2 := HA.out.2
    rw [if_neg o1, if_neg o3] at e1 e2
    rw [if_pos o4] at e2
    have HE : Hid (E = 0 ∧ S' = S.armed d.n d.ps) := ⟨e1, e2⟩
    have AR := arm_any F p S d.n d.pv d.ps _ HH.out.1 HH.out.2.1.ps (by omega) HV.out.2.1 HV.out.2.2
    rw [← HE.out.2] at AR
    have HR : Hid (Calls Try.prog 26 #[.pointer (some ⟨p, 0, none⟩), .int .i64 d.n, d.pv] (w.alloc o) fun e w' => e = .returned (.tuple #[]) ∧ To F p (w.alloc o) w' S') := AR
    have HE1 : Hid (E = 0) := e1
    clear HA e1 e2 o1 o3 AR HE
    generalize d.n = dn at *
    generalize d.bv = dv at *
    generalize d.pv = dp at *
    generalize d.op = dop at *
    subst o4
    go_wp2_with fail
    refine HR.out.mono ?_
    rintro e w1 ⟨rfl, h1⟩
    go_wp2
    go_ret
    exact ⟨by rw [HE1.out]; rfl, To.after HH.out.2.2 h1⟩
  by_cases o5 : d.op = 5
  · have e1 := HA.out.1
    have e2 := HA.out.2
    rw [if_neg o1, if_neg o3] at e1 e2
    rw [if_neg o4, if_pos o5] at e2
    have HE : Hid (E = 0 ∧ S' = S.cut d.ps) := ⟨e1, e2⟩
    have AR := cut_arg F p S d.pv d.ps _ HH.out.1 HH.out.2.1.ps HV.out.1 hx
    rw [← HE.out.2] at AR
    have HR : Hid (Calls Try.prog 13 #[.pointer (some ⟨p, 0, none⟩), d.pv] (w.alloc o) fun e w' => e = .returned (.tuple #[]) ∧ To F p (w.alloc o) w' S') := AR
    have HE1 : Hid (E = 0) := e1
    clear HA e1 e2 o1 o3 o4 AR HE
    generalize d.n = dn at *
    generalize d.bv = dv at *
    generalize d.pv = dp at *
    generalize d.op = dop at *
    subst o5
    go_wp2_with fail
    refine HR.out.mono ?_
    rintro e w1 ⟨rfl, h1⟩
    go_wp2
    go_ret
    exact ⟨by rw [HE1.out]; rfl, To.after HH.out.2.2 h1⟩
  by_cases o6 : d.op = 6
  · have e1 := HA.out.1
    have e2 := HA.out.2
    rw [if_neg o1, if_neg o3] at e1 e2
    rw [if_neg o4, if_neg o5, if_pos o6] at e2
    have HE : Hid (E = 0 ∧ S' = S.on) := ⟨e1, e2⟩
    clear HA e1 e2 o1 o3 o4 o5
    generalize d.n = dn at *
    generalize d.bv = dv at *
    generalize d.pv = dp at *
    generalize d.op = dop at *
    subst o6
    go_wp2_with fail
    refine (on_any F p S _ HH.out.1).mono ?_
    rintro e w1 ⟨rfl, d1, c1⟩
    have h1 := To.own HH.out.1.fp d1 c1
    rw [← HE.out.2] at h1
    clear d1 c1
    go_wp2
    go_ret
    exact ⟨by rw [HE.out.1]; rfl, To.after HH.out.2.2 h1⟩
  · have e1 := HA.out.1
    have e2 := HA.out.2
    rw [if_neg o1, if_neg o3] at e1 e2
    rw [if_neg o4, if_neg o5, if_neg o6] at e2
    have HE : Hid (E = 0 ∧ S' = S) := ⟨e1, e2⟩
    clear HA e1 e2
    generalize d.n = dn at *
    generalize d.bv = dv at *
    generalize d.pv = dp at *
    generalize d.op = dop at *
    go_wp2
    go_ret
    exact ⟨by rw [HE.out.1]; rfl, by rw [HE.out.2]; exact To.after HH.out.2.2 (To.refl HH.out.1)⟩
end Go.Proofs.Ytkafpnjimdhakaa

/-
  The function that does an act on both disks: its contract.
-/
import Derived.Test.YtkafpnjimdhakaaStep
namespace Go.Proofs.Ytkafpnjimdhakaa
open Go.RowKit Go.Maps
attribute [local go_sem ↓] Go.wp_at_zero Go.wp_at_succ

/-- Full, Write, Full, Write of the act 1. -/
theorem chain1 {w W : World} {p q : Nat} {F G : Nat → Prop} {S : St} {k b o : Nat} {d : ActD} (P0 : Pr w W p q F G S S k) (B0 : BoxAt W k d) (ha : ActAt w b o d) (hl : d.bs.length ≤ 512) (hx : S.writes < 1099511627776) :
    Calls Try.prog 22 #[d.bv] W.drew fun e w1 => ∃ ub ud, e = .returned (.slice ub 512 ud) ∧ w1.cell? ⟨k, 1, none⟩ = some (.int .i64 d.n) ∧ w1.cell? ⟨k, 2, none⟩ = some d.bv ∧
      Hid (Calls Try.prog 21 #[.pointer (some ⟨p, 0, none⟩), .int .i64 d.n, .slice ub 512 ud] w1 fun e w2 => e = .returned (.int .i64 (S.writeE d.n (full d.bs))) ∧ w2.cell? ⟨k, 1, none⟩ = some (.int .i64 d.n) ∧ w2.cell? ⟨k, 2, none⟩ = some d.bv ∧
        Hid (Calls Try.prog 22 #[d.bv] w2 fun e w3 => ∃ u, e = .returned u ∧ w3.cell? ⟨k, 1, none⟩ = some (.int .i64 d.n) ∧ w3.cell? ⟨k, 2, none⟩ = some d.bv ∧ (convert 32 9 u).run Try.prog w3 = .ok (.string (strOf (full d.bs))) w3 ∧
          Hid (Calls Try.prog 35 #[.pointer (some ⟨q, 0, none⟩), .int .i64 d.n, .string (strOf (full d.bs))] w3 fun e w4 => e = .returned (.int .i64 (S.writeE d.n (full d.bs))) ∧ w4.cell? ⟨k, 1, none⟩ = some (.int .i64 d.n) ∧ w4.cell? ⟨k, 2, none⟩ = some d.bv ∧
            Hid (Stepped w p q (S.write d.n (full d.bs)) w4)))) := by
  have P1 := P0.more (Chg.drew (fun _ => False) W)
  have B1 := B0.kept (Chg.drew (fun _ => False) W) (fun h => h)
  refine (full_any d.bv d.bs W.drew (ha.bs.kept P1.two.chg (fun _ _ _ _ _ h => h)) (by omega)).mono ?_
  rintro e w1 ⟨u, rfl, fr⟩
  obtain ⟨ub, ud, rfl, hu⟩ := fr.form
  have P2 := P1.more fr.chg
  have B2 := B1.kept fr.chg (fun h => h)
  refine ⟨ub, ud, rfl, B2.n, B2.bc, ?_⟩
  refine (write_any F p S d.n _ (full d.bs) w1 P2.dk fr.bs (Bs.off P1.dk (Chg.refl _ _) fr) hx).mono ?_
  rintro e w2 ⟨rfl, h2⟩
  obtain ⟨F3, P3, c3⟩ := P2.left h2
  have B3 := B2.kept c3 P2.kf
  refine ⟨rfl, B3.n, B3.bc, ?_⟩
  refine (full_any d.bv d.bs w2 (ha.bs.kept P3.two.chg (fun _ _ _ _ _ h => h)) (by omega)).mono ?_
  rintro e w3 ⟨u3, rfl, fr3⟩
  have P4 := P3.more fr3.chg
  have B4 := B3.kept fr3.chg (fun h => h)
  refine ⟨u3, rfl, B4.n, B4.bc, run_str fr3.bs, ?_⟩
  refine (rwrite_any G q S d.n (full d.bs) w3 P4.rk hx (by rw [full_len]; omega)).mono ?_
  rintro e w4 ⟨rfl, h4⟩
  obtain ⟨G5, P5, c5⟩ := P4.right h4
  have B5 := B4.kept c5 P4.kg
  exact ⟨rfl, B5.n, B5.bc, P5.stepped⟩

set_option maxHeartbeats 1600000 in
set_option maxRecDepth 100000 in
theorem step_1 {w wr : World} {p q : Nat} {F G : Nat → Prop} {S : St} {b o : Nat} {d : ActD} (hd : Dk wr F p S) (hr : Rk wr G q S) (two : Two F G w wr) (ha : ActAt w b o d) (hl : d.bs.length ≤ 512 ∧ d.ps.length ≤ 100) (hx : S.writes < 1099511627776) (hop : d.op = 1) :
    Calls Try.prog 14 #[.pointer (some ⟨p, 0, none⟩), .pointer (some ⟨q, 0, none⟩), .agg #[.int .i64 d.op, .int .i64 d.n, d.bv, d.pv]] wr fun e w' => e = .returned (.bool true) ∧ Stepped w p q (S.write d.n (full d.bs)) w' := by
  obtain ⟨P0, B0⟩ := step_start (d := d) hd hr two
  obtain ⟨x, hdo⟩ : ∃ x, Obj.cells #[.int .i64 d.op, .int .i64 d.n, d.bv, d.pv] 35 = x := ⟨_, rfl⟩
  rw [hdo] at P0 B0
  have HK := chain1 P0 B0 ha hl.1 hx
  have q0 := B0.op
  have q1 := B0.n
  have q2 := B0.bc
  obtain ⟨E, hE⟩ : ∃ E, S.writeE d.n (full d.bs) = E := ⟨_, rfl⟩
  obtain ⟨t, ht⟩ : ∃ t, strOf (full d.bs) = t := ⟨_, rfl⟩
  obtain ⟨S', hS'⟩ : ∃ S', S.write d.n (full d.bs) = S' := ⟨_, rfl⟩
  rw [hE, ht, hS'] at HK
  rw [hS']
  have HF : Hid (Calls Try.prog 22 #[d.bv] (wr.alloc x).drew fun e w1 => ∃ ub ud, e = .returned (.slice ub 512 ud) ∧ w1.cell? ⟨wr.heap.size, 1, none⟩ = some (.int .i64 d.n) ∧ w1.cell? ⟨wr.heap.size, 2, none⟩ = some d.bv ∧
      Hid (Calls Try.prog 21 #[.pointer (some ⟨p, 0, none⟩), .int .i64 d.n, .slice ub 512 ud] w1 fun e w2 => e = .returned (.int .i64 E) ∧ w2.cell? ⟨wr.heap.size, 1, none⟩ = some (.int .i64 d.n) ∧ w2.cell? ⟨wr.heap.size, 2, none⟩ = some d.bv ∧
        Hid (Calls Try.prog 22 #[d.bv] w2 fun e w3 => ∃ u, e = .returned u ∧ w3.cell? ⟨wr.heap.size, 1, none⟩ = some (.int .i64 d.n) ∧ w3.cell? ⟨wr.heap.size, 2, none⟩ = some d.bv ∧ (convert 32 9 u).run Try.prog w3 = .ok (.string t) w3 ∧
          Hid (Calls Try.prog 35 #[.pointer (some ⟨q, 0, none⟩), .int .i64 d.n, .string t] w3 fun e w4 => e = .returned (.int .i64 E) ∧ w4.cell? ⟨wr.heap.size, 1, none⟩ = some (.int .i64 d.n) ∧ w4.cell? ⟨wr.heap.size, 2, none⟩ = some d.bv ∧
            Hid (Stepped w p q S' w4))))) := HK
  clear HK P0 B0 hd hr two ha hl hE ht hS'
  generalize d.n = dn at *
  generalize d.bv = dv at *
  generalize d.pv = dp at *
  generalize d.op = dop at *
  subst hop
  go_enter Try.func14, Try.ntmps14
  go_wp2_with fail
  go_region_held (fun w' => w'.cell? ⟨wr.heap.size, 1, none⟩ = some (.int .i64 dn) ∧ w'.cell? ⟨wr.heap.size, 2, none⟩ = some dv)
    (first | exact ⟨q1, q2⟩ | exact ⟨x1, x2⟩ | exact ⟨y1, y2⟩ | exact ⟨z1, z2⟩ | exact ⟨t1, t2⟩)
    (first
      | (go_at_call 22; refine HF.out.mono ?_; clear HF; rintro e w7 ⟨ub, ud, rfl, x1, x2, HM⟩)
      | (go_at_call 21; refine HM.out.mono ?_; clear HM; rintro e w8 ⟨rfl, y1, y2, HN⟩)
      | (go_at_call 22; refine HN.out.mono ?_; clear HN; rintro e w9 ⟨u9, rfl, z1, z2, z3, HO⟩)
      | (go_at_call 35; refine HO.out.mono ?_; clear HO; rintro e w10 ⟨rfl, t1, t2, HE⟩))
  all_goals
    go_wp2
    go_ret
    exact ⟨rfl, HE.out⟩

/-- Write, Write of the act 8. -/
theorem chain8 {w W : World} {p q : Nat} {F G : Nat → Prop} {S : St} {k b o : Nat} {d : ActD} (P0 : Pr w W p q F G S S k) (B0 : BoxAt W k d) (ha : ActAt w b o d) (hl : d.bs.length ≤ 512) (hx : S.writes < 1099511627776) :
    Calls Try.prog 21 #[.pointer (some ⟨p, 0, none⟩), .int .i64 d.n, d.bv] W.drew fun e w2 => e = .returned (.int .i64 (S.writeE d.n d.bs)) ∧ w2.cell? ⟨k, 1, none⟩ = some (.int .i64 d.n) ∧ w2.cell? ⟨k, 2, none⟩ = some d.bv ∧ (convert 32 9 d.bv).run Try.prog w2 = .ok (.string (strOf d.bs)) w2 ∧
      Hid (Calls Try.prog 35 #[.pointer (some ⟨q, 0, none⟩), .int .i64 d.n, .string (strOf d.bs)] w2 fun e w4 => e = .returned (.int .i64 (S.writeE d.n d.bs)) ∧ w4.cell? ⟨k, 1, none⟩ = some (.int .i64 d.n) ∧ w4.cell? ⟨k, 2, none⟩ = some d.bv ∧ (convert 32 9 d.bv).run Try.prog w4 = .ok (.string (strOf d.bs)) w4 ∧
            Hid (Stepped w p q (S.write d.n d.bs) w4)) := by
  have P1 := P0.more (Chg.drew (fun _ => False) W)
  have B1 := B0.kept (Chg.drew (fun _ => False) W) (fun h => h)
  refine (write_arg F p S d.n d.bv d.bs W.drew P1.dk (ha.bs.kept P1.two.chg (fun _ _ _ _ _ h => h)) (ha.bs.argOff P1.two.f) hx).mono ?_
  rintro e w2 ⟨rfl, h2⟩
  obtain ⟨F3, P3, c3⟩ := P1.left h2
  have B3 := B1.kept c3 P1.kf
  refine ⟨rfl, B3.n, B3.bc, run_str (ha.bs.kept P3.two.chg (fun _ _ _ _ _ h => h)), ?_⟩
  refine (rwrite_any G q S d.n d.bs w2 P3.rk hx (by omega)).mono ?_
  rintro e w4 ⟨rfl, h4⟩
  obtain ⟨G5, P5, c5⟩ := P3.right h4
  have B5 := B3.kept c5 P3.kg
  exact ⟨rfl, B5.n, B5.bc, run_str (ha.bs.kept P5.two.chg (fun _ _ _ _ _ h => h)), P5.stepped⟩

set_option maxHeartbeats 1600000 in
set_option maxRecDepth 100000 in
theorem step_8 {w wr : World} {p q : Nat} {F G : Nat → Prop} {S : St} {b o : Nat} {d : ActD} (hd : Dk wr F p S) (hr : Rk wr G q S) (two : Two F G w wr) (ha : ActAt w b o d) (hl : d.bs.length ≤ 512 ∧ d.ps.length ≤ 100) (hx : S.writes < 1099511627776) (hop : d.op = 8) :
    Calls Try.prog 14 #[.pointer (some ⟨p, 0, none⟩), .pointer (some ⟨q, 0, none⟩), .agg #[.int .i64 d.op, .int .i64 d.n, d.bv, d.pv]] wr fun e w' => e = .returned (.bool true) ∧ Stepped w p q (S.write d.n d.bs) w' := by
  obtain ⟨P0, B0⟩ := step_start (d := d) hd hr two
  obtain ⟨x, hdo⟩ : ∃ x, Obj.cells #[.int .i64 d.op, .int .i64 d.n, d.bv, d.pv] 35 = x := ⟨_, rfl⟩
  rw [hdo] at P0 B0
  have q0 := B0.op
  have q1 := B0.n
  have q2 := B0.bc
  have q3 := B0.pc
  have HK := chain8 P0 B0 ha hl.1 hx
  have s0 : (convert 32 9 d.bv).run Try.prog (wr.alloc x).drew = .ok (.string (strOf d.bs)) (wr.alloc x).drew := run_str (ha.bs.kept (P0.more (Chg.drew (fun _ => False) _)).two.chg (fun _ _ _ _ _ h => h))
  obtain ⟨E, hE⟩ : ∃ E, S.writeE d.n d.bs = E := ⟨_, rfl⟩
  obtain ⟨t, ht⟩ : ∃ t, strOf d.bs = t := ⟨_, rfl⟩
  obtain ⟨S', hS'⟩ : ∃ S', S.write d.n d.bs = S' := ⟨_, rfl⟩
  rw [hE, ht, hS'] at HK
  rw [ht] at s0
  rw [hS']
  have HF : Hid (Calls Try.prog 21 #[.pointer (some ⟨p, 0, none⟩), .int .i64 d.n, d.bv] (wr.alloc x).drew fun e w2 => e = .returned (.int .i64 E) ∧ w2.cell? ⟨wr.heap.size, 1, none⟩ = some (.int .i64 d.n) ∧ w2.cell? ⟨wr.heap.size, 2, none⟩ = some d.bv ∧ (convert 32 9 d.bv).run Try.prog w2 = .ok (.string t) w2 ∧
      Hid (Calls Try.prog 35 #[.pointer (some ⟨q, 0, none⟩), .int .i64 d.n, .string t] w2 fun e w4 => e = .returned (.int .i64 E) ∧ w4.cell? ⟨wr.heap.size, 1, none⟩ = some (.int .i64 d.n) ∧ w4.cell? ⟨wr.heap.size, 2, none⟩ = some d.bv ∧ (convert 32 9 d.bv).run Try.prog w4 = .ok (.string t) w4 ∧
            Hid (Stepped w p q S' w4))) := HK
  clear HK P0 B0 hd hr two ha hl hE ht hS'
  generalize d.n = dn at *
  generalize d.bv = dv at *
  generalize d.pv = dp at *
  generalize d.op = dop at *
  subst hop
  go_enter Try.func14, Try.ntmps14
  go_wp2_with fail
  go_region_held (fun w' => w'.cell? ⟨wr.heap.size, 1, none⟩ = some (.int .i64 dn) ∧ w'.cell? ⟨wr.heap.size, 2, none⟩ = some dv ∧ (convert 32 9 dv).run Try.prog w' = .ok (.string t) w')
    (first | exact ⟨q1, q2, s0⟩ | exact ⟨x1, x2, x3⟩ | exact ⟨y1, y2, y3⟩)
    (first
      | (go_at_call 21; refine HF.out.mono ?_; clear HF; rintro e w8 ⟨rfl, x1, x2, x3, HN⟩)
      | (go_at_call 35; refine HN.out.mono ?_; clear HN; rintro e w10 ⟨rfl, y1, y2, y3, HE⟩))
  all_goals
    go_wp2
    go_ret
    exact ⟨rfl, HE.out⟩

set_option maxHeartbeats 1600000 in
set_option maxRecDepth 100000 in
theorem step_3 {w wr : World} {p q : Nat} {F G : Nat → Prop} {S : St} {b o : Nat} {d : ActD} (hd : Dk wr F p S) (hr : Rk wr G q S) (two : Two F G w wr) (_ha : ActAt w b o d) (_hl : d.bs.length ≤ 512 ∧ d.ps.length ≤ 100) (hx : S.writes < 1099511627776) (hop : d.op = 3) :
    Calls Try.prog 14 #[.pointer (some ⟨p, 0, none⟩), .pointer (some ⟨q, 0, none⟩), .agg #[.int .i64 d.op, .int .i64 d.n, d.bv, d.pv]] wr fun e w' => e = .returned (.bool true) ∧ Stepped w p q S.sync w' := by
  obtain ⟨P0, B0⟩ := step_start (d := d) hd hr two
  obtain ⟨x, hdo⟩ : ∃ x, Obj.cells #[.int .i64 d.op, .int .i64 d.n, d.bv, d.pv] 35 = x := ⟨_, rfl⟩
  rw [hdo] at P0 B0
  have q0 := B0.op
  have q1 := B0.n
  have q2 := B0.bc
  have q3 := B0.pc
  have HP : Hid (Pr w (wr.alloc x) p q F G S S wr.heap.size) := P0
  clear P0 B0 hd hr two _ha _hl
  generalize d.n = dn at *
  generalize d.bv = dv at *
  generalize d.pv = dp at *
  generalize d.op = dop at *
  subst hop
  go_enter Try.func14, Try.ntmps14
  go_wp2_with fail
  refine (sync_any F p S _ HP.out.dk hx).mono ?_
  rintro e w1 ⟨rfl, h1⟩
  obtain ⟨F1, P1, c1⟩ := HP.out.left h1
  have HP1 : Hid (Pr w w1 p q F1 G S.sync S wr.heap.size) := P1
  clear h1 P1 c1 HP
  go_wp2_with fail
  refine (rsync_any G q S w1 HP1.out.rk hx).mono ?_
  rintro e w2 ⟨rfl, h2⟩
  obtain ⟨G2, P2, c2⟩ := HP1.out.right h2
  clear h2 c2 HP1
  go_wp2
  go_ret
  exact ⟨rfl, P2.stepped⟩

set_option maxHeartbeats 1600000 in
set_option maxRecDepth 100000 in
theorem step_6 {w wr : World} {p q : Nat} {F G : Nat → Prop} {S : St} {b o : Nat} {d : ActD} (hd : Dk wr F p S) (hr : Rk wr G q S) (two : Two F G w wr) (_ha : ActAt w b o d) (_hl : d.bs.length ≤ 512 ∧ d.ps.length ≤ 100) (_hx : S.writes < 1099511627776) (hop : d.op = 6) :
    Calls Try.prog 14 #[.pointer (some ⟨p, 0, none⟩), .pointer (some ⟨q, 0, none⟩), .agg #[.int .i64 d.op, .int .i64 d.n, d.bv, d.pv]] wr fun e w' => e = .returned (.bool true) ∧ Stepped w p q S.on w' := by
  obtain ⟨P0, B0⟩ := step_start (d := d) hd hr two
  obtain ⟨x, hdo⟩ : ∃ x, Obj.cells #[.int .i64 d.op, .int .i64 d.n, d.bv, d.pv] 35 = x := ⟨_, rfl⟩
  rw [hdo] at P0 B0
  have q0 := B0.op
  have q1 := B0.n
  have q2 := B0.bc
  have q3 := B0.pc
  have HP : Hid (Pr w (wr.alloc x) p q F G S S wr.heap.size) := P0
  clear P0 B0 hd hr two _ha _hl
  generalize d.n = dn at *
  generalize d.bv = dv at *
  generalize d.pv = dp at *
  generalize d.op = dop at *
  subst hop
  go_enter Try.func14, Try.ntmps14
  go_wp2_with fail
  refine (on_any F p S _ HP.out.dk).mono ?_
  rintro e w1 ⟨rfl, d1, k1⟩
  obtain ⟨F1, P1, c1⟩ := HP.out.left (To.own HP.out.dk.fp d1 k1)
  have HP1 : Hid (Pr w w1 p q F1 G S.on S wr.heap.size) := P1
  clear d1 k1 P1 c1 HP
  go_wp2_with fail
  refine (ron_any G q S w1 HP1.out.rk).mono ?_
  rintro e w2 ⟨rfl, h2⟩
  obtain ⟨G2, P2, c2⟩ := HP1.out.right h2
  clear h2 c2 HP1
  go_wp2
  go_ret
  exact ⟨rfl, P2.stepped⟩

set_option maxHeartbeats 1600000 in
set_option maxRecDepth 100000 in
theorem step_5 {w wr : World} {p q : Nat} {F G : Nat → Prop} {S : St} {b o : Nat} {d : ActD} (hd : Dk wr F p S) (hr : Rk wr G q S) (two : Two F G w wr) (ha : ActAt w b o d) (_hl : d.bs.length ≤ 512 ∧ d.ps.length ≤ 100) (hx : S.writes < 1099511627776) (hop : d.op = 5) :
    Calls Try.prog 14 #[.pointer (some ⟨p, 0, none⟩), .pointer (some ⟨q, 0, none⟩), .agg #[.int .i64 d.op, .int .i64 d.n, d.bv, d.pv]] wr fun e w' => e = .returned (.bool true) ∧ Stepped w p q (S.cut d.ps) w' := by
  obtain ⟨P0, B0⟩ := step_start (d := d) hd hr two
  obtain ⟨x, hdo⟩ : ∃ x, Obj.cells #[.int .i64 d.op, .int .i64 d.n, d.bv, d.pv] 35 = x := ⟨_, rfl⟩
  rw [hdo] at P0 B0
  have q0 := B0.op
  have q1 := B0.n
  have q2 := B0.bc
  have q3 := B0.pc
  have CA := cut_arg F p S d.pv d.ps _ P0.dk (ha.ps.kept P0.two.chg (fun _ _ h => h)) (ha.ps.argOff P0.two.f) hx
  have HC : Hid (Calls Try.prog 13 #[.pointer (some ⟨p, 0, none⟩), d.pv] (wr.alloc x) fun e w1 => e = .returned (.tuple #[]) ∧ w1.cell? ⟨wr.heap.size, 3, none⟩ = some d.pv ∧ Hid (Calls Try.prog 39 #[.pointer (some ⟨q, 0, none⟩), d.pv] w1 fun e w2 => e = .returned (.tuple #[]) ∧ Hid (Stepped w p q (S.cut d.ps) w2))) := by
    refine CA.mono ?_
    rintro e w1 ⟨rfl, h1⟩
    obtain ⟨F1, P1, c1⟩ := P0.left h1
    refine ⟨rfl, (B0.kept c1 P0.kf).pc, ?_⟩
    refine (rcut_arg G q S d.pv d.ps w1 P1.rk (ha.ps.kept P1.two.chg (fun _ _ h => h)) (ha.ps.argOff P1.two.g) hx).mono ?_
    rintro e w2 ⟨rfl, h2⟩
    obtain ⟨G2, P2, c2⟩ := P1.right h2
    exact ⟨rfl, P2.stepped⟩
  obtain ⟨S', hS'⟩ : ∃ S', S.cut d.ps = S' := ⟨_, rfl⟩
  rw [hS'] at HC
  rw [hS']
  clear P0 B0 hd hr two ha _hl CA hS'
  generalize d.n = dn at *
  generalize d.bv = dv at *
  generalize d.pv = dp at *
  generalize d.op = dop at *
  subst hop
  go_enter Try.func14, Try.ntmps14
  go_wp2_with fail
  refine HC.out.mono ?_
  rintro e w1 ⟨rfl, x3, HD⟩
  go_wp2_with fail
  refine HD.out.mono ?_
  rintro e w2 ⟨rfl, HE⟩
  go_wp2
  go_ret
  exact ⟨rfl, HE.out⟩

set_option maxHeartbeats 1600000 in
set_option maxRecDepth 100000 in
theorem step_4 {w wr : World} {p q : Nat} {F G : Nat → Prop} {S : St} {b o : Nat} {d : ActD} (hd : Dk wr F p S) (hr : Rk wr G q S) (two : Two F G w wr) (ha : ActAt w b o d) (hl : d.bs.length ≤ 512 ∧ d.ps.length ≤ 100) (_hx : S.writes < 1099511627776) (hop : d.op = 4) :
    Calls Try.prog 14 #[.pointer (some ⟨p, 0, none⟩), .pointer (some ⟨q, 0, none⟩), .agg #[.int .i64 d.op, .int .i64 d.n, d.bv, d.pv]] wr fun e w' => e = .returned (.bool true) ∧ Stepped w p q (S.armed d.n d.ps) w' := by
  obtain ⟨P0, B0⟩ := step_start (d := d) hd hr two
  obtain ⟨x, hdo⟩ : ∃ x, Obj.cells #[.int .i64 d.op, .int .i64 d.n, d.bv, d.pv] 35 = x := ⟨_, rfl⟩
  rw [hdo] at P0 B0
  have q0 := B0.op
  have q1 := B0.n
  have q2 := B0.bc
  have q3 := B0.pc
  have CA := arm_any F p S d.n d.pv d.ps _ P0.dk (ha.ps.kept P0.two.chg (fun _ _ h => h)) (by omega) ha.n0 ha.n1
  have HC : Hid (Calls Try.prog 26 #[.pointer (some ⟨p, 0, none⟩), .int .i64 d.n, d.pv] (wr.alloc x) fun e w1 => e = .returned (.tuple #[]) ∧ w1.cell? ⟨wr.heap.size, 1, none⟩ = some (.int .i64 d.n) ∧ w1.cell? ⟨wr.heap.size, 3, none⟩ = some d.pv ∧ Hid (Calls Try.prog 38 #[.pointer (some ⟨q, 0, none⟩), .int .i64 d.n, d.pv] w1 fun e w2 => e = .returned (.tuple #[]) ∧ Hid (Stepped w p q (S.armed d.n d.ps) w2))) := by
    refine CA.mono ?_
    rintro e w1 ⟨rfl, h1⟩
    obtain ⟨F1, P1, c1⟩ := P0.left h1
    have B1 := B0.kept c1 P0.kf
    refine ⟨rfl, B1.n, B1.pc, ?_⟩
    refine (rarm_any G q S d.n d.pv d.ps w1 P1.rk (ha.ps.kept P1.two.chg (fun _ _ h => h)) (ha.ps.argOff P1.two.g) (by omega) ha.n0 ha.n1).mono ?_
    rintro e w2 ⟨rfl, h2⟩
    obtain ⟨G2, P2, c2⟩ := P1.right h2
    exact ⟨rfl, P2.stepped⟩
  obtain ⟨S', hS'⟩ : ∃ S', S.armed d.n d.ps = S' := ⟨_, rfl⟩
  rw [hS'] at HC
  rw [hS']
  clear P0 B0 hd hr two ha hl CA hS'
  generalize d.n = dn at *
  generalize d.bv = dv at *
  generalize d.pv = dp at *
  generalize d.op = dop at *
  subst hop
  go_enter Try.func14, Try.ntmps14
  go_wp2_with fail
  refine HC.out.mono ?_
  rintro e w1 ⟨rfl, x1, x3, HD⟩
  go_wp2_with fail
  refine HD.out.mono ?_
  rintro e w2 ⟨rfl, HE⟩
  go_wp2
  go_ret
  exact ⟨rfl, HE.out⟩

set_option maxHeartbeats 1600000 in
set_option maxRecDepth 100000 in
theorem step_2 {w wr : World} {p q : Nat} {F G : Nat → Prop} {S : St} {b o : Nat} {d : ActD} (hd : Dk wr F p S) (hr : Rk wr G q S) (two : Two F G w wr) (_ha : ActAt w b o d) (_hl : d.bs.length ≤ 512 ∧ d.ps.length ≤ 100) (hx : S.writes < 1099511627776) (hop : d.op = 2) :
    Calls Try.prog 14 #[.pointer (some ⟨p, 0, none⟩), .pointer (some ⟨q, 0, none⟩), .agg #[.int .i64 d.op, .int .i64 d.n, d.bv, d.pv]] wr fun e w' => e = .returned (.bool true) ∧ Stepped w p q S w' := by
  obtain ⟨P0, B0⟩ := step_start (d := d) hd hr two
  obtain ⟨x, hdo⟩ : ∃ x, Obj.cells #[.int .i64 d.op, .int .i64 d.n, d.bv, d.pv] 35 = x := ⟨_, rfl⟩
  rw [hdo] at P0 B0
  have q0 := B0.op
  have q1 := B0.n
  have q2 := B0.bc
  have q3 := B0.pc
  have CA := read_any F p S d.n _ P0.dk hx
  have HC : Hid (Calls Try.prog 25 #[.pointer (some ⟨p, 0, none⟩), .int .i64 d.n] (wr.alloc x) fun e w1 => ∃ u, e = .returned (.tuple #[u, .int .i64 (S.readE d.n)]) ∧ w1.cell? ⟨wr.heap.size, 1, none⟩ = some (.int .i64 d.n) ∧ (convert 32 9 u).run Try.prog w1 = .ok (.string (strOf (S.readV d.n))) w1 ∧ Hid (Calls Try.prog 36 #[.pointer (some ⟨q, 0, none⟩), .int .i64 d.n] w1 fun e w2 => e = .returned (.tuple #[.string (strOf (S.readV d.n)), .int .i64 (S.readE d.n)]) ∧ w2 = w1) ∧ Hid (Stepped w p q S w1)) := by
    refine CA.mono ?_
    rintro e w1 ⟨u, rfl, fr⟩
    have P1 := P0.more fr.chg
    exact ⟨u, rfl, (B0.kept fr.chg (fun h => h)).n, run_str fr.bs, rread_any G q S d.n w1 P1.rk hx, P1.stepped⟩
  obtain ⟨E, hE⟩ : ∃ E, S.readE d.n = E := ⟨_, rfl⟩
  obtain ⟨t, ht⟩ : ∃ t, strOf (S.readV d.n) = t := ⟨_, rfl⟩
  rw [hE, ht] at HC
  clear P0 B0 hd hr two _ha _hl CA hE ht
  generalize d.n = dn at *
  generalize d.bv = dv at *
  generalize d.pv = dp at *
  generalize d.op = dop at *
  subst hop
  go_enter Try.func14, Try.ntmps14
  go_wp2_with fail
  refine HC.out.mono ?_
  rintro e w1 ⟨u, rfl, x1, x2, HD, HE⟩
  go_wp2_with fail
  refine HD.out.mono ?_
  rintro e w2 ⟨rfl, rfl⟩
  go_wp2
  go_ret
  exact ⟨rfl, HE.out⟩

set_option maxHeartbeats 1600000 in
set_option maxRecDepth 100000 in
theorem step_no {w wr : World} {p q : Nat} {F G : Nat → Prop} {S : St} {b o : Nat} {d : ActD} (hd : Dk wr F p S) (hr : Rk wr G q S) (two : Two F G w wr) (_ha : ActAt w b o d) (_hl : d.bs.length ≤ 512 ∧ d.ps.length ≤ 100) (_hx : S.writes < 1099511627776) (h1 : d.op ≠ 1) (h2 : d.op ≠ 2) (h3 : d.op ≠ 3) (h4 : d.op ≠ 4) (h5 : d.op ≠ 5) (h6 : d.op ≠ 6) (h8 : d.op ≠ 8) :
    Calls Try.prog 14 #[.pointer (some ⟨p, 0, none⟩), .pointer (some ⟨q, 0, none⟩), .agg #[.int .i64 d.op, .int .i64 d.n, d.bv, d.pv]] wr fun e w' => e = .returned (.bool true) ∧ Stepped w p q S w' := by
  obtain ⟨P0, B0⟩ := step_start (d := d) hd hr two
  obtain ⟨x, hdo⟩ : ∃ x, Obj.cells #[.int .i64 d.op, .int .i64 d.n, d.bv, d.pv] 35 = x := ⟨_, rfl⟩
  rw [hdo] at P0 B0
  have q0 := B0.op
  have q1 := B0.n
  have q2 := B0.bc
  have q3 := B0.pc
  have HE : Hid (Stepped w p q S (wr.alloc x)) := P0.stepped
  clear P0 B0 hd hr two _ha _hl
  generalize d.n = dn at *
  generalize d.bv = dv at *
  generalize d.pv = dp at *
  generalize d.op = dop at *
  go_enter Try.func14, Try.ntmps14
  go_wp2
  go_ret
  exact ⟨rfl, HE.out⟩

theorem step_any {w wr : World} {p q : Nat} {F G : Nat → Prop} {S : St} {b o : Nat} {d : ActD} (hd : Dk wr F p S) (hr : Rk wr G q S) (two : Two F G w wr) (ha : ActAt w b o d) (hl : d.bs.length ≤ 512 ∧ d.ps.length ≤ 100) (hx : S.writes < 1099511627776) :
    Calls Try.prog 14 #[.pointer (some ⟨p, 0, none⟩), .pointer (some ⟨q, 0, none⟩), .agg #[.int .i64 d.op, .int .i64 d.n, d.bv, d.pv]] wr fun e w' => e = .returned (.bool true) ∧ Stepped w p q (S.stp d) w' := by
  unfold St.stp
  by_cases h1 : d.op = 1
  · rw [if_pos h1]; exact step_1 hd hr two ha hl hx h1
  rw [if_neg h1]
  by_cases h3 : d.op = 3
  · rw [if_pos h3]; exact step_3 hd hr two ha hl hx h3
  rw [if_neg h3]
  by_cases h4 : d.op = 4
  · rw [if_pos h4]; exact step_4 hd hr two ha hl hx h4
  rw [if_neg h4]
  by_cases h5 : d.op = 5
  · rw [if_pos h5]; exact step_5 hd hr two ha hl hx h5
  rw [if_neg h5]
  by_cases h6 : d.op = 6
  · rw [if_pos h6]; exact step_6 hd hr two ha hl hx h6
  rw [if_neg h6]
  by_cases h8 : d.op = 8
  · rw [if_pos h8]; exact step_8 hd hr two ha hl hx h8
  rw [if_neg h8]
  by_cases h2 : d.op = 2
  · exact step_2 hd hr two ha hl hx h2
  · exact step_no hd hr two ha hl hx h1 h2 h3 h4 h5 h6 h8
end Go.Proofs.Ytkafpnjimdhakaa

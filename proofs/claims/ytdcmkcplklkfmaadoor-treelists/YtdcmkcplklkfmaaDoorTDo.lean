/-
  move: contracts.
-/
import Derived.Test.YtdcmkcplklkfmaaDoorTGone
import Derived.LaidEqlPtr
namespace Go.Proofs.YtdcmkcplklkfmaaDoor
open Go.RowKit Go.Maps

theorem cell_block {w : World} {a i : Nat} {v : Value} (h : w.cell? ⟨a, i, none⟩ = some v) : ∃ c ty z, w.heap[a]? = some (.cells c ty z) := by
  unfold World.cell? at h
  split at h
  · rename_i c ty z e; exact ⟨c, ty, z, e⟩
  · cases h
theorem sameAddr_ne {P : Program} {w : World} {a b : Nat} {va vb : Value} (h : ¬ a = b) (ha : w.cell? ⟨a, 0, none⟩ = some va) (hb : w.cell? ⟨b, 0, none⟩ = some vb) (fa : ∀ i, w.frozen? ⟨a, i, none⟩ = false) (fb : ∀ i, w.frozen? ⟨b, i, none⟩ = false) :
    (sameAddr ⟨a, 0, none⟩ ⟨b, 0, none⟩).run P w = .ok false w := by
  obtain ⟨c1, t1, z1, e1⟩ := cell_block ha
  obtain ⟨c2, t2, z2, e2⟩ := cell_block hb
  simp [sameAddr, h, noView, viewAt, World.shape?, mayBeOne, stringish, e1, e2, fa, fb]
theorem infoNode : ∃ j, Tryd.prog.info? 55 = some j ∧ j.size ≠ 0 := by
  have h : (Tryd.prog.info? 55).map (fun i => i.size) = some 4 := by kernel_rfl
  obtain ⟨i, hi, e⟩ := Option.map_eq_some_iff.1 h
  exact ⟨i, hi, by rw [e]; decide⟩
theorem eqN_ne {w : World} {a b : Nat} {va vb : Value} (h : ¬ a = b) (ha : w.cell? ⟨a, 0, none⟩ = some va) (hb : w.cell? ⟨b, 0, none⟩ = some vb) (fa : ∀ i, w.frozen? ⟨a, i, none⟩ = false) (fb : ∀ i, w.frozen? ⟨b, i, none⟩ = false) :
    (binOp .eql 56 (ptr a) (ptr b)).run Tryd.prog w = .ok (.bool false) w ∧ (binOp .neq 56 (ptr a) (ptr b)).run Tryd.prog w = .ok (.bool true) w := by
  obtain ⟨j, hj, hs⟩ := infoNode
  have h : ∀ d : Nat, (Op.equalIn (d + 1) 56 (ptr a) (ptr b)).run Tryd.prog w = .ok false w := fun d => by
    simp [Op.equalIn, run_underlying Tryd.underlying56, sizeOf, typeInfo, hj, hs, sameAddr_ne h ha hb fa fb]
  constructor
  · simp only [binOp]
    simp [Op.equal, Op.maxDepth, h 9999]
  · simp only [binOp]
    simp [Op.equal, Op.maxDepth, h 9999]
theorem eqN_eq (a : Nat) (w : World) : (binOp .eql 56 (ptr a) (ptr a)).run Tryd.prog w = .ok (.bool true) w ∧ (binOp .neq 56 (ptr a) (ptr a)).run Tryd.prog w = .ok (.bool false) w := by
  obtain ⟨j, hj, hs⟩ := infoNode
  have h : ∀ d : Nat, (Op.equalIn (d + 1) 56 (ptr a) (ptr a)).run Tryd.prog w = .ok true w := fun d => by
    simp [Op.equalIn, run_underlying Tryd.underlying56, sizeOf, typeInfo, hj, run_sameAddr_same]
  constructor
  · simp only [binOp]
    simp [Op.equal, Op.maxDepth, h 9999]
  · simp only [binOp]
    simp [Op.equal, Op.maxDepth, h 9999]
theorem eqN_nil (a : Addr) (w : World) : (binOp .eql 56 (.pointer none) (.pointer (some a))).run Tryd.prog w = .ok (.bool false) w := by kernel_rfl
set_option maxHeartbeats 3200000 in
set_option maxRecDepth 100000 in
theorem mv_same (t u q : Nat) (x y : ByteArray) (o2 : Option Addr) (w : World) (m n : Nat) (f : ByteArray → Option Value) (P : World → Prop) (hx : x.size ≤ 256) (c2 : w.cell? ⟨u, 2, none⟩ = some (.map (some m))) (hm : SMap w m n f) (hfx : (f x).isSome = true) (_hum : ¬ u = m)
    (HP : ∀ wb, SMap wb m (n - 1) (updB f x none) → Upd (fun _ _ => False) (fun k => k = m) w wb → Calls Tryd.prog 41 #[ptr t, .agg #[ptr u, .string y, .pointer o2], ptr q] wb fun e w' => e = .returned (.tuple #[]) ∧ P w') :
    Calls Tryd.prog 39 #[ptr t, .agg #[ptr u, .string x, ptr q], .agg #[ptr u, .string y, .pointer o2]] w fun e w' => e = .returned (.int .i64 0) ∧ P w' := by
  have A1 := below_alloc w (spO (ptr u) (.string x) (ptr q))
  have S1 := Sp.alloc w (ptr u) (.string x) (ptr q)
  have z1 : (w.alloc (spO (ptr u) (.string x) (ptr q))).heap.size = w.heap.size + 1 := by simp
  have A2 := below_alloc (w.alloc (spO (ptr u) (.string x) (ptr q))) (spO (ptr u) (.string y) (.pointer o2))
  have S2 := Sp.alloc (w.alloc (spO (ptr u) (.string x) (ptr q))) (ptr u) (.string y) (.pointer o2)
  have R1 := S1.kept (Chg.ofBelowC A2) (fun h => h)
  have A0 := A1.trans (A2.mono A1.size)
  rw [z1] at S2
  have z2 : ((w.alloc (spO (ptr u) (.string x) (ptr q))).alloc (spO (ptr u) (.string y) (.pointer o2))).heap.size = w.heap.size + 2 := by simp
  obtain ⟨wa, hwa⟩ : ∃ wa, Hid ((w.alloc (spO (ptr u) (.string x) (ptr q))).alloc (spO (ptr u) (.string y) (.pointer o2)) = wa) := ⟨_, rfl⟩
  rw [hwa.out] at A0 S2 R1 z2
  clear S1 A1 A2
  have HA : Hid (Below w.heap.size w wa ∧ wa.heap.size = w.heap.size + 2) := ⟨A0, z2⟩
  have HSP : Hid (Sp wa w.heap.size (ptr u) (.string x) (ptr q) ∧ Sp wa (w.heap.size + 1) (ptr u) (.string y) (.pointer o2)) := ⟨R1, S2⟩
  have D0 : Hid (Below wa.heap.size wa wa.drew) := below_drew _ _
  obtain ⟨r0, r1, r2⟩ := R1.c
  obtain ⟨s0, s1, s2⟩ := S2.c
  clear R1 S2 z1 z2 A0
  have hul : u < w.heap.size := World.block_lt_of_cell? w ⟨u, 2, none⟩ c2
  have hml := hm.lt
  have END : ∀ w5, Hid (Below wa.heap.size wa w5) → w5.cell? ⟨w.heap.size, 0, none⟩ = some (ptr u) ∧ w5.cell? ⟨w.heap.size, 1, none⟩ = some (.string x) ∧ w5.cell? ⟨u, 2, none⟩ = some (.map (some m)) ∧ ∃ w8, (Builtin.delete_ #[53, 9] 0 #[.map (some m), .string x]).run Tryd.prog w5.drew = .ok (.tuple #[]) w8 ∧ w8.cell? ⟨w.heap.size, 2, none⟩ = some (ptr q) ∧ w8.cell? ⟨w.heap.size + 1, 0, none⟩ = some (ptr u) ∧ w8.cell? ⟨w.heap.size + 1, 1, none⟩ = some (.string y) ∧ w8.cell? ⟨w.heap.size + 1, 2, none⟩ = some (.pointer o2) ∧ Hid (Calls Tryd.prog 41 #[ptr t, .agg #[ptr u, .string y, .pointer o2], ptr q] w8 fun e w' => e = .returned (.tuple #[]) ∧ P w') := by
    intro w5 hb
    have C5 := Chg.ofBelowC hb.out
    have B5 : Below w.heap.size w w5 := HA.out.1.trans (hb.out.mono HA.out.1.size)
    have k1 := HSP.out.1.kept C5 (fun h => h)
    have k2 := HSP.out.2.kept C5 (fun h => h)
    have km := hm.kept ((Chg.ofBelowC B5).block m hml (fun h => h))
    obtain ⟨w8, hr, hm8, hg, hz⟩ := (km.kept (w' := w5.drew) rfl).delete hx 0
    rw [if_pos hfx] at hm8
    have C8 : Chg (fun k => k = m) w5 w8 := (Chg.drew (fun k => k = m) w5).trans (grown_chg hg) (fun _ _ h => h)
    have k1' := (k1.kept C8 (by omega)).c
    have k2' := (k2.kept C8 (by omega)).c
    refine ⟨k1.c.1, k1.c.2.1, (Chg.ofBelowC B5).cell c2 (fun h => h), w8, hr, k1'.2.2, k2'.1, k2'.2.1, k2'.2.2, HP w8 hm8 ?_⟩
    exact (Upd.below B5).trans ((Upd.ofChg C8).mono (fun _ _ h => h) (fun _ h => h))
  clear c2 hm HP hfx
  have hN := (eqN_eq u wa.drew).2
  obtain ⟨b0, b1, b2', w8, hr, b2, d0, d1, d2, HC⟩ := END wa.drew D0
  clear END
  go_enter Tryd.func39, Tryd.ntmps39
  go_wp2_with fail
  rw [hwa.out]
  all_goals
    go_region
    go_wp2_with fail
    go_region
    go_wp2_with fail
    refine HC.out.mono ?_
    rintro e w9 ⟨rfl, hP⟩
    have HPP : Hid (P w9) := hP
    clear HC hP hr b2 d0 d1 d2
    go_wp2_with fail
    go_ret
    exact ⟨rfl, HPP.out⟩
set_option maxHeartbeats 3200000 in
set_option maxRecDepth 100000 in
theorem mv_other (t u g q : Nat) (x y : ByteArray) (o2 : Option Addr) (w : World) (m n : Nat) (f : ByteArray → Option Value) (P : World → Prop) (hx : x.size ≤ 256) (c2 : w.cell? ⟨u, 2, none⟩ = some (.map (some m))) (hm : SMap w m n f) (hfx : (f x).isSome = true) (_hum : ¬ u = m)
    (HP : ∀ wb, SMap wb m (n - 1) (updB f x none) → Upd (fun _ _ => False) (fun k => k = m) w wb → Calls Tryd.prog 41 #[ptr t, .agg #[ptr g, .string y, .pointer o2], ptr q] wb fun e w' => e = .returned (.tuple #[]) ∧ P w') (X bl : Int) (cbl : w.cell? ⟨t, 4, none⟩ = some (.int .i64 bl)) (hq : ¬ bl < X) (HN : ∀ wb, Below w.heap.size w wb → (binOp .neq 56 (ptr u) (ptr g)).run Tryd.prog wb = .ok (.bool true) wb) (HF : ∀ wb, Below w.heap.size w wb → Calls Tryd.prog 40 #[ptr g] wb fun e w' => e = .returned (.int .i64 X) ∧ Below wb.heap.size wb w') :
    Calls Tryd.prog 39 #[ptr t, .agg #[ptr u, .string x, ptr q], .agg #[ptr g, .string y, .pointer o2]] w fun e w' => e = .returned (.int .i64 0) ∧ P w' := by
  have A1 := below_alloc w (spO (ptr u) (.string x) (ptr q))
  have S1 := Sp.alloc w (ptr u) (.string x) (ptr q)
  have z1 : (w.alloc (spO (ptr u) (.string x) (ptr q))).heap.size = w.heap.size + 1 := by simp
  have A2 := below_alloc (w.alloc (spO (ptr u) (.string x) (ptr q))) (spO (ptr g) (.string y) (.pointer o2))
  have S2 := Sp.alloc (w.alloc (spO (ptr u) (.string x) (ptr q))) (ptr g) (.string y) (.pointer o2)
  have R1 := S1.kept (Chg.ofBelowC A2) (fun h => h)
  have A0 := A1.trans (A2.mono A1.size)
  rw [z1] at S2
  have z2 : ((w.alloc (spO (ptr u) (.string x) (ptr q))).alloc (spO (ptr g) (.string y) (.pointer o2))).heap.size = w.heap.size + 2 := by simp
  obtain ⟨wa, hwa⟩ : ∃ wa, Hid ((w.alloc (spO (ptr u) (.string x) (ptr q))).alloc (spO (ptr g) (.string y) (.pointer o2)) = wa) := ⟨_, rfl⟩
  rw [hwa.out] at A0 S2 R1 z2
  clear S1 A1 A2
  have HA : Hid (Below w.heap.size w wa ∧ wa.heap.size = w.heap.size + 2) := ⟨A0, z2⟩
  have HSP : Hid (Sp wa w.heap.size (ptr u) (.string x) (ptr q) ∧ Sp wa (w.heap.size + 1) (ptr g) (.string y) (.pointer o2)) := ⟨R1, S2⟩
  have D0 : Hid (Below wa.heap.size wa wa.drew) := below_drew _ _
  obtain ⟨r0, r1, r2⟩ := R1.c
  obtain ⟨s0, s1, s2⟩ := S2.c
  clear R1 S2 z1 z2 A0
  have hul : u < w.heap.size := World.block_lt_of_cell? w ⟨u, 2, none⟩ c2
  have hml := hm.lt
  have END : ∀ w5, Hid (Below wa.heap.size wa w5) → w5.cell? ⟨w.heap.size, 0, none⟩ = some (ptr u) ∧ w5.cell? ⟨w.heap.size, 1, none⟩ = some (.string x) ∧ w5.cell? ⟨u, 2, none⟩ = some (.map (some m)) ∧ ∃ w8, (Builtin.delete_ #[53, 9] 0 #[.map (some m), .string x]).run Tryd.prog w5.drew = .ok (.tuple #[]) w8 ∧ w8.cell? ⟨w.heap.size, 2, none⟩ = some (ptr q) ∧ w8.cell? ⟨w.heap.size + 1, 0, none⟩ = some (ptr g) ∧ w8.cell? ⟨w.heap.size + 1, 1, none⟩ = some (.string y) ∧ w8.cell? ⟨w.heap.size + 1, 2, none⟩ = some (.pointer o2) ∧ Hid (Calls Tryd.prog 41 #[ptr t, .agg #[ptr g, .string y, .pointer o2], ptr q] w8 fun e w' => e = .returned (.tuple #[]) ∧ P w') := by
    intro w5 hb
    have C5 := Chg.ofBelowC hb.out
    have B5 : Below w.heap.size w w5 := HA.out.1.trans (hb.out.mono HA.out.1.size)
    have k1 := HSP.out.1.kept C5 (fun h => h)
    have k2 := HSP.out.2.kept C5 (fun h => h)
    have km := hm.kept ((Chg.ofBelowC B5).block m hml (fun h => h))
    obtain ⟨w8, hr, hm8, hg, hz⟩ := (km.kept (w' := w5.drew) rfl).delete hx 0
    rw [if_pos hfx] at hm8
    have C8 : Chg (fun k => k = m) w5 w8 := (Chg.drew (fun k => k = m) w5).trans (grown_chg hg) (fun _ _ h => h)
    have k1' := (k1.kept C8 (by omega)).c
    have k2' := (k2.kept C8 (by omega)).c
    refine ⟨k1.c.1, k1.c.2.1, (Chg.ofBelowC B5).cell c2 (fun h => h), w8, hr, k1'.2.2, k2'.1, k2'.2.1, k2'.2.2, HP w8 hm8 ?_⟩
    exact (Upd.below B5).trans ((Upd.ofChg C8).mono (fun _ _ h => h) (fun _ h => h))
  clear c2 hm HP hfx
  have HB : ∀ wb, Hid (Below wa.heap.size wa wb) → Hid (Calls Tryd.prog 40 #[ptr g] wb fun e w' => e = .returned (.int .i64 X) ∧ w'.cell? ⟨t, 4, none⟩ = some (.int .i64 bl) ∧ Hid (Below wa.heap.size wa w')) := by
    intro wb hb
    refine (HF wb (HA.out.1.trans (hb.out.mono HA.out.1.size))).mono ?_
    rintro e w' ⟨rfl, B⟩
    have B2 := hb.out.trans (B.mono hb.out.size)
    exact ⟨rfl, (Chg.ofBelowC (HA.out.1.trans (B2.mono HA.out.1.size))).cell cbl (fun h => h), B2⟩
  have g4 := (Chg.ofBelowC HA.out.1).cell cbl (fun h => h)
  have hN := HN wa HA.out.1
  have hN2 := HN wa.drew (HA.out.1.trans (D0.out.mono HA.out.1.size))
  clear HN HF cbl
  go_enter Tryd.func39, Tryd.ntmps39
  go_wp2_with fail
  rw [hwa.out]
  go_region_with (first | (go_at_call 40; refine (HB _ (by first | exact D0)).out.mono ?_; clear HB; rintro e w5 ⟨rfl, d4, HB5⟩))
  all_goals
    obtain ⟨b0, b1, b2', w8, hr, b2, d0, d1, d2, HC⟩ := END w5 HB5
    clear END HB5 r0 r1 r2 s0 s1 s2 g4 hN hN2
    go_wp2_with fail
    go_region
    go_wp2_with fail
    refine HC.out.mono ?_
    rintro e w9 ⟨rfl, hP⟩
    have HPP : Hid (P w9) := hP
    clear HC hP hr b2 d0 d1 d2
    go_wp2_with fail
    go_ret
    exact ⟨rfl, HPP.out⟩
set_option maxHeartbeats 3200000 in
set_option maxRecDepth 100000 in
theorem mv_full (t u g q : Nat) (x y : ByteArray) (o2 : Option Addr) (w : World) (X bl : Int) (cbl : w.cell? ⟨t, 4, none⟩ = some (.int .i64 bl)) (hq : bl < X) (HN : ∀ wb, Below w.heap.size w wb → (binOp .neq 56 (ptr u) (ptr g)).run Tryd.prog wb = .ok (.bool true) wb) (HF : ∀ wb, Below w.heap.size w wb → Calls Tryd.prog 40 #[ptr g] wb fun e w' => e = .returned (.int .i64 X) ∧ Below wb.heap.size wb w') :
    Calls Tryd.prog 39 #[ptr t, .agg #[ptr u, .string x, ptr q], .agg #[ptr g, .string y, .pointer o2]] w fun e w' => e = .returned (.int .i64 7) ∧ Below w.heap.size w w' := by
  have A1 := below_alloc w (spO (ptr u) (.string x) (ptr q))
  have S1 := Sp.alloc w (ptr u) (.string x) (ptr q)
  have z1 : (w.alloc (spO (ptr u) (.string x) (ptr q))).heap.size = w.heap.size + 1 := by simp
  have A2 := below_alloc (w.alloc (spO (ptr u) (.string x) (ptr q))) (spO (ptr g) (.string y) (.pointer o2))
  have S2 := Sp.alloc (w.alloc (spO (ptr u) (.string x) (ptr q))) (ptr g) (.string y) (.pointer o2)
  have R1 := S1.kept (Chg.ofBelowC A2) (fun h => h)
  have A0 := A1.trans (A2.mono A1.size)
  rw [z1] at S2
  have z2 : ((w.alloc (spO (ptr u) (.string x) (ptr q))).alloc (spO (ptr g) (.string y) (.pointer o2))).heap.size = w.heap.size + 2 := by simp
  obtain ⟨wa, hwa⟩ : ∃ wa, Hid ((w.alloc (spO (ptr u) (.string x) (ptr q))).alloc (spO (ptr g) (.string y) (.pointer o2)) = wa) := ⟨_, rfl⟩
  rw [hwa.out] at A0 S2 R1 z2
  clear S1 A1 A2
  have HA : Hid (Below w.heap.size w wa ∧ wa.heap.size = w.heap.size + 2) := ⟨A0, z2⟩
  have HSP : Hid (Sp wa w.heap.size (ptr u) (.string x) (ptr q) ∧ Sp wa (w.heap.size + 1) (ptr g) (.string y) (.pointer o2)) := ⟨R1, S2⟩
  have D0 : Hid (Below wa.heap.size wa wa.drew) := below_drew _ _
  obtain ⟨r0, r1, r2⟩ := R1.c
  obtain ⟨s0, s1, s2⟩ := S2.c
  clear R1 S2 z1 z2 A0
  have HB : ∀ wb, Hid (Below wa.heap.size wa wb) → Hid (Calls Tryd.prog 40 #[ptr g] wb fun e w' => e = .returned (.int .i64 X) ∧ w'.cell? ⟨t, 4, none⟩ = some (.int .i64 bl) ∧ Hid (Below wa.heap.size wa w')) := by
    intro wb hb
    refine (HF wb (HA.out.1.trans (hb.out.mono HA.out.1.size))).mono ?_
    rintro e w' ⟨rfl, B⟩
    have B2 := hb.out.trans (B.mono hb.out.size)
    exact ⟨rfl, (Chg.ofBelowC (HA.out.1.trans (B2.mono HA.out.1.size))).cell cbl (fun h => h), B2⟩
  have g4 := (Chg.ofBelowC HA.out.1).cell cbl (fun h => h)
  have hN := HN wa HA.out.1
  have hN2 := HN wa.drew (HA.out.1.trans (D0.out.mono HA.out.1.size))
  clear HN HF cbl
  go_enter Tryd.func39, Tryd.ntmps39
  go_wp2_with fail
  rw [hwa.out]
  go_region_with (first | (go_at_call 40; refine (HB _ (by first | exact D0)).out.mono ?_; clear HB; rintro e w5 ⟨rfl, d4, HB5⟩))
  all_goals
    clear r0 r1 r2 s0 s1 s2 g4 hN hN2
    go_wp2_with fail
    go_ret
    exact ⟨rfl, HA.out.1.trans (HB5.out.mono HA.out.1.size)⟩
end Go.Proofs.YtdcmkcplklkfmaaDoor

namespace Go.Proofs.YtdcmkcplklkfmaaDoor
open Go.RowKit Go.Maps

theorem furB_free {s n : Nat} (h : n < s) : furB s n = 0 := if_pos h
theorem tab_upd {C : Nat → Nat → Prop} {S : Nat → Prop} {w w' : World} (h : Tab w) (hU : Upd C S w w') {t : Nat} {bl : Int} (_h4 : w.cell? ⟨t, 4, none⟩ = some (.int .i64 bl)) (hC : ∀ b i, C b i → w.cell? ⟨b, i, none⟩ = none ∨ ∃ k, w.cell? ⟨b, i, none⟩ = some (.int .i64 k)) (hS : ∀ b, S b → ∀ i, w.cell? ⟨b, i, none⟩ = none) : Tab w' := by
  intro j hj
  have e := h j hj
  refine hU.cell _ _ _ (fun hs => ?_) (fun hc => ?_) e
  · have := hS _ hs j
    rw [e] at this; cases this
  · rcases hC _ _ hc with h1 | ⟨k, h1⟩
    · rw [e] at h1; cases h1
    · rw [e] at h1; cases h1
theorem SMap.nocell {w : World} {m n : Nat} {f : ByteArray → Option Value} (h : SMap w m n f) (i : Nat) : w.cell? ⟨m, i, none⟩ = none := by
  obtain ⟨D, ⟨es, clock, hb, _⟩, _⟩ := h
  unfold World.cell?
  simp only [hb]
theorem dele_in {kn : List ByteArray} {x : ByteArray} (hd : kn.Nodup) (hx : x ∈ kn) : (dele kn x).length + 1 = kn.length := by
  have := dele_len hd hx
  have : 0 < kn.length := List.length_pos_of_mem hx
  omega
theorem mov_same {N : Nat} {w : World} {t : Nat} {T : Ts} {A : Pth → Nat} {O : Nat → Option (Pth × Nat)} {K : Nat} (h : Tr w t T.F A O T.bl T.ino K) (hT : Tab w) (hK : K ≤ 70000) {p : Pth} {x y : ByteArray} {s : Nat} {kn : List ByteArray} (hF : T.F p = some (.dir s kn)) (hx : x ∈ kn) (hy : ¬ y ∈ kn) (hny : nameB y = true) (o2 : Option Addr) :
    Calls Tryd.prog 39 #[ptr t, .agg #[ptr (A p), .string x, ptr (A (p ++ [x]))], .agg #[ptr (A p), .string y, .pointer o2]] w fun e w' => e = .returned (.int .i64 (movR T (p ++ [x]) (p ++ [y])).1) ∧ TrS N w w' t O (movR T (p ++ [x]) (p ++ [y])).2 (K + 1) := by
  obtain ⟨m, m0, m1, m2, m3, mO, mM, htm, hAm⟩ := h.dirM hF
  have hum := hAm p _ hF
  obtain ⟨a1, a2, a3, a4⟩ := h.nms p s kn hF
  have hl := dele_in a1 hx
  have hmv : movR T (p ++ [x]) (p ++ [y]) = (0, ⟨graft (setN T.F p (some (.dir s (y :: dele kn x)))) (p ++ [x]) (p ++ [y]), T.bl, T.ino⟩) := by
    unfold movR
    simp only [List.dropLast_concat, hF, if_true, lastN_next]
  rw [hmv]
  have bb := h.bb
  have hxy : ¬ x = y := fun e => hy (e ▸ hx)
  refine mv_same t (A p) (A (p ++ [x])) x y o2 w m kn.length (kidF A p kn) (fun w' => TrS N w w' t O ⟨graft (setN T.F p (some (.dir s (y :: dele kn x)))) (p ++ [x]) (p ++ [y]), T.bl, T.ino⟩ (K + 1)) (name_size (a2 x hx)) m2 mM (kidF_some hx) hum (fun wb hmb hub => ?_)
  have hlt := h.lt _ _ (h.own p _ hF)
  have htl := h.lt _ _ h.atT
  have c4 := hub.cell _ _ _ htm (fun h => h) h.cbl
  have hTb : Tab wb := tab_upd hT hub h.cbl (fun _ _ h => h.elim) (fun b hb i => by rw [hb]; exact mM.nocell i)
  have hf1 : updB (kidF A p kn) x none y = none := by rw [updB_other _ _ (fun e => hxy e.symm), kidF_none hy]
  refine (tput_any t (A p) m (kn.length - 1) s y _ (.pointer o2) (ptr (A (p ++ [x]))) T.bl wb hTb (name_size hny) c4 (hub.cell _ _ _ hum (fun h => h) m2) hmb (hub.cell _ _ _ hum (fun h => h) m3) hf1 (by omega) (by omega) htm hum (fun i => (hub.fr t i htl htm).trans (h.frT i)) (fun i => (hub.fr _ i hlt hum).trans (h.fr p _ hF i)) (by omega) (by omega)).mono ?_
  rintro e w' ⟨rfl, hm', U', k4, k3⟩
  refine ⟨rfl, ?_⟩
  rw [furB_free (by omega), show max s (kn.length - 1 + 1) = s by omega] at *
  have hU := (hub.mono (C' := fun b i => (b = t ∧ i = 4) ∨ (b = A p ∧ i = 3)) (S' := fun k => k = m ∨ k = m) (fun _ _ h => h.elim) (fun _ h => .inl h)).trans (U'.mono (fun _ _ h => h) (fun _ h => .inl h))
  have e0 := h.atT
  refine h.move (K' := K + 1) (F2 := setN T.F p (some (.dir s (y :: dele kn x)))) (mf := m) (mg := m) (by omega) ((h.mem hF x).1 hx) ?_ (by rw [hF]; rfl) (by rw [hF]; rfl) ?_ (fun q h1 _ => setN_other _ _ h1) mO mO ?_ hU (by rw [k4]; simp) ⟨(by show 0 ≤ T.bl; omega), (by show T.bl ≤ _; omega)⟩
  · cases e : T.F (p ++ [y]) with
    | none => rfl
    | some z => exact absurd ((h.mem hF y).2 (by rw [e]; rfl)) hy
  · intro e
    have e2 : (p ++ [y]).take (p ++ [x]).length = p ++ [x] := e
    rw [List.length_append, List.length_singleton, List.take_of_length_le (by simp)] at e2
    exact hxy (pth_inj e2).2.symm
  · intro Q hQ
    obtain rfl : Q = p := hQ.elim id id
    have hs : ¬ (A Q = m ∨ A Q = m) := fun e => hum (e.elim id id)
    refine ⟨s, y :: dele kn x, m, setN_same _ _ _, List.nodup_cons.2 ⟨fun e => hy (dele_mem.1 e).2, dele_nodup _ a1⟩, fun nm hm => ?_, by rw [List.length_cons]; omega, by omega, fun nm => ?_, hU.cell _ _ _ hs (by omega) m0, hU.cell _ _ _ hs (by omega) m1, hU.cell _ _ _ hs (by omega) m2, k3, mO, ?_⟩
    · rcases List.mem_cons.1 hm with rfl | hm
      · exact hny
      · exact a2 nm (dele_mem.1 hm).2
    · rw [List.mem_cons, dele_mem, h.mem hF nm]
      constructor
      · rintro (rfl | ⟨h1, h2⟩)
        · exact .inl rfl
        · exact .inr ⟨fun e => h1 (pth_inj e).2, h2⟩
      · rintro (h1 | ⟨h1, h2⟩)
        · exact .inl (pth_inj h1).2
        · exact .inr ⟨fun e => h1 (by rw [e]), h2⟩
    · rw [show (y :: dele kn x).length = kn.length - 1 + 1 by rw [List.length_cons]; omega]
      refine hm'.ext (fun nm _ => ?_)
      unfold updB kidF
      rw [show inB nm (y :: dele kn x) = (decide (nm = y) || inB nm (dele kn x)) from rfl, inB_dele]
      by_cases e1 : nm = y
      · subst e1; simp
      · have e4 : ¬ Q ++ [nm] = Q ++ [y] := fun e => e1 (pth_inj e).2
        by_cases e2 : nm = x
        · subst e2; simp [e1]
        · simp [e1, e2]

theorem mov_other {N : Nat} {w : World} {t : Nat} {T : Ts} {A : Pth → Nat} {O : Nat → Option (Pth × Nat)} {K : Nat} (h : Tr w t T.F A O T.bl T.ino K) (hT : Tab w) (hK : K ≤ 70000) {p r : Pth} {x y : ByteArray} {s sg : Nat} {kn kg : List ByteArray} (hF : T.F p = some (.dir s kn)) (hx : x ∈ kn) (hG : T.F r = some (.dir sg kg)) (hpr : ¬ p = r) (hy : ¬ y ∈ kg) (hny : nameB y = true) (hun : ¬ Un (p ++ [x]) (r ++ [y])) (o2 : Option Addr) :
    Calls Tryd.prog 39 #[ptr t, .agg #[ptr (A p), .string x, ptr (A (p ++ [x]))], .agg #[ptr (A r), .string y, .pointer o2]] w fun e w' => e = .returned (.int .i64 (movR T (p ++ [x]) (r ++ [y])).1) ∧ TrS N w w' t O (movR T (p ++ [x]) (r ++ [y])).2 (K + 1) := by
  obtain ⟨m, m0, m1, m2, m3, mO, mM, htm, hAm⟩ := h.dirM hF
  obtain ⟨mg, g0, g1, g2, g3, gO, gM, htg, hAg⟩ := h.dirM hG
  have hum := hAm p _ hF
  have hgm := hAm r _ hG
  have hug := hAg p _ hF
  have hgg := hAg r _ hG
  have hmm : ¬ m = mg := fun e => by rw [e, gO] at mO; cases mO; exact hpr rfl
  have hAA : ¬ A p = A r := fun e => hpr (h.inj hF hG e)
  obtain ⟨a1, a2, a3, a4⟩ := h.nms p s kn hF
  obtain ⟨b1, b2, b3, b4⟩ := h.nms r sg kg hG
  have hl := dele_in a1 hx
  have bb := h.bb
  have fb := furB_bd sg kg.length
  have HN : ∀ wb, Below w.heap.size w wb → (binOp .neq 56 (ptr (A p)) (ptr (A r))).run Tryd.prog wb = .ok (.bool true) wb := fun wb hb => by
    have h2 := h.below hb
    exact (eqN_ne hAA ((Chg.ofBelowC hb).cell m0 (fun h => h)) ((Chg.ofBelowC hb).cell g0 (fun h => h)) (h2.fr p _ hF) (h2.fr r _ hG)).2
  have HF : ∀ wb, Below w.heap.size w wb → Calls Tryd.prog 40 #[ptr (A r)] wb fun e w' => e = .returned (.int .i64 (furB sg kg.length)) ∧ Below wb.heap.size wb w' := fun wb hb => by
    have C := Chg.ofBelowC hb
    exact further_any (A r) sg kg.length mg (kidF A r kg) wb (tab_below hT hb) (C.cell g2 (fun h => h)) (gM.kept (C.block mg gM.lt (fun h => h))) (C.cell g3 (fun h => h)) (by omega) b3
  by_cases hq : T.bl < furB sg kg.length
  · have hmv : movR T (p ++ [x]) (r ++ [y]) = (7, T) := by
      unfold movR
      simp only [List.dropLast_concat, hF, hG, if_neg hpr, if_pos hq]
    rw [hmv]
    refine (mv_full t (A p) (A r) (A (p ++ [x])) x y o2 w (furB sg kg.length) T.bl h.cbl hq HN HF).mono ?_
    rintro e w' ⟨rfl, B⟩
    exact ⟨rfl, TrTo.refl h (by omega) B⟩
  have hmv : movR T (p ++ [x]) (r ++ [y]) = (0, ⟨graft (setN (setN T.F p (some (.dir s (dele kn x)))) r (some (.dir (max sg (kg.length + 1)) (y :: kg)))) (p ++ [x]) (r ++ [y]), T.bl - furB sg kg.length, T.ino⟩) := by
    unfold movR
    simp only [List.dropLast_concat, hF, hG, if_neg hpr, if_neg hq, lastN_next]
  rw [hmv]
  refine mv_other t (A p) (A r) (A (p ++ [x])) x y o2 w m kn.length (kidF A p kn) (fun w' => TrS N w w' t O ⟨graft (setN (setN T.F p (some (.dir s (dele kn x)))) r (some (.dir (max sg (kg.length + 1)) (y :: kg)))) (p ++ [x]) (r ++ [y]), T.bl - furB sg kg.length, T.ino⟩ (K + 1)) (name_size (a2 x hx)) m2 mM (kidF_some hx) hum (fun wb hmb hub => ?_) (furB sg kg.length) T.bl h.cbl hq HN HF
  have hlt := h.lt _ _ (h.own r _ hG)
  have htl := h.lt _ _ h.atT
  have c4 := hub.cell _ _ _ htm (fun h => h) h.cbl
  have hTb : Tab wb := tab_upd hT hub h.cbl (fun _ _ h => h.elim) (fun b hb i => by rw [hb]; exact mM.nocell i)
  refine (tput_any t (A r) mg kg.length sg y _ (.pointer o2) (ptr (A (p ++ [x]))) T.bl wb hTb (name_size hny) c4 (hub.cell _ _ _ hgm (fun h => h) g2) (hub.smap gM (fun e => hmm e.symm) (fun _ h => h)) (hub.cell _ _ _ hgm (fun h => h) g3) (kidF_none hy) b3 (by omega) htg hgg (fun i => (hub.fr t i htl htm).trans (h.frT i)) (fun i => (hub.fr _ i hlt hgm).trans (h.fr r _ hG i)) (by omega) (by omega)).mono ?_
  rintro e w' ⟨rfl, hm', U', k4, k3⟩
  refine ⟨rfl, ?_⟩
  have hU := (hub.mono (C' := fun b i => (b = t ∧ i = 4) ∨ (b = A r ∧ i = 3)) (S' := fun k => k = m ∨ k = mg) (fun _ _ h => h.elim) (fun _ h => .inl h)).trans (U'.mono (fun _ _ h => h) (fun _ h => .inr h))
  have hmt := h.atT
  have hmf' : SMap w' m (kn.length - 1) (updB (kidF A p kn) x none) := U'.smap hmb hmm (fun i e => by
    rcases e with ⟨e, _⟩ | ⟨e, _⟩
    · exact htm e.symm
    · exact hgm e.symm)
  have hb1 : T.bl - furB sg kg.length ≤ 20000 * ((K + 1 : Nat) : Int) + 20000 := by
    have := slB_bd (sg + 1)
    omega
  refine h.move (K' := K + 1) (F2 := setN (setN T.F p (some (.dir s (dele kn x)))) r (some (.dir (max sg (kg.length + 1)) (y :: kg)))) (mf := m) (mg := mg) (by omega) ((h.mem hF x).1 hx) ?_ (by rw [hF]; rfl) (by rw [hG]; rfl) hun (fun q h1 h2 => by rw [setN_other _ _ h2, setN_other _ _ h1]) mO gO ?_ hU k4 ⟨(by show 0 ≤ T.bl - furB sg kg.length; omega), hb1⟩
  · cases e : T.F (r ++ [y]) with
    | none => rfl
    | some z => exact absurd ((h.mem hG y).2 (by rw [e]; rfl)) hy
  · have hsr : ∀ Q nd, T.F Q = some nd → ¬ (A Q = m ∨ A Q = mg) := fun Q nd hQ e => e.elim (hAm Q nd hQ) (hAg Q nd hQ)
    intro Q hQ
    rcases hQ with rfl | rfl
    · have hs := hsr Q _ hF
      refine ⟨s, dele kn x, m, by rw [setN_other _ _ hpr, setN_same], dele_nodup _ a1, fun nm hm => a2 nm (dele_mem.1 hm).2, by omega, by omega, fun nm => ?_, hU.cell _ _ _ hs (by omega) m0, hU.cell _ _ _ hs (by omega) m1, hU.cell _ _ _ hs (by omega) m2, hU.cell _ _ _ hs (by omega) m3, mO, ?_⟩
      · rw [dele_mem, h.mem hF nm]
        constructor
        · rintro ⟨h1, h2⟩
          exact .inr ⟨fun e => h1 (pth_inj e).2, h2⟩
        · rintro (h1 | ⟨h1, h2⟩)
          · exact absurd (pth_inj h1).1 hpr
          · exact ⟨fun e => h1 (by rw [e]), h2⟩
      · rw [show (dele kn x).length = kn.length - 1 by omega]
        refine hmf'.ext (fun nm _ => ?_)
        have e4 : ¬ Q ++ [nm] = r ++ [y] := fun e => hpr (pth_inj e).1
        unfold updB kidF
        rw [inB_dele, if_neg e4]
        by_cases e2 : nm = x
        · subst e2; simp
        · simp [e2]
    · have hs := hsr Q _ hG
      refine ⟨max sg (kg.length + 1), y :: kg, mg, setN_same _ _ _, List.nodup_cons.2 ⟨hy, b1⟩, fun nm hm => ?_, by rw [List.length_cons]; omega, by omega, fun nm => ?_, hU.cell _ _ _ hs (by omega) g0, hU.cell _ _ _ hs (by omega) g1, hU.cell _ _ _ hs (by omega) g2, k3, gO, ?_⟩
      · rcases List.mem_cons.1 hm with rfl | hm
        · exact hny
        · exact b2 nm hm
      · rw [List.mem_cons, h.mem hG nm]
        constructor
        · rintro (rfl | h2)
          · exact .inl rfl
          · exact .inr ⟨fun e => hpr (pth_inj e).1.symm, h2⟩
        · rintro (h1 | ⟨h1, h2⟩)
          · exact .inl (pth_inj h1).2
          · exact .inr h2
      · refine hm'.ext (fun nm _ => ?_)
        unfold updB kidF
        rw [show inB nm (y :: kg) = (decide (nm = y) || inB nm kg) from rfl]
        by_cases e1 : nm = y
        · subst e1; simp
        · have e4 : ¬ Q ++ [nm] = Q ++ [y] := fun e => e1 (pth_inj e).2
          simp [e1]
end Go.Proofs.YtdcmkcplklkfmaaDoor

namespace Go.Proofs.YtdcmkcplklkfmaaDoor
open Go.RowKit Go.Maps

theorem len_nil (w : World) : (Builtin.len_ #[53] 3 #[.map none]).run Tryd.prog w = .ok (.int .i64 0) w := by kernel_rfl
set_option maxHeartbeats 3200000 in
set_option maxRecDepth 100000 in
theorem rep_dir (t q b : Nat) (o1 o2 : Option Addr) (x y : ByteArray) (w : World) (c1 : w.cell? ⟨q, 0, none⟩ = some (.bool true)) (c2 : w.cell? ⟨b, 0, none⟩ = some (.bool false)) :
    Calls Tryd.prog 38 #[ptr t, .agg #[.pointer o1, .string x, ptr q], .agg #[.pointer o2, .string y, ptr b]] w fun e w' => e = .returned (.int .i64 10) ∧ Below w.heap.size w w' := by
  have A1 := below_alloc w (spO (.pointer o1) (.string x) (ptr q))
  have S1 := Sp.alloc w (.pointer o1) (.string x) (ptr q)
  have z1 : (w.alloc (spO (.pointer o1) (.string x) (ptr q))).heap.size = w.heap.size + 1 := by simp
  have A2 := below_alloc (w.alloc (spO (.pointer o1) (.string x) (ptr q))) (spO (.pointer o2) (.string y) (ptr b))
  have S2 := Sp.alloc (w.alloc (spO (.pointer o1) (.string x) (ptr q))) (.pointer o2) (.string y) (ptr b)
  have R1 := S1.kept (Chg.ofBelowC A2) (fun h => h)
  have A0 := A1.trans (A2.mono A1.size)
  rw [z1] at S2
  obtain ⟨wa, hwa⟩ : ∃ wa, wa = (w.alloc (spO (.pointer o1) (.string x) (ptr q))).alloc (spO (.pointer o2) (.string y) (ptr b)) := ⟨_, rfl⟩
  rw [← hwa] at A0 S2 R1
  have HA : Hid (Below w.heap.size w wa) := A0
  have HSP : Hid (Sp wa w.heap.size (.pointer o1) (.string x) (ptr q) ∧ Sp wa (w.heap.size + 1) (.pointer o2) (.string y) (ptr b)) := ⟨R1, S2⟩
  have f1 := (Chg.ofBelowC HA.out).cell c1 (fun h => h)
  have f2 := (Chg.ofBelowC HA.out).cell c2 (fun h => h)
  clear S1 A1 A2 R1 S2 z1 A0
  subst hwa
  go_enter Tryd.func38, Tryd.ntmps38
  go_wp2_with fail
  go_ret
  exact ⟨rfl, HA.out⟩
set_option maxHeartbeats 3200000 in
set_option maxRecDepth 100000 in
theorem rep_file (t q b : Nat) (o1 o2 : Option Addr) (x y : ByteArray) (w : World) (c1 : w.cell? ⟨q, 0, none⟩ = some (.bool false)) (c2 : w.cell? ⟨b, 0, none⟩ = some (.bool true)) :
    Calls Tryd.prog 38 #[ptr t, .agg #[.pointer o1, .string x, ptr q], .agg #[.pointer o2, .string y, ptr b]] w fun e w' => e = .returned (.int .i64 11) ∧ Below w.heap.size w w' := by
  have A1 := below_alloc w (spO (.pointer o1) (.string x) (ptr q))
  have S1 := Sp.alloc w (.pointer o1) (.string x) (ptr q)
  have z1 : (w.alloc (spO (.pointer o1) (.string x) (ptr q))).heap.size = w.heap.size + 1 := by simp
  have A2 := below_alloc (w.alloc (spO (.pointer o1) (.string x) (ptr q))) (spO (.pointer o2) (.string y) (ptr b))
  have S2 := Sp.alloc (w.alloc (spO (.pointer o1) (.string x) (ptr q))) (.pointer o2) (.string y) (ptr b)
  have R1 := S1.kept (Chg.ofBelowC A2) (fun h => h)
  have A0 := A1.trans (A2.mono A1.size)
  rw [z1] at S2
  obtain ⟨wa, hwa⟩ : ∃ wa, wa = (w.alloc (spO (.pointer o1) (.string x) (ptr q))).alloc (spO (.pointer o2) (.string y) (ptr b)) := ⟨_, rfl⟩
  rw [← hwa] at A0 S2 R1
  have HA : Hid (Below w.heap.size w wa) := A0
  have HSP : Hid (Sp wa w.heap.size (.pointer o1) (.string x) (ptr q) ∧ Sp wa (w.heap.size + 1) (.pointer o2) (.string y) (ptr b)) := ⟨R1, S2⟩
  have f1 := (Chg.ofBelowC HA.out).cell c1 (fun h => h)
  have f2 := (Chg.ofBelowC HA.out).cell c2 (fun h => h)
  clear S1 A1 A2 R1 S2 z1 A0
  subst hwa
  go_enter Tryd.func38, Tryd.ntmps38
  go_wp2_with fail
  go_ret
  exact ⟨rfl, HA.out⟩
set_option maxHeartbeats 3200000 in
set_option maxRecDepth 100000 in
theorem rep_busy (t q b : Nat) (o1 o2 : Option Addr) (x y : ByteArray) (w : World) (c1 : w.cell? ⟨q, 0, none⟩ = some (.bool false)) (c2 : w.cell? ⟨b, 0, none⟩ = some (.bool false)) (m n : Nat) (f : ByteArray → Option Value) (c3 : w.cell? ⟨b, 2, none⟩ = some (.map (some m))) (hm : SMap w m n f) (hn : 0 < n) :
    Calls Tryd.prog 38 #[ptr t, .agg #[.pointer o1, .string x, ptr q], .agg #[.pointer o2, .string y, ptr b]] w fun e w' => e = .returned (.int .i64 13) ∧ Below w.heap.size w w' := by
  have A1 := below_alloc w (spO (.pointer o1) (.string x) (ptr q))
  have S1 := Sp.alloc w (.pointer o1) (.string x) (ptr q)
  have z1 : (w.alloc (spO (.pointer o1) (.string x) (ptr q))).heap.size = w.heap.size + 1 := by simp
  have A2 := below_alloc (w.alloc (spO (.pointer o1) (.string x) (ptr q))) (spO (.pointer o2) (.string y) (ptr b))
  have S2 := Sp.alloc (w.alloc (spO (.pointer o1) (.string x) (ptr q))) (.pointer o2) (.string y) (ptr b)
  have R1 := S1.kept (Chg.ofBelowC A2) (fun h => h)
  have A0 := A1.trans (A2.mono A1.size)
  rw [z1] at S2
  obtain ⟨wa, hwa⟩ : ∃ wa, wa = (w.alloc (spO (.pointer o1) (.string x) (ptr q))).alloc (spO (.pointer o2) (.string y) (ptr b)) := ⟨_, rfl⟩
  rw [← hwa] at A0 S2 R1
  have HA : Hid (Below w.heap.size w wa) := A0
  have HSP : Hid (Sp wa w.heap.size (.pointer o1) (.string x) (ptr q) ∧ Sp wa (w.heap.size + 1) (.pointer o2) (.string y) (ptr b)) := ⟨R1, S2⟩
  have f1 := (Chg.ofBelowC HA.out).cell c1 (fun h => h)
  have f2 := (Chg.ofBelowC HA.out).cell c2 (fun h => h)
  have f3 := (Chg.ofBelowC HA.out).cell c3 (fun h => h)
  have hl := (hm.kept ((Chg.ofBelowC HA.out).block m hm.lt (fun h => h))).len 3
  have q1 : (0 : Int) < n := by omega
  clear hm
  clear S1 A1 A2 R1 S2 z1 A0
  subst hwa
  go_enter Tryd.func38, Tryd.ntmps38
  go_wp2_with fail
  go_ret
  exact ⟨rfl, HA.out⟩
set_option maxHeartbeats 3200000 in
set_option maxRecDepth 100000 in
theorem rep_goF (t q b : Nat) (o1 o2 : Option Addr) (x y : ByteArray) (w : World) (c1 : w.cell? ⟨q, 0, none⟩ = some (.bool true)) (c2 : w.cell? ⟨b, 0, none⟩ = some (.bool true)) (c3 : w.cell? ⟨b, 2, none⟩ = some (.map none)) (c : Int) (S : Nat → Prop) (Q P : World → Prop) (hS : ∀ k, S k → k < w.heap.size) (HR : ∀ wb, Below w.heap.size w wb → Calls Tryd.prog 45 #[ptr t, .agg #[.pointer o2, .string y, ptr b]] wb fun e w' => e = .returned (.tuple #[]) ∧ Q w' ∧ Chg S wb w') (HM : ∀ wb, Q wb → Calls Tryd.prog 39 #[ptr t, .agg #[.pointer o1, .string x, ptr q], .agg #[.pointer o2, .string y, ptr b]] wb fun e w' => e = .returned (.int .i64 c) ∧ P w') :
    Calls Tryd.prog 38 #[ptr t, .agg #[.pointer o1, .string x, ptr q], .agg #[.pointer o2, .string y, ptr b]] w fun e w' => e = .returned (.int .i64 c) ∧ P w' := by
  have A1 := below_alloc w (spO (.pointer o1) (.string x) (ptr q))
  have S1 := Sp.alloc w (.pointer o1) (.string x) (ptr q)
  have z1 : (w.alloc (spO (.pointer o1) (.string x) (ptr q))).heap.size = w.heap.size + 1 := by simp
  have A2 := below_alloc (w.alloc (spO (.pointer o1) (.string x) (ptr q))) (spO (.pointer o2) (.string y) (ptr b))
  have S2 := Sp.alloc (w.alloc (spO (.pointer o1) (.string x) (ptr q))) (.pointer o2) (.string y) (ptr b)
  have R1 := S1.kept (Chg.ofBelowC A2) (fun h => h)
  have A0 := A1.trans (A2.mono A1.size)
  rw [z1] at S2
  obtain ⟨wa, hwa⟩ : ∃ wa, wa = (w.alloc (spO (.pointer o1) (.string x) (ptr q))).alloc (spO (.pointer o2) (.string y) (ptr b)) := ⟨_, rfl⟩
  rw [← hwa] at A0 S2 R1
  have HA : Hid (Below w.heap.size w wa) := A0
  have HSP : Hid (Sp wa w.heap.size (.pointer o1) (.string x) (ptr q) ∧ Sp wa (w.heap.size + 1) (.pointer o2) (.string y) (ptr b)) := ⟨R1, S2⟩
  have f1 := (Chg.ofBelowC HA.out).cell c1 (fun h => h)
  have f2 := (Chg.ofBelowC HA.out).cell c2 (fun h => h)
  have f3 := (Chg.ofBelowC HA.out).cell c3 (fun h => h)
  have hl := len_nil wa
  have HC : Hid (Calls Tryd.prog 45 #[ptr t, .agg #[.pointer o2, .string y, ptr b]] wa fun e w' => e = .returned (.tuple #[]) ∧ Q w' ∧ Chg S wa w') := HR wa HA.out
  clear HR
  clear S1 A1 A2 R1 S2 z1 A0
  subst hwa
  go_enter Tryd.func38, Tryd.ntmps38
  go_wp2_with fail
  refine HC.out.mono ?_
  rintro e w1 ⟨rfl, hQ, C1⟩
  have k1 := (HSP.out.1.kept C1 (fun e => by have := hS _ e; omega)).c
  have k2 := (HSP.out.2.kept C1 (fun e => by have := hS _ e; omega)).c
  obtain ⟨d0, d1, d2⟩ := k1
  obtain ⟨e0, e1, e2⟩ := k2
  have HC2 : Hid (Calls Tryd.prog 39 #[ptr t, .agg #[.pointer o1, .string x, ptr q], .agg #[.pointer o2, .string y, ptr b]] w1 fun e w' => e = .returned (.int .i64 c) ∧ P w') := HM w1 hQ
  clear HC HM hQ C1 f1 f2 f3 hl
  go_wp2_with fail
  refine HC2.out.mono ?_
  rintro e w2 ⟨rfl, hP⟩
  have HP : Hid (P w2) := hP
  clear HC2 hP d0 d1 d2 e0 e1 e2
  go_wp2_with fail
  go_ret
  exact ⟨rfl, HP.out⟩
set_option maxHeartbeats 3200000 in
set_option maxRecDepth 100000 in
theorem rep_goD (t q b : Nat) (o1 o2 : Option Addr) (x y : ByteArray) (w : World) (c1 : w.cell? ⟨q, 0, none⟩ = some (.bool false)) (c2 : w.cell? ⟨b, 0, none⟩ = some (.bool false)) (m : Nat) (f : ByteArray → Option Value) (c3 : w.cell? ⟨b, 2, none⟩ = some (.map (some m))) (hm : SMap w m 0 f) (c : Int) (S : Nat → Prop) (Q P : World → Prop) (hS : ∀ k, S k → k < w.heap.size) (HR : ∀ wb, Below w.heap.size w wb → Calls Tryd.prog 45 #[ptr t, .agg #[.pointer o2, .string y, ptr b]] wb fun e w' => e = .returned (.tuple #[]) ∧ Q w' ∧ Chg S wb w') (HM : ∀ wb, Q wb → Calls Tryd.prog 39 #[ptr t, .agg #[.pointer o1, .string x, ptr q], .agg #[.pointer o2, .string y, ptr b]] wb fun e w' => e = .returned (.int .i64 c) ∧ P w') :
    Calls Tryd.prog 38 #[ptr t, .agg #[.pointer o1, .string x, ptr q], .agg #[.pointer o2, .string y, ptr b]] w fun e w' => e = .returned (.int .i64 c) ∧ P w' := by
  have A1 := below_alloc w (spO (.pointer o1) (.string x) (ptr q))
  have S1 := Sp.alloc w (.pointer o1) (.string x) (ptr q)
  have z1 : (w.alloc (spO (.pointer o1) (.string x) (ptr q))).heap.size = w.heap.size + 1 := by simp
  have A2 := below_alloc (w.alloc (spO (.pointer o1) (.string x) (ptr q))) (spO (.pointer o2) (.string y) (ptr b))
  have S2 := Sp.alloc (w.alloc (spO (.pointer o1) (.string x) (ptr q))) (.pointer o2) (.string y) (ptr b)
  have R1 := S1.kept (Chg.ofBelowC A2) (fun h => h)
  have A0 := A1.trans (A2.mono A1.size)
  rw [z1] at S2
  obtain ⟨wa, hwa⟩ : ∃ wa, wa = (w.alloc (spO (.pointer o1) (.string x) (ptr q))).alloc (spO (.pointer o2) (.string y) (ptr b)) := ⟨_, rfl⟩
  rw [← hwa] at A0 S2 R1
  have HA : Hid (Below w.heap.size w wa) := A0
  have HSP : Hid (Sp wa w.heap.size (.pointer o1) (.string x) (ptr q) ∧ Sp wa (w.heap.size + 1) (.pointer o2) (.string y) (ptr b)) := ⟨R1, S2⟩
  have f1 := (Chg.ofBelowC HA.out).cell c1 (fun h => h)
  have f2 := (Chg.ofBelowC HA.out).cell c2 (fun h => h)
  have f3 := (Chg.ofBelowC HA.out).cell c3 (fun h => h)
  have hl := (hm.kept ((Chg.ofBelowC HA.out).block m hm.lt (fun h => h))).len 3
  clear hm
  have HC : Hid (Calls Tryd.prog 45 #[ptr t, .agg #[.pointer o2, .string y, ptr b]] wa fun e w' => e = .returned (.tuple #[]) ∧ Q w' ∧ Chg S wa w') := HR wa HA.out
  clear HR
  clear S1 A1 A2 R1 S2 z1 A0
  subst hwa
  go_enter Tryd.func38, Tryd.ntmps38
  go_wp2_with fail
  refine HC.out.mono ?_
  rintro e w1 ⟨rfl, hQ, C1⟩
  have k1 := (HSP.out.1.kept C1 (fun e => by have := hS _ e; omega)).c
  have k2 := (HSP.out.2.kept C1 (fun e => by have := hS _ e; omega)).c
  obtain ⟨d0, d1, d2⟩ := k1
  obtain ⟨e0, e1, e2⟩ := k2
  have HC2 : Hid (Calls Tryd.prog 39 #[ptr t, .agg #[.pointer o1, .string x, ptr q], .agg #[.pointer o2, .string y, ptr b]] w1 fun e w' => e = .returned (.int .i64 c) ∧ P w') := HM w1 hQ
  clear HC HM hQ C1 f1 f2 f3 hl
  go_wp2_with fail
  refine HC2.out.mono ?_
  rintro e w2 ⟨rfl, hP⟩
  have HP : Hid (P w2) := hP
  clear HC2 hP d0 d1 d2 e0 e1 e2
  go_wp2_with fail
  go_ret
  exact ⟨rfl, HP.out⟩
end Go.Proofs.YtdcmkcplklkfmaaDoor

namespace Go.Proofs.YtdcmkcplklkfmaaDoor
open Go.RowKit Go.Maps

set_option maxHeartbeats 3200000 in
set_option maxRecDepth 100000 in
theorem ren1 (a b : ByteArray) (t : Nat) (F : Pth → Option Nd) (A : Pth → Nat) (O : Nat → Option (Pth × Nat)) (bl ino : Int) (K : Nat) (w : World) (h : Tr w t F A O bl ino K) (hs : a.size ≤ 3000) (_hs2 : b.size ≤ 3000) (n : Int) (hE : spE a = n) (hn : n = 5 ∨ n = 12) :
    Calls Tryd.prog 20 #[ptr t, .string a, .string b] w fun e w' => e = .returned (.int .i64 n) ∧ Below w.heap.size w w' := by
  have HT : Hid (Tr w t F A O bl ino K) := h
  clear h
  have hq0 : decide (n = 0) = false := by rcases hn with rfl | rfl <;> rfl
  have hq2 : ¬ n = 0 := by rcases hn with rfl | rfl <;> decide
  have hsp := split_any a w hs
  rw [hE] at hsp
  go_enter Tryd.func20, Tryd.ntmps20
  go_wp2_with fail
  refine hsp.mono ?_
  rintro e w1 ⟨v1, rfl, hv1, B1⟩
  have H1 : Hid (Below w.heap.size w w1 ∧ Tx w1 v1 (spN a)) := ⟨B1, hv1⟩
  obtain ⟨a1, k1, rfl⟩ := hv1.form
  clear hsp hv1 B1 hE
  go_wp2_with fail
  go_ret
  exact ⟨rfl, H1.out.1⟩
set_option maxHeartbeats 3200000 in
set_option maxRecDepth 100000 in
theorem ren2 (a b : ByteArray) (t : Nat) (F : Pth → Option Nd) (A : Pth → Nat) (O : Nat → Option (Pth × Nat)) (bl ino : Int) (K : Nat) (w : World) (h : Tr w t F A O bl ino K) (hs : a.size ≤ 3000) (hs2 : b.size ≤ 3000) (n : Int) (hE : spE a = 0) (hE2 : spE b = n) (hn : n = 5 ∨ n = 12) :
    Calls Tryd.prog 20 #[ptr t, .string a, .string b] w fun e w' => e = .returned (.int .i64 n) ∧ Below w.heap.size w w' := by
  have HT : Hid (Tr w t F A O bl ino K) := h
  clear h
  have hq0 : decide (n = 0) = false := by rcases hn with rfl | rfl <;> rfl
  have hq2 : ¬ n = 0 := by rcases hn with rfl | rfl <;> decide
  have hsp := split_any a w hs
  rw [hE] at hsp
  go_enter Tryd.func20, Tryd.ntmps20
  go_wp2_with fail
  refine hsp.mono ?_
  rintro e w1 ⟨v1, rfl, hv1, B1⟩
  have H1 : Hid (Below w.heap.size w w1 ∧ Tx w1 v1 (spN a)) := ⟨B1, hv1⟩
  obtain ⟨a1, k1, rfl⟩ := hv1.form
  clear hsp hv1 B1 hE
  go_wp2_with fail
  have hsp := split_any b w1 hs2
  rw [hE2] at hsp
  refine hsp.mono ?_
  rintro e w2 ⟨v2, rfl, hv2, B2⟩
  have H2 : Hid (Below w.heap.size w w2 ∧ Tx w2 (.slice a1 (spN a).length k1) (spN a) ∧ Tx w2 v2 (spN b)) := ⟨H1.out.1.trans (B2.mono H1.out.1.size), H1.out.2.below B2, hv2⟩
  obtain ⟨a2, k2, rfl⟩ := hv2.form
  clear hsp hv2 B2 hE2 H1
  go_wp2_with fail
  go_ret
  exact ⟨rfl, H2.out.1⟩
set_option maxHeartbeats 3200000 in
set_option maxRecDepth 100000 in
theorem ren3 (a b : ByteArray) (t : Nat) (F : Pth → Option Nd) (A : Pth → Nat) (O : Nat → Option (Pth × Nat)) (bl ino : Int) (K : Nat) (w : World) (h : Tr w t F A O bl ino K) (hs : a.size ≤ 3000) (hs2 : b.size ≤ 3000) (hE : spE a = 0) (hE2 : spE b = 0) (o1 : Option Addr) (x1 : ByteArray) (q1 : Option Addr) (n : Int) (hn : ¬ n = 0) (HFa : ∀ wb v, Tr wb t F A O bl ino K → Tx wb v (spN a) → Calls Tryd.prog 36 #[ptr t, v] wb fun e w' => e = .returned (.tuple #[.agg #[.pointer o1, .string x1, .pointer q1], .int .i64 n]) ∧ Below wb.heap.size wb w') :
    Calls Tryd.prog 20 #[ptr t, .string a, .string b] w fun e w' => e = .returned (.int .i64 n) ∧ Below w.heap.size w w' := by
  have HT : Hid (Tr w t F A O bl ino K) := h
  clear h
  have hq0 : decide (n = 0) = false := by simpa using hn
  have hsp := split_any a w hs
  rw [hE] at hsp
  go_enter Tryd.func20, Tryd.ntmps20
  go_wp2_with fail
  refine hsp.mono ?_
  rintro e w1 ⟨v1, rfl, hv1, B1⟩
  have H1 : Hid (Below w.heap.size w w1 ∧ Tx w1 v1 (spN a)) := ⟨B1, hv1⟩
  obtain ⟨a1, k1, rfl⟩ := hv1.form
  clear hsp hv1 B1 hE
  go_wp2_with fail
  have hsp := split_any b w1 hs2
  rw [hE2] at hsp
  refine hsp.mono ?_
  rintro e w2 ⟨v2, rfl, hv2, B2⟩
  have H2 : Hid (Below w.heap.size w w2 ∧ Tx w2 (.slice a1 (spN a).length k1) (spN a) ∧ Tx w2 v2 (spN b)) := ⟨H1.out.1.trans (B2.mono H1.out.1.size), H1.out.2.below B2, hv2⟩
  obtain ⟨a2, k2, rfl⟩ := hv2.form
  clear hsp hv2 B2 hE2 H1
  go_wp2_with fail
  refine (HFa w2 _ (HT.out.below H2.out.1) H2.out.2.1).mono ?_
  clear HFa
  rintro e w3 ⟨rfl, B3⟩
  have H3 : Hid (Below w.heap.size w w3 ∧ Tx w3 (.slice a2 (spN b).length k2) (spN b)) := ⟨H2.out.1.trans (B3.mono H2.out.1.size), H2.out.2.2.below B3⟩
  clear H2 B3
  go_wp2_with fail
  go_ret
  exact ⟨rfl, H3.out.1.trans ((below_alloc _ _).mono H3.out.1.size)⟩
set_option maxHeartbeats 3200000 in
set_option maxRecDepth 100000 in
theorem ren4 (a b : ByteArray) (t : Nat) (F : Pth → Option Nd) (A : Pth → Nat) (O : Nat → Option (Pth × Nat)) (bl ino : Int) (K : Nat) (w : World) (h : Tr w t F A O bl ino K) (hs : a.size ≤ 3000) (hs2 : b.size ≤ 3000) (hE : spE a = 0) (hE2 : spE b = 0) (o1 : Option Addr) (x1 : ByteArray) (HFa : ∀ wb v, Tr wb t F A O bl ino K → Tx wb v (spN a) → Calls Tryd.prog 36 #[ptr t, v] wb fun e w' => e = .returned (.tuple #[.agg #[.pointer o1, .string x1, .pointer none], .int .i64 0]) ∧ Below wb.heap.size wb w') :
    Calls Tryd.prog 20 #[ptr t, .string a, .string b] w fun e w' => e = .returned (.int .i64 8) ∧ Below w.heap.size w w' := by
  have HT : Hid (Tr w t F A O bl ino K) := h
  clear h
  have hsp := split_any a w hs
  rw [hE] at hsp
  go_enter Tryd.func20, Tryd.ntmps20
  go_wp2_with fail
  refine hsp.mono ?_
  rintro e w1 ⟨v1, rfl, hv1, B1⟩
  have H1 : Hid (Below w.heap.size w w1 ∧ Tx w1 v1 (spN a)) := ⟨B1, hv1⟩
  obtain ⟨a1, k1, rfl⟩ := hv1.form
  clear hsp hv1 B1 hE
  go_wp2_with fail
  have hsp := split_any b w1 hs2
  rw [hE2] at hsp
  refine hsp.mono ?_
  rintro e w2 ⟨v2, rfl, hv2, B2⟩
  have H2 : Hid (Below w.heap.size w w2 ∧ Tx w2 (.slice a1 (spN a).length k1) (spN a) ∧ Tx w2 v2 (spN b)) := ⟨H1.out.1.trans (B2.mono H1.out.1.size), H1.out.2.below B2, hv2⟩
  obtain ⟨a2, k2, rfl⟩ := hv2.form
  clear hsp hv2 B2 hE2 H1
  go_wp2_with fail
  refine (HFa w2 _ (HT.out.below H2.out.1) H2.out.2.1).mono ?_
  clear HFa
  rintro e w3 ⟨rfl, B3⟩
  have H3 : Hid (Below w.heap.size w w3 ∧ Tx w3 (.slice a2 (spN b).length k2) (spN b)) := ⟨H2.out.1.trans (B3.mono H2.out.1.size), H2.out.2.2.below B3⟩
  clear H2 B3
  go_wp2_with fail
  go_ret
  exact ⟨rfl, H3.out.1.trans ((below_alloc _ _).mono H3.out.1.size)⟩
set_option maxHeartbeats 3200000 in
set_option maxRecDepth 100000 in
theorem ren5 (a b : ByteArray) (t : Nat) (F : Pth → Option Nd) (A : Pth → Nat) (O : Nat → Option (Pth × Nat)) (bl ino : Int) (K : Nat) (w : World) (h : Tr w t F A O bl ino K) (hs : a.size ≤ 3000) (hs2 : b.size ≤ 3000) (hE : spE a = 0) (hE2 : spE b = 0) (o1 : Option Addr) (x1 : ByteArray) (q : Nat) (HFa : ∀ wb v, Tr wb t F A O bl ino K → Tx wb v (spN a) → Calls Tryd.prog 36 #[ptr t, v] wb fun e w' => e = .returned (.tuple #[.agg #[.pointer o1, .string x1, .pointer (some ⟨q, 0, none⟩)], .int .i64 0]) ∧ Below wb.heap.size wb w') (hl : (spN a).length = 0) :
    Calls Tryd.prog 20 #[ptr t, .string a, .string b] w fun e w' => e = .returned (.int .i64 13) ∧ Below w.heap.size w w' := by
  have HT : Hid (Tr w t F A O bl ino K) := h
  clear h
  have hsp := split_any a w hs
  rw [hE] at hsp
  go_enter Tryd.func20, Tryd.ntmps20
  go_wp2_with fail
  refine hsp.mono ?_
  rintro e w1 ⟨v1, rfl, hv1, B1⟩
  have H1 : Hid (Below w.heap.size w w1 ∧ Tx w1 v1 (spN a)) := ⟨B1, hv1⟩
  obtain ⟨a1, k1, rfl⟩ := hv1.form
  rw [hl] at H1 ⊢
  clear hl
  clear hsp hv1 B1 hE
  go_wp2_with fail
  have hsp := split_any b w1 hs2
  rw [hE2] at hsp
  refine hsp.mono ?_
  rintro e w2 ⟨v2, rfl, hv2, B2⟩
  have H2 : Hid (Below w.heap.size w w2 ∧ Tx w2 (.slice a1 0 k1) (spN a) ∧ Tx w2 v2 (spN b)) := ⟨H1.out.1.trans (B2.mono H1.out.1.size), H1.out.2.below B2, hv2⟩
  obtain ⟨a2, k2, rfl⟩ := hv2.form
  clear hsp hv2 B2 hE2 H1
  go_wp2_with fail
  refine (HFa w2 _ (HT.out.below H2.out.1) H2.out.2.1).mono ?_
  clear HFa
  rintro e w3 ⟨rfl, B3⟩
  have H3 : Hid (Below w.heap.size w w3 ∧ Tx w3 (.slice a2 (spN b).length k2) (spN b)) := ⟨H2.out.1.trans (B3.mono H2.out.1.size), H2.out.2.2.below B3⟩
  clear H2 B3
  go_wp2_with fail
  go_ret
  exact ⟨rfl, H3.out.1.trans ((below_alloc _ _).mono H3.out.1.size)⟩
set_option maxHeartbeats 3200000 in
set_option maxRecDepth 100000 in
theorem ren5b (a b : ByteArray) (t : Nat) (F : Pth → Option Nd) (A : Pth → Nat) (O : Nat → Option (Pth × Nat)) (bl ino : Int) (K : Nat) (w : World) (h : Tr w t F A O bl ino K) (hs : a.size ≤ 3000) (hs2 : b.size ≤ 3000) (hE : spE a = 0) (hE2 : spE b = 0) (o1 : Option Addr) (x1 : ByteArray) (q : Nat) (HFa : ∀ wb v, Tr wb t F A O bl ino K → Tx wb v (spN a) → Calls Tryd.prog 36 #[ptr t, v] wb fun e w' => e = .returned (.tuple #[.agg #[.pointer o1, .string x1, .pointer (some ⟨q, 0, none⟩)], .int .i64 0]) ∧ Below wb.heap.size wb w') (hl : ¬ (spN a).length = 0) (hl2 : (spN b).length = 0) :
    Calls Tryd.prog 20 #[ptr t, .string a, .string b] w fun e w' => e = .returned (.int .i64 13) ∧ Below w.heap.size w w' := by
  have HT : Hid (Tr w t F A O bl ino K) := h
  clear h
  have hla : (((spN a).length : Int) == 0) = false := by simp only [beq_eq_false_iff_ne, ne_eq]; omega
  clear hl
  have hsp := split_any a w hs
  rw [hE] at hsp
  go_enter Tryd.func20, Tryd.ntmps20
  go_wp2_with fail
  refine hsp.mono ?_
  rintro e w1 ⟨v1, rfl, hv1, B1⟩
  have H1 : Hid (Below w.heap.size w w1 ∧ Tx w1 v1 (spN a)) := ⟨B1, hv1⟩
  obtain ⟨a1, k1, rfl⟩ := hv1.form
  clear hsp hv1 B1 hE
  go_wp2_with fail
  have hsp := split_any b w1 hs2
  rw [hE2] at hsp
  refine hsp.mono ?_
  rintro e w2 ⟨v2, rfl, hv2, B2⟩
  have H2 : Hid (Below w.heap.size w w2 ∧ Tx w2 (.slice a1 (spN a).length k1) (spN a) ∧ Tx w2 v2 (spN b)) := ⟨H1.out.1.trans (B2.mono H1.out.1.size), H1.out.2.below B2, hv2⟩
  obtain ⟨a2, k2, rfl⟩ := hv2.form
  rw [hl2] at H2 ⊢
  clear hl2
  clear hsp hv2 B2 hE2 H1
  go_wp2_with fail
  refine (HFa w2 _ (HT.out.below H2.out.1) H2.out.2.1).mono ?_
  clear HFa
  rintro e w3 ⟨rfl, B3⟩
  have H3 : Hid (Below w.heap.size w w3 ∧ Tx w3 (.slice a2 0 k2) (spN b)) := ⟨H2.out.1.trans (B3.mono H2.out.1.size), H2.out.2.2.below B3⟩
  clear H2 B3
  go_wp2_with fail
  go_ret
  exact ⟨rfl, H3.out.1.trans ((below_alloc _ _).mono H3.out.1.size)⟩
set_option maxHeartbeats 3200000 in
set_option maxRecDepth 100000 in
theorem ren6 (a b : ByteArray) (t : Nat) (F : Pth → Option Nd) (A : Pth → Nat) (O : Nat → Option (Pth × Nat)) (bl ino : Int) (K : Nat) (w : World) (h : Tr w t F A O bl ino K) (hs : a.size ≤ 3000) (hs2 : b.size ≤ 3000) (hE : spE a = 0) (hE2 : spE b = 0) (o1 : Option Addr) (x1 : ByteArray) (q : Nat) (HFa : ∀ wb v, Tr wb t F A O bl ino K → Tx wb v (spN a) → Calls Tryd.prog 36 #[ptr t, v] wb fun e w' => e = .returned (.tuple #[.agg #[.pointer o1, .string x1, .pointer (some ⟨q, 0, none⟩)], .int .i64 0]) ∧ Below wb.heap.size wb w') (hl : ¬ (spN a).length = 0) (hl2 : ¬ (spN b).length = 0) (o2 : Option Addr) (x2 : ByteArray) (q2 : Option Addr) (n : Int) (hn : ¬ n = 0) (HFb : ∀ wb v, Tr wb t F A O bl ino K → Tx wb v (spN b) → Calls Tryd.prog 36 #[ptr t, v] wb fun e w' => e = .returned (.tuple #[.agg #[.pointer o2, .string x2, .pointer q2], .int .i64 n]) ∧ Below wb.heap.size wb w') :
    Calls Tryd.prog 20 #[ptr t, .string a, .string b] w fun e w' => e = .returned (.int .i64 n) ∧ Below w.heap.size w w' := by
  have HT : Hid (Tr w t F A O bl ino K) := h
  clear h
  have hla : (((spN a).length : Int) == 0) = false := by simp only [beq_eq_false_iff_ne, ne_eq]; omega
  clear hl
  have hlc : (((spN b).length : Int) == 0) = false := by simp only [beq_eq_false_iff_ne, ne_eq]; omega
  clear hl2
  have hq0 : decide (n = 0) = false := by simpa using hn
  have hsp := split_any a w hs
  rw [hE] at hsp
  go_enter Tryd.func20, Tryd.ntmps20
  go_wp2_with fail
  refine hsp.mono ?_
  rintro e w1 ⟨v1, rfl, hv1, B1⟩
  have H1 : Hid (Below w.heap.size w w1 ∧ Tx w1 v1 (spN a)) := ⟨B1, hv1⟩
  obtain ⟨a1, k1, rfl⟩ := hv1.form
  clear hsp hv1 B1 hE
  go_wp2_with fail
  have hsp := split_any b w1 hs2
  rw [hE2] at hsp
  refine hsp.mono ?_
  rintro e w2 ⟨v2, rfl, hv2, B2⟩
  have H2 : Hid (Below w.heap.size w w2 ∧ Tx w2 (.slice a1 (spN a).length k1) (spN a) ∧ Tx w2 v2 (spN b)) := ⟨H1.out.1.trans (B2.mono H1.out.1.size), H1.out.2.below B2, hv2⟩
  obtain ⟨a2, k2, rfl⟩ := hv2.form
  clear hsp hv2 B2 hE2 H1
  go_wp2_with fail
  refine (HFa w2 _ (HT.out.below H2.out.1) H2.out.2.1).mono ?_
  clear HFa
  rintro e w3 ⟨rfl, B3⟩
  have H3 : Hid (Below w.heap.size w w3 ∧ Tx w3 (.slice a2 (spN b).length k2) (spN b)) := ⟨H2.out.1.trans (B3.mono H2.out.1.size), H2.out.2.2.below B3⟩
  clear H2 B3
  go_wp2_with fail
  have B3 := below_alloc w3 (spO (.pointer o1) (.string x1) (.pointer (some ⟨q, 0, none⟩)))
  have S3 := Sp.alloc w3 (.pointer o1) (.string x1) (.pointer (some ⟨q, 0, none⟩))
  have B3' := H3.out.1.trans (B3.mono H3.out.1.size)
  have hC := HFb (w3.alloc (spO (.pointer o1) (.string x1) (.pointer (some ⟨q, 0, none⟩)))) _ (HT.out.below B3') (H3.out.2.below B3)
  refine hC.mono ?_
  clear HFb hC
  rintro e w4 ⟨rfl, B4⟩
  have S4 := S3.kept (Chg.ofBelowC B4) (fun h => h)
  have hz3 : w.heap.size ≤ w3.heap.size := H3.out.1.size
  have H4 : Hid (Below w.heap.size w w4 ∧ Sp w4 w3.heap.size (.pointer o1) (.string x1) (.pointer (some ⟨q, 0, none⟩))) := ⟨B3'.trans (B4.mono B3'.size), S4⟩
  clear H3 B3 B3' S3 B4 S4
  go_wp2_with fail
  go_ret
  exact ⟨rfl, H4.out.1.trans ((below_alloc _ _).mono H4.out.1.size)⟩
set_option maxHeartbeats 3200000 in
set_option maxRecDepth 100000 in
theorem ren7 (a b : ByteArray) (t : Nat) (F : Pth → Option Nd) (A : Pth → Nat) (O : Nat → Option (Pth × Nat)) (bl ino : Int) (K : Nat) (w : World) (h : Tr w t F A O bl ino K) (hs : a.size ≤ 3000) (hs2 : b.size ≤ 3000) (hE : spE a = 0) (hE2 : spE b = 0) (o1 : Option Addr) (x1 : ByteArray) (q : Nat) (HFa : ∀ wb v, Tr wb t F A O bl ino K → Tx wb v (spN a) → Calls Tryd.prog 36 #[ptr t, v] wb fun e w' => e = .returned (.tuple #[.agg #[.pointer o1, .string x1, .pointer (some ⟨q, 0, none⟩)], .int .i64 0]) ∧ Below wb.heap.size wb w') (hl : ¬ (spN a).length = 0) (hl2 : ¬ (spN b).length = 0) (o2 : Option Addr) (x2 : ByteArray) (HFb : ∀ wb v, Tr wb t F A O bl ino K → Tx wb v (spN b) → Calls Tryd.prog 36 #[ptr t, v] wb fun e w' => e = .returned (.tuple #[.agg #[.pointer o2, .string x2, .pointer (some ⟨q, 0, none⟩)], .int .i64 0]) ∧ Below wb.heap.size wb w') (HQ : ∀ wb, Below w.heap.size w wb → (binOp .eql 56 (.pointer (some ⟨q, 0, none⟩)) (.pointer (some ⟨q, 0, none⟩))).run Tryd.prog wb = .ok (.bool true) wb) :
    Calls Tryd.prog 20 #[ptr t, .string a, .string b] w fun e w' => e = .returned (.int .i64 0) ∧ Below w.heap.size w w' := by
  have HT : Hid (Tr w t F A O bl ino K) := h
  clear h
  have hla : (((spN a).length : Int) == 0) = false := by simp only [beq_eq_false_iff_ne, ne_eq]; omega
  clear hl
  have hlc : (((spN b).length : Int) == 0) = false := by simp only [beq_eq_false_iff_ne, ne_eq]; omega
  clear hl2
  have hsp := split_any a w hs
  rw [hE] at hsp
  go_enter Tryd.func20, Tryd.ntmps20
  go_wp2_with fail
  refine hsp.mono ?_
  rintro e w1 ⟨v1, rfl, hv1, B1⟩
  have H1 : Hid (Below w.heap.size w w1 ∧ Tx w1 v1 (spN a)) := ⟨B1, hv1⟩
  obtain ⟨a1, k1, rfl⟩ := hv1.form
  clear hsp hv1 B1 hE
  go_wp2_with fail
  have hsp := split_any b w1 hs2
  rw [hE2] at hsp
  refine hsp.mono ?_
  rintro e w2 ⟨v2, rfl, hv2, B2⟩
  have H2 : Hid (Below w.heap.size w w2 ∧ Tx w2 (.slice a1 (spN a).length k1) (spN a) ∧ Tx w2 v2 (spN b)) := ⟨H1.out.1.trans (B2.mono H1.out.1.size), H1.out.2.below B2, hv2⟩
  obtain ⟨a2, k2, rfl⟩ := hv2.form
  clear hsp hv2 B2 hE2 H1
  go_wp2_with fail
  refine (HFa w2 _ (HT.out.below H2.out.1) H2.out.2.1).mono ?_
  clear HFa
  rintro e w3 ⟨rfl, B3⟩
  have H3 : Hid (Below w.heap.size w w3 ∧ Tx w3 (.slice a2 (spN b).length k2) (spN b)) := ⟨H2.out.1.trans (B3.mono H2.out.1.size), H2.out.2.2.below B3⟩
  clear H2 B3
  go_wp2_with fail
  have B3 := below_alloc w3 (spO (.pointer o1) (.string x1) (.pointer (some ⟨q, 0, none⟩)))
  have S3 := Sp.alloc w3 (.pointer o1) (.string x1) (.pointer (some ⟨q, 0, none⟩))
  have B3' := H3.out.1.trans (B3.mono H3.out.1.size)
  have hC := HFb (w3.alloc (spO (.pointer o1) (.string x1) (.pointer (some ⟨q, 0, none⟩)))) _ (HT.out.below B3') (H3.out.2.below B3)
  refine hC.mono ?_
  clear HFb hC
  rintro e w4 ⟨rfl, B4⟩
  have S4 := S3.kept (Chg.ofBelowC B4) (fun h => h)
  have hz3 : w.heap.size ≤ w3.heap.size := H3.out.1.size
  have H4 : Hid (Below w.heap.size w w4 ∧ Sp w4 w3.heap.size (.pointer o1) (.string x1) (.pointer (some ⟨q, 0, none⟩))) := ⟨B3'.trans (B4.mono B3'.size), S4⟩
  clear H3 B3 B3' S3 B4 S4
  have B5 := below_alloc w4 (spO (.pointer o2) (.string x2) (.pointer (some ⟨q, 0, none⟩)))
  have S5 := Sp.alloc w4 (.pointer o2) (.string x2) (.pointer (some ⟨q, 0, none⟩))
  have R5 := H4.out.2.kept (Chg.ofBelowC B5) (fun h => h)
  have B5' := H4.out.1.trans (B5.mono H4.out.1.size)
  have hq := HQ _ B5'
  obtain ⟨r0, r1, r2⟩ := R5.c
  have H5 : Hid (Below w.heap.size w (w4.alloc (spO (.pointer o2) (.string x2) (.pointer (some ⟨q, 0, none⟩)))) ∧ Sp (w4.alloc (spO (.pointer o2) (.string x2) (.pointer (some ⟨q, 0, none⟩)))) w3.heap.size (.pointer o1) (.string x1) (.pointer (some ⟨q, 0, none⟩)) ∧ Sp (w4.alloc (spO (.pointer o2) (.string x2) (.pointer (some ⟨q, 0, none⟩)))) w4.heap.size (.pointer o2) (.string x2) (.pointer (some ⟨q, 0, none⟩))) := ⟨B5', R5, S5⟩
  clear B5 S5 R5 B5' H4 HQ
  go_wp2_with fail
  go_ret
  exact ⟨rfl, H5.out.1⟩
set_option maxHeartbeats 3200000 in
set_option maxRecDepth 100000 in
theorem ren8N (a b : ByteArray) (t : Nat) (F : Pth → Option Nd) (A : Pth → Nat) (O : Nat → Option (Pth × Nat)) (bl ino : Int) (K : Nat) (w : World) (h : Tr w t F A O bl ino K) (hs : a.size ≤ 3000) (hs2 : b.size ≤ 3000) (hE : spE a = 0) (hE2 : spE b = 0) (o1 : Option Addr) (x1 : ByteArray) (q : Nat) (HFa : ∀ wb v, Tr wb t F A O bl ino K → Tx wb v (spN a) → Calls Tryd.prog 36 #[ptr t, v] wb fun e w' => e = .returned (.tuple #[.agg #[.pointer o1, .string x1, .pointer (some ⟨q, 0, none⟩)], .int .i64 0]) ∧ Below wb.heap.size wb w') (hl : ¬ (spN a).length = 0) (hl2 : ¬ (spN b).length = 0) (o2 : Option Addr) (x2 : ByteArray) (HFb : ∀ wb v, Tr wb t F A O bl ino K → Tx wb v (spN b) → Calls Tryd.prog 36 #[ptr t, v] wb fun e w' => e = .returned (.tuple #[.agg #[.pointer o2, .string x2, .pointer none], .int .i64 0]) ∧ Below wb.heap.size wb w') (HQ : ∀ wb, Below w.heap.size w wb → (binOp .eql 56 (.pointer none) (.pointer (some ⟨q, 0, none⟩))).run Tryd.prog wb = .ok (.bool false) wb) (hU : unB a b = true) :
    Calls Tryd.prog 20 #[ptr t, .string a, .string b] w fun e w' => e = .returned (.int .i64 13) ∧ Below w.heap.size w w' := by
  have HT : Hid (Tr w t F A O bl ino K) := h
  clear h
  have hla : (((spN a).length : Int) == 0) = false := by simp only [beq_eq_false_iff_ne, ne_eq]; omega
  clear hl
  have hlc : (((spN b).length : Int) == 0) = false := by simp only [beq_eq_false_iff_ne, ne_eq]; omega
  clear hl2
  have hsp := split_any a w hs
  rw [hE] at hsp
  go_enter Tryd.func20, Tryd.ntmps20
  go_wp2_with fail
  refine hsp.mono ?_
  rintro e w1 ⟨v1, rfl, hv1, B1⟩
  have H1 : Hid (Below w.heap.size w w1 ∧ Tx w1 v1 (spN a)) := ⟨B1, hv1⟩
  obtain ⟨a1, k1, rfl⟩ := hv1.form
  clear hsp hv1 B1 hE
  go_wp2_with fail
  have hsp := split_any b w1 hs2
  rw [hE2] at hsp
  refine hsp.mono ?_
  rintro e w2 ⟨v2, rfl, hv2, B2⟩
  have H2 : Hid (Below w.heap.size w w2 ∧ Tx w2 (.slice a1 (spN a).length k1) (spN a) ∧ Tx w2 v2 (spN b)) := ⟨H1.out.1.trans (B2.mono H1.out.1.size), H1.out.2.below B2, hv2⟩
  obtain ⟨a2, k2, rfl⟩ := hv2.form
  clear hsp hv2 B2 hE2 H1
  go_wp2_with fail
  refine (HFa w2 _ (HT.out.below H2.out.1) H2.out.2.1).mono ?_
  clear HFa
  rintro e w3 ⟨rfl, B3⟩
  have H3 : Hid (Below w.heap.size w w3 ∧ Tx w3 (.slice a2 (spN b).length k2) (spN b)) := ⟨H2.out.1.trans (B3.mono H2.out.1.size), H2.out.2.2.below B3⟩
  clear H2 B3
  go_wp2_with fail
  have B3 := below_alloc w3 (spO (.pointer o1) (.string x1) (.pointer (some ⟨q, 0, none⟩)))
  have S3 := Sp.alloc w3 (.pointer o1) (.string x1) (.pointer (some ⟨q, 0, none⟩))
  have B3' := H3.out.1.trans (B3.mono H3.out.1.size)
  have hC := HFb (w3.alloc (spO (.pointer o1) (.string x1) (.pointer (some ⟨q, 0, none⟩)))) _ (HT.out.below B3') (H3.out.2.below B3)
  refine hC.mono ?_
  clear HFb hC
  rintro e w4 ⟨rfl, B4⟩
  have S4 := S3.kept (Chg.ofBelowC B4) (fun h => h)
  have hz3 : w.heap.size ≤ w3.heap.size := H3.out.1.size
  have H4 : Hid (Below w.heap.size w w4 ∧ Sp w4 w3.heap.size (.pointer o1) (.string x1) (.pointer (some ⟨q, 0, none⟩))) := ⟨B3'.trans (B4.mono B3'.size), S4⟩
  clear H3 B3 B3' S3 B4 S4
  have B5 := below_alloc w4 (spO (.pointer o2) (.string x2) (.pointer none))
  have S5 := Sp.alloc w4 (.pointer o2) (.string x2) (.pointer none)
  have R5 := H4.out.2.kept (Chg.ofBelowC B5) (fun h => h)
  have B5' := H4.out.1.trans (B5.mono H4.out.1.size)
  have hq := HQ _ B5'
  obtain ⟨r0, r1, r2⟩ := R5.c
  have H5 : Hid (Below w.heap.size w (w4.alloc (spO (.pointer o2) (.string x2) (.pointer none))) ∧ Sp (w4.alloc (spO (.pointer o2) (.string x2) (.pointer none))) w3.heap.size (.pointer o1) (.string x1) (.pointer (some ⟨q, 0, none⟩)) ∧ Sp (w4.alloc (spO (.pointer o2) (.string x2) (.pointer none))) w4.heap.size (.pointer o2) (.string x2) (.pointer none)) := ⟨B5', R5, S5⟩
  clear B5 S5 R5 B5' H4 HQ
  go_wp2_with fail
  have hu := under_any a b (w4.alloc (spO (.pointer o2) (.string x2) (.pointer none))) hs hs2
  rw [hU] at hu
  refine hu.mono ?_
  rintro e w6 ⟨rfl, B6⟩
  have H6 : Hid (Below w.heap.size w w6 ∧ Sp w6 w3.heap.size (.pointer o1) (.string x1) (.pointer (some ⟨q, 0, none⟩)) ∧ Sp w6 w4.heap.size (.pointer o2) (.string x2) (.pointer none)) := ⟨H5.out.1.trans (B6.mono H5.out.1.size), H5.out.2.1.kept (Chg.ofBelowC B6) (fun h => h), H5.out.2.2.kept (Chg.ofBelowC B6) (fun h => h)⟩
  obtain ⟨d0, d1, d2⟩ := H6.out.2.1.c
  obtain ⟨e0, e1, e2⟩ := H6.out.2.2.c
  clear hu B6 H5 hU r0 r1 r2 hq
  go_wp2_with fail
  go_ret
  exact ⟨rfl, H6.out.1⟩
set_option maxHeartbeats 3200000 in
set_option maxRecDepth 100000 in
theorem ren9N (a b : ByteArray) (t : Nat) (F : Pth → Option Nd) (A : Pth → Nat) (O : Nat → Option (Pth × Nat)) (bl ino : Int) (K : Nat) (w : World) (h : Tr w t F A O bl ino K) (hs : a.size ≤ 3000) (hs2 : b.size ≤ 3000) (hE : spE a = 0) (hE2 : spE b = 0) (o1 : Option Addr) (x1 : ByteArray) (q : Nat) (HFa : ∀ wb v, Tr wb t F A O bl ino K → Tx wb v (spN a) → Calls Tryd.prog 36 #[ptr t, v] wb fun e w' => e = .returned (.tuple #[.agg #[.pointer o1, .string x1, .pointer (some ⟨q, 0, none⟩)], .int .i64 0]) ∧ Below wb.heap.size wb w') (hl : ¬ (spN a).length = 0) (hl2 : ¬ (spN b).length = 0) (o2 : Option Addr) (x2 : ByteArray) (HFb : ∀ wb v, Tr wb t F A O bl ino K → Tx wb v (spN b) → Calls Tryd.prog 36 #[ptr t, v] wb fun e w' => e = .returned (.tuple #[.agg #[.pointer o2, .string x2, .pointer none], .int .i64 0]) ∧ Below wb.heap.size wb w') (HQ : ∀ wb, Below w.heap.size w wb → (binOp .eql 56 (.pointer none) (.pointer (some ⟨q, 0, none⟩))).run Tryd.prog wb = .ok (.bool false) wb) (hU : unB a b = false) (c : Int) (P : World → Prop) (HM : ∀ wb, Below w.heap.size w wb → Calls Tryd.prog 39 #[ptr t, .agg #[.pointer o1, .string x1, .pointer (some ⟨q, 0, none⟩)], .agg #[.pointer o2, .string x2, .pointer none]] wb fun e w' => e = .returned (.int .i64 c) ∧ P w') :
    Calls Tryd.prog 20 #[ptr t, .string a, .string b] w fun e w' => e = .returned (.int .i64 c) ∧ P w' := by
  have HT : Hid (Tr w t F A O bl ino K) := h
  clear h
  have hla : (((spN a).length : Int) == 0) = false := by simp only [beq_eq_false_iff_ne, ne_eq]; omega
  clear hl
  have hlc : (((spN b).length : Int) == 0) = false := by simp only [beq_eq_false_iff_ne, ne_eq]; omega
  clear hl2
  have hsp := split_any a w hs
  rw [hE] at hsp
  go_enter Tryd.func20, Tryd.ntmps20
  go_wp2_with fail
  refine hsp.mono ?_
  rintro e w1 ⟨v1, rfl, hv1, B1⟩
  have H1 : Hid (Below w.heap.size w w1 ∧ Tx w1 v1 (spN a)) := ⟨B1, hv1⟩
  obtain ⟨a1, k1, rfl⟩ := hv1.form
  clear hsp hv1 B1 hE
  go_wp2_with fail
  have hsp := split_any b w1 hs2
  rw [hE2] at hsp
  refine hsp.mono ?_
  rintro e w2 ⟨v2, rfl, hv2, B2⟩
  have H2 : Hid (Below w.heap.size w w2 ∧ Tx w2 (.slice a1 (spN a).length k1) (spN a) ∧ Tx w2 v2 (spN b)) := ⟨H1.out.1.trans (B2.mono H1.out.1.size), H1.out.2.below B2, hv2⟩
  obtain ⟨a2, k2, rfl⟩ := hv2.form
  clear hsp hv2 B2 hE2 H1
  go_wp2_with fail
  refine (HFa w2 _ (HT.out.below H2.out.1) H2.out.2.1).mono ?_
  clear HFa
  rintro e w3 ⟨rfl, B3⟩
  have H3 : Hid (Below w.heap.size w w3 ∧ Tx w3 (.slice a2 (spN b).length k2) (spN b)) := ⟨H2.out.1.trans (B3.mono H2.out.1.size), H2.out.2.2.below B3⟩
  clear H2 B3
  go_wp2_with fail
  have B3 := below_alloc w3 (spO (.pointer o1) (.string x1) (.pointer (some ⟨q, 0, none⟩)))
  have S3 := Sp.alloc w3 (.pointer o1) (.string x1) (.pointer (some ⟨q, 0, none⟩))
  have B3' := H3.out.1.trans (B3.mono H3.out.1.size)
  have hC := HFb (w3.alloc (spO (.pointer o1) (.string x1) (.pointer (some ⟨q, 0, none⟩)))) _ (HT.out.below B3') (H3.out.2.below B3)
  refine hC.mono ?_
  clear HFb hC
  rintro e w4 ⟨rfl, B4⟩
  have S4 := S3.kept (Chg.ofBelowC B4) (fun h => h)
  have hz3 : w.heap.size ≤ w3.heap.size := H3.out.1.size
  have H4 : Hid (Below w.heap.size w w4 ∧ Sp w4 w3.heap.size (.pointer o1) (.string x1) (.pointer (some ⟨q, 0, none⟩))) := ⟨B3'.trans (B4.mono B3'.size), S4⟩
  clear H3 B3 B3' S3 B4 S4
  have B5 := below_alloc w4 (spO (.pointer o2) (.string x2) (.pointer none))
  have S5 := Sp.alloc w4 (.pointer o2) (.string x2) (.pointer none)
  have R5 := H4.out.2.kept (Chg.ofBelowC B5) (fun h => h)
  have B5' := H4.out.1.trans (B5.mono H4.out.1.size)
  have hq := HQ _ B5'
  obtain ⟨r0, r1, r2⟩ := R5.c
  have H5 : Hid (Below w.heap.size w (w4.alloc (spO (.pointer o2) (.string x2) (.pointer none))) ∧ Sp (w4.alloc (spO (.pointer o2) (.string x2) (.pointer none))) w3.heap.size (.pointer o1) (.string x1) (.pointer (some ⟨q, 0, none⟩)) ∧ Sp (w4.alloc (spO (.pointer o2) (.string x2) (.pointer none))) w4.heap.size (.pointer o2) (.string x2) (.pointer none)) := ⟨B5', R5, S5⟩
  clear B5 S5 R5 B5' H4 HQ
  go_wp2_with fail
  have hu := under_any a b (w4.alloc (spO (.pointer o2) (.string x2) (.pointer none))) hs hs2
  rw [hU] at hu
  refine hu.mono ?_
  rintro e w6 ⟨rfl, B6⟩
  have H6 : Hid (Below w.heap.size w w6 ∧ Sp w6 w3.heap.size (.pointer o1) (.string x1) (.pointer (some ⟨q, 0, none⟩)) ∧ Sp w6 w4.heap.size (.pointer o2) (.string x2) (.pointer none)) := ⟨H5.out.1.trans (B6.mono H5.out.1.size), H5.out.2.1.kept (Chg.ofBelowC B6) (fun h => h), H5.out.2.2.kept (Chg.ofBelowC B6) (fun h => h)⟩
  obtain ⟨d0, d1, d2⟩ := H6.out.2.1.c
  obtain ⟨e0, e1, e2⟩ := H6.out.2.2.c
  clear hu B6 H5 hU r0 r1 r2 hq
  go_wp2_with fail
  refine (HM w6 H6.out.1).mono ?_
  rintro e w7 ⟨rfl, hP⟩
  have HP : Hid (P w7) := hP
  clear HM hP H6 d0 d1 d2 e0 e1 e2
  go_wp2_with fail
  go_ret
  exact ⟨rfl, HP.out⟩
set_option maxHeartbeats 3200000 in
set_option maxRecDepth 100000 in
theorem ren8S (a b : ByteArray) (t : Nat) (F : Pth → Option Nd) (A : Pth → Nat) (O : Nat → Option (Pth × Nat)) (bl ino : Int) (K : Nat) (w : World) (h : Tr w t F A O bl ino K) (hs : a.size ≤ 3000) (hs2 : b.size ≤ 3000) (hE : spE a = 0) (hE2 : spE b = 0) (o1 : Option Addr) (x1 : ByteArray) (q : Nat) (HFa : ∀ wb v, Tr wb t F A O bl ino K → Tx wb v (spN a) → Calls Tryd.prog 36 #[ptr t, v] wb fun e w' => e = .returned (.tuple #[.agg #[.pointer o1, .string x1, .pointer (some ⟨q, 0, none⟩)], .int .i64 0]) ∧ Below wb.heap.size wb w') (hl : ¬ (spN a).length = 0) (hl2 : ¬ (spN b).length = 0) (o2 : Option Addr) (x2 : ByteArray) (q3 : Nat) (HFb : ∀ wb v, Tr wb t F A O bl ino K → Tx wb v (spN b) → Calls Tryd.prog 36 #[ptr t, v] wb fun e w' => e = .returned (.tuple #[.agg #[.pointer o2, .string x2, .pointer (some ⟨q3, 0, none⟩)], .int .i64 0]) ∧ Below wb.heap.size wb w') (HQ : ∀ wb, Below w.heap.size w wb → (binOp .eql 56 (.pointer (some ⟨q3, 0, none⟩)) (.pointer (some ⟨q, 0, none⟩))).run Tryd.prog wb = .ok (.bool false) wb) (hU : unB a b = true) :
    Calls Tryd.prog 20 #[ptr t, .string a, .string b] w fun e w' => e = .returned (.int .i64 13) ∧ Below w.heap.size w w' := by
  have HT : Hid (Tr w t F A O bl ino K) := h
  clear h
  have hla : (((spN a).length : Int) == 0) = false := by simp only [beq_eq_false_iff_ne, ne_eq]; omega
  clear hl
  have hlc : (((spN b).length : Int) == 0) = false := by simp only [beq_eq_false_iff_ne, ne_eq]; omega
  clear hl2
  have hsp := split_any a w hs
  rw [hE] at hsp
  go_enter Tryd.func20, Tryd.ntmps20
  go_wp2_with fail
  refine hsp.mono ?_
  rintro e w1 ⟨v1, rfl, hv1, B1⟩
  have H1 : Hid (Below w.heap.size w w1 ∧ Tx w1 v1 (spN a)) := ⟨B1, hv1⟩
  obtain ⟨a1, k1, rfl⟩ := hv1.form
  clear hsp hv1 B1 hE
  go_wp2_with fail
  have hsp := split_any b w1 hs2
  rw [hE2] at hsp
  refine hsp.mono ?_
  rintro e w2 ⟨v2, rfl, hv2, B2⟩
  have H2 : Hid (Below w.heap.size w w2 ∧ Tx w2 (.slice a1 (spN a).length k1) (spN a) ∧ Tx w2 v2 (spN b)) := ⟨H1.out.1.trans (B2.mono H1.out.1.size), H1.out.2.below B2, hv2⟩
  obtain ⟨a2, k2, rfl⟩ := hv2.form
  clear hsp hv2 B2 hE2 H1
  go_wp2_with fail
  refine (HFa w2 _ (HT.out.below H2.out.1) H2.out.2.1).mono ?_
  clear HFa
  rintro e w3 ⟨rfl, B3⟩
  have H3 : Hid (Below w.heap.size w w3 ∧ Tx w3 (.slice a2 (spN b).length k2) (spN b)) := ⟨H2.out.1.trans (B3.mono H2.out.1.size), H2.out.2.2.below B3⟩
  clear H2 B3
  go_wp2_with fail
  have B3 := below_alloc w3 (spO (.pointer o1) (.string x1) (.pointer (some ⟨q, 0, none⟩)))
  have S3 := Sp.alloc w3 (.pointer o1) (.string x1) (.pointer (some ⟨q, 0, none⟩))
  have B3' := H3.out.1.trans (B3.mono H3.out.1.size)
  have hC := HFb (w3.alloc (spO (.pointer o1) (.string x1) (.pointer (some ⟨q, 0, none⟩)))) _ (HT.out.below B3') (H3.out.2.below B3)
  refine hC.mono ?_
  clear HFb hC
  rintro e w4 ⟨rfl, B4⟩
  have S4 := S3.kept (Chg.ofBelowC B4) (fun h => h)
  have hz3 : w.heap.size ≤ w3.heap.size := H3.out.1.size
  have H4 : Hid (Below w.heap.size w w4 ∧ Sp w4 w3.heap.size (.pointer o1) (.string x1) (.pointer (some ⟨q, 0, none⟩))) := ⟨B3'.trans (B4.mono B3'.size), S4⟩
  clear H3 B3 B3' S3 B4 S4
  have B5 := below_alloc w4 (spO (.pointer o2) (.string x2) (.pointer (some ⟨q3, 0, none⟩)))
  have S5 := Sp.alloc w4 (.pointer o2) (.string x2) (.pointer (some ⟨q3, 0, none⟩))
  have R5 := H4.out.2.kept (Chg.ofBelowC B5) (fun h => h)
  have B5' := H4.out.1.trans (B5.mono H4.out.1.size)
  have hq := HQ _ B5'
  obtain ⟨r0, r1, r2⟩ := R5.c
  have H5 : Hid (Below w.heap.size w (w4.alloc (spO (.pointer o2) (.string x2) (.pointer (some ⟨q3, 0, none⟩)))) ∧ Sp (w4.alloc (spO (.pointer o2) (.string x2) (.pointer (some ⟨q3, 0, none⟩)))) w3.heap.size (.pointer o1) (.string x1) (.pointer (some ⟨q, 0, none⟩)) ∧ Sp (w4.alloc (spO (.pointer o2) (.string x2) (.pointer (some ⟨q3, 0, none⟩)))) w4.heap.size (.pointer o2) (.string x2) (.pointer (some ⟨q3, 0, none⟩))) := ⟨B5', R5, S5⟩
  clear B5 S5 R5 B5' H4 HQ
  go_wp2_with fail
  have hu := under_any a b (w4.alloc (spO (.pointer o2) (.string x2) (.pointer (some ⟨q3, 0, none⟩)))) hs hs2
  rw [hU] at hu
  refine hu.mono ?_
  rintro e w6 ⟨rfl, B6⟩
  have H6 : Hid (Below w.heap.size w w6 ∧ Sp w6 w3.heap.size (.pointer o1) (.string x1) (.pointer (some ⟨q, 0, none⟩)) ∧ Sp w6 w4.heap.size (.pointer o2) (.string x2) (.pointer (some ⟨q3, 0, none⟩))) := ⟨H5.out.1.trans (B6.mono H5.out.1.size), H5.out.2.1.kept (Chg.ofBelowC B6) (fun h => h), H5.out.2.2.kept (Chg.ofBelowC B6) (fun h => h)⟩
  obtain ⟨d0, d1, d2⟩ := H6.out.2.1.c
  obtain ⟨e0, e1, e2⟩ := H6.out.2.2.c
  clear hu B6 H5 hU r0 r1 r2 hq
  go_wp2_with fail
  go_ret
  exact ⟨rfl, H6.out.1⟩
set_option maxHeartbeats 3200000 in
set_option maxRecDepth 100000 in
theorem ren9S (a b : ByteArray) (t : Nat) (F : Pth → Option Nd) (A : Pth → Nat) (O : Nat → Option (Pth × Nat)) (bl ino : Int) (K : Nat) (w : World) (h : Tr w t F A O bl ino K) (hs : a.size ≤ 3000) (hs2 : b.size ≤ 3000) (hE : spE a = 0) (hE2 : spE b = 0) (o1 : Option Addr) (x1 : ByteArray) (q : Nat) (HFa : ∀ wb v, Tr wb t F A O bl ino K → Tx wb v (spN a) → Calls Tryd.prog 36 #[ptr t, v] wb fun e w' => e = .returned (.tuple #[.agg #[.pointer o1, .string x1, .pointer (some ⟨q, 0, none⟩)], .int .i64 0]) ∧ Below wb.heap.size wb w') (hl : ¬ (spN a).length = 0) (hl2 : ¬ (spN b).length = 0) (o2 : Option Addr) (x2 : ByteArray) (q3 : Nat) (HFb : ∀ wb v, Tr wb t F A O bl ino K → Tx wb v (spN b) → Calls Tryd.prog 36 #[ptr t, v] wb fun e w' => e = .returned (.tuple #[.agg #[.pointer o2, .string x2, .pointer (some ⟨q3, 0, none⟩)], .int .i64 0]) ∧ Below wb.heap.size wb w') (HQ : ∀ wb, Below w.heap.size w wb → (binOp .eql 56 (.pointer (some ⟨q3, 0, none⟩)) (.pointer (some ⟨q, 0, none⟩))).run Tryd.prog wb = .ok (.bool false) wb) (hU : unB a b = false) (c : Int) (P : World → Prop) (HM : ∀ wb, Below w.heap.size w wb → Calls Tryd.prog 38 #[ptr t, .agg #[.pointer o1, .string x1, .pointer (some ⟨q, 0, none⟩)], .agg #[.pointer o2, .string x2, .pointer (some ⟨q3, 0, none⟩)]] wb fun e w' => e = .returned (.int .i64 c) ∧ P w') :
    Calls Tryd.prog 20 #[ptr t, .string a, .string b] w fun e w' => e = .returned (.int .i64 c) ∧ P w' := by
  have HT : Hid (Tr w t F A O bl ino K) := h
  clear h
  have hla : (((spN a).length : Int) == 0) = false := by simp only [beq_eq_false_iff_ne, ne_eq]; omega
  clear hl
  have hlc : (((spN b).length : Int) == 0) = false := by simp only [beq_eq_false_iff_ne, ne_eq]; omega
  clear hl2
  have hsp := split_any a w hs
  rw [hE] at hsp
  go_enter Tryd.func20, Tryd.ntmps20
  go_wp2_with fail
  refine hsp.mono ?_
  rintro e w1 ⟨v1, rfl, hv1, B1⟩
  have H1 : Hid (Below w.heap.size w w1 ∧ Tx w1 v1 (spN a)) := ⟨B1, hv1⟩
  obtain ⟨a1, k1, rfl⟩ := hv1.form
  clear hsp hv1 B1 hE
  go_wp2_with fail
  have hsp := split_any b w1 hs2
  rw [hE2] at hsp
  refine hsp.mono ?_
  rintro e w2 ⟨v2, rfl, hv2, B2⟩
  have H2 : Hid (Below w.heap.size w w2 ∧ Tx w2 (.slice a1 (spN a).length k1) (spN a) ∧ Tx w2 v2 (spN b)) := ⟨H1.out.1.trans (B2.mono H1.out.1.size), H1.out.2.below B2, hv2⟩
  obtain ⟨a2, k2, rfl⟩ := hv2.form
  clear hsp hv2 B2 hE2 H1
  go_wp2_with fail
  refine (HFa w2 _ (HT.out.below H2.out.1) H2.out.2.1).mono ?_
  clear HFa
  rintro e w3 ⟨rfl, B3⟩
  have H3 : Hid (Below w.heap.size w w3 ∧ Tx w3 (.slice a2 (spN b).length k2) (spN b)) := ⟨H2.out.1.trans (B3.mono H2.out.1.size), H2.out.2.2.below B3⟩
  clear H2 B3
  go_wp2_with fail
  have B3 := below_alloc w3 (spO (.pointer o1) (.string x1) (.pointer (some ⟨q, 0, none⟩)))
  have S3 := Sp.alloc w3 (.pointer o1) (.string x1) (.pointer (some ⟨q, 0, none⟩))
  have B3' := H3.out.1.trans (B3.mono H3.out.1.size)
  have hC := HFb (w3.alloc (spO (.pointer o1) (.string x1) (.pointer (some ⟨q, 0, none⟩)))) _ (HT.out.below B3') (H3.out.2.below B3)
  refine hC.mono ?_
  clear HFb hC
  rintro e w4 ⟨rfl, B4⟩
  have S4 := S3.kept (Chg.ofBelowC B4) (fun h => h)
  have hz3 : w.heap.size ≤ w3.heap.size := H3.out.1.size
  have H4 : Hid (Below w.heap.size w w4 ∧ Sp w4 w3.heap.size (.pointer o1) (.string x1) (.pointer (some ⟨q, 0, none⟩))) := ⟨B3'.trans (B4.mono B3'.size), S4⟩
  clear H3 B3 B3' S3 B4 S4
  have B5 := below_alloc w4 (spO (.pointer o2) (.string x2) (.pointer (some ⟨q3, 0, none⟩)))
  have S5 := Sp.alloc w4 (.pointer o2) (.string x2) (.pointer (some ⟨q3, 0, none⟩))
  have R5 := H4.out.2.kept (Chg.ofBelowC B5) (fun h => h)
  have B5' := H4.out.1.trans (B5.mono H4.out.1.size)
  have hq := HQ _ B5'
  obtain ⟨r0, r1, r2⟩ := R5.c
  have H5 : Hid (Below w.heap.size w (w4.alloc (spO (.pointer o2) (.string x2) (.pointer (some ⟨q3, 0, none⟩)))) ∧ Sp (w4.alloc (spO (.pointer o2) (.string x2) (.pointer (some ⟨q3, 0, none⟩)))) w3.heap.size (.pointer o1) (.string x1) (.pointer (some ⟨q, 0, none⟩)) ∧ Sp (w4.alloc (spO (.pointer o2) (.string x2) (.pointer (some ⟨q3, 0, none⟩)))) w4.heap.size (.pointer o2) (.string x2) (.pointer (some ⟨q3, 0, none⟩))) := ⟨B5', R5, S5⟩
  clear B5 S5 R5 B5' H4 HQ
  go_wp2_with fail
  have hu := under_any a b (w4.alloc (spO (.pointer o2) (.string x2) (.pointer (some ⟨q3, 0, none⟩)))) hs hs2
  rw [hU] at hu
  refine hu.mono ?_
  rintro e w6 ⟨rfl, B6⟩
  have H6 : Hid (Below w.heap.size w w6 ∧ Sp w6 w3.heap.size (.pointer o1) (.string x1) (.pointer (some ⟨q, 0, none⟩)) ∧ Sp w6 w4.heap.size (.pointer o2) (.string x2) (.pointer (some ⟨q3, 0, none⟩))) := ⟨H5.out.1.trans (B6.mono H5.out.1.size), H5.out.2.1.kept (Chg.ofBelowC B6) (fun h => h), H5.out.2.2.kept (Chg.ofBelowC B6) (fun h => h)⟩
  obtain ⟨d0, d1, d2⟩ := H6.out.2.1.c
  obtain ⟨e0, e1, e2⟩ := H6.out.2.2.c
  clear hu B6 H5 hU r0 r1 r2 hq
  go_wp2_with fail
  refine (HM w6 H6.out.1).mono ?_
  rintro e w7 ⟨rfl, hP⟩
  have HP : Hid (P w7) := hP
  clear HM hP H6 d0 d1 d2 e0 e1 e2
  go_wp2_with fail
  go_ret
  exact ⟨rfl, HP.out⟩
end Go.Proofs.YtdcmkcplklkfmaaDoor

namespace Go.Proofs.YtdcmkcplklkfmaaDoor
open Go.RowKit Go.Maps

theorem TrTo.more2 {N : Nat} {w w' : World} {t : Nat} {O : Nat → Option (Pth × Nat)} {T : Ts} {K K' : Nat} (h : TrS N w w' t O T K) (hk : K ≤ K') : TrS N w w' t O T K' := TrTo.more h hk
theorem mov_any {N : Nat} {w : World} {t : Nat} {T : Ts} {A : Pth → Nat} {O : Nat → Option (Pth × Nat)} {K : Nat} (h : Tr w t T.F A O T.bl T.ino K) (hT : Tab w) (hK : K ≤ 70000) {f g : Pth} (hf0 : ¬ f = []) (hg0 : ¬ g = []) (hfs : (T.F f).isSome = true) (hgn : T.F g = none) (hG : ∃ s kn, T.F g.dropLast = some (.dir s kn)) (hny : nameB (lastN g) = true) (hun : ¬ Un f g) (o2 : Option Addr) :
    Calls Tryd.prog 39 #[ptr t, .agg #[.pointer (upO A f), .string (lastN f), ptr (A f)], .agg #[.pointer (upO A g), .string (lastN g), .pointer o2]] w fun e w' => e = .returned (.int .i64 (movR T f g).1) ∧ TrS N w w' t O (movR T f g).2 (K + 1) := by
  have hf := pth_split hf0
  have hg := pth_split hg0
  obtain ⟨p, hp⟩ : ∃ p, f.dropLast = p := ⟨_, rfl⟩
  obtain ⟨x, hx⟩ : ∃ x, lastN f = x := ⟨_, rfl⟩
  obtain ⟨r, hr⟩ : ∃ r, g.dropLast = r := ⟨_, rfl⟩
  obtain ⟨y, hy⟩ : ∃ y, lastN g = y := ⟨_, rfl⟩
  rw [hp, hx] at hf
  rw [hr, hy] at hg
  rw [hr] at hG
  rw [hy] at hny
  subst hf
  subst hg
  obtain ⟨sg, kg, hG⟩ := hG
  obtain ⟨s, kn, hF, hxm⟩ := h.up p x hfs
  have hyn : ¬ y ∈ kg := fun e => by
    have := (h.mem hG y).1 e
    rw [hgn] at this; cases this
  rw [upO_next, lastN_next, upO_next, lastN_next]
  by_cases e : p = r
  · subst e
    rw [hF] at hG
    cases hG
    exact mov_same h hT hK hF hxm hyn hny o2
  · exact mov_other h hT hK hF hxm hG e hyn hny hun o2

theorem Tr.cell0 {w : World} {t : Nat} {F : Pth → Option Nd} {A : Pth → Nat} {O : Nat → Option (Pth × Nat)} {bl ino : Int} {K : Nat} (h : Tr w t F A O bl ino K) {p : Pth} {nd : Nd} (hp : F p = some nd) : ∃ v, w.cell? ⟨A p, 0, none⟩ = some v := by
  cases nd with
  | file bs => exact ⟨_, (h.nd _ _ hp).1⟩
  | dir s kn => exact ⟨_, (h.nd _ _ hp).1⟩
theorem gone_at {F : Pth → Option Nd} {p g q : Pth} {nd : Nd} (h1 : ¬ q = g) (h2 : ¬ q = p) : setN (setN F p (some nd)) g none q = F q := by rw [setN_other _ _ h1, setN_other _ _ h2]
theorem rep_any {N : Nat} {w : World} {t : Nat} {T : Ts} {A : Pth → Nat} {O : Nat → Option (Pth × Nat)} {K : Nat} (h : Tr w t T.F A O T.bl T.ino K) (hT : Tab w) (hK : K ≤ 60000) (hO0 : O 0 = none) {f g : Pth} (hf0 : ¬ f = []) (hg0 : ¬ g = []) {nf ng : Nd} (hf : T.F f = some nf) (hg : T.F g = some ng) (hny : nameB (lastN g) = true) (hun : ¬ Un f g) :
    Calls Tryd.prog 38 #[ptr t, .agg #[.pointer (upO A f), .string (lastN f), ptr (A f)], .agg #[.pointer (upO A g), .string (lastN g), ptr (A g)]] w fun e w' => e = .returned (.int .i64 (repR T f g).1) ∧ TrS N w w' t O (repR T f g).2 (K + 2) := by
  have GO : (∀ nm, ¬ ng.has nm) → ∃ s kn, T.F g.dropLast = some (.dir s kn) ∧ (∀ k, (O k).isSome = true → k < w.heap.size) ∧ (∀ wb, Below w.heap.size w wb → Calls Tryd.prog 45 #[ptr t, .agg #[.pointer (upO A g), .string (lastN g), ptr (A g)]] wb fun e w' => e = .returned (.tuple #[]) ∧ (Tr w' t (goneT T g).F A O (goneT T g).bl (goneT T g).ino (K + 1) ∧ Tab w' ∧ Chg (fun b => (O b).isSome = true) w w') ∧ Chg (fun b => (O b).isSome = true) wb w') ∧ (∀ wb, (Tr wb t (goneT T g).F A O (goneT T g).bl (goneT T g).ino (K + 1) ∧ Tab wb ∧ Chg (fun b => (O b).isSome = true) w wb) → Calls Tryd.prog 39 #[ptr t, .agg #[.pointer (upO A f), .string (lastN f), ptr (A f)], .agg #[.pointer (upO A g), .string (lastN g), ptr (A g)]] wb fun e w' => e = .returned (.int .i64 (movR (goneT T g) f g).1) ∧ TrS N w w' t O (movR (goneT T g) f g).2 (K + 2)) := by
    intro hlf
    have hgs := pth_split hg0
    obtain ⟨r, hr⟩ : ∃ r, g.dropLast = r := ⟨_, rfl⟩
    obtain ⟨y, hy⟩ : ∃ y, lastN g = y := ⟨_, rfl⟩
    rw [hr, hy] at hgs
    rw [hy] at hny
    subst hgs
    obtain ⟨s, kn, hF, hym⟩ := h.up r y (by rw [hg]; rfl)
    have hge := goneT_eq (x := y) hF hg
    have hlt : ∀ k, (O k).isSome = true → k < w.heap.size := fun k hk => by
      obtain ⟨z, hz⟩ := Option.isSome_iff_exists.1 hk
      exact h.lt k z hz
    refine ⟨s, kn, by rw [hr]; exact hF, hlt, fun wb hb => ?_, fun wb hq => ?_⟩
    · rw [upO_next, lastN_next]
      refine (rem_tr (h.below hb) (tab_below hT hb) (by omega) hF hym hg (leaf_file h hg hlf)).mono ?_
      rintro e w' ⟨rfl, g1, g2⟩
      rw [hge]
      refine ⟨rfl, ⟨g1, ?_, ((Chg.ofBelowC hb).mono (fun _ _ h => h.elim)).trans g2 (fun _ _ h => h)⟩, g2⟩
      intro j hj
      have e := tab_below hT hb j hj
      refine g2.cell e (fun hO => ?_)
      rw [hO0] at hO; cases hO
    · obtain ⟨q1, q2, q3⟩ := hq
      have n1 : ¬ f = r ++ [y] := fun e => hun (by rw [e]; exact un_self _)
      have n2 : ¬ f = r := fun e => hun (by rw [e]; exact un_app r [y])
      have hfs : (goneT T (r ++ [y])).F f = some nf := by rw [hge]; show setN _ _ _ f = _; rw [gone_at n1 n2]; exact hf
      refine (mov_any (N := N) q1 q2 (by omega) hf0 hg0 (by rw [hfs]; rfl) (by rw [hge]; exact setN_same _ _ _) ⟨s, dele kn y, ?_⟩ (by rw [lastN_next]; exact hny) hun _).mono ?_
      · rw [hge, List.dropLast_concat]
        show setN _ _ _ r = _
        rw [setN_other _ _ (pth_ne r y), setN_same]
      · rintro e w' ⟨rfl, A', O', g1, g2, g3⟩
        exact ⟨rfl, A', O', g1, q3.trans g2 (fun _ _ h => h), g3⟩
  have z0 := (h.nd _ _ hf)
  have z1 := (h.nd _ _ hg)
  cases nf with
  | file bs =>
    cases ng with
    | file cs =>
      have e : repR T f g = movR (goneT T g) f g := by unfold repR; rw [hf, hg]
      rw [e]
      obtain ⟨s, kn, hF, hlt, HR, HM⟩ := GO (fun nm h => h)
      exact rep_goF t (A f) (A g) _ _ _ _ w z0.1 z1.1 z1.2.2.1 _ _ _ _ hlt HR HM
    | dir s kn =>
      have e : repR T f g = (10, T) := by unfold repR; rw [hf, hg]
      rw [e]
      refine (rep_dir t (A f) (A g) _ _ _ _ w z0.1 z1.1).mono ?_
      rintro e w' ⟨rfl, B⟩
      exact ⟨rfl, TrTo.refl h (by omega) B⟩
  | dir s0 k0 =>
    cases ng with
    | file cs =>
      have e : repR T f g = (11, T) := by unfold repR; rw [hf, hg]
      rw [e]
      refine (rep_file t (A f) (A g) _ _ _ _ w z0.1 z1.1).mono ?_
      rintro e w' ⟨rfl, B⟩
      exact ⟨rfl, TrTo.refl h (by omega) B⟩
    | dir s1 k1 =>
      obtain ⟨m', m0, m1, m2, m3, mO, mM, htm, hAm⟩ := h.dirM hg
      by_cases hk : k1 = []
      · have e : repR T f g = movR (goneT T g) f g := by unfold repR; rw [hf, hg]; simp [hk]
        rw [e]
        subst hk
        obtain ⟨s, kn, hF, hlt, HR, HM⟩ := GO (fun nm h => by cases h)
        exact rep_goD t (A f) (A g) _ _ _ _ w z0.1 m0 m' _ m2 mM _ _ _ _ hlt HR HM
      · have e : repR T f g = (13, T) := by unfold repR; rw [hf, hg]; simp [hk]
        rw [e]
        refine (rep_busy t (A f) (A g) _ _ _ _ w z0.1 m0 m' _ _ m2 mM (List.length_pos_iff.2 hk)).mono ?_
        rintro e w' ⟨rfl, B⟩
        exact ⟨rfl, TrTo.refl h (by omega) B⟩

theorem unB_iff {a b : ByteArray} (ha : spE a = 0) (hb : spE b = 0) : unB a b = decide (Un (spN a) (spN b)) := by
  unfold unB Un
  rw [ha, hb]
  simp [eq_comm]
theorem last_name {s : ByteArray} (h : spE s = 0) (h0 : ¬ spN s = []) : nameB (lastN (spN s)) = true := by
  have h1 := (spN_all h).1
  rw [pth_split h0, List.all_append] at h1
  simp at h1
  exact h1.2
theorem len_zero {l : Pth} : l.length = 0 ↔ l = [] := List.length_eq_zero_iff
theorem ren_any {N : Nat} {w : World} {t : Nat} {T : Ts} {A : Pth → Nat} {O : Nat → Option (Pth × Nat)} {K : Nat} (h : Tr w t T.F A O T.bl T.ino K) (hT : Tab w) (hK : K ≤ 60000) (hO0 : O 0 = none) (a b : ByteArray) (hs : a.size ≤ 3000) (hs2 : b.size ≤ 3000) :
    Calls Tryd.prog 20 #[ptr t, .string a, .string b] w fun e w' => e = .returned (.int .i64 (renR T a b).1) ∧ TrS N w w' t O (renR T a b).2 (K + 2) := by
  have BAD : ∀ n : Int, renR T a b = (n, T) → (Calls Tryd.prog 20 #[ptr t, .string a, .string b] w fun e w' => e = .returned (.int .i64 n) ∧ Below w.heap.size w w') → Calls Tryd.prog 20 #[ptr t, .string a, .string b] w fun e w' => e = .returned (.int .i64 (renR T a b).1) ∧ TrS N w w' t O (renR T a b).2 (K + 2) := by
    intro n e hc
    rw [e]
    refine hc.mono ?_
    rintro e w' ⟨rfl, B⟩
    exact ⟨rfl, TrTo.refl h (by omega) B⟩
  by_cases h1 : spE a = 0
  case neg => exact BAD _ (by unfold renR; rw [if_pos h1]) (ren1 a b t T.F A O T.bl T.ino K w h hs hs2 _ rfl (by rcases spE_ways a with h | h | h <;> omega))
  by_cases h2 : spE b = 0
  case neg => exact BAD _ (by unfold renR; rw [if_neg (by omega), if_pos h2]) (ren2 a b t T.F A O T.bl T.ino K w h hs hs2 _ h1 rfl (by rcases spE_ways b with h | h | h <;> omega))
  have na := (spN_all h1).1
  have nb := (spN_all h2).1
  have la := spN_len a
  have lb := spN_len b
  by_cases h3 : folE T.F (spN a) = 0
  case neg => exact BAD _ (by unfold renR; rw [if_neg (by omega), if_neg (by omega), if_pos h3]) (ren3 a b t T.F A O T.bl T.ino K w h hs hs2 h1 h2 _ _ _ _ h3 (fun wb v hT hv => follow_bad hT hv (by omega) na rfl h3))
  cases h4 : T.F (spN a) with
  | none =>
    refine BAD 8 (by unfold renR; rw [if_neg (by omega), if_neg (by omega), if_neg (by omega), if_pos (by rw [h4]; rfl)]) (ren4 a b t T.F A O T.bl T.ino K w h hs hs2 h1 h2 (upO A (spN a)) (lastN (spN a)) (fun wb v hT hv => ?_))
    have := follow_ok hT hv (by omega) na h3
    rwa [ndO_none h4] at this
  | some nf =>
  have HFa : ∀ wb v, Tr wb t T.F A O T.bl T.ino K → Tx wb v (spN a) → Calls Tryd.prog 36 #[ptr t, v] wb fun e w' => e = .returned (.tuple #[.agg #[.pointer (upO A (spN a)), .string (lastN (spN a)), .pointer (some ⟨A (spN a), 0, none⟩)], .int .i64 0]) ∧ Below wb.heap.size wb w' := fun wb v hT hv => by
    have := follow_ok hT hv (by omega) na h3
    rwa [ndO_some h4] at this
  by_cases h5 : (spN a).length = 0
  · exact BAD 13 (by unfold renR; rw [if_neg (by omega), if_neg (by omega), if_neg (by omega), if_neg (by rw [h4]; simp), if_pos (.inl (len_zero.1 h5))]) (ren5 a b t T.F A O T.bl T.ino K w h hs hs2 h1 h2 _ _ _ HFa h5)
  by_cases h6 : (spN b).length = 0
  · exact BAD 13 (by unfold renR; rw [if_neg (by omega), if_neg (by omega), if_neg (by omega), if_neg (by rw [h4]; simp), if_pos (.inr (len_zero.1 h6))]) (ren5b a b t T.F A O T.bl T.ino K w h hs hs2 h1 h2 _ _ _ HFa h5 h6)
  have a0 : ¬ spN a = [] := fun e => h5 (len_zero.2 e)
  have b0 : ¬ spN b = [] := fun e => h6 (len_zero.2 e)
  have h56 : ¬ (spN a = [] ∨ spN b = []) := fun e => e.elim a0 b0
  by_cases h7 : folE T.F (spN b) = 0
  case neg => exact BAD _ (by unfold renR; rw [if_neg (by omega), if_neg (by omega), if_neg (by omega), if_neg (by rw [h4]; simp), if_neg h56, if_pos h7]) (ren6 a b t T.F A O T.bl T.ino K w h hs hs2 h1 h2 _ _ _ HFa h5 h6 _ _ _ _ h7 (fun wb v hT hv => follow_bad hT hv (by omega) nb rfl h7))
  by_cases h8 : spN a = spN b
  · refine BAD 0 (by unfold renR; rw [if_neg (by omega), if_neg (by omega), if_neg (by omega), if_neg (by rw [h4]; simp), if_neg h56, if_neg (by omega), if_pos h8]) (ren7 a b t T.F A O T.bl T.ino K w h hs hs2 h1 h2 _ _ _ HFa h5 h6 (upO A (spN a)) (lastN (spN a)) (fun wb v hT hv => ?_) (fun wb _ => (eqN_eq _ wb).1))
    have := follow_ok hT hv (by omega) nb h7
    rwa [← h8, ndO_some h4] at this
  have hu := unB_iff h1 h2
  have hren : ¬ Un (spN a) (spN b) → renR T a b = if (T.F (spN b)).isSome = true then repR T (spN a) (spN b) else movR T (spN a) (spN b) := fun h9 => by
    unfold renR
    rw [if_neg (by omega), if_neg (by omega), if_neg (by omega), if_neg (by rw [h4]; simp), if_neg h56, if_neg (by omega), if_neg h8, if_neg h9]
  have hren13 : Un (spN a) (spN b) → renR T a b = (13, T) := fun h9 => by
    unfold renR
    rw [if_neg (by omega), if_neg (by omega), if_neg (by omega), if_neg (by rw [h4]; simp), if_neg h56, if_neg (by omega), if_neg h8, if_pos h9]
  have hlb := last_name h2 b0
  cases h10 : T.F (spN b) with
  | none =>
    have HFb : ∀ wb v, Tr wb t T.F A O T.bl T.ino K → Tx wb v (spN b) → Calls Tryd.prog 36 #[ptr t, v] wb fun e w' => e = .returned (.tuple #[.agg #[.pointer (upO A (spN b)), .string (lastN (spN b)), .pointer none], .int .i64 0]) ∧ Below wb.heap.size wb w' := fun wb v hT hv => by
      have := follow_ok hT hv (by omega) nb h7
      rwa [ndO_none h10] at this
    by_cases h9 : Un (spN a) (spN b)
    · exact BAD 13 (hren13 h9) (ren8N a b t T.F A O T.bl T.ino K w h hs hs2 h1 h2 _ _ _ HFa h5 h6 _ _ HFb (fun wb _ => eqN_nil _ wb) (by rw [hu]; simpa using h9))
    · rw [hren h9, h10]
      simp only [Option.isSome_none, Bool.false_eq_true, if_false]
      refine ren9N a b t T.F A O T.bl T.ino K w h hs hs2 h1 h2 _ _ _ HFa h5 h6 _ _ HFb (fun wb _ => eqN_nil _ wb) (by rw [hu]; simpa using h9) _ (fun w' => TrS N w w' t O (movR T (spN a) (spN b)).2 (K + 2)) (fun wb hb => ?_)
      refine (mov_any (N := N) (h.below hb) (tab_below hT hb) (by omega) a0 b0 (by rw [h4]; rfl) h10 (fol_dir h7 b0) hlb h9 none).mono ?_
      rintro e w' ⟨rfl, g⟩
      exact ⟨rfl, TrTo.before (TrTo.more g (by omega)) hb⟩
  | some ng =>
    have HFb : ∀ wb v, Tr wb t T.F A O T.bl T.ino K → Tx wb v (spN b) → Calls Tryd.prog 36 #[ptr t, v] wb fun e w' => e = .returned (.tuple #[.agg #[.pointer (upO A (spN b)), .string (lastN (spN b)), .pointer (some ⟨A (spN b), 0, none⟩)], .int .i64 0]) ∧ Below wb.heap.size wb w' := fun wb v hT hv => by
      have := follow_ok hT hv (by omega) nb h7
      rwa [ndO_some h10] at this
    have HQ : ∀ wb, Below w.heap.size w wb → (binOp .eql 56 (.pointer (some ⟨A (spN b), 0, none⟩)) (.pointer (some ⟨A (spN a), 0, none⟩))).run Tryd.prog wb = .ok (.bool false) wb := fun wb hb => by
      have h2 := h.below hb
      obtain ⟨va, ea⟩ := h2.cell0 h4
      obtain ⟨vb, eb⟩ := h2.cell0 h10
      exact (eqN_ne (fun e => h8 (h.inj h10 h4 e).symm) eb ea (h2.fr _ _ h10) (h2.fr _ _ h4)).1
    by_cases h9 : Un (spN a) (spN b)
    · exact BAD 13 (hren13 h9) (ren8S a b t T.F A O T.bl T.ino K w h hs hs2 h1 h2 _ _ _ HFa h5 h6 _ _ _ HFb HQ (by rw [hu]; simpa using h9))
    · rw [hren h9, h10]
      simp only [Option.isSome_some, if_true]
      refine ren9S a b t T.F A O T.bl T.ino K w h hs hs2 h1 h2 _ _ _ HFa h5 h6 _ _ _ HFb HQ (by rw [hu]; simpa using h9) _ (fun w' => TrS N w w' t O (repR T (spN a) (spN b)).2 (K + 2)) (fun wb hb => ?_)
      refine (rep_any (N := N) (h.below hb) (tab_below hT hb) (by omega) hO0 a0 b0 h4 h10 hlb h9).mono ?_
      rintro e w' ⟨rfl, g⟩
      exact ⟨rfl, TrTo.before g hb⟩
end Go.Proofs.YtdcmkcplklkfmaaDoor

namespace Go.Proofs.YtdcmkcplklkfmaaDoor
open Go.RowKit Go.Maps

abbrev ndO4 (f : Bool) (m : Option Nat) : Obj := .cells #[.bool f, .slice none 0 0, .map m, .int .i64 0] 55
set_option maxHeartbeats 800000 in
theorem newFile_any (w : World) : Calls Tryd.prog 23 #[] w fun e w' => e = .returned (ptr w.heap.size) ∧ w' = w.alloc (ndO4 true none) := by
  go_enter Tryd.func23, Tryd.ntmps23
  go_wp2_with fail
  go_ret
  exact ⟨rfl, rfl⟩
set_option maxHeartbeats 800000 in
theorem newDir_any (w : World) : Calls Tryd.prog 18 #[] w fun e w' => e = .returned (ptr (w.heap.size + 1)) ∧ w' = (w.alloc (.map #[] 0)).alloc (ndO4 false (some w.heap.size)) := by
  have hmm := @run_makeMap Tryd.prog
  go_enter Tryd.func18, Tryd.ntmps18
  go_wp2
  go_ret
  exact ⟨rfl, rfl⟩
/-- A new node's own blocks. -/
def newR (b0 : Nat) : Nd → Nat → Option Nat
  | .file _, b => if b = b0 then some 0 else none
  | .dir _ _, b => if b = b0 then some 0 else if b + 1 = b0 then some 1 else none
/-- A new node lies at b0. -/
structure NewN (w : World) (N : Nat) (b0 : Nat) (nd0 : Nd) : Prop where
  kind : nd0 = .file [] ∨ nd0 = .dir 0 []
  lt : ∀ b r, newR b0 nd0 b = some r → b < w.heap.size ∧ N ≤ b
  at0 : newR b0 nd0 b0 = some 0
  mem : ∀ (A : Pth → Nat) (O : Nat → Option (Pth × Nat)) (p : Pth), A p = b0 → (∀ b r, newR b0 nd0 b = some r → O b = some (p, r)) → NdM w A O p nd0
  fr : ∀ i, w.frozen? ⟨b0, i, none⟩ = false
theorem NewN.file (w : World) (N : Nat) (h : N ≤ w.heap.size) : NewN (w.alloc (ndO4 true none)) N w.heap.size (.file []) := by
  have hb := heap_alloc_new w (ndO4 true none)
  refine ⟨.inl rfl, fun b r hr => ?_, if_pos rfl, fun A O p hA hO => ?_, fun i => ?_⟩
  · have hr' : (if b = w.heap.size then some 0 else none) = some r := hr
    by_cases e : b = w.heap.size
    · subst e; exact ⟨by simp, h⟩
    · rw [if_neg e] at hr'; cases hr'
  · unfold NdM
    rw [hA]
    refine ⟨?_, ⟨.slice none 0 0, ?_, World.ownsRow_nil _ _ _ _, fun b hb => by cases hb⟩, ?_, ?_⟩ <;> · rw [cell_of_row _ _ _ _ _ _ hb]; rfl
  · simp only [World.frozen?, hb]
    simp
theorem NewN.dir (w : World) (N : Nat) (h : N ≤ w.heap.size) : NewN ((w.alloc (.map #[] 0)).alloc (ndO4 false (some w.heap.size))) N (w.heap.size + 1) (.dir 0 []) := by
  have hb := heap_alloc_new (w.alloc (.map #[] 0)) (ndO4 false (some w.heap.size))
  have z1 : (w.alloc (.map #[] 0)).heap.size = w.heap.size + 1 := by simp
  rw [z1] at hb
  have hm := SMap.new w
  refine ⟨.inr rfl, fun b r hr => ?_, if_pos rfl, fun A O p hA hO => ?_, fun i => ?_⟩
  · have hr' : (if b = w.heap.size + 1 then some 0 else if b + 1 = w.heap.size + 1 then some 1 else none) = some r := hr
    by_cases e : b = w.heap.size + 1
    · subst e; exact ⟨by simp, by omega⟩
    · rw [if_neg e] at hr'
      by_cases e2 : b + 1 = w.heap.size + 1
      · exact ⟨by simp; omega, by omega⟩
      · rw [if_neg e2] at hr'; cases hr'
  · unfold NdM
    rw [hA]
    refine ⟨?_, ?_, ⟨w.heap.size, ?_, hO _ 1 ?_, ?_⟩, ?_⟩
    · rw [cell_of_row _ _ _ _ _ _ hb]; rfl
    · rw [cell_of_row _ _ _ _ _ _ hb]; rfl
    · rw [cell_of_row _ _ _ _ _ _ hb]; rfl
    · show (if w.heap.size = w.heap.size + 1 then some 0 else if w.heap.size + 1 = w.heap.size + 1 then some 1 else none) = some 1
      rw [if_neg (by omega), if_pos rfl]
    · exact (hm.kept ((Chg.ofBelowC (below_alloc _ _)).block _ hm.lt (fun h => h))).ext (fun s _ => rfl)
    · rw [cell_of_row _ _ _ _ _ _ hb]; rfl
  · simp only [World.frozen?, hb]
    simp

theorem add_any {N : Nat} {w : World} {t : Nat} {T : Ts} {A : Pth → Nat} {O : Nat → Option (Pth × Nat)} {K : Nat} (h : Tr w t T.F A O T.bl T.ino K) (hT : Tab w) (hK : K ≤ 70000) {ns : Pth} (hf : folE T.F ns = 0) (hnm : ¬ ns = [] → nameB (lastN ns) = true) {b0 : Nat} {nd0 : Nd} (hN : NewN w N b0 nd0) (hRO : ∀ b r, newR b0 nd0 b = some r → O b = none) :
    Calls Tryd.prog 22 #[ptr t, .agg #[.pointer (upO A ns), .string (lastN ns), .pointer (ndO T.F A ns)], ptr b0] w fun e w' => e = .returned (.int .i64 (addR T ns nd0).1) ∧ TrS N w w' t O (addR T ns nd0).2 (K + 1) := by
  cases e : T.F ns with
  | some nd =>
    have ea : addR T ns nd0 = (9, T) := by unfold addR; rw [e]
    rw [ea, ndO_some e]
    refine (add_exists t _ _ _ _ w).mono ?_
    rintro e w' ⟨rfl, B⟩
    exact ⟨rfl, TrTo.refl h (by omega) B⟩
  | none =>
    rw [ndO_none e]
    have h0 : ¬ ns = [] := fun e2 => by
      obtain ⟨s, kn, hr⟩ := h.rdir
      rw [e2, hr] at e; cases e
    obtain ⟨s, kn, hF⟩ := fol_dir hf h0
    have hny := hnm h0
    have hs := pth_split h0
    have ea : addR T ns nd0 = if T.ino = 0 ∨ T.bl < furB s kn.length then (7, T) else (0, ⟨setN (setN T.F ns.dropLast (some (.dir (max s (kn.length + 1)) (lastN ns :: kn)))) ns (some nd0), T.bl - furB s kn.length, T.ino - 1⟩) := by unfold addR; rw [e]; simp only [hF]
    rw [ea]
    obtain ⟨p, hp⟩ : ∃ p, ns.dropLast = p := ⟨_, rfl⟩
    obtain ⟨x, hx⟩ : ∃ x, lastN ns = x := ⟨_, rfl⟩
    rw [hp, hx] at hs
    rw [hp] at hF
    rw [hx] at hny
    rw [hp, hx]
    clear hp hx ea
    subst hs
    rw [upO_next]
    obtain ⟨m, m0, m1, m2, m3, mO, mM, htm, hAm⟩ := h.dirM hF
    obtain ⟨a1, a2, a3, a4⟩ := h.nms p s kn hF
    have bb := h.bb
    have ib := h.ib
    have hxn : ¬ x ∈ kn := fun hm => by
      have := (h.mem hF x).1 hm
      rw [e] at this; cases this
    by_cases hi : T.ino = 0
    · rw [if_pos (.inl hi)]
      refine (add_full0 t (A p) x _ w (by rw [← hi]; exact h.cin)).mono ?_
      rintro e w' ⟨rfl, B⟩
      exact ⟨rfl, TrTo.refl h (by omega) B⟩
    by_cases hq : T.bl < furB s kn.length
    · rw [if_pos (.inr hq)]
      refine (add_full t (A p) m kn.length s x _ _ T.bl T.ino w hT h.cbl h.cin hi m2 mM m3 a3 (by omega) hq).mono ?_
      rintro e w' ⟨rfl, B⟩
      exact ⟨rfl, TrTo.refl h (by omega) B⟩
    · rw [if_neg (fun e => e.elim hi hq)]
      have fb := furB_bd s kn.length
      refine (add_ok t (A p) m kn.length s x _ _ T.bl T.ino w hT (name_size hny) h.cbl h.cin hi m2 mM m3 a3 (by omega) (kidF_none hxn) htm (hAm p _ hF) h.frT (h.fr p _ hF) (by omega) (by omega) (by omega) (by omega) hq).mono ?_
      rintro e w' ⟨rfl, hm', U, k4, k5, k3⟩
      refine ⟨rfl, ?_⟩
      refine h.add (R := newR b0 nd0) (K' := K + 1) (by omega) hF hxn hny m2 hN.at0 (fun b r hr => ⟨hRO b r hr, hN.lt b r hr⟩) hN.kind (hN.mem _ _ _ (if_pos rfl) (fun b r hr => by simp only [hr])) hN.fr U hm' k3 k4 k5 ⟨(by show 0 ≤ T.bl - furB s kn.length; omega), (by show T.bl - furB s kn.length ≤ _; omega)⟩ ⟨(by show 0 ≤ T.ino - 1; omega), (by show T.ino - 1 ≤ _; omega)⟩

theorem ext_any {N : Nat} {w : World} {t : Nat} {T : Ts} {A : Pth → Nat} {O : Nat → Option (Pth × Nat)} {K : Nat} (h : Tr w t T.F A O T.bl T.ino K) (hK : K ≤ 70000) (ns : Pth) (dv : Value) (ds : List Int) (hd : Bs w dv ds) (hB : IsB ds) (hdt : ∀ a n c, dv = .slice (some a) n c → 0 < n → ¬ a.block = t) (hN : N ≤ w.heap.size) :
    Calls Tryd.prog 24 #[ptr t, .pointer (ndO T.F A ns), dv] w fun e w' => e = .returned (.int .i64 (extR T ns ds).1) ∧ TrS N w w' t O (extR T ns ds).2 (K + 1) := by
  have bb := h.bb
  have SAME : ∀ w', w' = w → TrS N w w' t O T (K + 1) := fun w' e => by rw [e]; exact TrTo.refl h (by omega) (Below.refl _ _)
  cases e : T.F ns with
  | none =>
    have ea : extR T ns ds = (8, T) := by unfold extR; rw [e]
    rw [ea, ndO_none e]
    refine (extend_nil t dv w).mono ?_
    rintro e w' ⟨rfl, hw⟩
    exact ⟨rfl, SAME w' hw⟩
  | some nd =>
    rw [ndO_some e]
    cases nd with
    | dir s kn =>
      have ea : extR T ns ds = (10, T) := by unfold extR; rw [e]
      rw [ea]
      refine (extend_dir t _ dv w (h.nd _ _ e).1).mono ?_
      rintro e w' ⟨rfl, hw⟩
      exact ⟨rfl, SAME w' hw⟩
    | file bs =>
      obtain ⟨m0, ⟨v, m1, m2, m3⟩, m4, m5⟩ := h.nd _ _ e
      obtain ⟨hl, hIB⟩ := h.fil _ _ e
      have ea : extR T ns ds = if 8458240 < bs.length + ds.length then (5, T) else if T.bl < allN ((bs.length : Int) + ds.length) - allN bs.length then (7, T) else (0, ⟨setN T.F ns (some (.file (bs ++ ds))), T.bl - (allN ((bs.length : Int) + ds.length) - allN bs.length), T.ino⟩) := by unfold extR; rw [e]
      rw [ea]
      have hvo : ∀ b, v.ownBlock = some b → ¬ b = t ∧ ¬ b = A ns := fun b hb => by
        have := m3 b hb
        refine ⟨fun e2 => ?_, fun e2 => ?_⟩
        · rw [e2, h.atT] at this; cases this
        · rw [e2, h.own _ _ e] at this; cases this
      by_cases hlong : 8458240 < bs.length + ds.length
      · rw [if_pos hlong]
        refine (extend_long t _ v dv bs ds w m0 m1 m2 hd hl hlong).mono ?_
        rintro e w' ⟨rfl, B⟩
        exact ⟨rfl, TrTo.refl h (by omega) B⟩
      · rw [if_neg hlong]
        have x1 := allN_bd ((bs.length : Int) + ds.length)
        have x2 := allN_bd (bs.length : Int)
        refine (extend_fit t (A ns) v dv bs ds T.bl w m0 m1 m2 hd (by omega) h.cbl (by omega) (by omega) h.frT (h.fr _ _ e) hvo hdt).mono ?_
        rintro e' w' (⟨hq, rfl, B⟩ | ⟨hq, rfl, v', k1, ho, hat, U, k4⟩)
        · rw [if_pos hq]
          exact ⟨rfl, TrTo.refl h (by omega) B⟩
        · rw [if_neg (by omega)]
          refine ⟨rfl, ?_⟩
          refine TrTo.less (h.data (K' := K + 1) (bs' := bs ++ ds) (by omega) e m1 U k1 (by rw [List.length_append]; exact ho) ?_ k4 (by rw [List.length_append]; omega) (fun z hz => ?_) ⟨(by show 0 ≤ T.bl - _; omega), (by show T.bl - _ ≤ _; omega)⟩) hN
          · rcases hat with h1 | ⟨b, h1, h2⟩
            · exact .inl h1
            · exact .inr (fun b' hb' => by rw [h1] at hb'; cases hb'; exact h2)
          · rcases List.mem_append.1 hz with hz | hz
            · exact hIB z hz
            · exact hB z hz
theorem allN_mono {k n : Nat} (h : k ≤ n) (hn : n ≤ 8458240) : allN k ≤ allN n := by
  have e1 : blkN (k : Int) = ((k : Int) + 511) / 512 := if_pos ⟨by omega, by omega⟩
  have e2 : blkN (n : Int) = ((n : Int) + 511) / 512 := if_pos ⟨by omega, by omega⟩
  unfold allN innN
  rw [e1, e2]
  repeat' split
  all_goals omega
theorem cutT_any {N : Nat} {w : World} {t : Nat} {T : Ts} {A : Pth → Nat} {O : Nat → Option (Pth × Nat)} {K : Nat} (h : Tr w t T.F A O T.bl T.ino K) (hK : K ≤ 70000) (ns : Pth) (n : Int) (hN : N ≤ w.heap.size) :
    Calls Tryd.prog 25 #[ptr t, .pointer (ndO T.F A ns), .int .i64 n] w fun e w' => e = .returned (.int .i64 (cutR T ns n).1) ∧ TrS N w w' t O (cutR T ns n).2 (K + 1) := by
  have bb := h.bb
  have SAME : ∀ w', w' = w → TrS N w w' t O T (K + 1) := fun w' e => by rw [e]; exact TrTo.refl h (by omega) (Below.refl _ _)
  cases e : T.F ns with
  | none =>
    have ea : cutR T ns n = (8, T) := by unfold cutR; rw [e]
    rw [ea, ndO_none e]
    refine (tcut_nil t n w).mono ?_
    rintro e w' ⟨rfl, hw⟩
    exact ⟨rfl, SAME w' hw⟩
  | some nd =>
    rw [ndO_some e]
    cases nd with
    | dir s kn =>
      have ea : cutR T ns n = (10, T) := by unfold cutR; rw [e]
      rw [ea]
      refine (tcut_dir t _ n w (h.nd _ _ e).1).mono ?_
      rintro e w' ⟨rfl, hw⟩
      exact ⟨rfl, SAME w' hw⟩
    | file bs =>
      obtain ⟨m0, ⟨v, m1, m2, m3⟩, m4, m5⟩ := h.nd _ _ e
      obtain ⟨hl, hIB⟩ := h.fil _ _ e
      have ea : cutR T ns n = if 0 ≤ n ∧ n ≤ bs.length then (0, ⟨setN T.F ns (some (.file (bs.take n.toNat))), T.bl + (allN bs.length - allN n.toNat), T.ino⟩) else (1, T) := by unfold cutR; rw [e]
      rw [ea]
      have hvo : ∀ b, v.ownBlock = some b → ¬ b = t ∧ ¬ b = A ns := fun b hb => by
        have := m3 b hb
        refine ⟨fun e2 => ?_, fun e2 => ?_⟩
        · rw [e2, h.atT] at this; cases this
        · rw [e2, h.own _ _ e] at this; cases this
      by_cases hn : 0 ≤ n ∧ n ≤ bs.length
      · rw [if_pos hn]
        obtain ⟨k, rfl⟩ : ∃ k : Nat, n = k := ⟨n.toNat, by omega⟩
        have hk : k ≤ bs.length := by omega
        rw [Int.toNat_natCast]
        have x1 := allN_bd (k : Int)
        have x2 := allN_bd (bs.length : Int)
        refine (tcut_ok t (A ns) k v bs T.bl w m0 m1 m2 hk hl h.cbl (by omega) (by omega) h.frT (h.fr _ _ e) hvo).mono ?_
        rintro e' w' ⟨rfl, v', k1, ho, hat, U, k4⟩
        refine ⟨rfl, ?_⟩
        have hm := allN_mono hk hl
        refine TrTo.less (h.data (K' := K + 1) (bs' := bs.take k) (by omega) e m1 (U.mono (fun _ _ h => h) (fun _ h => h.elim)) k1 (by rw [List.length_take, Nat.min_eq_left hk]; exact ho) (.inr hat) k4 (by rw [List.length_take]; omega) (fun z hz => hIB z (List.mem_of_mem_take hz)) ⟨(by show 0 ≤ T.bl + _; omega), (by show T.bl + _ ≤ _; omega)⟩) hN
      · rw [if_neg hn]
        refine (tcut_arg t _ n v bs w m0 m1 m2 hn).mono ?_
        rintro e w' ⟨rfl, hw⟩
        exact ⟨rfl, SAME w' hw⟩
end Go.Proofs.YtdcmkcplklkfmaaDoor

namespace Go.Proofs.YtdcmkcplklkfmaaDoor
open Go.RowKit Go.Maps

abbrev opO (k : Int) (p q : ByteArray) (dv : Value) (n : Int) : Obj := .cells #[.int .i64 k, .string p, .string q, dv, .int .i64 n] 35
set_option maxHeartbeats 3200000 in
set_option maxRecDepth 100000 in
theorem d_arg0 (t : Nat) (k : Int) (p q : ByteArray) (sa : Option Addr) (sl sc : Nat) (n : Int) (w : World) (hk : k < 1) :
    Calls Tryd.prog 12 #[ptr t, .agg #[.int .i64 k, .string p, .string q, .slice sa sl sc, .int .i64 n]] w fun e w' => e = .returned (.int .i64 1) ∧ Below w.heap.size w w' := by
  go_enter Tryd.func12, Tryd.ntmps12
  go_wp2_with fail
  go_ret
  exact ⟨rfl, below_alloc _ _⟩
set_option maxHeartbeats 3200000 in
set_option maxRecDepth 100000 in
theorem d_arg7 (t : Nat) (k : Int) (p q : ByteArray) (sa : Option Addr) (sl sc : Nat) (n : Int) (w : World) (hk : 7 < k) :
    Calls Tryd.prog 12 #[ptr t, .agg #[.int .i64 k, .string p, .string q, .slice sa sl sc, .int .i64 n]] w fun e w' => e = .returned (.int .i64 1) ∧ Below w.heap.size w w' := by
  have hk1 : ¬ k < 1 := by omega
  go_enter Tryd.func12, Tryd.ntmps12
  go_wp2_with fail
  go_ret
  exact ⟨rfl, below_alloc _ _⟩
set_option maxHeartbeats 3200000 in
set_option maxRecDepth 100000 in
theorem d_ren (t : Nat) (p q : ByteArray) (sa : Option Addr) (sl sc : Nat) (n : Int) (w : World) (c : Int) (P : World → Prop) (HM : ∀ wb, Below w.heap.size w wb → Calls Tryd.prog 20 #[ptr t, .string p, .string q] wb fun e w' => e = .returned (.int .i64 c) ∧ P w') :
    Calls Tryd.prog 12 #[ptr t, .agg #[.int .i64 7, .string p, .string q, .slice sa sl sc, .int .i64 n]] w fun e w' => e = .returned (.int .i64 c) ∧ P w' := by
  go_enter Tryd.func12, Tryd.ntmps12
  go_wp2_with fail
  refine (HM _ (below_alloc _ _)).mono ?_
  rintro e w1 ⟨rfl, hP⟩
  have HP : Hid (P w1) := hP
  clear HM hP
  go_wp2_with fail
  go_ret
  exact ⟨rfl, HP.out⟩
set_option maxHeartbeats 3200000 in
set_option maxRecDepth 100000 in
theorem d_bad1 (t : Nat) (p q : ByteArray) (sa : Option Addr) (sl sc : Nat) (n : Int) (w : World) (o0 : Option Addr) (x1 : ByteArray) (o2 : Option Addr) (c : Int) (hc : ¬ c = 0) (HF : ∀ wb, Below w.heap.size w wb → Calls Tryd.prog 21 #[ptr t, .string p] wb fun e w' => e = .returned (.tuple #[.agg #[.pointer o0, .string x1, .pointer o2], .int .i64 c]) ∧ Below wb.heap.size wb w') :
    Calls Tryd.prog 12 #[ptr t, .agg #[.int .i64 1, .string p, .string q, .slice sa sl sc, .int .i64 n]] w fun e w' => e = .returned (.int .i64 c) ∧ Below w.heap.size w w' := by
  have hc1 : decide (c = 0) = false := by simpa using hc
  have hc2 : (c == 0) = false := by simpa using hc
  have A0 := below_alloc w (opO 1 p q (.slice sa sl sc) n)
  have hb := heap_alloc_new w (opO 1 p q (.slice sa sl sc) n)
  go_enter Tryd.func12, Tryd.ntmps12
  go_wp2_with fail
  refine (HF _ A0).mono ?_
  clear HF
  rintro e w1 ⟨rfl, B1⟩
  have hb1 := ((Chg.ofBelowC B1).block w.heap.size (by simp) (fun h => h)).trans hb
  have B1' := A0.trans (B1.mono A0.size)
  have hlt : w.heap.size < w1.heap.size := by have := B1.size; simp at this; omega
  have B2 := below_alloc w1 (spO (.pointer o0) (.string x1) (.pointer o2))
  have S2 := Sp.alloc w1 (.pointer o0) (.string x1) (.pointer o2)
  have hb2 := ((Chg.ofBelowC B2).block w.heap.size hlt (fun h => h)).trans hb1
  have c0 : (w1.alloc (spO (.pointer o0) (.string x1) (.pointer o2))).cell? ⟨w.heap.size, 0, none⟩ = some (.int .i64 1) := by rw [cell_of_row _ _ _ _ _ _ hb2]; rfl
  have c3 : (w1.alloc (spO (.pointer o0) (.string x1) (.pointer o2))).cell? ⟨w.heap.size, 3, none⟩ = some (.slice sa sl sc) := by rw [cell_of_row _ _ _ _ _ _ hb2]; rfl
  have c4 : (w1.alloc (spO (.pointer o0) (.string x1) (.pointer o2))).cell? ⟨w.heap.size, 4, none⟩ = some (.int .i64 n) := by rw [cell_of_row _ _ _ _ _ _ hb2]; rfl
  have HB : Hid (Below w.heap.size w (w1.alloc (spO (.pointer o0) (.string x1) (.pointer o2)))) := B1'.trans (B2.mono B1'.size)
  clear A0 hb B1 hb1 B1' B2 hb2
  go_wp2_with fail
  go_ret
  exact ⟨rfl, HB.out⟩
set_option maxHeartbeats 3200000 in
set_option maxRecDepth 100000 in
theorem d_bad2 (t : Nat) (p q : ByteArray) (sa : Option Addr) (sl sc : Nat) (n : Int) (w : World) (o0 : Option Addr) (x1 : ByteArray) (o2 : Option Addr) (c : Int) (hc : ¬ c = 0) (HF : ∀ wb, Below w.heap.size w wb → Calls Tryd.prog 21 #[ptr t, .string p] wb fun e w' => e = .returned (.tuple #[.agg #[.pointer o0, .string x1, .pointer o2], .int .i64 c]) ∧ Below wb.heap.size wb w') :
    Calls Tryd.prog 12 #[ptr t, .agg #[.int .i64 2, .string p, .string q, .slice sa sl sc, .int .i64 n]] w fun e w' => e = .returned (.int .i64 c) ∧ Below w.heap.size w w' := by
  have hc1 : decide (c = 0) = false := by simpa using hc
  have hc2 : (c == 0) = false := by simpa using hc
  have A0 := below_alloc w (opO 2 p q (.slice sa sl sc) n)
  have hb := heap_alloc_new w (opO 2 p q (.slice sa sl sc) n)
  go_enter Tryd.func12, Tryd.ntmps12
  go_wp2_with fail
  refine (HF _ A0).mono ?_
  clear HF
  rintro e w1 ⟨rfl, B1⟩
  have hb1 := ((Chg.ofBelowC B1).block w.heap.size (by simp) (fun h => h)).trans hb
  have B1' := A0.trans (B1.mono A0.size)
  have hlt : w.heap.size < w1.heap.size := by have := B1.size; simp at this; omega
  have B2 := below_alloc w1 (spO (.pointer o0) (.string x1) (.pointer o2))
  have S2 := Sp.alloc w1 (.pointer o0) (.string x1) (.pointer o2)
  have hb2 := ((Chg.ofBelowC B2).block w.heap.size hlt (fun h => h)).trans hb1
  have c0 : (w1.alloc (spO (.pointer o0) (.string x1) (.pointer o2))).cell? ⟨w.heap.size, 0, none⟩ = some (.int .i64 2) := by rw [cell_of_row _ _ _ _ _ _ hb2]; rfl
  have c3 : (w1.alloc (spO (.pointer o0) (.string x1) (.pointer o2))).cell? ⟨w.heap.size, 3, none⟩ = some (.slice sa sl sc) := by rw [cell_of_row _ _ _ _ _ _ hb2]; rfl
  have c4 : (w1.alloc (spO (.pointer o0) (.string x1) (.pointer o2))).cell? ⟨w.heap.size, 4, none⟩ = some (.int .i64 n) := by rw [cell_of_row _ _ _ _ _ _ hb2]; rfl
  have HB : Hid (Below w.heap.size w (w1.alloc (spO (.pointer o0) (.string x1) (.pointer o2)))) := B1'.trans (B2.mono B1'.size)
  clear A0 hb B1 hb1 B1' B2 hb2
  go_wp2_with fail
  go_ret
  exact ⟨rfl, HB.out⟩
set_option maxHeartbeats 3200000 in
set_option maxRecDepth 100000 in
theorem d_bad3 (t : Nat) (p q : ByteArray) (sa : Option Addr) (sl sc : Nat) (n : Int) (w : World) (o0 : Option Addr) (x1 : ByteArray) (o2 : Option Addr) (c : Int) (hc : ¬ c = 0) (HF : ∀ wb, Below w.heap.size w wb → Calls Tryd.prog 21 #[ptr t, .string p] wb fun e w' => e = .returned (.tuple #[.agg #[.pointer o0, .string x1, .pointer o2], .int .i64 c]) ∧ Below wb.heap.size wb w') :
    Calls Tryd.prog 12 #[ptr t, .agg #[.int .i64 3, .string p, .string q, .slice sa sl sc, .int .i64 n]] w fun e w' => e = .returned (.int .i64 c) ∧ Below w.heap.size w w' := by
  have hc1 : decide (c = 0) = false := by simpa using hc
  have hc2 : (c == 0) = false := by simpa using hc
  have A0 := below_alloc w (opO 3 p q (.slice sa sl sc) n)
  have hb := heap_alloc_new w (opO 3 p q (.slice sa sl sc) n)
  go_enter Tryd.func12, Tryd.ntmps12
  go_wp2_with fail
  refine (HF _ A0).mono ?_
  clear HF
  rintro e w1 ⟨rfl, B1⟩
  have hb1 := ((Chg.ofBelowC B1).block w.heap.size (by simp) (fun h => h)).trans hb
  have B1' := A0.trans (B1.mono A0.size)
  have hlt : w.heap.size < w1.heap.size := by have := B1.size; simp at this; omega
  have B2 := below_alloc w1 (spO (.pointer o0) (.string x1) (.pointer o2))
  have S2 := Sp.alloc w1 (.pointer o0) (.string x1) (.pointer o2)
  have hb2 := ((Chg.ofBelowC B2).block w.heap.size hlt (fun h => h)).trans hb1
  have c0 : (w1.alloc (spO (.pointer o0) (.string x1) (.pointer o2))).cell? ⟨w.heap.size, 0, none⟩ = some (.int .i64 3) := by rw [cell_of_row _ _ _ _ _ _ hb2]; rfl
  have c3 : (w1.alloc (spO (.pointer o0) (.string x1) (.pointer o2))).cell? ⟨w.heap.size, 3, none⟩ = some (.slice sa sl sc) := by rw [cell_of_row _ _ _ _ _ _ hb2]; rfl
  have c4 : (w1.alloc (spO (.pointer o0) (.string x1) (.pointer o2))).cell? ⟨w.heap.size, 4, none⟩ = some (.int .i64 n) := by rw [cell_of_row _ _ _ _ _ _ hb2]; rfl
  have HB : Hid (Below w.heap.size w (w1.alloc (spO (.pointer o0) (.string x1) (.pointer o2)))) := B1'.trans (B2.mono B1'.size)
  clear A0 hb B1 hb1 B1' B2 hb2
  go_wp2_with fail
  go_ret
  exact ⟨rfl, HB.out⟩
set_option maxHeartbeats 3200000 in
set_option maxRecDepth 100000 in
theorem d_bad4 (t : Nat) (p q : ByteArray) (sa : Option Addr) (sl sc : Nat) (n : Int) (w : World) (o0 : Option Addr) (x1 : ByteArray) (o2 : Option Addr) (c : Int) (hc : ¬ c = 0) (HF : ∀ wb, Below w.heap.size w wb → Calls Tryd.prog 21 #[ptr t, .string p] wb fun e w' => e = .returned (.tuple #[.agg #[.pointer o0, .string x1, .pointer o2], .int .i64 c]) ∧ Below wb.heap.size wb w') :
    Calls Tryd.prog 12 #[ptr t, .agg #[.int .i64 4, .string p, .string q, .slice sa sl sc, .int .i64 n]] w fun e w' => e = .returned (.int .i64 c) ∧ Below w.heap.size w w' := by
  have hc1 : decide (c = 0) = false := by simpa using hc
  have hc2 : (c == 0) = false := by simpa using hc
  have A0 := below_alloc w (opO 4 p q (.slice sa sl sc) n)
  have hb := heap_alloc_new w (opO 4 p q (.slice sa sl sc) n)
  go_enter Tryd.func12, Tryd.ntmps12
  go_wp2_with fail
  refine (HF _ A0).mono ?_
  clear HF
  rintro e w1 ⟨rfl, B1⟩
  have hb1 := ((Chg.ofBelowC B1).block w.heap.size (by simp) (fun h => h)).trans hb
  have B1' := A0.trans (B1.mono A0.size)
  have hlt : w.heap.size < w1.heap.size := by have := B1.size; simp at this; omega
  have B2 := below_alloc w1 (spO (.pointer o0) (.string x1) (.pointer o2))
  have S2 := Sp.alloc w1 (.pointer o0) (.string x1) (.pointer o2)
  have hb2 := ((Chg.ofBelowC B2).block w.heap.size hlt (fun h => h)).trans hb1
  have c0 : (w1.alloc (spO (.pointer o0) (.string x1) (.pointer o2))).cell? ⟨w.heap.size, 0, none⟩ = some (.int .i64 4) := by rw [cell_of_row _ _ _ _ _ _ hb2]; rfl
  have c3 : (w1.alloc (spO (.pointer o0) (.string x1) (.pointer o2))).cell? ⟨w.heap.size, 3, none⟩ = some (.slice sa sl sc) := by rw [cell_of_row _ _ _ _ _ _ hb2]; rfl
  have c4 : (w1.alloc (spO (.pointer o0) (.string x1) (.pointer o2))).cell? ⟨w.heap.size, 4, none⟩ = some (.int .i64 n) := by rw [cell_of_row _ _ _ _ _ _ hb2]; rfl
  have HB : Hid (Below w.heap.size w (w1.alloc (spO (.pointer o0) (.string x1) (.pointer o2)))) := B1'.trans (B2.mono B1'.size)
  clear A0 hb B1 hb1 B1' B2 hb2
  go_wp2_with fail
  go_ret
  exact ⟨rfl, HB.out⟩
set_option maxHeartbeats 3200000 in
set_option maxRecDepth 100000 in
theorem d_bad5 (t : Nat) (p q : ByteArray) (sa : Option Addr) (sl sc : Nat) (n : Int) (w : World) (o0 : Option Addr) (x1 : ByteArray) (o2 : Option Addr) (c : Int) (hc : ¬ c = 0) (HF : ∀ wb, Below w.heap.size w wb → Calls Tryd.prog 21 #[ptr t, .string p] wb fun e w' => e = .returned (.tuple #[.agg #[.pointer o0, .string x1, .pointer o2], .int .i64 c]) ∧ Below wb.heap.size wb w') :
    Calls Tryd.prog 12 #[ptr t, .agg #[.int .i64 5, .string p, .string q, .slice sa sl sc, .int .i64 n]] w fun e w' => e = .returned (.int .i64 c) ∧ Below w.heap.size w w' := by
  have hc1 : decide (c = 0) = false := by simpa using hc
  have hc2 : (c == 0) = false := by simpa using hc
  have A0 := below_alloc w (opO 5 p q (.slice sa sl sc) n)
  have hb := heap_alloc_new w (opO 5 p q (.slice sa sl sc) n)
  go_enter Tryd.func12, Tryd.ntmps12
  go_wp2_with fail
  refine (HF _ A0).mono ?_
  clear HF
  rintro e w1 ⟨rfl, B1⟩
  have hb1 := ((Chg.ofBelowC B1).block w.heap.size (by simp) (fun h => h)).trans hb
  have B1' := A0.trans (B1.mono A0.size)
  have hlt : w.heap.size < w1.heap.size := by have := B1.size; simp at this; omega
  have B2 := below_alloc w1 (spO (.pointer o0) (.string x1) (.pointer o2))
  have S2 := Sp.alloc w1 (.pointer o0) (.string x1) (.pointer o2)
  have hb2 := ((Chg.ofBelowC B2).block w.heap.size hlt (fun h => h)).trans hb1
  have c0 : (w1.alloc (spO (.pointer o0) (.string x1) (.pointer o2))).cell? ⟨w.heap.size, 0, none⟩ = some (.int .i64 5) := by rw [cell_of_row _ _ _ _ _ _ hb2]; rfl
  have c3 : (w1.alloc (spO (.pointer o0) (.string x1) (.pointer o2))).cell? ⟨w.heap.size, 3, none⟩ = some (.slice sa sl sc) := by rw [cell_of_row _ _ _ _ _ _ hb2]; rfl
  have c4 : (w1.alloc (spO (.pointer o0) (.string x1) (.pointer o2))).cell? ⟨w.heap.size, 4, none⟩ = some (.int .i64 n) := by rw [cell_of_row _ _ _ _ _ _ hb2]; rfl
  have HB : Hid (Below w.heap.size w (w1.alloc (spO (.pointer o0) (.string x1) (.pointer o2)))) := B1'.trans (B2.mono B1'.size)
  clear A0 hb B1 hb1 B1' B2 hb2
  go_wp2_with fail
  go_ret
  exact ⟨rfl, HB.out⟩
set_option maxHeartbeats 3200000 in
set_option maxRecDepth 100000 in
theorem d_bad6 (t : Nat) (p q : ByteArray) (sa : Option Addr) (sl sc : Nat) (n : Int) (w : World) (o0 : Option Addr) (x1 : ByteArray) (o2 : Option Addr) (c : Int) (hc : ¬ c = 0) (HF : ∀ wb, Below w.heap.size w wb → Calls Tryd.prog 21 #[ptr t, .string p] wb fun e w' => e = .returned (.tuple #[.agg #[.pointer o0, .string x1, .pointer o2], .int .i64 c]) ∧ Below wb.heap.size wb w') :
    Calls Tryd.prog 12 #[ptr t, .agg #[.int .i64 6, .string p, .string q, .slice sa sl sc, .int .i64 n]] w fun e w' => e = .returned (.int .i64 c) ∧ Below w.heap.size w w' := by
  have hc1 : decide (c = 0) = false := by simpa using hc
  have hc2 : (c == 0) = false := by simpa using hc
  have A0 := below_alloc w (opO 6 p q (.slice sa sl sc) n)
  have hb := heap_alloc_new w (opO 6 p q (.slice sa sl sc) n)
  go_enter Tryd.func12, Tryd.ntmps12
  go_wp2_with fail
  refine (HF _ A0).mono ?_
  clear HF
  rintro e w1 ⟨rfl, B1⟩
  have hb1 := ((Chg.ofBelowC B1).block w.heap.size (by simp) (fun h => h)).trans hb
  have B1' := A0.trans (B1.mono A0.size)
  have hlt : w.heap.size < w1.heap.size := by have := B1.size; simp at this; omega
  have B2 := below_alloc w1 (spO (.pointer o0) (.string x1) (.pointer o2))
  have S2 := Sp.alloc w1 (.pointer o0) (.string x1) (.pointer o2)
  have hb2 := ((Chg.ofBelowC B2).block w.heap.size hlt (fun h => h)).trans hb1
  have c0 : (w1.alloc (spO (.pointer o0) (.string x1) (.pointer o2))).cell? ⟨w.heap.size, 0, none⟩ = some (.int .i64 6) := by rw [cell_of_row _ _ _ _ _ _ hb2]; rfl
  have c3 : (w1.alloc (spO (.pointer o0) (.string x1) (.pointer o2))).cell? ⟨w.heap.size, 3, none⟩ = some (.slice sa sl sc) := by rw [cell_of_row _ _ _ _ _ _ hb2]; rfl
  have c4 : (w1.alloc (spO (.pointer o0) (.string x1) (.pointer o2))).cell? ⟨w.heap.size, 4, none⟩ = some (.int .i64 n) := by rw [cell_of_row _ _ _ _ _ _ hb2]; rfl
  have HB : Hid (Below w.heap.size w (w1.alloc (spO (.pointer o0) (.string x1) (.pointer o2)))) := B1'.trans (B2.mono B1'.size)
  clear A0 hb B1 hb1 B1' B2 hb2
  go_wp2_with fail
  go_ret
  exact ⟨rfl, HB.out⟩
set_option maxHeartbeats 3200000 in
set_option maxRecDepth 100000 in
theorem d_create (t : Nat) (p q : ByteArray) (sa : Option Addr) (sl sc : Nat) (n : Int) (w : World) (o0 : Option Addr) (x1 : ByteArray) (o2 : Option Addr) (HF : ∀ wb, Below w.heap.size w wb → Calls Tryd.prog 21 #[ptr t, .string p] wb fun e w' => e = .returned (.tuple #[.agg #[.pointer o0, .string x1, .pointer o2], .int .i64 0]) ∧ Below wb.heap.size wb w') (c : Int) (P : World → Prop) (HM : ∀ wb, Below w.heap.size w wb → Calls Tryd.prog 22 #[ptr t, .agg #[.pointer o0, .string x1, .pointer o2], ptr wb.heap.size] (wb.alloc (ndO4 true none)) fun e w' => e = .returned (.int .i64 c) ∧ P w') :
    Calls Tryd.prog 12 #[ptr t, .agg #[.int .i64 1, .string p, .string q, .slice sa sl sc, .int .i64 n]] w fun e w' => e = .returned (.int .i64 c) ∧ P w' := by
  have A0 := below_alloc w (opO 1 p q (.slice sa sl sc) n)
  have hb := heap_alloc_new w (opO 1 p q (.slice sa sl sc) n)
  go_enter Tryd.func12, Tryd.ntmps12
  go_wp2_with fail
  refine (HF _ A0).mono ?_
  clear HF
  rintro e w1 ⟨rfl, B1⟩
  have hb1 := ((Chg.ofBelowC B1).block w.heap.size (by simp) (fun h => h)).trans hb
  have B1' := A0.trans (B1.mono A0.size)
  have hlt : w.heap.size < w1.heap.size := by have := B1.size; simp at this; omega
  have B2 := below_alloc w1 (spO (.pointer o0) (.string x1) (.pointer o2))
  have S2 := Sp.alloc w1 (.pointer o0) (.string x1) (.pointer o2)
  have hb2 := ((Chg.ofBelowC B2).block w.heap.size hlt (fun h => h)).trans hb1
  have c0 : (w1.alloc (spO (.pointer o0) (.string x1) (.pointer o2))).cell? ⟨w.heap.size, 0, none⟩ = some (.int .i64 1) := by rw [cell_of_row _ _ _ _ _ _ hb2]; rfl
  have c3 : (w1.alloc (spO (.pointer o0) (.string x1) (.pointer o2))).cell? ⟨w.heap.size, 3, none⟩ = some (.slice sa sl sc) := by rw [cell_of_row _ _ _ _ _ _ hb2]; rfl
  have c4 : (w1.alloc (spO (.pointer o0) (.string x1) (.pointer o2))).cell? ⟨w.heap.size, 4, none⟩ = some (.int .i64 n) := by rw [cell_of_row _ _ _ _ _ _ hb2]; rfl
  have HB : Hid (Below w.heap.size w (w1.alloc (spO (.pointer o0) (.string x1) (.pointer o2)))) := B1'.trans (B2.mono B1'.size)
  clear A0 hb B1 hb1 B1' B2 hb2
  go_wp2_with fail
  obtain ⟨w2, hw2⟩ : ∃ w2, (w1.alloc (spO (.pointer o0) (.string x1) (.pointer o2))) = w2 := ⟨_, rfl⟩
  rw [hw2] at S2 c0 c3 c4 HB
  rw [hw2]
  clear hw2
  obtain ⟨s0, s1, s2⟩ := S2.c
  have hz : w1.heap.size < w2.heap.size := S2.lt
  have BN := HB.out.trans ((below_drew w.heap.size w2))
  have NF : Hid (Calls Tryd.prog 23 #[] w2.drew fun e w3 => ∃ b0, e = .returned (ptr b0) ∧ w3.cell? ⟨w1.heap.size, 0, none⟩ = some (.pointer o0) ∧ w3.cell? ⟨w1.heap.size, 1, none⟩ = some (.string x1) ∧ w3.cell? ⟨w1.heap.size, 2, none⟩ = some (.pointer o2) ∧ Hid (Calls Tryd.prog 22 #[ptr t, .agg #[.pointer o0, .string x1, .pointer o2], ptr b0] w3 fun e w' => e = .returned (.int .i64 c) ∧ P w')) := by
    refine (newFile_any w2.drew).mono ?_
    rintro e w3 ⟨rfl, rfl⟩
    have hw := HM w2.drew BN
    have BB : Below w2.drew.heap.size w2.drew (w2.drew.alloc (ndO4 true none)) := below_alloc _ _
    have SS := (S2.kept (Chg.drew (fun _ => False) w2) (fun h => h)).kept (Chg.ofBelowC BB) (fun h => h)
    exact ⟨_, rfl, SS.c.1, SS.c.2.1, SS.c.2.2, hw⟩
  clear HM BN S2 hz
  go_region_with (first | (go_at_call 23; refine NF.out.mono ?_; clear NF; rintro e w3 ⟨b0, rfl, d0, d1, d2, HAD⟩) | (go_at_call 22; refine HAD.out.mono ?_; clear HAD; rintro e w4 ⟨rfl, hP⟩))
  all_goals
    have HP : Hid (P w4) := hP
    clear hP
    go_wp2_with fail
    go_ret
    exact ⟨rfl, HP.out⟩
set_option maxHeartbeats 3200000 in
set_option maxRecDepth 100000 in
theorem d_mkdir (t : Nat) (p q : ByteArray) (sa : Option Addr) (sl sc : Nat) (n : Int) (w : World) (o0 : Option Addr) (x1 : ByteArray) (o2 : Option Addr) (HF : ∀ wb, Below w.heap.size w wb → Calls Tryd.prog 21 #[ptr t, .string p] wb fun e w' => e = .returned (.tuple #[.agg #[.pointer o0, .string x1, .pointer o2], .int .i64 0]) ∧ Below wb.heap.size wb w') (c : Int) (P : World → Prop) (HM : ∀ wb, Below w.heap.size w wb → Calls Tryd.prog 22 #[ptr t, .agg #[.pointer o0, .string x1, .pointer o2], ptr (wb.heap.size + 1)] ((wb.alloc (.map #[] 0)).alloc (ndO4 false (some wb.heap.size))) fun e w' => e = .returned (.int .i64 c) ∧ P w') :
    Calls Tryd.prog 12 #[ptr t, .agg #[.int .i64 2, .string p, .string q, .slice sa sl sc, .int .i64 n]] w fun e w' => e = .returned (.int .i64 c) ∧ P w' := by
  have A0 := below_alloc w (opO 2 p q (.slice sa sl sc) n)
  have hb := heap_alloc_new w (opO 2 p q (.slice sa sl sc) n)
  go_enter Tryd.func12, Tryd.ntmps12
  go_wp2_with fail
  refine (HF _ A0).mono ?_
  clear HF
  rintro e w1 ⟨rfl, B1⟩
  have hb1 := ((Chg.ofBelowC B1).block w.heap.size (by simp) (fun h => h)).trans hb
  have B1' := A0.trans (B1.mono A0.size)
  have hlt : w.heap.size < w1.heap.size := by have := B1.size; simp at this; omega
  have B2 := below_alloc w1 (spO (.pointer o0) (.string x1) (.pointer o2))
  have S2 := Sp.alloc w1 (.pointer o0) (.string x1) (.pointer o2)
  have hb2 := ((Chg.ofBelowC B2).block w.heap.size hlt (fun h => h)).trans hb1
  have c0 : (w1.alloc (spO (.pointer o0) (.string x1) (.pointer o2))).cell? ⟨w.heap.size, 0, none⟩ = some (.int .i64 2) := by rw [cell_of_row _ _ _ _ _ _ hb2]; rfl
  have c3 : (w1.alloc (spO (.pointer o0) (.string x1) (.pointer o2))).cell? ⟨w.heap.size, 3, none⟩ = some (.slice sa sl sc) := by rw [cell_of_row _ _ _ _ _ _ hb2]; rfl
  have c4 : (w1.alloc (spO (.pointer o0) (.string x1) (.pointer o2))).cell? ⟨w.heap.size, 4, none⟩ = some (.int .i64 n) := by rw [cell_of_row _ _ _ _ _ _ hb2]; rfl
  have HB : Hid (Below w.heap.size w (w1.alloc (spO (.pointer o0) (.string x1) (.pointer o2)))) := B1'.trans (B2.mono B1'.size)
  clear A0 hb B1 hb1 B1' B2 hb2
  go_wp2_with fail
  obtain ⟨w2, hw2⟩ : ∃ w2, (w1.alloc (spO (.pointer o0) (.string x1) (.pointer o2))) = w2 := ⟨_, rfl⟩
  rw [hw2] at S2 c0 c3 c4 HB
  rw [hw2]
  clear hw2
  obtain ⟨s0, s1, s2⟩ := S2.c
  have hz : w1.heap.size < w2.heap.size := S2.lt
  have BN := HB.out.trans ((below_drew w.heap.size w2))
  have NF : Hid (Calls Tryd.prog 18 #[] w2.drew fun e w3 => ∃ b0, e = .returned (ptr b0) ∧ w3.cell? ⟨w1.heap.size, 0, none⟩ = some (.pointer o0) ∧ w3.cell? ⟨w1.heap.size, 1, none⟩ = some (.string x1) ∧ w3.cell? ⟨w1.heap.size, 2, none⟩ = some (.pointer o2) ∧ Hid (Calls Tryd.prog 22 #[ptr t, .agg #[.pointer o0, .string x1, .pointer o2], ptr b0] w3 fun e w' => e = .returned (.int .i64 c) ∧ P w')) := by
    refine (newDir_any w2.drew).mono ?_
    rintro e w3 ⟨rfl, rfl⟩
    have hw := HM w2.drew BN
    have BB : Below w2.drew.heap.size w2.drew ((w2.drew.alloc (.map #[] 0)).alloc (ndO4 false (some w2.drew.heap.size))) := (below_alloc _ _).trans ((below_alloc _ _).mono (below_alloc _ _).size)
    have SS := (S2.kept (Chg.drew (fun _ => False) w2) (fun h => h)).kept (Chg.ofBelowC BB) (fun h => h)
    exact ⟨_, rfl, SS.c.1, SS.c.2.1, SS.c.2.2, hw⟩
  clear HM BN S2 hz
  go_region_with (first | (go_at_call 18; refine NF.out.mono ?_; clear NF; rintro e w3 ⟨b0, rfl, d0, d1, d2, HAD⟩) | (go_at_call 22; refine HAD.out.mono ?_; clear HAD; rintro e w4 ⟨rfl, hP⟩))
  all_goals
    have HP : Hid (P w4) := hP
    clear hP
    go_wp2_with fail
    go_ret
    exact ⟨rfl, HP.out⟩
set_option maxHeartbeats 3200000 in
set_option maxRecDepth 100000 in
theorem d_append (t : Nat) (p q : ByteArray) (sa : Option Addr) (sl sc : Nat) (n : Int) (w : World) (o0 : Option Addr) (x1 : ByteArray) (o2 : Option Addr) (HF : ∀ wb, Below w.heap.size w wb → Calls Tryd.prog 21 #[ptr t, .string p] wb fun e w' => e = .returned (.tuple #[.agg #[.pointer o0, .string x1, .pointer o2], .int .i64 0]) ∧ Below wb.heap.size wb w') (c : Int) (P : World → Prop) (HM : ∀ wb, Below w.heap.size w wb → Calls Tryd.prog 24 #[ptr t, .pointer o2, .slice sa sl sc] wb fun e w' => e = .returned (.int .i64 c) ∧ P w') :
    Calls Tryd.prog 12 #[ptr t, .agg #[.int .i64 3, .string p, .string q, .slice sa sl sc, .int .i64 n]] w fun e w' => e = .returned (.int .i64 c) ∧ P w' := by
  have A0 := below_alloc w (opO 3 p q (.slice sa sl sc) n)
  have hb := heap_alloc_new w (opO 3 p q (.slice sa sl sc) n)
  go_enter Tryd.func12, Tryd.ntmps12
  go_wp2_with fail
  refine (HF _ A0).mono ?_
  clear HF
  rintro e w1 ⟨rfl, B1⟩
  have hb1 := ((Chg.ofBelowC B1).block w.heap.size (by simp) (fun h => h)).trans hb
  have B1' := A0.trans (B1.mono A0.size)
  have hlt : w.heap.size < w1.heap.size := by have := B1.size; simp at this; omega
  have B2 := below_alloc w1 (spO (.pointer o0) (.string x1) (.pointer o2))
  have S2 := Sp.alloc w1 (.pointer o0) (.string x1) (.pointer o2)
  have hb2 := ((Chg.ofBelowC B2).block w.heap.size hlt (fun h => h)).trans hb1
  have c0 : (w1.alloc (spO (.pointer o0) (.string x1) (.pointer o2))).cell? ⟨w.heap.size, 0, none⟩ = some (.int .i64 3) := by rw [cell_of_row _ _ _ _ _ _ hb2]; rfl
  have c3 : (w1.alloc (spO (.pointer o0) (.string x1) (.pointer o2))).cell? ⟨w.heap.size, 3, none⟩ = some (.slice sa sl sc) := by rw [cell_of_row _ _ _ _ _ _ hb2]; rfl
  have c4 : (w1.alloc (spO (.pointer o0) (.string x1) (.pointer o2))).cell? ⟨w.heap.size, 4, none⟩ = some (.int .i64 n) := by rw [cell_of_row _ _ _ _ _ _ hb2]; rfl
  have HB : Hid (Below w.heap.size w (w1.alloc (spO (.pointer o0) (.string x1) (.pointer o2)))) := B1'.trans (B2.mono B1'.size)
  clear A0 hb B1 hb1 B1' B2 hb2
  go_wp2_with fail
  refine (HM _ HB.out).mono ?_
  rintro e w3 ⟨rfl, hP⟩
  have HP : Hid (P w3) := hP
  clear HM hP c0 c3 c4 HB S2
  go_wp2_with fail
  go_ret
  exact ⟨rfl, HP.out⟩
set_option maxHeartbeats 3200000 in
set_option maxRecDepth 100000 in
theorem d_cut (t : Nat) (p q : ByteArray) (sa : Option Addr) (sl sc : Nat) (n : Int) (w : World) (o0 : Option Addr) (x1 : ByteArray) (o2 : Option Addr) (HF : ∀ wb, Below w.heap.size w wb → Calls Tryd.prog 21 #[ptr t, .string p] wb fun e w' => e = .returned (.tuple #[.agg #[.pointer o0, .string x1, .pointer o2], .int .i64 0]) ∧ Below wb.heap.size wb w') (c : Int) (P : World → Prop) (HM : ∀ wb, Below w.heap.size w wb → Calls Tryd.prog 25 #[ptr t, .pointer o2, .int .i64 n] wb fun e w' => e = .returned (.int .i64 c) ∧ P w') :
    Calls Tryd.prog 12 #[ptr t, .agg #[.int .i64 4, .string p, .string q, .slice sa sl sc, .int .i64 n]] w fun e w' => e = .returned (.int .i64 c) ∧ P w' := by
  have A0 := below_alloc w (opO 4 p q (.slice sa sl sc) n)
  have hb := heap_alloc_new w (opO 4 p q (.slice sa sl sc) n)
  go_enter Tryd.func12, Tryd.ntmps12
  go_wp2_with fail
  refine (HF _ A0).mono ?_
  clear HF
  rintro e w1 ⟨rfl, B1⟩
  have hb1 := ((Chg.ofBelowC B1).block w.heap.size (by simp) (fun h => h)).trans hb
  have B1' := A0.trans (B1.mono A0.size)
  have hlt : w.heap.size < w1.heap.size := by have := B1.size; simp at this; omega
  have B2 := below_alloc w1 (spO (.pointer o0) (.string x1) (.pointer o2))
  have S2 := Sp.alloc w1 (.pointer o0) (.string x1) (.pointer o2)
  have hb2 := ((Chg.ofBelowC B2).block w.heap.size hlt (fun h => h)).trans hb1
  have c0 : (w1.alloc (spO (.pointer o0) (.string x1) (.pointer o2))).cell? ⟨w.heap.size, 0, none⟩ = some (.int .i64 4) := by rw [cell_of_row _ _ _ _ _ _ hb2]; rfl
  have c3 : (w1.alloc (spO (.pointer o0) (.string x1) (.pointer o2))).cell? ⟨w.heap.size, 3, none⟩ = some (.slice sa sl sc) := by rw [cell_of_row _ _ _ _ _ _ hb2]; rfl
  have c4 : (w1.alloc (spO (.pointer o0) (.string x1) (.pointer o2))).cell? ⟨w.heap.size, 4, none⟩ = some (.int .i64 n) := by rw [cell_of_row _ _ _ _ _ _ hb2]; rfl
  have HB : Hid (Below w.heap.size w (w1.alloc (spO (.pointer o0) (.string x1) (.pointer o2)))) := B1'.trans (B2.mono B1'.size)
  clear A0 hb B1 hb1 B1' B2 hb2
  go_wp2_with fail
  refine (HM _ HB.out).mono ?_
  rintro e w3 ⟨rfl, hP⟩
  have HP : Hid (P w3) := hP
  clear HM hP c0 c3 c4 HB S2
  go_wp2_with fail
  go_ret
  exact ⟨rfl, HP.out⟩
set_option maxHeartbeats 3200000 in
set_option maxRecDepth 100000 in
theorem d_unlink (t : Nat) (p q : ByteArray) (sa : Option Addr) (sl sc : Nat) (n : Int) (w : World) (o0 : Option Addr) (x1 : ByteArray) (o2 : Option Addr) (HF : ∀ wb, Below w.heap.size w wb → Calls Tryd.prog 21 #[ptr t, .string p] wb fun e w' => e = .returned (.tuple #[.agg #[.pointer o0, .string x1, .pointer o2], .int .i64 0]) ∧ Below wb.heap.size wb w') (c : Int) (P : World → Prop) (HM : ∀ wb, Below w.heap.size w wb → Calls Tryd.prog 26 #[ptr t, .agg #[.pointer o0, .string x1, .pointer o2]] wb fun e w' => e = .returned (.int .i64 c) ∧ P w') :
    Calls Tryd.prog 12 #[ptr t, .agg #[.int .i64 5, .string p, .string q, .slice sa sl sc, .int .i64 n]] w fun e w' => e = .returned (.int .i64 c) ∧ P w' := by
  have A0 := below_alloc w (opO 5 p q (.slice sa sl sc) n)
  have hb := heap_alloc_new w (opO 5 p q (.slice sa sl sc) n)
  go_enter Tryd.func12, Tryd.ntmps12
  go_wp2_with fail
  refine (HF _ A0).mono ?_
  clear HF
  rintro e w1 ⟨rfl, B1⟩
  have hb1 := ((Chg.ofBelowC B1).block w.heap.size (by simp) (fun h => h)).trans hb
  have B1' := A0.trans (B1.mono A0.size)
  have hlt : w.heap.size < w1.heap.size := by have := B1.size; simp at this; omega
  have B2 := below_alloc w1 (spO (.pointer o0) (.string x1) (.pointer o2))
  have S2 := Sp.alloc w1 (.pointer o0) (.string x1) (.pointer o2)
  have hb2 := ((Chg.ofBelowC B2).block w.heap.size hlt (fun h => h)).trans hb1
  have c0 : (w1.alloc (spO (.pointer o0) (.string x1) (.pointer o2))).cell? ⟨w.heap.size, 0, none⟩ = some (.int .i64 5) := by rw [cell_of_row _ _ _ _ _ _ hb2]; rfl
  have c3 : (w1.alloc (spO (.pointer o0) (.string x1) (.pointer o2))).cell? ⟨w.heap.size, 3, none⟩ = some (.slice sa sl sc) := by rw [cell_of_row _ _ _ _ _ _ hb2]; rfl
  have c4 : (w1.alloc (spO (.pointer o0) (.string x1) (.pointer o2))).cell? ⟨w.heap.size, 4, none⟩ = some (.int .i64 n) := by rw [cell_of_row _ _ _ _ _ _ hb2]; rfl
  have HB : Hid (Below w.heap.size w (w1.alloc (spO (.pointer o0) (.string x1) (.pointer o2)))) := B1'.trans (B2.mono B1'.size)
  clear A0 hb B1 hb1 B1' B2 hb2
  go_wp2_with fail
  refine (HM _ HB.out).mono ?_
  rintro e w3 ⟨rfl, hP⟩
  have HP : Hid (P w3) := hP
  clear HM hP c0 c3 c4 HB S2
  go_wp2_with fail
  go_ret
  exact ⟨rfl, HP.out⟩
set_option maxHeartbeats 3200000 in
set_option maxRecDepth 100000 in
theorem d_rmdir (t : Nat) (p q : ByteArray) (sa : Option Addr) (sl sc : Nat) (n : Int) (w : World) (o0 : Option Addr) (x1 : ByteArray) (o2 : Option Addr) (HF : ∀ wb, Below w.heap.size w wb → Calls Tryd.prog 21 #[ptr t, .string p] wb fun e w' => e = .returned (.tuple #[.agg #[.pointer o0, .string x1, .pointer o2], .int .i64 0]) ∧ Below wb.heap.size wb w') (c : Int) (P : World → Prop) (HM : ∀ wb, Below w.heap.size w wb → Calls Tryd.prog 27 #[ptr t, .agg #[.pointer o0, .string x1, .pointer o2]] wb fun e w' => e = .returned (.int .i64 c) ∧ P w') :
    Calls Tryd.prog 12 #[ptr t, .agg #[.int .i64 6, .string p, .string q, .slice sa sl sc, .int .i64 n]] w fun e w' => e = .returned (.int .i64 c) ∧ P w' := by
  have A0 := below_alloc w (opO 6 p q (.slice sa sl sc) n)
  have hb := heap_alloc_new w (opO 6 p q (.slice sa sl sc) n)
  go_enter Tryd.func12, Tryd.ntmps12
  go_wp2_with fail
  refine (HF _ A0).mono ?_
  clear HF
  rintro e w1 ⟨rfl, B1⟩
  have hb1 := ((Chg.ofBelowC B1).block w.heap.size (by simp) (fun h => h)).trans hb
  have B1' := A0.trans (B1.mono A0.size)
  have hlt : w.heap.size < w1.heap.size := by have := B1.size; simp at this; omega
  have B2 := below_alloc w1 (spO (.pointer o0) (.string x1) (.pointer o2))
  have S2 := Sp.alloc w1 (.pointer o0) (.string x1) (.pointer o2)
  have hb2 := ((Chg.ofBelowC B2).block w.heap.size hlt (fun h => h)).trans hb1
  have c0 : (w1.alloc (spO (.pointer o0) (.string x1) (.pointer o2))).cell? ⟨w.heap.size, 0, none⟩ = some (.int .i64 6) := by rw [cell_of_row _ _ _ _ _ _ hb2]; rfl
  have c3 : (w1.alloc (spO (.pointer o0) (.string x1) (.pointer o2))).cell? ⟨w.heap.size, 3, none⟩ = some (.slice sa sl sc) := by rw [cell_of_row _ _ _ _ _ _ hb2]; rfl
  have c4 : (w1.alloc (spO (.pointer o0) (.string x1) (.pointer o2))).cell? ⟨w.heap.size, 4, none⟩ = some (.int .i64 n) := by rw [cell_of_row _ _ _ _ _ _ hb2]; rfl
  have HB : Hid (Below w.heap.size w (w1.alloc (spO (.pointer o0) (.string x1) (.pointer o2)))) := B1'.trans (B2.mono B1'.size)
  clear A0 hb B1 hb1 B1' B2 hb2
  go_wp2_with fail
  refine (HM _ HB.out).mono ?_
  rintro e w3 ⟨rfl, hP⟩
  have HP : Hid (P w3) := hP
  clear HM hP c0 c3 c4 HB S2
  go_wp2_with fail
  go_ret
  exact ⟨rfl, HP.out⟩

theorem fiE_zero {F : Pth → Option Nd} {s : ByteArray} (h : fiE F s = 0) : spE s = 0 ∧ folE F (spN s) = 0 := by
  unfold fiE at h
  by_cases g : spE s = 0
  · exact ⟨g, by rwa [if_pos g] at h⟩
  · rw [if_neg g] at h; exact absurd h g
/-- Do, over a tree. -/
theorem do_any {N : Nat} {w : World} {t : Nat} {T : Ts} {A : Pth → Nat} {O : Nat → Option (Pth × Nat)} {K : Nat} (h : Tr w t T.F A O T.bl T.ino K) (hT : Tab w) (hK : K ≤ 60000) (hO0 : O 0 = none) (o : Ac) (dv : Value) (hd : Bs w dv o.d) (hB : IsB o.d) (hdt : ∀ a n c, dv = .slice (some a) n c → 0 < n → ¬ a.block = t) (hp : o.p.size ≤ 3000) (hq : o.q.size ≤ 3000) (hN : N ≤ w.heap.size) :
    Calls Tryd.prog 12 #[ptr t, .agg #[.int .i64 o.k, .string o.p, .string o.q, dv, .int .i64 o.n]] w fun e w' => e = .returned (.int .i64 (doR T o).1) ∧ TrS N w w' t O (doR T o).2 (K + 2) := by
  obtain ⟨sa, sc, rfl⟩ := hd.form'
  obtain ⟨k, p, q, d, n⟩ := o
  dsimp only at *
  have BAD : ∀ c : Int, doR T ⟨k, p, q, d, n⟩ = (c, T) → (Calls Tryd.prog 12 #[ptr t, .agg #[.int .i64 k, .string p, .string q, .slice sa d.length sc, .int .i64 n]] w fun e w' => e = .returned (.int .i64 c) ∧ Below w.heap.size w w') → Calls Tryd.prog 12 #[ptr t, .agg #[.int .i64 k, .string p, .string q, .slice sa d.length sc, .int .i64 n]] w fun e w' => e = .returned (.int .i64 (doR T ⟨k, p, q, d, n⟩).1) ∧ TrS N w w' t O (doR T ⟨k, p, q, d, n⟩).2 (K + 2) := by
    intro c e hc
    rw [e]
    refine hc.mono ?_
    rintro e w' ⟨rfl, B⟩
    exact ⟨rfl, TrTo.refl h (by omega) B⟩
  by_cases h1 : k < 1
  · exact BAD 1 (by unfold doR; exact if_pos (.inl h1)) (d_arg0 t k p q sa _ sc n w h1)
  by_cases h7 : 7 < k
  · exact BAD 1 (by unfold doR; exact if_pos (.inr h7)) (d_arg7 t k p q sa _ sc n w h7)
  have hk17 : ¬ (k < 1 ∨ 7 < k) := fun e => e.elim h1 h7
  by_cases hk7 : k = 7
  · subst hk7
    have e : doR T ⟨7, p, q, d, n⟩ = renR T p q := by unfold doR; rw [if_neg hk17]; exact if_pos rfl
    rw [e]
    refine d_ren t p q sa _ sc n w _ (fun w' => TrS N w w' t O (renR T p q).2 (K + 2)) (fun wb hb => ?_)
    refine (ren_any (N := N) (h.below hb) (tab_below hT hb) hK hO0 p q hp hq).mono ?_
    rintro e w' ⟨rfl, g⟩
    exact ⟨rfl, TrTo.before g hb⟩
  by_cases hf : fiE T.F p = 0
  case neg =>
    have e : doR T ⟨k, p, q, d, n⟩ = (fiE T.F p, T) := by unfold doR; rw [if_neg hk17, if_neg hk7]; exact if_pos hf
    refine BAD _ e ?_
    have HF : ∀ wb, Below w.heap.size w wb → Calls Tryd.prog 21 #[ptr t, .string p] wb fun e w' => e = .returned (.tuple #[.agg #[.pointer none, .string ⟨#[]⟩, .pointer none], .int .i64 (fiE T.F p)]) ∧ Below wb.heap.size wb w' := fun wb hb => find_no (h.below hb) hp rfl hf
    have hk : k = 1 ∨ k = 2 ∨ k = 3 ∨ k = 4 ∨ k = 5 ∨ k = 6 := by omega
    rcases hk with rfl | rfl | rfl | rfl | rfl | rfl
    · exact d_bad1 t p q sa _ sc n w _ _ _ _ hf HF
    · exact d_bad2 t p q sa _ sc n w _ _ _ _ hf HF
    · exact d_bad3 t p q sa _ sc n w _ _ _ _ hf HF
    · exact d_bad4 t p q sa _ sc n w _ _ _ _ hf HF
    · exact d_bad5 t p q sa _ sc n w _ _ _ _ hf HF
    · exact d_bad6 t p q sa _ sc n w _ _ _ _ hf HF
  obtain ⟨hs, hfol⟩ := fiE_zero hf
  have HF : ∀ wb, Below w.heap.size w wb → Calls Tryd.prog 21 #[ptr t, .string p] wb fun e w' => e = .returned (.tuple #[.agg #[.pointer (upO A (spN p)), .string (lastN (spN p)), .pointer (ndO T.F A (spN p))], .int .i64 0]) ∧ Below wb.heap.size wb w' := fun wb hb => find_ok (h.below hb) hp hs hfol
  have e0 : doR T ⟨k, p, q, d, n⟩ = if k = 1 then addR T (spN p) (.file []) else if k = 2 then addR T (spN p) (.dir 0 []) else if k = 3 then extR T (spN p) d
    else if k = 4 then cutR T (spN p) n else if k = 5 then unlR T (spN p) else rmdR T (spN p) := by unfold doR; rw [if_neg hk17, if_neg hk7]; exact if_neg (fun e => e hf)
  rw [e0]
  have hnm : ¬ spN p = [] → nameB (lastN (spN p)) = true := last_name hs
  have OUT : ∀ wb b, Below w.heap.size w wb → wb.heap.size ≤ b → O b = none := fun wb b hb hle => by
    cases e : O b with
    | none => rfl
    | some z => have := h.lt b z e; have := hb.size; omega
  have hk : k = 1 ∨ k = 2 ∨ k = 3 ∨ k = 4 ∨ k = 5 ∨ k = 6 := by omega
  rcases hk with rfl | rfl | rfl | rfl | rfl | rfl
  · rw [if_pos rfl]
    refine d_create t p q sa _ sc n w _ _ _ HF _ (fun w' => TrS N w w' t O (addR T (spN p) (.file [])).2 (K + 2)) (fun wb hb => ?_)
    have hb2 := hb.trans ((below_alloc wb (ndO4 true none)).mono hb.size)
    refine (add_any (h.below hb2) (tab_below hT hb2) (by omega) hfol hnm (NewN.file wb N (Nat.le_trans hN hb.size)) (fun b r hr => OUT wb b hb ?_)).mono ?_
    · have hr' : (if b = wb.heap.size then some 0 else none) = some r := hr
      by_cases e : b = wb.heap.size
      · omega
      · rw [if_neg e] at hr'; cases hr'
    · rintro e w' ⟨rfl, g⟩
      exact ⟨rfl, TrTo.before (TrTo.more g (by omega)) hb2⟩
  · rw [if_neg (by decide), if_pos rfl]
    refine d_mkdir t p q sa _ sc n w _ _ _ HF _ (fun w' => TrS N w w' t O (addR T (spN p) (.dir 0 [])).2 (K + 2)) (fun wb hb => ?_)
    have hb1 := hb.trans ((below_alloc wb (.map #[] 0)).mono hb.size)
    have hb2 := hb1.trans ((below_alloc (wb.alloc (.map #[] 0)) (ndO4 false (some wb.heap.size))).mono hb1.size)
    refine (add_any (h.below hb2) (tab_below hT hb2) (by omega) hfol hnm (NewN.dir wb N (Nat.le_trans hN hb.size)) (fun b r hr => OUT wb b hb ?_)).mono ?_
    · have hr' : (if b = wb.heap.size + 1 then some 0 else if b + 1 = wb.heap.size + 1 then some 1 else none) = some r := hr
      by_cases e : b = wb.heap.size + 1
      · omega
      · rw [if_neg e] at hr'
        by_cases e2 : b + 1 = wb.heap.size + 1
        · omega
        · rw [if_neg e2] at hr'; cases hr'
    · rintro e w' ⟨rfl, g⟩
      exact ⟨rfl, TrTo.before (TrTo.more g (by omega)) hb2⟩
  · rw [if_neg (by decide), if_neg (by decide), if_pos rfl]
    refine d_append t p q sa _ sc n w _ _ _ HF _ (fun w' => TrS N w w' t O (extR T (spN p) d).2 (K + 2)) (fun wb hb => ?_)
    refine (ext_any (N := N) (h.below hb) (by omega) (spN p) _ d (hd.kept (Chg.ofBelowC hb) (fun _ _ _ _ _ h => h)) hB hdt (Nat.le_trans hN hb.size)).mono ?_
    rintro e w' ⟨rfl, g⟩
    exact ⟨rfl, TrTo.before (TrTo.more g (by omega)) hb⟩
  · rw [if_neg (by decide), if_neg (by decide), if_neg (by decide), if_pos rfl]
    refine d_cut t p q sa _ sc n w _ _ _ HF _ (fun w' => TrS N w w' t O (cutR T (spN p) n).2 (K + 2)) (fun wb hb => ?_)
    refine (cutT_any (N := N) (h.below hb) (by omega) (spN p) n (Nat.le_trans hN hb.size)).mono ?_
    rintro e w' ⟨rfl, g⟩
    exact ⟨rfl, TrTo.before (TrTo.more g (by omega)) hb⟩
  · rw [if_neg (by decide), if_neg (by decide), if_neg (by decide), if_neg (by decide), if_pos rfl]
    refine d_unlink t p q sa _ sc n w _ _ _ HF _ (fun w' => TrS N w w' t O (unlR T (spN p)).2 (K + 2)) (fun wb hb => ?_)
    refine (unl_any (h.below hb) (tab_below hT hb) (by omega) hfol N).mono ?_
    rintro e w' ⟨rfl, g⟩
    exact ⟨rfl, TrTo.before (TrTo.more g (by omega)) hb⟩
  · rw [if_neg (by decide), if_neg (by decide), if_neg (by decide), if_neg (by decide), if_neg (by decide)]
    refine d_rmdir t p q sa _ sc n w _ _ _ HF _ (fun w' => TrS N w w' t O (rmdR T (spN p)).2 (K + 2)) (fun wb hb => ?_)
    refine (rmd_any (h.below hb) (tab_below hT hb) (by omega) hfol N).mono ?_
    rintro e w' ⟨rfl, g⟩
    exact ⟨rfl, TrTo.before (TrTo.more g (by omega)) hb⟩
end Go.Proofs.YtdcmkcplklkfmaaDoor

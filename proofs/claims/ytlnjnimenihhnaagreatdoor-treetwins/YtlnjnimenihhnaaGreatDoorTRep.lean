/-
  unlink, rmdir: contracts over a tree.
-/
import Derived.Test.YtlnjnimenihhnaaGreatDoorTAdd
import Derived.LaidEqlPtr
namespace Go.Proofs.YtlnjnimenihhnaaGreatDoor
open Go.RowKit Go.Maps

theorem TrTo.before {N : Nat} {w wa w' : World} {t : Nat} {O : Nat → Option (Pth × Nat)} {F : Pth → Option Nd} {bl ino : Int} {K : Nat} (h : TrTo N wa w' t O F bl ino K) (hb : Below w.heap.size w wa) : TrTo N w w' t O F bl ino K := by
  obtain ⟨A', O', h1, h2, h3⟩ := h
  exact ⟨A', O', h1, ((Chg.ofBelowC hb).mono (fun _ _ h => h.elim)).trans h2 (fun _ _ h => h), h3⟩
theorem TrTo.less {N N' : Nat} {w w' : World} {t : Nat} {O : Nat → Option (Pth × Nat)} {F : Pth → Option Nd} {bl ino : Int} {K : Nat} (h : TrTo N w w' t O F bl ino K) (hN : N' ≤ N) : TrTo N' w w' t O F bl ino K := by
  obtain ⟨A', O', h1, h2, h3⟩ := h
  exact ⟨A', O', h1, h2, fun b hb => (h3 b hb).imp id (Nat.le_trans hN)⟩
theorem Tr.below {w w' : World} {t : Nat} {F : Pth → Option Nd} {A : Pth → Nat} {O : Nat → Option (Pth × Nat)} {bl ino : Int} {K : Nat} (h : Tr w t F A O bl ino K) (hb : Below w.heap.size w w') : Tr w' t F A O bl ino K := h.kept (Chg.ofBelowC hb) (fun _ _ _ h => h)
theorem name_size {x : ByteArray} (h : nameB x = true) : x.size ≤ 256 := by
  have := nameB_parts h
  omega
/-- The blocks of a node of a tree. -/
theorem Tr.blk {w : World} {t : Nat} {F : Pth → Option Nd} {A : Pth → Nat} {O : Nat → Option (Pth × Nat)} {bl ino : Int} {K : Nat} (h : Tr w t F A O bl ino K) (hT : Tab w) (hK : K ≤ 70000) {p : Pth} {nd : Nd} (hp : F p = some nd) :
    Calls Tryz.prog 56 #[ptr (A p)] w fun e w' => e = .returned (.int .i64 nd.blk) ∧ Below w.heap.size w w' := by
  cases nd with
  | file bs =>
    obtain ⟨h0, ⟨v, h1, h2, _⟩, _⟩ := h.nd p _ hp
    exact blocksF_any (A p) v bs w h0 h1 h2
  | dir s kn =>
    obtain ⟨h0, _, _, h3⟩ := h.nd p _ hp
    exact blocksD_any (A p) s w hT h0 h3 (by have := (h.nms p s kn hp).2.2.2; omega)
/-- remove. -/
theorem rem_tr {w : World} {t : Nat} {F : Pth → Option Nd} {A : Pth → Nat} {O : Nat → Option (Pth × Nat)} {bl ino : Int} {K : Nat} (h : Tr w t F A O bl ino K) (hT : Tab w) (hK : K ≤ 70000) {p : Pth} {x : ByteArray} {s : Nat} {kn : List ByteArray} {nd : Nd} (hF : F p = some (.dir s kn)) (hx : x ∈ kn) (hnd : F (p ++ [x]) = some nd) (hlf : ∀ nm, F (p ++ [x] ++ [nm]) = none) :
    Calls Tryz.prog 57 #[ptr t, .agg #[ptr (A p), .string x, ptr (A (p ++ [x]))]] w fun e w' => e = .returned (.tuple #[]) ∧ Tr w' t (setN (setN F p (some (.dir s (dele kn x)))) (p ++ [x]) none) A O (bl + nd.blk) (ino + 1) (K + 1) ∧ Chg (fun b => (O b).isSome = true) w w' := by
  obtain ⟨m, m0, m1, m2, m3, mO, mM, htm, hAm⟩ := h.dirM hF
  have bb := h.bb
  have ib := h.ib
  have nb := nd.blk_bd
  refine (tremove_any t (A p) m kn.length (A (p ++ [x])) x (kidF A p kn) bl ino nd.blk w (fun wb hb => (h.below hb).blk (tab_below hT hb) hK hnd) (name_size ((h.nms p s kn hF).2.1 x hx)) h.cbl h.cin m2 mM (kidF_some hx) htm (hAm p _ hF) h.frT (by omega) (by omega) (by omega) (by omega) (by omega)).mono ?_
  rintro e w' ⟨rfl, hm', U, k4, k5⟩
  obtain ⟨g1, A', O', _, g3, _⟩ := h.gone (N := 0) (K' := K + 1) (by omega) hF m2 hx hlf U hm' k4 k5 (by omega) (by omega)
  exact ⟨rfl, g1, g3⟩
theorem goneT_eq {T : Ts} {p : Pth} {x : ByteArray} {s : Nat} {kn : List ByteArray} {nd : Nd} (hF : T.F p = some (.dir s kn)) (hnd : T.F (p ++ [x]) = some nd) :
    goneT T (p ++ [x]) = ⟨setN (setN T.F p (some (.dir s (dele kn x)))) (p ++ [x]) none, T.bl + nd.blk, T.ino + 1⟩ := by
  unfold goneT
  rw [hnd]
  simp only [List.dropLast_concat, hF, lastN_next]

set_option maxHeartbeats 1600000 in
theorem unl_nil (t : Nat) (o : Option Addr) (x : ByteArray) (w : World) :
    Calls Tryz.prog 28 #[ptr t, .agg #[.pointer o, .string x, .pointer none]] w fun e w' => e = .returned (.int .i64 8) ∧ Below w.heap.size w w' := by
  go_enter Tryz.func28, Tryz.ntmps28
  go_wp2_with fail
  go_ret
  exact ⟨rfl, below_alloc _ _⟩
set_option maxHeartbeats 1600000 in
theorem unl_dir (t q : Nat) (o : Option Addr) (x : ByteArray) (w : World) (c0 : w.cell? ⟨q, 0, none⟩ = some (.bool false)) :
    Calls Tryz.prog 28 #[ptr t, .agg #[.pointer o, .string x, ptr q]] w fun e w' => e = .returned (.int .i64 10) ∧ Below w.heap.size w w' := by
  have A0 := below_alloc w (spO (.pointer o) (.string x) (ptr q))
  have g0 := (Chg.ofBelowC A0).cell c0 (fun h => h)
  have HB : Hid (Below w.heap.size w (w.alloc (spO (.pointer o) (.string x) (ptr q)))) := A0
  clear A0 c0
  go_enter Tryz.func28, Tryz.ntmps28
  go_wp2_with fail
  go_ret
  exact ⟨rfl, HB.out⟩
set_option maxHeartbeats 1600000 in
theorem unl_go (t u q : Nat) (x : ByteArray) (w : World) (P : World → Prop) (c0 : w.cell? ⟨q, 0, none⟩ = some (.bool true))
    (HR : ∀ wb, Below w.heap.size w wb → Calls Tryz.prog 57 #[ptr t, .agg #[ptr u, .string x, ptr q]] wb fun e w' => e = .returned (.tuple #[]) ∧ P w') :
    Calls Tryz.prog 28 #[ptr t, .agg #[ptr u, .string x, ptr q]] w fun e w' => e = .returned (.int .i64 0) ∧ P w' := by
  have A0 := below_alloc w (spO (ptr u) (.string x) (ptr q))
  have g0 := (Chg.ofBelowC A0).cell c0 (fun h => h)
  have HC : Hid (Calls Tryz.prog 57 #[ptr t, .agg #[ptr u, .string x, ptr q]] (w.alloc (spO (ptr u) (.string x) (ptr q))) fun e w' => e = .returned (.tuple #[]) ∧ P w') := HR _ A0
  clear A0 c0 HR
  go_enter Tryz.func28, Tryz.ntmps28
  go_wp2_with fail
  refine HC.out.mono ?_
  rintro e w1 ⟨rfl, hP⟩
  have HP : Hid (P w1) := hP
  clear HC hP g0
  go_wp2_with fail
  go_ret
  exact ⟨rfl, HP.out⟩
set_option maxHeartbeats 1600000 in
theorem rmd_nil (t : Nat) (o : Option Addr) (x : ByteArray) (w : World) :
    Calls Tryz.prog 29 #[ptr t, .agg #[.pointer o, .string x, .pointer none]] w fun e w' => e = .returned (.int .i64 8) ∧ Below w.heap.size w w' := by
  go_enter Tryz.func29, Tryz.ntmps29
  go_wp2_with fail
  go_ret
  exact ⟨rfl, below_alloc _ _⟩
set_option maxHeartbeats 1600000 in
theorem rmd_file (t q : Nat) (o : Option Addr) (x : ByteArray) (w : World) (c0 : w.cell? ⟨q, 0, none⟩ = some (.bool true)) :
    Calls Tryz.prog 29 #[ptr t, .agg #[.pointer o, .string x, ptr q]] w fun e w' => e = .returned (.int .i64 11) ∧ Below w.heap.size w w' := by
  have A0 := below_alloc w (spO (.pointer o) (.string x) (ptr q))
  have g0 := (Chg.ofBelowC A0).cell c0 (fun h => h)
  have HB : Hid (Below w.heap.size w (w.alloc (spO (.pointer o) (.string x) (ptr q)))) := A0
  clear A0 c0
  go_enter Tryz.func29, Tryz.ntmps29
  go_wp2_with fail
  go_ret
  exact ⟨rfl, HB.out⟩
set_option maxHeartbeats 1600000 in
theorem rmd_root (t q : Nat) (x : ByteArray) (w : World) (c0 : w.cell? ⟨q, 0, none⟩ = some (.bool false)) :
    Calls Tryz.prog 29 #[ptr t, .agg #[.pointer none, .string x, ptr q]] w fun e w' => e = .returned (.int .i64 13) ∧ Below w.heap.size w w' := by
  have A0 := below_alloc w (spO (.pointer none) (.string x) (ptr q))
  have g0 := (Chg.ofBelowC A0).cell c0 (fun h => h)
  have HB : Hid (Below w.heap.size w (w.alloc (spO (.pointer none) (.string x) (ptr q)))) := A0
  clear A0 c0
  go_enter Tryz.func29, Tryz.ntmps29
  go_wp2_with fail
  go_ret
  exact ⟨rfl, HB.out⟩
set_option maxHeartbeats 1600000 in
theorem rmd_busy (t u q m n : Nat) (x : ByteArray) (f : ByteArray → Option Value) (w : World) (c0 : w.cell? ⟨q, 0, none⟩ = some (.bool false)) (c2 : w.cell? ⟨q, 2, none⟩ = some (.map (some m))) (hm : SMap w m n f) (hn : 0 < n) :
    Calls Tryz.prog 29 #[ptr t, .agg #[ptr u, .string x, ptr q]] w fun e w' => e = .returned (.int .i64 13) ∧ Below w.heap.size w w' := by
  have A0 := below_alloc w (spO (ptr u) (.string x) (ptr q))
  have g0 := (Chg.ofBelowC A0).cell c0 (fun h => h)
  have g2 := (Chg.ofBelowC A0).cell c2 (fun h => h)
  have hl := (hm.kept ((Chg.ofBelowC A0).block m hm.lt (fun h => h))).len 3
  have HB : Hid (Below w.heap.size w (w.alloc (spO (ptr u) (.string x) (ptr q)))) := A0
  have q1 : (0 : Int) < n := by omega
  clear A0 c0 c2 hm
  go_enter Tryz.func29, Tryz.ntmps29
  go_wp2_with fail
  go_ret
  exact ⟨rfl, HB.out⟩
set_option maxHeartbeats 1600000 in
theorem rmd_go (t u q m : Nat) (x : ByteArray) (f : ByteArray → Option Value) (w : World) (P : World → Prop) (c0 : w.cell? ⟨q, 0, none⟩ = some (.bool false)) (c2 : w.cell? ⟨q, 2, none⟩ = some (.map (some m))) (hm : SMap w m 0 f)
    (HR : ∀ wb, Below w.heap.size w wb → Calls Tryz.prog 57 #[ptr t, .agg #[ptr u, .string x, ptr q]] wb fun e w' => e = .returned (.tuple #[]) ∧ P w') :
    Calls Tryz.prog 29 #[ptr t, .agg #[ptr u, .string x, ptr q]] w fun e w' => e = .returned (.int .i64 0) ∧ P w' := by
  have A0 := below_alloc w (spO (ptr u) (.string x) (ptr q))
  have g0 := (Chg.ofBelowC A0).cell c0 (fun h => h)
  have g2 := (Chg.ofBelowC A0).cell c2 (fun h => h)
  have hl := (hm.kept ((Chg.ofBelowC A0).block m hm.lt (fun h => h))).len 3
  have HC : Hid (Calls Tryz.prog 57 #[ptr t, .agg #[ptr u, .string x, ptr q]] (w.alloc (spO (ptr u) (.string x) (ptr q))) fun e w' => e = .returned (.tuple #[]) ∧ P w') := HR _ A0
  clear A0 c0 c2 hm HR
  go_enter Tryz.func29, Tryz.ntmps29
  go_wp2_with fail
  refine HC.out.mono ?_
  rintro e w1 ⟨rfl, hP⟩
  have HP : Hid (P w1) := hP
  clear HC hP g0 g2 hl
  go_wp2_with fail
  go_ret
  exact ⟨rfl, HP.out⟩

theorem leaf_file {w : World} {t : Nat} {F : Pth → Option Nd} {A : Pth → Nat} {O : Nat → Option (Pth × Nat)} {bl ino : Int} {K : Nat} (h : Tr w t F A O bl ino K) {p : Pth} {nd : Nd} (hp : F p = some nd) (hn : ∀ nm, ¬ nd.has nm) (nm : ByteArray) : F (p ++ [nm]) = none := by
  cases e : F (p ++ [nm]) with
  | none => rfl
  | some y =>
    obtain ⟨s, ns, h1, h2⟩ := h.up p nm (by rw [e]; rfl)
    rw [hp] at h1; cases h1
    exact absurd h2 (hn nm)
theorem ndO_some {A : Pth → Nat} {F : Pth → Option Nd} {p : Pth} {nd : Nd} (h : F p = some nd) : ndO F A p = some ⟨A p, 0, none⟩ := by simp [ndO, h]
theorem ndO_none {A : Pth → Nat} {F : Pth → Option Nd} {p : Pth} (h : F p = none) : ndO F A p = none := by simp [ndO, h]

/-- A tree behind a call: by what its act does. -/
abbrev TrS (N : Nat) (w w' : World) (t : Nat) (O : Nat → Option (Pth × Nat)) (T : Ts) (K : Nat) : Prop := TrTo N w w' t O T.F T.bl T.ino K
theorem unl_any {w : World} {t : Nat} {T : Ts} {A : Pth → Nat} {O : Nat → Option (Pth × Nat)} {K : Nat} (h : Tr w t T.F A O T.bl T.ino K) (hT : Tab w) (hK : K ≤ 70000) {ns : Pth} (hf : folE T.F ns = 0) (N : Nat) :
    Calls Tryz.prog 28 #[ptr t, .agg #[.pointer (upO A ns), .string (lastN ns), .pointer (ndO T.F A ns)]] w fun e w' => e = .returned (.int .i64 (unlR T ns).1) ∧ TrS N w w' t O (unlR T ns).2 (K + 1) := by
  unfold unlR
  cases e : T.F ns with
  | none =>
    rw [ndO_none e]
    refine (unl_nil t _ _ w).mono ?_
    rintro e w' ⟨rfl, B⟩
    exact ⟨rfl, TrTo.refl h (by omega) B⟩
  | some nd =>
    rw [ndO_some e]
    cases nd with
    | dir s kn =>
      refine (unl_dir t _ _ _ w (h.nd _ _ e).1).mono ?_
      rintro e w' ⟨rfl, B⟩
      exact ⟨rfl, TrTo.refl h (by omega) B⟩
    | file bs =>
      have h0 : ¬ ns = [] := fun e2 => by
        obtain ⟨s, kn, hr⟩ := h.rdir
        rw [e2, hr] at e; cases e
      obtain ⟨s, kn, hF⟩ := fol_dir hf h0
      have hs := pth_split h0
      obtain ⟨p, hp⟩ : ∃ p, ns.dropLast = p := ⟨_, rfl⟩
      obtain ⟨x, hx⟩ : ∃ x, lastN ns = x := ⟨_, rfl⟩
      rw [hp, hx] at hs
      rw [hp] at hF
      subst hs
      have hm : x ∈ kn := (h.mem hF x).2 (by rw [e]; rfl)
      rw [upO_next, lastN_next]
      refine (unl_go t (A p) _ x w (fun w' => TrS N w w' t O (goneT T (p ++ [x])) (K + 1)) (h.nd _ _ e).1 (fun wb hb => ?_)).mono (fun e w' h => h)
      refine (rem_tr (h.below hb) (tab_below hT hb) hK hF hm e (leaf_file h e (fun nm h => h))).mono ?_
      rintro e w' ⟨rfl, g1, g2⟩
      refine ⟨rfl, ?_⟩
      rw [goneT_eq hF (by assumption)]
      exact TrTo.before ⟨A, O, g1, g2, fun b hb => .inl hb⟩ hb
theorem rmd_any {w : World} {t : Nat} {T : Ts} {A : Pth → Nat} {O : Nat → Option (Pth × Nat)} {K : Nat} (h : Tr w t T.F A O T.bl T.ino K) (hT : Tab w) (hK : K ≤ 70000) {ns : Pth} (hf : folE T.F ns = 0) (N : Nat) :
    Calls Tryz.prog 29 #[ptr t, .agg #[.pointer (upO A ns), .string (lastN ns), .pointer (ndO T.F A ns)]] w fun e w' => e = .returned (.int .i64 (rmdR T ns).1) ∧ TrS N w w' t O (rmdR T ns).2 (K + 1) := by
  unfold rmdR
  cases e : T.F ns with
  | none =>
    rw [ndO_none e]
    refine (rmd_nil t _ _ w).mono ?_
    rintro e w' ⟨rfl, B⟩
    exact ⟨rfl, TrTo.refl h (by omega) B⟩
  | some nd =>
    rw [ndO_some e]
    cases nd with
    | file bs =>
      refine (rmd_file t _ _ _ w (h.nd _ _ e).1).mono ?_
      rintro e w' ⟨rfl, B⟩
      exact ⟨rfl, TrTo.refl h (by omega) B⟩
    | dir s0 k0 =>
      dsimp only
      obtain ⟨m', m0, m1, m2, m3, mO, mM, htm, hAm⟩ := h.dirM e
      by_cases h0 : ns = []
      · subst h0
        rw [if_pos (.inl rfl)]
        refine (rmd_root t _ _ w m0).mono ?_
        rintro e w' ⟨rfl, B⟩
        exact ⟨rfl, TrTo.refl h (by omega) B⟩
      · obtain ⟨s, kn, hF⟩ := fol_dir hf h0
        have hs := pth_split h0
        obtain ⟨p, hp⟩ : ∃ p, ns.dropLast = p := ⟨_, rfl⟩
        obtain ⟨x, hx⟩ : ∃ x, lastN ns = x := ⟨_, rfl⟩
        rw [hp, hx] at hs
        rw [hp] at hF
        subst hs
        rw [upO_next, lastN_next]
        by_cases hk : k0 = []
        · subst hk
          rw [if_neg (by simp)]
          have hm : x ∈ kn := (h.mem hF x).2 (by rw [e]; rfl)
          refine (rmd_go t (A p) _ m' x _ w (fun w' => TrS N w w' t O (goneT T (p ++ [x])) (K + 1)) m0 m2 mM (fun wb hb => ?_)).mono (fun e w' h => h)
          refine (rem_tr (h.below hb) (tab_below hT hb) hK hF hm e (leaf_file h e (fun nm h => by cases h))).mono ?_
          rintro e w' ⟨rfl, g1, g2⟩
          refine ⟨rfl, ?_⟩
          rw [goneT_eq hF (by assumption)]
          exact TrTo.before ⟨A, O, g1, g2, fun b hb => .inl hb⟩ hb
        · rw [if_pos (.inr hk)]
          refine (rmd_busy t _ _ m' _ x _ w m0 m2 mM (List.length_pos_iff.2 hk)).mono ?_
          rintro e w' ⟨rfl, B⟩
          exact ⟨rfl, TrTo.refl h (by omega) B⟩
end Go.Proofs.YtlnjnimenihhnaaGreatDoor

namespace Go.Proofs.YtlnjnimenihhnaaGreatDoor
open Go.RowKit Go.Maps

theorem cell_block {w : World} {a i : Nat} {v : Value} (h : w.cell? ⟨a, i, none⟩ = some v) : ∃ c ty z, w.heap[a]? = some (.cells c ty z) := by
  unfold World.cell? at h
  split at h
  · rename_i c ty z e; exact ⟨c, ty, z, e⟩
  · cases h
theorem sameAddr_ne {P : Program} {w : World} {a b : Nat} {va vb : Value} (h : ¬ a = b) (ha : w.cell? ⟨a, 0, none⟩ = some va) (hb : w.cell? ⟨b, 0, none⟩ = some vb) (fa : ∀ i, w.frozen? ⟨a, i, none⟩ = false) (fb : ∀ i, w.frozen? ⟨b, i, none⟩ = false) :
    (sameAddr ⟨a, 0, none⟩ ⟨b, 0, none⟩).run P w = .ok false w := by
  obtain ⟨c1, t1, z1, e1⟩ := cell_block ha
  obtain ⟨c2, t2, z2, e2⟩ := cell_block hb
  simp [sameAddr, h, noView, viewAt, World.shape?, mayBeOne, stringish, e1, e2, fa, fb]
theorem infoNode : ∃ j, Tryz.prog.info? 56 = some j ∧ j.size ≠ 0 := by
  have h : (Tryz.prog.info? 56).map (fun i => i.size) = some 4 := by kernel_rfl
  obtain ⟨i, hi, e⟩ := Option.map_eq_some_iff.1 h
  exact ⟨i, hi, by rw [e]; decide⟩
theorem eqN_ne {w : World} {a b : Nat} {va vb : Value} (h : ¬ a = b) (ha : w.cell? ⟨a, 0, none⟩ = some va) (hb : w.cell? ⟨b, 0, none⟩ = some vb) (fa : ∀ i, w.frozen? ⟨a, i, none⟩ = false) (fb : ∀ i, w.frozen? ⟨b, i, none⟩ = false) :
    (binOp .eql 57 (ptr a) (ptr b)).run Tryz.prog w = .ok (.bool false) w ∧ (binOp .neq 57 (ptr a) (ptr b)).run Tryz.prog w = .ok (.bool true) w := by
  obtain ⟨j, hj, hs⟩ := infoNode
  have h : ∀ d : Nat, (Op.equalIn (d + 1) 57 (ptr a) (ptr b)).run Tryz.prog w = .ok false w := fun d => by
    simp [Op.equalIn, run_underlying Tryz.underlying57, sizeOf, typeInfo, hj, hs, sameAddr_ne h ha hb fa fb]
  constructor
  · simp only [binOp]
    simp [Op.equal, Op.maxDepth, h 9999]
  · simp only [binOp]
    simp [Op.equal, Op.maxDepth, h 9999]
theorem eqN_eq (a : Nat) (w : World) : (binOp .eql 57 (ptr a) (ptr a)).run Tryz.prog w = .ok (.bool true) w ∧ (binOp .neq 57 (ptr a) (ptr a)).run Tryz.prog w = .ok (.bool false) w := by
  obtain ⟨j, hj, hs⟩ := infoNode
  have h : ∀ d : Nat, (Op.equalIn (d + 1) 57 (ptr a) (ptr a)).run Tryz.prog w = .ok true w := fun d => by
    simp [Op.equalIn, run_underlying Tryz.underlying57, sizeOf, typeInfo, hj, run_sameAddr_same]
  constructor
  · simp only [binOp]
    simp [Op.equal, Op.maxDepth, h 9999]
  · simp only [binOp]
    simp [Op.equal, Op.maxDepth, h 9999]
theorem eqN_nil (a : Addr) (w : World) : (binOp .eql 57 (.pointer none) (.pointer (some a))).run Tryz.prog w = .ok (.bool false) w := by kernel_rfl
set_option maxHeartbeats 3200000 in
set_option maxRecDepth 100000 in
theorem mv_same (t u q : Nat) (x y : ByteArray) (o2 : Option Addr) (w : World) (m n : Nat) (f : ByteArray → Option Value) (P : World → Prop) (hx : x.size ≤ 256) (c2 : w.cell? ⟨u, 2, none⟩ = some (.map (some m))) (hm : SMap w m n f) (hfx : (f x).isSome = true) (_hum : ¬ u = m)
    (HP : ∀ wb, SMap wb m (n - 1) (updB f x none) → Upd (fun _ _ => False) (fun k => k = m) w wb → Calls Tryz.prog 53 #[ptr t, .agg #[ptr u, .string y, .pointer o2], ptr q] wb fun e w' => e = .returned (.tuple #[]) ∧ P w') :
    Calls Tryz.prog 51 #[ptr t, .agg #[ptr u, .string x, ptr q], .agg #[ptr u, .string y, .pointer o2]] w fun e w' => e = .returned (.int .i64 0) ∧ P w' := by
  have A1 := below_alloc w (spO (ptr u) (.string x) (ptr q))
  have S1 := Sp.alloc w (ptr u) (.string x) (ptr q)
  have z1 : (w.alloc (spO (ptr u) (.string x) (ptr q))).heap.size = w.heap.size + 1 := by simp
  have A2 := below_alloc (w.alloc (spO (ptr u) (.string x) (ptr q))) (spO (ptr u) (.string y) (.pointer o2))
  have S2 := Sp.alloc (w.alloc (spO (ptr u) (.string x) (ptr q))) (ptr u) (.string y) (.pointer o2)
  have R1 := S1.kept (Chg.ofBelowC A2) (fun h => h)
  have A0 := A1.trans (A2.mono A1.size)
  rw [z1] at S2
  have z2 : ((w.alloc (spO (ptr u) (.string x) (ptr q))).alloc (spO (ptr u) (.string y) (.pointer o2))).heap.size = w.heap.size + 2 := by simp
  obtain ⟨wa, hwa⟩ : ∃ wa, Hid ((w.alloc (spO (ptr u) (.string x) (ptr q))).alloc (spO (ptr u) (.string y) (.pointer o2)) = wa) := ⟨_, rfl⟩
  rw [hwa.out] at A0 S2 R1 z2
  clear S1 A1 A2
  have HA : Hid (Below w.heap.size w wa ∧ wa.heap.size = w.heap.size + 2) := ⟨A0, z2⟩
  have HSP : Hid (Sp wa w.heap.size (ptr u) (.string x) (ptr q) ∧ Sp wa (w.heap.size + 1) (ptr u) (.string y) (.pointer o2)) := ⟨R1, S2⟩
  have D0 : Hid (Below wa.heap.size wa wa.drew) := below_drew _ _
  obtain ⟨r0, r1, r2⟩ := R1.c
  obtain ⟨s0, s1, s2⟩ := S2.c
  clear R1 S2 z1 z2 A0
  have hul : u < w.heap.size := World.block_lt_of_cell? w ⟨u, 2, none⟩ c2
  have hml := hm.lt
  have END : ∀ w5, Hid (Below wa.heap.size wa w5) → w5.cell? ⟨w.heap.size, 0, none⟩ = some (ptr u) ∧ w5.cell? ⟨w.heap.size, 1, none⟩ = some (.string x) ∧ w5.cell? ⟨u, 2, none⟩ = some (.map (some m)) ∧ ∃ w8, (Builtin.delete_ #[54, 9] 0 #[.map (some m), .string x]).run Tryz.prog w5.drew = .ok (.tuple #[]) w8 ∧ w8.cell? ⟨w.heap.size, 2, none⟩ = some (ptr q) ∧ w8.cell? ⟨w.heap.size + 1, 0, none⟩ = some (ptr u) ∧ w8.cell? ⟨w.heap.size + 1, 1, none⟩ = some (.string y) ∧ w8.cell? ⟨w.heap.size + 1, 2, none⟩ = some (.pointer o2) ∧ Hid (Calls Tryz.prog 53 #[ptr t, .agg #[ptr u, .string y, .pointer o2], ptr q] w8 fun e w' => e = .returned (.tuple #[]) ∧ P w') := by
    intro w5 hb
    have C5 := Chg.ofBelowC hb.out
    have B5 : Below w.heap.size w w5 := HA.out.1.trans (hb.out.mono HA.out.1.size)
    have k1 := HSP.out.1.kept C5 (fun h => h)
    have k2 := HSP.out.2.kept C5 (fun h => h)
    have km := hm.kept ((Chg.ofBelowC B5).block m hml (fun h => h))
    obtain ⟨w8, hr, hm8, hg, hz⟩ := (km.kept (w' := w5.drew) rfl).delete hx 0
    rw [if_pos hfx] at hm8
    have C8 : Chg (fun k => k = m) w5 w8 := (Chg.drew (fun k => k = m) w5).trans (grown_chg hg) (fun _ _ h => h)
    have k1' := (k1.kept C8 (by omega)).c
    have k2' := (k2.kept C8 (by omega)).c
    refine ⟨k1.c.1, k1.c.2.1, (Chg.ofBelowC B5).cell c2 (fun h => h), w8, hr, k1'.2.2, k2'.1, k2'.2.1, k2'.2.2, HP w8 hm8 ?_⟩
    exact (Upd.below B5).trans ((Upd.ofChg C8).mono (fun _ _ h => h) (fun _ h => h))
  clear c2 hm HP hfx
  have hN := (eqN_eq u wa.drew).2
  obtain ⟨b0, b1, b2', w8, hr, b2, d0, d1, d2, HC⟩ := END wa.drew D0
  clear END
  go_enter Tryz.func51, Tryz.ntmps51
  go_wp2_with fail
  rw [hwa.out]
  all_goals
    go_region
    go_wp2_with fail
    go_region
    go_wp2_with fail
    refine HC.out.mono ?_
    rintro e w9 ⟨rfl, hP⟩
    have HPP : Hid (P w9) := hP
    clear HC hP hr b2 d0 d1 d2
    go_wp2_with fail
    go_ret
    exact ⟨rfl, HPP.out⟩
set_option maxHeartbeats 3200000 in
set_option maxRecDepth 100000 in
theorem mv_other (t u g q : Nat) (x y : ByteArray) (o2 : Option Addr) (w : World) (m n : Nat) (f : ByteArray → Option Value) (P : World → Prop) (hx : x.size ≤ 256) (c2 : w.cell? ⟨u, 2, none⟩ = some (.map (some m))) (hm : SMap w m n f) (hfx : (f x).isSome = true) (_hum : ¬ u = m)
    (HP : ∀ wb, SMap wb m (n - 1) (updB f x none) → Upd (fun _ _ => False) (fun k => k = m) w wb → Calls Tryz.prog 53 #[ptr t, .agg #[ptr g, .string y, .pointer o2], ptr q] wb fun e w' => e = .returned (.tuple #[]) ∧ P w') (X bl : Int) (cbl : w.cell? ⟨t, 4, none⟩ = some (.int .i64 bl)) (hq : ¬ bl < X) (HN : ∀ wb, Below w.heap.size w wb → (binOp .neq 57 (ptr u) (ptr g)).run Tryz.prog wb = .ok (.bool true) wb) (HF : ∀ wb, Below w.heap.size w wb → Calls Tryz.prog 52 #[ptr g] wb fun e w' => e = .returned (.int .i64 X) ∧ Below wb.heap.size wb w') :
    Calls Tryz.prog 51 #[ptr t, .agg #[ptr u, .string x, ptr q], .agg #[ptr g, .string y, .pointer o2]] w fun e w' => e = .returned (.int .i64 0) ∧ P w' := by
  have A1 := below_alloc w (spO (ptr u) (.string x) (ptr q))
  have S1 := Sp.alloc w (ptr u) (.string x) (ptr q)
  have z1 : (w.alloc (spO (ptr u) (.string x) (ptr q))).heap.size = w.heap.size + 1 := by simp
  have A2 := below_alloc (w.alloc (spO (ptr u) (.string x) (ptr q))) (spO (ptr g) (.string y) (.pointer o2))
  have S2 := Sp.alloc (w.alloc (spO (ptr u) (.string x) (ptr q))) (ptr g) (.string y) (.pointer o2)
  have R1 := S1.kept (Chg.ofBelowC A2) (fun h => h)
  have A0 := A1.trans (A2.mono A1.size)
  rw [z1] at S2
  have z2 : ((w.alloc (spO (ptr u) (.string x) (ptr q))).alloc (spO (ptr g) (.string y) (.pointer o2))).heap.size = w.heap.size + 2 := by simp
  obtain ⟨wa, hwa⟩ : ∃ wa, Hid ((w.alloc (spO (ptr u) (.string x) (ptr q))).alloc (spO (ptr g) (.string y) (.pointer o2)) = wa) := ⟨_, rfl⟩
  rw [hwa.out] at A0 S2 R1 z2
  clear S1 A1 A2
  have HA : Hid (Below w.heap.size w wa ∧ wa.heap.size = w.heap.size + 2) := ⟨A0, z2⟩
  have HSP : Hid (Sp wa w.heap.size (ptr u) (.string x) (ptr q) ∧ Sp wa (w.heap.size + 1) (ptr g) (.string y) (.pointer o2)) := ⟨R1, S2⟩
  have D0 : Hid (Below wa.heap.size wa wa.drew) := below_drew _ _
  obtain ⟨r0, r1, r2⟩ := R1.c
  obtain ⟨s0, s1, s2⟩ := S2.c
  clear R1 S2 z1 z2 A0
  have hul : u < w.heap.size := World.block_lt_of_cell? w ⟨u, 2, none⟩ c2
  have hml := hm.lt
  have END : ∀ w5, Hid (Below wa.heap.size wa w5) → w5.cell? ⟨w.heap.size, 0, none⟩ = some (ptr u) ∧ w5.cell? ⟨w.heap.size, 1, none⟩ = some (.string x) ∧ w5.cell? ⟨u, 2, none⟩ = some (.map (some m)) ∧ ∃ w8, (Builtin.delete_ #[54, 9] 0 #[.map (some m), .string x]).run Tryz.prog w5.drew = .ok (.tuple #[]) w8 ∧ w8.cell? ⟨w.heap.size, 2, none⟩ = some (ptr q) ∧ w8.cell? ⟨w.heap.size + 1, 0, none⟩ = some (ptr g) ∧ w8.cell? ⟨w.heap.size + 1, 1, none⟩ = some (.string y) ∧ w8.cell? ⟨w.heap.size + 1, 2, none⟩ = some (.pointer o2) ∧ Hid (Calls Tryz.prog 53 #[ptr t, .agg #[ptr g, .string y, .pointer o2], ptr q] w8 fun e w' => e = .returned (.tuple #[]) ∧ P w') := by
    intro w5 hb
    have C5 := Chg.ofBelowC hb.out
    have B5 : Below w.heap.size w w5 := HA.out.1.trans (hb.out.mono HA.out.1.size)
    have k1 := HSP.out.1.kept C5 (fun h => h)
    have k2 := HSP.out.2.kept C5 (fun h => h)
    have km := hm.kept ((Chg.ofBelowC B5).block m hml (fun h => h))
    obtain ⟨w8, hr, hm8, hg, hz⟩ := (km.kept (w' := w5.drew) rfl).delete hx 0
    rw [if_pos hfx] at hm8
    have C8 : Chg (fun k => k = m) w5 w8 := (Chg.drew (fun k => k = m) w5).trans (grown_chg hg) (fun _ _ h => h)
    have k1' := (k1.kept C8 (by omega)).c
    have k2' := (k2.kept C8 (by omega)).c
    refine ⟨k1.c.1, k1.c.2.1, (Chg.ofBelowC B5).cell c2 (fun h => h), w8, hr, k1'.2.2, k2'.1, k2'.2.1, k2'.2.2, HP w8 hm8 ?_⟩
    exact (Upd.below B5).trans ((Upd.ofChg C8).mono (fun _ _ h => h) (fun _ h => h))
  clear c2 hm HP hfx
  have HB : ∀ wb, Hid (Below wa.heap.size wa wb) → Hid (Calls Tryz.prog 52 #[ptr g] wb fun e w' => e = .returned (.int .i64 X) ∧ w'.cell? ⟨t, 4, none⟩ = some (.int .i64 bl) ∧ Hid (Below wa.heap.size wa w')) := by
    intro wb hb
    refine (HF wb (HA.out.1.trans (hb.out.mono HA.out.1.size))).mono ?_
    rintro e w' ⟨rfl, B⟩
    have B2 := hb.out.trans (B.mono hb.out.size)
    exact ⟨rfl, (Chg.ofBelowC (HA.out.1.trans (B2.mono HA.out.1.size))).cell cbl (fun h => h), B2⟩
  have g4 := (Chg.ofBelowC HA.out.1).cell cbl (fun h => h)
  have hN := HN wa HA.out.1
  have hN2 := HN wa.drew (HA.out.1.trans (D0.out.mono HA.out.1.size))
  clear HN HF cbl
  go_enter Tryz.func51, Tryz.ntmps51
  go_wp2_with fail
  rw [hwa.out]
  go_region_with (first | (go_at_call 52; refine (HB _ (by first | exact D0)).out.mono ?_; clear HB; rintro e w5 ⟨rfl, d4, HB5⟩))
  all_goals
    obtain ⟨b0, b1, b2', w8, hr, b2, d0, d1, d2, HC⟩ := END w5 HB5
    clear END HB5 r0 r1 r2 s0 s1 s2 g4 hN hN2
    go_wp2_with fail
    go_region
    go_wp2_with fail
    refine HC.out.mono ?_
    rintro e w9 ⟨rfl, hP⟩
    have HPP : Hid (P w9) := hP
    clear HC hP hr b2 d0 d1 d2
    go_wp2_with fail
    go_ret
    exact ⟨rfl, HPP.out⟩
set_option maxHeartbeats 3200000 in
set_option maxRecDepth 100000 in
theorem mv_full (t u g q : Nat) (x y : ByteArray) (o2 : Option Addr) (w : World) (X bl : Int) (cbl : w.cell? ⟨t, 4, none⟩ = some (.int .i64 bl)) (hq : bl < X) (HN : ∀ wb, Below w.heap.size w wb → (binOp .neq 57 (ptr u) (ptr g)).run Tryz.prog wb = .ok (.bool true) wb) (HF : ∀ wb, Below w.heap.size w wb → Calls Tryz.prog 52 #[ptr g] wb fun e w' => e = .returned (.int .i64 X) ∧ Below wb.heap.size wb w') :
    Calls Tryz.prog 51 #[ptr t, .agg #[ptr u, .string x, ptr q], .agg #[ptr g, .string y, .pointer o2]] w fun e w' => e = .returned (.int .i64 7) ∧ Below w.heap.size w w' := by
  have A1 := below_alloc w (spO (ptr u) (.string x) (ptr q))
  have S1 := Sp.alloc w (ptr u) (.string x) (ptr q)
  have z1 : (w.alloc (spO (ptr u) (.string x) (ptr q))).heap.size = w.heap.size + 1 := by simp
  have A2 := below_alloc (w.alloc (spO (ptr u) (.string x) (ptr q))) (spO (ptr g) (.string y) (.pointer o2))
  have S2 := Sp.alloc (w.alloc (spO (ptr u) (.string x) (ptr q))) (ptr g) (.string y) (.pointer o2)
  have R1 := S1.kept (Chg.ofBelowC A2) (fun h => h)
  have A0 := A1.trans (A2.mono A1.size)
  rw [z1] at S2
  have z2 : ((w.alloc (spO (ptr u) (.string x) (ptr q))).alloc (spO (ptr g) (.string y) (.pointer o2))).heap.size = w.heap.size + 2 := by simp
  obtain ⟨wa, hwa⟩ : ∃ wa, Hid ((w.alloc (spO (ptr u) (.string x) (ptr q))).alloc (spO (ptr g) (.string y) (.pointer o2)) = wa) := ⟨_, rfl⟩
  rw [hwa.out] at A0 S2 R1 z2
  clear S1 A1 A2
  have HA : Hid (Below w.heap.size w wa ∧ wa.heap.size = w.heap.size + 2) := ⟨A0, z2⟩
  have HSP : Hid (Sp wa w.heap.size (ptr u) (.string x) (ptr q) ∧ Sp wa (w.heap.size + 1) (ptr g) (.string y) (.pointer o2)) := ⟨R1, S2⟩
  have D0 : Hid (Below wa.heap.size wa wa.drew) := below_drew _ _
  obtain ⟨r0, r1, r2⟩ := R1.c
  obtain ⟨s0, s1, s2⟩ := S2.c
  clear R1 S2 z1 z2 A0
  have HB : ∀ wb, Hid (Below wa.heap.size wa wb) → Hid (Calls Tryz.prog 52 #[ptr g] wb fun e w' => e = .returned (.int .i64 X) ∧ w'.cell? ⟨t, 4, none⟩ = some (.int .i64 bl) ∧ Hid (Below wa.heap.size wa w')) := by
    intro wb hb
    refine (HF wb (HA.out.1.trans (hb.out.mono HA.out.1.size))).mono ?_
    rintro e w' ⟨rfl, B⟩
    have B2 := hb.out.trans (B.mono hb.out.size)
    exact ⟨rfl, (Chg.ofBelowC (HA.out.1.trans (B2.mono HA.out.1.size))).cell cbl (fun h => h), B2⟩
  have g4 := (Chg.ofBelowC HA.out.1).cell cbl (fun h => h)
  have hN := HN wa HA.out.1
  have hN2 := HN wa.drew (HA.out.1.trans (D0.out.mono HA.out.1.size))
  clear HN HF cbl
  go_enter Tryz.func51, Tryz.ntmps51
  go_wp2_with fail
  rw [hwa.out]
  go_region_with (first | (go_at_call 52; refine (HB _ (by first | exact D0)).out.mono ?_; clear HB; rintro e w5 ⟨rfl, d4, HB5⟩))
  all_goals
    clear r0 r1 r2 s0 s1 s2 g4 hN hN2
    go_wp2_with fail
    go_ret
    exact ⟨rfl, HA.out.1.trans (HB5.out.mono HA.out.1.size)⟩
end Go.Proofs.YtlnjnimenihhnaaGreatDoor

namespace Go.Proofs.YtlnjnimenihhnaaGreatDoor
open Go.RowKit Go.Maps

theorem furB_free {s n : Nat} (h : n < s) : furB s n = 0 := if_pos h
theorem tab_upd {C : Nat → Nat → Prop} {S : Nat → Prop} {w w' : World} (h : Tab w) (hU : Upd C S w w') {t : Nat} {bl : Int} (_h4 : w.cell? ⟨t, 4, none⟩ = some (.int .i64 bl)) (hC : ∀ b i, C b i → w.cell? ⟨b, i, none⟩ = none ∨ ∃ k, w.cell? ⟨b, i, none⟩ = some (.int .i64 k)) (hS : ∀ b, S b → ∀ i, w.cell? ⟨b, i, none⟩ = none) : Tab w' := by
  intro j hj
  have e := h j hj
  refine hU.cell _ _ _ (fun hs => ?_) (fun hc => ?_) e
  · have := hS _ hs j
    rw [e] at this; cases this
  · rcases hC _ _ hc with h1 | ⟨k, h1⟩
    · rw [e] at h1; cases h1
    · rw [e] at h1; cases h1
theorem SMap.nocell {w : World} {m n : Nat} {f : ByteArray → Option Value} (h : SMap w m n f) (i : Nat) : w.cell? ⟨m, i, none⟩ = none := by
  obtain ⟨D, ⟨es, clock, hb, _⟩, _⟩ := h
  unfold World.cell?
  simp only [hb]
theorem dele_in {kn : List ByteArray} {x : ByteArray} (hd : kn.Nodup) (hx : x ∈ kn) : (dele kn x).length + 1 = kn.length := by
  have := dele_len hd hx
  have : 0 < kn.length := List.length_pos_of_mem hx
  omega
theorem mov_same {N : Nat} {w : World} {t : Nat} {T : Ts} {A : Pth → Nat} {O : Nat → Option (Pth × Nat)} {K : Nat} (h : Tr w t T.F A O T.bl T.ino K) (hT : Tab w) (hK : K ≤ 70000) {p : Pth} {x y : ByteArray} {s : Nat} {kn : List ByteArray} (hF : T.F p = some (.dir s kn)) (hx : x ∈ kn) (hy : ¬ y ∈ kn) (hny : nameB y = true) (o2 : Option Addr) :
    Calls Tryz.prog 51 #[ptr t, .agg #[ptr (A p), .string x, ptr (A (p ++ [x]))], .agg #[ptr (A p), .string y, .pointer o2]] w fun e w' => e = .returned (.int .i64 (movR T (p ++ [x]) (p ++ [y])).1) ∧ TrS N w w' t O (movR T (p ++ [x]) (p ++ [y])).2 (K + 1) := by
  obtain ⟨m, m0, m1, m2, m3, mO, mM, htm, hAm⟩ := h.dirM hF
  have hum := hAm p _ hF
  obtain ⟨a1, a2, a3, a4⟩ := h.nms p s kn hF
  have hl := dele_in a1 hx
  have hmv : movR T (p ++ [x]) (p ++ [y]) = (0, ⟨graft (setN T.F p (some (.dir s (y :: dele kn x)))) (p ++ [x]) (p ++ [y]), T.bl, T.ino⟩) := by
    unfold movR
    simp only [List.dropLast_concat, hF, if_true, lastN_next]
  rw [hmv]
  have bb := h.bb
  have hxy : ¬ x = y := fun e => hy (e ▸ hx)
  refine mv_same t (A p) (A (p ++ [x])) x y o2 w m kn.length (kidF A p kn) (fun w' => TrS N w w' t O ⟨graft (setN T.F p (some (.dir s (y :: dele kn x)))) (p ++ [x]) (p ++ [y]), T.bl, T.ino⟩ (K + 1)) (name_size (a2 x hx)) m2 mM (kidF_some hx) hum (fun wb hmb hub => ?_)
  have hlt := h.lt _ _ (h.own p _ hF)
  have htl := h.lt _ _ h.atT
  have c4 := hub.cell _ _ _ htm (fun h => h) h.cbl
  have hTb : Tab wb := tab_upd hT hub h.cbl (fun _ _ h => h.elim) (fun b hb i => by rw [hb]; exact mM.nocell i)
  have hf1 : updB (kidF A p kn) x none y = none := by rw [updB_other _ _ (fun e => hxy e.symm), kidF_none hy]
  refine (tput_any t (A p) m (kn.length - 1) s y _ (.pointer o2) (ptr (A (p ++ [x]))) T.bl wb hTb (name_size hny) c4 (hub.cell _ _ _ hum (fun h => h) m2) hmb (hub.cell _ _ _ hum (fun h => h) m3) hf1 (by omega) (by omega) htm hum (fun i => (hub.fr t i htl htm).trans (h.frT i)) (fun i => (hub.fr _ i hlt hum).trans (h.fr p _ hF i)) (by omega) (by omega)).mono ?_
  rintro e w' ⟨rfl, hm', U', k4, k3⟩
  refine ⟨rfl, ?_⟩
  rw [furB_free (by omega), show max s (kn.length - 1 + 1) = s by omega] at *
  have hU := (hub.mono (C' := fun b i => (b = t ∧ i = 4) ∨ (b = A p ∧ i = 3)) (S' := fun k => k = m ∨ k = m) (fun _ _ h => h.elim) (fun _ h => .inl h)).trans (U'.mono (fun _ _ h => h) (fun _ h => .inl h))
  have e0 := h.atT
  refine h.move (K' := K + 1) (F2 := setN T.F p (some (.dir s (y :: dele kn x)))) (mf := m) (mg := m) (by omega) ((h.mem hF x).1 hx) ?_ (by rw [hF]; rfl) (by rw [hF]; rfl) ?_ (fun q h1 _ => setN_other _ _ h1) mO mO ?_ hU (by rw [k4]; simp) ⟨(by show 0 ≤ T.bl; omega), (by show T.bl ≤ _; omega)⟩
  · cases e : T.F (p ++ [y]) with
    | none => rfl
    | some z => exact absurd ((h.mem hF y).2 (by rw [e]; rfl)) hy
  · intro e
    have e2 : (p ++ [y]).take (p ++ [x]).length = p ++ [x] := e
    rw [List.length_append, List.length_singleton, List.take_of_length_le (by simp)] at e2
    exact hxy (pth_inj e2).2.symm
  · intro Q hQ
    obtain rfl : Q = p := hQ.elim id id
    have hs : ¬ (A Q = m ∨ A Q = m) := fun e => hum (e.elim id id)
    refine ⟨s, y :: dele kn x, m, setN_same _ _ _, List.nodup_cons.2 ⟨fun e => hy (dele_mem.1 e).2, dele_nodup _ a1⟩, fun nm hm => ?_, by rw [List.length_cons]; omega, by omega, fun nm => ?_, hU.cell _ _ _ hs (by omega) m0, hU.cell _ _ _ hs (by omega) m1, hU.cell _ _ _ hs (by omega) m2, k3, mO, ?_⟩
    · rcases List.mem_cons.1 hm with rfl | hm
      · exact hny
      · exact a2 nm (dele_mem.1 hm).2
    · rw [List.mem_cons, dele_mem, h.mem hF nm]
      constructor
      · rintro (rfl | ⟨h1, h2⟩)
        · exact .inl rfl
        · exact .inr ⟨fun e => h1 (pth_inj e).2, h2⟩
      · rintro (h1 | ⟨h1, h2⟩)
        · exact .inl (pth_inj h1).2
        · exact .inr ⟨fun e => h1 (by rw [e]), h2⟩
    · rw [show (y :: dele kn x).length = kn.length - 1 + 1 by rw [List.length_cons]; omega]
      refine hm'.ext (fun nm _ => ?_)
      unfold updB kidF
      rw [show inB nm (y :: dele kn x) = (decide (nm = y) || inB nm (dele kn x)) from rfl, inB_dele]
      by_cases e1 : nm = y
      · subst e1; simp
      · have e4 : ¬ Q ++ [nm] = Q ++ [y] := fun e => e1 (pth_inj e).2
        by_cases e2 : nm = x
        · subst e2; simp [e1]
        · simp [e1, e2]

theorem mov_other {N : Nat} {w : World} {t : Nat} {T : Ts} {A : Pth → Nat} {O : Nat → Option (Pth × Nat)} {K : Nat} (h : Tr w t T.F A O T.bl T.ino K) (hT : Tab w) (hK : K ≤ 70000) {p r : Pth} {x y : ByteArray} {s sg : Nat} {kn kg : List ByteArray} (hF : T.F p = some (.dir s kn)) (hx : x ∈ kn) (hG : T.F r = some (.dir sg kg)) (hpr : ¬ p = r) (hy : ¬ y ∈ kg) (hny : nameB y = true) (hun : ¬ Un (p ++ [x]) (r ++ [y])) (o2 : Option Addr) :
    Calls Tryz.prog 51 #[ptr t, .agg #[ptr (A p), .string x, ptr (A (p ++ [x]))], .agg #[ptr (A r), .string y, .pointer o2]] w fun e w' => e = .returned (.int .i64 (movR T (p ++ [x]) (r ++ [y])).1) ∧ TrS N w w' t O (movR T (p ++ [x]) (r ++ [y])).2 (K + 1) := by
  obtain ⟨m, m0, m1, m2, m3, mO, mM, htm, hAm⟩ := h.dirM hF
  obtain ⟨mg, g0, g1, g2, g3, gO, gM, htg, hAg⟩ := h.dirM hG
  have hum := hAm p _ hF
  have hgm := hAm r _ hG
  have hug := hAg p _ hF
  have hgg := hAg r _ hG
  have hmm : ¬ m = mg := fun e => by rw [e, gO] at mO; cases mO; exact hpr rfl
  have hAA : ¬ A p = A r := fun e => hpr (h.inj hF hG e)
  obtain ⟨a1, a2, a3, a4⟩ := h.nms p s kn hF
  obtain ⟨b1, b2, b3, b4⟩ := h.nms r sg kg hG
  have hl := dele_in a1 hx
  have bb := h.bb
  have fb := furB_bd sg kg.length
  have HN : ∀ wb, Below w.heap.size w wb → (binOp .neq 57 (ptr (A p)) (ptr (A r))).run Tryz.prog wb = .ok (.bool true) wb := fun wb hb => by
    have h2 := h.below hb
    exact (eqN_ne hAA ((Chg.ofBelowC hb).cell m0 (fun h => h)) ((Chg.ofBelowC hb).cell g0 (fun h => h)) (h2.fr p _ hF) (h2.fr r _ hG)).2
  have HF : ∀ wb, Below w.heap.size w wb → Calls Tryz.prog 52 #[ptr (A r)] wb fun e w' => e = .returned (.int .i64 (furB sg kg.length)) ∧ Below wb.heap.size wb w' := fun wb hb => by
    have C := Chg.ofBelowC hb
    exact further_any (A r) sg kg.length mg (kidF A r kg) wb (tab_below hT hb) (C.cell g2 (fun h => h)) (gM.kept (C.block mg gM.lt (fun h => h))) (C.cell g3 (fun h => h)) (by omega) b3
  by_cases hq : T.bl < furB sg kg.length
  · have hmv : movR T (p ++ [x]) (r ++ [y]) = (7, T) := by
      unfold movR
      simp only [List.dropLast_concat, hF, hG, if_neg hpr, if_pos hq]
    rw [hmv]
    refine (mv_full t (A p) (A r) (A (p ++ [x])) x y o2 w (furB sg kg.length) T.bl h.cbl hq HN HF).mono ?_
    rintro e w' ⟨rfl, B⟩
    exact ⟨rfl, TrTo.refl h (by omega) B⟩
  have hmv : movR T (p ++ [x]) (r ++ [y]) = (0, ⟨graft (setN (setN T.F p (some (.dir s (dele kn x)))) r (some (.dir (max sg (kg.length + 1)) (y :: kg)))) (p ++ [x]) (r ++ [y]), T.bl - furB sg kg.length, T.ino⟩) := by
    unfold movR
    simp only [List.dropLast_concat, hF, hG, if_neg hpr, if_neg hq, lastN_next]
  rw [hmv]
  refine mv_other t (A p) (A r) (A (p ++ [x])) x y o2 w m kn.length (kidF A p kn) (fun w' => TrS N w w' t O ⟨graft (setN (setN T.F p (some (.dir s (dele kn x)))) r (some (.dir (max sg (kg.length + 1)) (y :: kg)))) (p ++ [x]) (r ++ [y]), T.bl - furB sg kg.length, T.ino⟩ (K + 1)) (name_size (a2 x hx)) m2 mM (kidF_some hx) hum (fun wb hmb hub => ?_) (furB sg kg.length) T.bl h.cbl hq HN HF
  have hlt := h.lt _ _ (h.own r _ hG)
  have htl := h.lt _ _ h.atT
  have c4 := hub.cell _ _ _ htm (fun h => h) h.cbl
  have hTb : Tab wb := tab_upd hT hub h.cbl (fun _ _ h => h.elim) (fun b hb i => by rw [hb]; exact mM.nocell i)
  refine (tput_any t (A r) mg kg.length sg y _ (.pointer o2) (ptr (A (p ++ [x]))) T.bl wb hTb (name_size hny) c4 (hub.cell _ _ _ hgm (fun h => h) g2) (hub.smap gM (fun e => hmm e.symm) (fun _ h => h)) (hub.cell _ _ _ hgm (fun h => h) g3) (kidF_none hy) b3 (by omega) htg hgg (fun i => (hub.fr t i htl htm).trans (h.frT i)) (fun i => (hub.fr _ i hlt hgm).trans (h.fr r _ hG i)) (by omega) (by omega)).mono ?_
  rintro e w' ⟨rfl, hm', U', k4, k3⟩
  refine ⟨rfl, ?_⟩
  have hU := (hub.mono (C' := fun b i => (b = t ∧ i = 4) ∨ (b = A r ∧ i = 3)) (S' := fun k => k = m ∨ k = mg) (fun _ _ h => h.elim) (fun _ h => .inl h)).trans (U'.mono (fun _ _ h => h) (fun _ h => .inr h))
  have hmt := h.atT
  have hmf' : SMap w' m (kn.length - 1) (updB (kidF A p kn) x none) := U'.smap hmb hmm (fun i e => by
    rcases e with ⟨e, _⟩ | ⟨e, _⟩
    · exact htm e.symm
    · exact hgm e.symm)
  have hb1 : T.bl - furB sg kg.length ≤ 20000 * ((K + 1 : Nat) : Int) + 20000 := by
    have := slB_bd (sg + 1)
    omega
  refine h.move (K' := K + 1) (F2 := setN (setN T.F p (some (.dir s (dele kn x)))) r (some (.dir (max sg (kg.length + 1)) (y :: kg)))) (mf := m) (mg := mg) (by omega) ((h.mem hF x).1 hx) ?_ (by rw [hF]; rfl) (by rw [hG]; rfl) hun (fun q h1 h2 => by rw [setN_other _ _ h2, setN_other _ _ h1]) mO gO ?_ hU k4 ⟨(by show 0 ≤ T.bl - furB sg kg.length; omega), hb1⟩
  · cases e : T.F (r ++ [y]) with
    | none => rfl
    | some z => exact absurd ((h.mem hG y).2 (by rw [e]; rfl)) hy
  · have hsr : ∀ Q nd, T.F Q = some nd → ¬ (A Q = m ∨ A Q = mg) := fun Q nd hQ e => e.elim (hAm Q nd hQ) (hAg Q nd hQ)
    intro Q hQ
    rcases hQ with rfl | rfl
    · have hs := hsr Q _ hF
      refine ⟨s, dele kn x, m, by rw [setN_other _ _ hpr, setN_same], dele_nodup _ a1, fun nm hm => a2 nm (dele_mem.1 hm).2, by omega, by omega, fun nm => ?_, hU.cell _ _ _ hs (by omega) m0, hU.cell _ _ _ hs (by omega) m1, hU.cell _ _ _ hs (by omega) m2, hU.cell _ _ _ hs (by omega) m3, mO, ?_⟩
      · rw [dele_mem, h.mem hF nm]
        constructor
        · rintro ⟨h1, h2⟩
          exact .inr ⟨fun e => h1 (pth_inj e).2, h2⟩
        · rintro (h1 | ⟨h1, h2⟩)
          · exact absurd (pth_inj h1).1 hpr
          · exact ⟨fun e => h1 (by rw [e]), h2⟩
      · rw [show (dele kn x).length = kn.length - 1 by omega]
        refine hmf'.ext (fun nm _ => ?_)
        have e4 : ¬ Q ++ [nm] = r ++ [y] := fun e => hpr (pth_inj e).1
        unfold updB kidF
        rw [inB_dele, if_neg e4]
        by_cases e2 : nm = x
        · subst e2; simp
        · simp [e2]
    · have hs := hsr Q _ hG
      refine ⟨max sg (kg.length + 1), y :: kg, mg, setN_same _ _ _, List.nodup_cons.2 ⟨hy, b1⟩, fun nm hm => ?_, by rw [List.length_cons]; omega, by omega, fun nm => ?_, hU.cell _ _ _ hs (by omega) g0, hU.cell _ _ _ hs (by omega) g1, hU.cell _ _ _ hs (by omega) g2, k3, gO, ?_⟩
      · rcases List.mem_cons.1 hm with rfl | hm
        · exact hny
        · exact b2 nm hm
      · rw [List.mem_cons, h.mem hG nm]
        constructor
        · rintro (rfl | h2)
          · exact .inl rfl
          · exact .inr ⟨fun e => hpr (pth_inj e).1.symm, h2⟩
        · rintro (h1 | ⟨h1, h2⟩)
          · exact .inl (pth_inj h1).2
          · exact .inr h2
      · refine hm'.ext (fun nm _ => ?_)
        unfold updB kidF
        rw [show inB nm (y :: kg) = (decide (nm = y) || inB nm kg) from rfl]
        by_cases e1 : nm = y
        · subst e1; simp
        · have e4 : ¬ Q ++ [nm] = Q ++ [y] := fun e => e1 (pth_inj e).2
          simp [e1]
end Go.Proofs.YtlnjnimenihhnaaGreatDoor

namespace Go.Proofs.YtlnjnimenihhnaaGreatDoor
open Go.RowKit Go.Maps

theorem len_nil (w : World) : (Builtin.len_ #[54] 3 #[.map none]).run Tryz.prog w = .ok (.int .i64 0) w := by kernel_rfl
set_option maxHeartbeats 3200000 in
set_option maxRecDepth 100000 in
theorem rep_dir (t q b : Nat) (o1 o2 : Option Addr) (x y : ByteArray) (w : World) (c1 : w.cell? ⟨q, 0, none⟩ = some (.bool true)) (c2 : w.cell? ⟨b, 0, none⟩ = some (.bool false)) :
    Calls Tryz.prog 50 #[ptr t, .agg #[.pointer o1, .string x, ptr q], .agg #[.pointer o2, .string y, ptr b]] w fun e w' => e = .returned (.int .i64 10) ∧ Below w.heap.size w w' := by
  have A1 := below_alloc w (spO (.pointer o1) (.string x) (ptr q))
  have S1 := Sp.alloc w (.pointer o1) (.string x) (ptr q)
  have z1 : (w.alloc (spO (.pointer o1) (.string x) (ptr q))).heap.size = w.heap.size + 1 := by simp
  have A2 := below_alloc (w.alloc (spO (.pointer o1) (.string x) (ptr q))) (spO (.pointer o2) (.string y) (ptr b))
  have S2 := Sp.alloc (w.alloc (spO (.pointer o1) (.string x) (ptr q))) (.pointer o2) (.string y) (ptr b)
  have R1 := S1.kept (Chg.ofBelowC A2) (fun h => h)
  have A0 := A1.trans (A2.mono A1.size)
  rw [z1] at S2
  obtain ⟨wa, hwa⟩ : ∃ wa, wa = (w.alloc (spO (.pointer o1) (.string x) (ptr q))).alloc (spO (.pointer o2) (.string y) (ptr b)) := ⟨_, rfl⟩
  rw [← hwa] at A0 S2 R1
  have HA : Hid (Below w.heap.size w wa) := A0
  have HSP : Hid (Sp wa w.heap.size (.pointer o1) (.string x) (ptr q) ∧ Sp wa (w.heap.size + 1) (.pointer o2) (.string y) (ptr b)) := ⟨R1, S2⟩
  have f1 := (Chg.ofBelowC HA.out).cell c1 (fun h => h)
  have f2 := (Chg.ofBelowC HA.out).cell c2 (fun h => h)
  clear S1 A1 A2 R1 S2 z1 A0
  subst hwa
  go_enter Tryz.func50, Tryz.ntmps50
  go_wp2_with fail
  go_ret
  exact ⟨rfl, HA.out⟩
set_option maxHeartbeats 3200000 in
set_option maxRecDepth 100000 in
theorem rep_file (t q b : Nat) (o1 o2 : Option Addr) (x y : ByteArray) (w : World) (c1 : w.cell? ⟨q, 0, none⟩ = some (.bool false)) (c2 : w.cell? ⟨b, 0, none⟩ = some (.bool true)) :
    Calls Tryz.prog 50 #[ptr t, .agg #[.pointer o1, .string x, ptr q], .agg #[.pointer o2, .string y, ptr b]] w fun e w' => e = .returned (.int .i64 11) ∧ Below w.heap.size w w' := by
  have A1 := below_alloc w (spO (.pointer o1) (.string x) (ptr q))
  have S1 := Sp.alloc w (.pointer o1) (.string x) (ptr q)
  have z1 : (w.alloc (spO (.pointer o1) (.string x) (ptr q))).heap.size = w.heap.size + 1 := by simp
  have A2 := below_alloc (w.alloc (spO (.pointer o1) (.string x) (ptr q))) (spO (.pointer o2) (.string y) (ptr b))
  have S2 := Sp.alloc (w.alloc (spO (.pointer o1) (.string x) (ptr q))) (.pointer o2) (.string y) (ptr b)
  have R1 := S1.kept (Chg.ofBelowC A2) (fun h => h)
  have A0 := A1.trans (A2.mono A1.size)
  rw [z1] at S2
  obtain ⟨wa, hwa⟩ : ∃ wa, wa = (w.alloc (spO (.pointer o1) (.string x) (ptr q))).alloc (spO (.pointer o2) (.string y) (ptr b)) := ⟨_, rfl⟩
  rw [← hwa] at A0 S2 R1
  have HA : Hid (Below w.heap.size w wa) := A0
  have HSP : Hid (Sp wa w.heap.size (.pointer o1) (.string x) (ptr q) ∧ Sp wa (w.heap.size + 1) (.pointer o2) (.string y) (ptr b)) := ⟨R1, S2⟩
  have f1 := (Chg.ofBelowC HA.out).cell c1 (fun h => h)
  have f2 := (Chg.ofBelowC HA.out).cell c2 (fun h => h)
  clear S1 A1 A2 R1 S2 z1 A0
  subst hwa
  go_enter Tryz.func50, Tryz.ntmps50
  go_wp2_with fail
  go_ret
  exact ⟨rfl, HA.out⟩
set_option maxHeartbeats 3200000 in
set_option maxRecDepth 100000 in
theorem rep_busy (t q b : Nat) (o1 o2 : Option Addr) (x y : ByteArray) (w : World) (c1 : w.cell? ⟨q, 0, none⟩ = some (.bool false)) (c2 : w.cell? ⟨b, 0, none⟩ = some (.bool false)) (m n : Nat) (f : ByteArray → Option Value) (c3 : w.cell? ⟨b, 2, none⟩ = some (.map (some m))) (hm : SMap w m n f) (hn : 0 < n) :
    Calls Tryz.prog 50 #[ptr t, .agg #[.pointer o1, .string x, ptr q], .agg #[.pointer o2, .string y, ptr b]] w fun e w' => e = .returned (.int .i64 13) ∧ Below w.heap.size w w' := by
  have A1 := below_alloc w (spO (.pointer o1) (.string x) (ptr q))
  have S1 := Sp.alloc w (.pointer o1) (.string x) (ptr q)
  have z1 : (w.alloc (spO (.pointer o1) (.string x) (ptr q))).heap.size = w.heap.size + 1 := by simp
  have A2 := below_alloc (w.alloc (spO (.pointer o1) (.string x) (ptr q))) (spO (.pointer o2) (.string y) (ptr b))
  have S2 := Sp.alloc (w.alloc (spO (.pointer o1) (.string x) (ptr q))) (.pointer o2) (.string y) (ptr b)
  have R1 := S1.kept (Chg.ofBelowC A2) (fun h => h)
  have A0 := A1.trans (A2.mono A1.size)
  rw [z1] at S2
  obtain ⟨wa, hwa⟩ : ∃ wa, wa = (w.alloc (spO (.pointer o1) (.string x) (ptr q))).alloc (spO (.pointer o2) (.string y) (ptr b)) := ⟨_, rfl⟩
  rw [← hwa] at A0 S2 R1
  have HA : Hid (Below w.heap.size w wa) := A0
  have HSP : Hid (Sp wa w.heap.size (.pointer o1) (.string x) (ptr q) ∧ Sp wa (w.heap.size + 1) (.pointer o2) (.string y) (ptr b)) := ⟨R1, S2⟩
  have f1 := (Chg.ofBelowC HA.out).cell c1 (fun h => h)
  have f2 := (Chg.ofBelowC HA.out).cell c2 (fun h => h)
  have f3 := (Chg.ofBelowC HA.out).cell c3 (fun h => h)
  have hl := (hm.kept ((Chg.ofBelowC HA.out).block m hm.lt (fun h => h))).len 3
  have q1 : (0 : Int) < n := by omega
  clear hm
  clear S1 A1 A2 R1 S2 z1 A0
  subst hwa
  go_enter Tryz.func50, Tryz.ntmps50
  go_wp2_with fail
  go_ret
  exact ⟨rfl, HA.out⟩
set_option maxHeartbeats 3200000 in
set_option maxRecDepth 100000 in
theorem rep_goF (t q b : Nat) (o1 o2 : Option Addr) (x y : ByteArray) (w : World) (c1 : w.cell? ⟨q, 0, none⟩ = some (.bool true)) (c2 : w.cell? ⟨b, 0, none⟩ = some (.bool true)) (c3 : w.cell? ⟨b, 2, none⟩ = some (.map none)) (c : Int) (S : Nat → Prop) (Q P : World → Prop) (hS : ∀ k, S k → k < w.heap.size) (HR : ∀ wb, Below w.heap.size w wb → Calls Tryz.prog 57 #[ptr t, .agg #[.pointer o2, .string y, ptr b]] wb fun e w' => e = .returned (.tuple #[]) ∧ Q w' ∧ Chg S wb w') (HM : ∀ wb, Q wb → Calls Tryz.prog 51 #[ptr t, .agg #[.pointer o1, .string x, ptr q], .agg #[.pointer o2, .string y, ptr b]] wb fun e w' => e = .returned (.int .i64 c) ∧ P w') :
    Calls Tryz.prog 50 #[ptr t, .agg #[.pointer o1, .string x, ptr q], .agg #[.pointer o2, .string y, ptr b]] w fun e w' => e = .returned (.int .i64 c) ∧ P w' := by
  have A1 := below_alloc w (spO (.pointer o1) (.string x) (ptr q))
  have S1 := Sp.alloc w (.pointer o1) (.string x) (ptr q)
  have z1 : (w.alloc (spO (.pointer o1) (.string x) (ptr q))).heap.size = w.heap.size + 1 := by simp
  have A2 := below_alloc (w.alloc (spO (.pointer o1) (.string x) (ptr q))) (spO (.pointer o2) (.string y) (ptr b))
  have S2 := Sp.alloc (w.alloc (spO (.pointer o1) (.string x) (ptr q))) (.pointer o2) (.string y) (ptr b)
  have R1 := S1.kept (Chg.ofBelowC A2) (fun h => h)
  have A0 := A1.trans (A2.mono A1.size)
  rw [z1] at S2
  obtain ⟨wa, hwa⟩ : ∃ wa, wa = (w.alloc (spO (.pointer o1) (.string x) (ptr q))).alloc (spO (.pointer o2) (.string y) (ptr b)) := ⟨_, rfl⟩
  rw [← hwa] at A0 S2 R1
  have HA : Hid (Below w.heap.size w wa) := A0
  have HSP : Hid (Sp wa w.heap.size (.pointer o1) (.string x) (ptr q) ∧ Sp wa (w.heap.size + 1) (.pointer o2) (.string y) (ptr b)) := ⟨R1, S2⟩
  have f1 := (Chg.ofBelowC HA.out).cell c1 (fun h => h)
  have f2 := (Chg.ofBelowC HA.out).cell c2 (fun h => h)
  have f3 := (Chg.ofBelowC HA.out).cell c3 (fun h => h)
  have hl := len_nil wa
  have HC : Hid (Calls Tryz.prog 57 #[ptr t, .agg #[.pointer o2, .string y, ptr b]] wa fun e w' => e = .returned (.tuple #[]) ∧ Q w' ∧ Chg S wa w') := HR wa HA.out
  clear HR
  clear S1 A1 A2 R1 S2 z1 A0
  subst hwa
  go_enter Tryz.func50, Tryz.ntmps50
  go_wp2_with fail
  refine HC.out.mono ?_
  rintro e w1 ⟨rfl, hQ, C1⟩
  have k1 := (HSP.out.1.kept C1 (fun e => by have := hS _ e; omega)).c
  have k2 := (HSP.out.2.kept C1 (fun e => by have := hS _ e; omega)).c
  obtain ⟨d0, d1, d2⟩ := k1
  obtain ⟨e0, e1, e2⟩ := k2
  have HC2 : Hid (Calls Tryz.prog 51 #[ptr t, .agg #[.pointer o1, .string x, ptr q], .agg #[.pointer o2, .string y, ptr b]] w1 fun e w' => e = .returned (.int .i64 c) ∧ P w') := HM w1 hQ
  clear HC HM hQ C1 f1 f2 f3 hl
  go_wp2_with fail
  refine HC2.out.mono ?_
  rintro e w2 ⟨rfl, hP⟩
  have HP : Hid (P w2) := hP
  clear HC2 hP d0 d1 d2 e0 e1 e2
  go_wp2_with fail
  go_ret
  exact ⟨rfl, HP.out⟩
set_option maxHeartbeats 3200000 in
set_option maxRecDepth 100000 in
theorem rep_goD (t q b : Nat) (o1 o2 : Option Addr) (x y : ByteArray) (w : World) (c1 : w.cell? ⟨q, 0, none⟩ = some (.bool false)) (c2 : w.cell? ⟨b, 0, none⟩ = some (.bool false)) (m : Nat) (f : ByteArray → Option Value) (c3 : w.cell? ⟨b, 2, none⟩ = some (.map (some m))) (hm : SMap w m 0 f) (c : Int) (S : Nat → Prop) (Q P : World → Prop) (hS : ∀ k, S k → k < w.heap.size) (HR : ∀ wb, Below w.heap.size w wb → Calls Tryz.prog 57 #[ptr t, .agg #[.pointer o2, .string y, ptr b]] wb fun e w' => e = .returned (.tuple #[]) ∧ Q w' ∧ Chg S wb w') (HM : ∀ wb, Q wb → Calls Tryz.prog 51 #[ptr t, .agg #[.pointer o1, .string x, ptr q], .agg #[.pointer o2, .string y, ptr b]] wb fun e w' => e = .returned (.int .i64 c) ∧ P w') :
    Calls Tryz.prog 50 #[ptr t, .agg #[.pointer o1, .string x, ptr q], .agg #[.pointer o2, .string y, ptr b]] w fun e w' => e = .returned (.int .i64 c) ∧ P w' := by
  have A1 := below_alloc w (spO (.pointer o1) (.string x) (ptr q))
  have S1 := Sp.alloc w (.pointer o1) (.string x) (ptr q)
  have z1 : (w.alloc (spO (.pointer o1) (.string x) (ptr q))).heap.size = w.heap.size + 1 := by simp
  have A2 := below_alloc (w.alloc (spO (.pointer o1) (.string x) (ptr q))) (spO (.pointer o2) (.string y) (ptr b))
  have S2 := Sp.alloc (w.alloc (spO (.pointer o1) (.string x) (ptr q))) (.pointer o2) (.string y) (ptr b)
  have R1 := S1.kept (Chg.ofBelowC A2) (fun h => h)
  have A0 := A1.trans (A2.mono A1.size)
  rw [z1] at S2
  obtain ⟨wa, hwa⟩ : ∃ wa, wa = (w.alloc (spO (.pointer o1) (.string x) (ptr q))).alloc (spO (.pointer o2) (.string y) (ptr b)) := ⟨_, rfl⟩
  rw [← hwa] at A0 S2 R1
  have HA : Hid (Below w.heap.size w wa) := A0
  have HSP : Hid (Sp wa w.heap.size (.pointer o1) (.string x) (ptr q) ∧ Sp wa (w.heap.size + 1) (.pointer o2) (.string y) (ptr b)) := ⟨R1, S2⟩
  have f1 := (Chg.ofBelowC HA.out).cell c1 (fun h => h)
  have f2 := (Chg.ofBelowC HA.out).cell c2 (fun h => h)
  have f3 := (Chg.ofBelowC HA.out).cell c3 (fun h => h)
  have hl := (hm.kept ((Chg.ofBelowC HA.out).block m hm.lt (fun h => h))).len 3
  clear hm
  have HC : Hid (Calls Tryz.prog 57 #[ptr t, .agg #[.pointer o2, .string y, ptr b]] wa fun e w' => e = .returned (.tuple #[]) ∧ Q w' ∧ Chg S wa w') := HR wa HA.out
  clear HR
  clear S1 A1 A2 R1 S2 z1 A0
  subst hwa
  go_enter Tryz.func50, Tryz.ntmps50
  go_wp2_with fail
  refine HC.out.mono ?_
  rintro e w1 ⟨rfl, hQ, C1⟩
  have k1 := (HSP.out.1.kept C1 (fun e => by have := hS _ e; omega)).c
  have k2 := (HSP.out.2.kept C1 (fun e => by have := hS _ e; omega)).c
  obtain ⟨d0, d1, d2⟩ := k1
  obtain ⟨e0, e1, e2⟩ := k2
  have HC2 : Hid (Calls Tryz.prog 51 #[ptr t, .agg #[.pointer o1, .string x, ptr q], .agg #[.pointer o2, .string y, ptr b]] w1 fun e w' => e = .returned (.int .i64 c) ∧ P w') := HM w1 hQ
  clear HC HM hQ C1 f1 f2 f3 hl
  go_wp2_with fail
  refine HC2.out.mono ?_
  rintro e w2 ⟨rfl, hP⟩
  have HP : Hid (P w2) := hP
  clear HC2 hP d0 d1 d2 e0 e1 e2
  go_wp2_with fail
  go_ret
  exact ⟨rfl, HP.out⟩
end Go.Proofs.YtlnjnimenihhnaaGreatDoor

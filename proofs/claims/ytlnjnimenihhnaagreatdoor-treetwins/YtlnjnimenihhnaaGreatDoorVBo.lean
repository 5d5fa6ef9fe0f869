/-
  Rows: what the landed Walk hands back, held against the document's rows.
-/
import Derived.Test.YtlnjnimenihhnaaGreatDoorVAsks
import Derived.Test.YtlnjnimenihhnaaGreatDoorVQuiet
import Derived.Test.YtlnjnimenihhnaaGreatDoorTLs
import Derived.Test.YtlnjnimenihhnaaGreatDoorVDoAny
import Derived.Test.YtlnjnimenihhnaaGreatDoorTFew
namespace Go.Proofs.YtlnjnimenihhnaaGreatDoor
open Go.RowKit Go.Maps Go.Sort Go.Shelf

/-- A row of the document's rows, read. -/
theorem own_row5 {N n : Nat} {W : World} {a : Option Addr} {m c : Nat} {F : Pth → Option Nd} {rows : List (ByteArray × Pth)} (h : W.ownsRow N 96 5 (.slice a m c) n (rows.flatMap (rwC F))) {i : Nat} {r : ByteArray × Pth} (hr : rows[i]? = some r) : ∃ g, a = some ⟨g, 0, none⟩ ∧ W.cell? ⟨g, i * 5, none⟩ = some (.string r.1) ∧ W.cell? ⟨g, i * 5 + 1, none⟩ = some (.bool (infD (F r.2)).1) ∧ W.cell? ⟨g, i * 5 + 2, none⟩ = some (.int .i64 (infD (F r.2)).2.1) ∧ W.cell? ⟨g, i * 5 + 3, none⟩ = some (.int .i64 (infD (F r.2)).2.2) ∧ W.cell? ⟨g, i * 5 + 4, none⟩ = some (.string (bytB (F r.2))) := by
  have hi := (List.getElem?_eq_some_iff.1 hr).1
  have hl := h.1
  rw [rwC_len] at hl
  rcases h.2 with ⟨_, e⟩ | ⟨g, cap, cur, e, hb, hg, hnc, hcm, hcs, htk⟩
  · omega
  · cases e
    refine ⟨g, rfl, ?_⟩
    have key : ∀ (l : List (ByteArray × Pth)) (i : Nat) (j : Nat), l[i]? = some r → j < 5 → (l.flatMap (rwC F))[i * 5 + j]? = (rwC F r)[j]? := by
      intro l
      induction l with
      | nil => intro i j h; cases h
      | cons x l ih =>
        intro i j h hj
        rw [List.flatMap_cons]
        cases i with
        | zero =>
          simp at h
          subst h
          rw [Nat.zero_mul, Nat.zero_add, List.getElem?_append_left (by simp [rwC]; omega)]
        | succ i =>
          have e : (i + 1) * 5 + j = (rwC F x).length + (i * 5 + j) := by simp [rwC]; omega
          rw [e, List.getElem?_append_right (by omega), Nat.add_sub_cancel_left]
          exact ih i j (by simpa using h) hj
    have cell : ∀ j u, j < 5 → (rwC F r)[j]? = some u → W.cell? ⟨g, i * 5 + j, none⟩ = some u := fun j u hj hu => by
      rw [cell_of_row _ _ _ _ _ _ hg]
      have h4 : (cur.toList.take (n * 5))[i * 5 + j]? = some u := by rw [htk, key rows i j hr hj, hu]
      rw [List.getElem?_take] at h4
      split at h4
      · simpa using h4
      · cases h4
    exact ⟨by have := cell 0 _ (by omega) rfl; simpa using this, cell 1 _ (by omega) rfl, cell 2 _ (by omega) rfl, cell 3 _ (by omega) rfl, cell 4 _ (by omega) rfl⟩
/-- What Read tells at a row's text is the row's bytes. -/
theorem row_read {T : Ts} (hG : Gd T) {d : Nat} {y : ByteArray × Pth} (hy : y ∈ rowsP T.F d [] ⟨#[]⟩) (hc : rdC T.F y.1 = 0) : strC (rdB T.F y.1) = bytB (T.F y.2) := by
  obtain ⟨x, r, h1, h2, h3, h4⟩ := rows_path hG d _ _ y hy
  simp only [List.nil_append] at h1
  have hth : thE T.F y.1 = 0 := by
    unfold rdC at hc
    cases e : atN T.F y.1 with
    | none => rw [e] at hc; exact hc
    | some nd =>
      rw [e] at hc
      cases nd with
      | file bs => exact hc
      | dir s kn => exact absurd (show (10 : Int) = 0 from hc) (by decide)
  obtain ⟨s1, s2, s3, s4⟩ := sp_ok (thE_split hth)
  have hl : y.1.data.toList = (x :: r).flatMap (fun x => 47 :: x.data.toList) := by rw [h2, txt_list]; rfl
  have hne : ¬ spN y.1 = [] := by
    intro e
    rw [e, hl, List.flatMap_cons] at s3
    have := congrArg List.length s3
    have hx := (nameB_parts (h3 x (List.mem_cons_self ..))).1
    have hx2 : x.size = x.data.toList.length := by simp
    simp [jn] at this
    have h9 : x.size = 0 := by simpa using this.1
    omega
  have e2 : spN y.1 = y.2 := by
    unfold jn at s3
    rw [if_neg hne, hl] at s3
    rw [h1]
    exact fm_inj _ _ (List.all_eq_true.1 s1) h3 s3
  unfold rdC at hc
  unfold rdB
  rw [atN_ok hth, e2] at hc ⊢
  cases e : T.F y.2 with
  | none => rw [e] at h4; cases h4
  | some nd =>
    rw [e] at hc
    cases nd with
    | file bs => rfl
    | dir s kn => exact absurd (show (10 : Int) = 0 from hc) (by decide)
/-- The count of rows, and the loop's record. -/
structure RwJ (W5 : World) (kb D : Nat) (ob : Obj) (i : Nat) (W : World) : Prop where
  chg : Chg (fun k => k = kb ∨ k = D + 1) W5 W
  lp : W.heap[D + 1]? = some ob
  kk : W.heap[kb]? = some (iBx i)
section
variable {W5 W W' : World} {kb D i : Nat} {ob ob' : Obj}
theorem RwJ.below (h : RwJ W5 kb D ob i W) (hb : Below W.heap.size W W') : RwJ W5 kb D ob i W' := by
  have hk : ∀ k o, W.heap[k]? = some o → W'.heap[k]? = some o := fun k o ho => (hb.block k (Array.getElem?_eq_some_iff.1 ho).1).trans ho
  exact ⟨h.chg.trans (Chg.ofBelowC hb) (fun _ _ h => h.elim), hk _ _ h.lp, hk _ _ h.kk⟩
theorem RwJ.blk (h : RwJ W5 kb D ob i W) {k : Nat} {o : Obj} (h1 : ¬ k = kb) (h2 : ¬ k = D + 1) (ho : W5.heap[k]? = some o) : W.heap[k]? = some o :=
  (h.chg.block k (Array.getElem?_eq_some_iff.1 ho).1 (by omega)).trans ho
theorem RwJ.put (h : RwJ W5 kb D ob i W) (hk : ¬ kb = D + 1) : RwJ W5 kb D ob' i (W.putObj (D + 1) ob') := by
  have hl := (Array.getElem?_eq_some_iff.1 h.lp).1
  have hzo : ∀ k, ¬ k = D + 1 → (W.putObj (D + 1) ob').heap[k]? = W.heap[k]? := fun k hk => World.putObj_heap_other hk
  have cZ : Chg (fun k => k = D + 1) W (W.putObj (D + 1) ob') := ⟨rfl, rfl, rfl, by simp [World.putObj], fun k _ hk => World.putObj_heap_other hk⟩
  exact ⟨h.chg.trans cZ (fun k _ h => .inr h), World.putObj_heap_same hl, (hzo _ hk).trans h.kk⟩
theorem RwJ.set (h : RwJ W5 kb D ob i W) (hk : ¬ kb = D + 1) : RwJ W5 kb D ob (i + 1) (W.setCell ⟨kb, 0, none⟩ (.int .i64 ((i : Int) + 1))) := by
  have c1 : Chg (fun k => k = kb) W (W.setCell ⟨kb, 0, none⟩ (.int .i64 ((i : Int) + 1))) := Chg.setCell _ _ _ rfl
  exact ⟨h.chg.trans c1 (fun k _ h => .inl h), (c1.block _ (Array.getElem?_eq_some_iff.1 h.lp).1 (fun e => hk e.symm)).trans h.lp, heap_setCell_same W kb 0 _ 3 _ h.kk⟩
theorem RwJ.fin (h : RwJ W5 kb D ob i W) (hk : ¬ kb = D + 1) (ob' : Obj) : W.cell? ⟨kb, 0, none⟩ = some (.int .i64 (i : Int)) ∧ W.frozen? ⟨kb, 0, none⟩ = false ∧ (W.setCell ⟨kb, 0, none⟩ (.int .i64 ((i : Int) + 1))).heap[D + 1]? = some ob ∧ RwJ W5 kb D ob' (i + 1) ((W.setCell ⟨kb, 0, none⟩ (.int .i64 ((i : Int) + 1))).putObj (D + 1) ob') :=
  ⟨(box_cell h.kk).1, (box_cell h.kk).2, (h.set hk).lp, (h.set hk).put hk⟩
end
end Go.Proofs.YtlnjnimenihhnaaGreatDoor

namespace Go.Proofs.YtlnjnimenihhnaaGreatDoor
open Go.RowKit Go.Maps Go.Sort Go.Shelf

theorem hidOf {p : Prop} (h : p) : Hid p := h
attribute [local go_sem] Oper.semAt_some
set_option maxHeartbeats 12800000 in
set_option maxRecDepth 100000 in
theorem vrows_any {t : Nat} {T : Ts} {A : Pth → Nat} {O : Nat → Option (Pth × Nat)} {K : Nat} (w : World) (h : Tr w t T.F A O T.bl T.ino K) (hK : K ≤ 90000) (hG : Gd T) (dd : Nat) (hd : ∀ z : Pth, dd < z.length → T.F z = none) (hdd : dd ≤ 100000) {N0 rc n : Nat} {ra : Option Addr} {RL : List (ByteArray × Pth)} (hRL : rowsP T.F (dd + 1) [] ⟨#[]⟩ = RL) (hn : RL.length = n) (hn2 : n ≤ 100000)
    (hrow : w.ownsRow N0 96 5 (.slice ra n rc) n (RL.flatMap (rwC T.F))) :
    Calls Tryz.prog 35 #[ptr t, .slice ra n rc] w fun e w' => e = .returned (.bool true) ∧ Below w.heap.size w w' := by
  obtain ⟨w7, hw7⟩ : ∃ w7, (((w.alloc (.cells #[ptr t] 25)).alloc (.cells #[.slice ra n rc] 82)).alloc (.cells #[.bool false] 4)).alloc (iBx 0) = w7 := ⟨_, rfl⟩
  have hz7 : w7.heap.size = w.heap.size + 4 := by rw [← hw7]; simp
  have Ba := below_alloc w (.cells #[ptr t] 25)
  have Bb := below_alloc (w.alloc (.cells #[ptr t] 25)) (.cells #[.slice ra n rc] 82)
  have Bc := below_alloc ((w.alloc (.cells #[ptr t] 25)).alloc (.cells #[.slice ra n rc] 82)) (.cells #[.bool false] 4)
  have Bd := below_alloc (((w.alloc (.cells #[ptr t] 25)).alloc (.cells #[.slice ra n rc] 82)).alloc (.cells #[.bool false] 4)) (iBx 0)
  have p0 : w7.heap[w.heap.size]? = some (.cells #[ptr t] 25 (0, 0)) := by
    rw [← hw7, Bd.block _ (by simp; omega), Bc.block _ (by simp; omega), Bb.block _ (by simp)]
    exact heap_alloc_new w _
  have p1 : w7.heap[w.heap.size + 1]? = some (.cells #[.slice ra n rc] 82 (0, 0)) := by
    rw [← hw7, Bd.block _ (by simp), Bc.block _ (by simp)]
    have := heap_alloc_new (w.alloc (.cells #[ptr t] 25)) (.cells #[.slice ra n rc] 82)
    simpa using this
  have p2 : w7.heap[w.heap.size + 1 + 1]? = some (.cells #[.bool false] 4 (0, 0)) := by
    rw [← hw7, Bd.block _ (by simp)]
    have := heap_alloc_new ((w.alloc (.cells #[ptr t] 25)).alloc (.cells #[.slice ra n rc] 82)) (.cells #[.bool false] 4)
    simpa using this
  have p3 : w7.heap[w.heap.size + 1 + 1 + 1]? = some (iBx 0) := by
    rw [← hw7]
    have := heap_alloc_new (((w.alloc (.cells #[ptr t] 25)).alloc (.cells #[.slice ra n rc] 82)).alloc (.cells #[.bool false] 4)) (iBx 0)
    simpa using this
  have B7 : Below w.heap.size w w7 := by
    rw [← hw7]
    exact Ba.trans ((Bb.trans ((Bc.trans (Bd.mono Bc.size)).mono Bb.size)).mono Ba.size)
  obtain ⟨f3, f3'⟩ := box_cell p3
  obtain ⟨w8, hw8⟩ : ∃ w8, w7.setCell ⟨w.heap.size + 1 + 1 + 1, 0, none⟩ (.int .i64 0) = w8 := ⟨_, rfl⟩
  have C8 : Chg (fun k => k = w.heap.size + 1 + 1 + 1) w7 w8 := by rw [← hw8]; exact Chg.setCell _ _ _ rfl
  have hz8 : w8.heap.size = w.heap.size + 4 := by rw [← hw8]; simp [hz7]
  have q3 : w8.heap[w.heap.size + 1 + 1 + 1]? = some (iBx 0) := by rw [← hw8]; exact heap_setCell_same w7 _ 0 _ 3 (.int .i64 0) p3
  have q0 := (C8.block _ (Array.getElem?_eq_some_iff.1 p0).1 (by omega)).trans p0
  have q1 := (C8.block _ (Array.getElem?_eq_some_iff.1 p1).1 (by omega)).trans p1
  have q2 := (C8.block _ (Array.getElem?_eq_some_iff.1 p2).1 (by omega)).trans p2
  have B8 : Below w.heap.size w w8 := B7.trans (C8.below B7.size (fun k hk => by omega))
  clear p0 p1 p2 p3 C8 B7 Ba Bb Bc Bd hz7
  have HWk : Hid (Calls Tryz.prog 71 #[ptr t] w8 fun e w' => ∃ b v, e = .returned (.func (.func 92) #[] #[ptr b]) ∧ Below w8.heap.size w8 w' ∧ w8.heap.size ≤ b ∧ w'.heap[b]? = some (.cells #[v] 142 (0, 0)) ∧ w'.ownsRow w8.heap.size 147 4 v n (RL.flatMap (stC T.F))) := by
    have := Walk_any (by omega) w8 (h.below B8) dd hd (by omega) (by rw [hRL, hn]; omega)
    rw [hRL, hn] at this
    exact this
  have H8 : Hid (Tr w t T.F A O T.bl T.ino K ∧ Gd T ∧ Below w.heap.size w w8 ∧ w8.heap[w.heap.size]? = some (.cells #[ptr t] 25 (0, 0)) ∧ w8.heap[w.heap.size + 1]? = some (.cells #[.slice ra n rc] 82 (0, 0)) ∧ w8.heap[w.heap.size + 1 + 1]? = some (.cells #[.bool false] 4 (0, 0)) ∧ w8.heap[w.heap.size + 1 + 1 + 1]? = some (iBx 0) ∧ w8.heap.size = w.heap.size + 4 ∧ w.ownsRow N0 96 5 (.slice ra n rc) n (RL.flatMap (rwC T.F)) ∧ RL.length = n ∧ ∀ y ∈ RL, rdC T.F y.1 = 0 → strC (rdB T.F y.1) = bytB (T.F y.2)) :=
    ⟨h, hG, B8, q0, q1, q2, q3, hz8, hrow, hn, fun y hy => by rw [← hRL] at hy; exact row_read hG hy⟩
  obtain ⟨r0, r0'⟩ := box_cell q0
  clear h hG hd hdd hRL hn hrow q0 q1 q2 q3 B8 hz8
  refine (callsIn_wide (n := 5)).1 (callsIn_of_wp_marks Tryz.func35 rfl trivial ?_ rfl)
  simp only [Tryz.ntmps35, List.size_toArray, List.length_cons, List.length_nil, Nat.reduceAdd, Nat.reduceSub, Array.replicate_succ, Array.replicate_zero, List.push_toArray, List.append_toArray, List.nil_append, List.cons_append]
  gi_wp2_with fail
  refine ⟨trivial, (callsIn_wide.2 HWk.out).mono ?_⟩
  rintro e w9 ⟨b, v, rfl, B9, hb, hbx, hrow⟩
  obtain ⟨sa, sc, rfl⟩ := own_sl4 hrow
  have H9 : Hid (Below w8.heap.size w8 w9 ∧ w8.heap.size ≤ b ∧ w9.heap[b]? = some (.cells #[.slice sa n sc] 142 (0, 0)) ∧ w9.ownsRow w8.heap.size 147 4 (.slice sa n sc) n (RL.flatMap (stC T.F))) := ⟨B9, hb, hbx, hrow⟩
  clear HWk B9 hb hbx hrow hw7 hw8 f3 f3' r0 r0'
  gi_wp2_with fail
  refine range_any rfl (fun _ _ => by kernel_rfl) (by omega) ?_
  intro fn rec hrec
  have HREC : Hid (∀ st, rec st = _) := hrec
  clear hrec
  obtain ⟨D, hD⟩ : ∃ D, w9.heap.size = D := ⟨_, rfl⟩
  obtain ⟨W5, hW5⟩ : ∃ W5, (w9.alloc (.deferred (some []))).alloc (.loop (rec .ready)) = W5 := ⟨_, rfl⟩
  rw [hD, hW5]
  have B95 : Below w9.heap.size w9 W5 := by rw [← hW5]; exact (below_alloc _ _).trans ((below_alloc _ _).mono (below_alloc _ _).size)
  have z5 : W5.heap.size = D + 2 := by rw [← hW5]; simp [hD]
  have bD : W5.heap[D]? = some (.deferred (some [])) := by
    rw [← hW5]
    exact ((below_alloc (w9.alloc (.deferred (some []))) _).block _ (by simp [hD])).trans (by rw [← hD]; exact heap_alloc_new _ _)
  have bL : W5.heap[D + 1]? = some (.loop (rec .ready)) := by
    rw [← hW5]
    have := heap_alloc_new (w9.alloc (.deferred (some []))) (.loop (rec .ready))
    simpa [hD] using this
  obtain ⟨hTr, hG, B8, p0, p1, p2, p3, hz8, hrw, hn, hrd⟩ := H8.out
  obtain ⟨B9, hb, hbx, hrow⟩ := H9.out
  have B85 : Below w8.heap.size w8 W5 := B9.trans (B95.mono B9.size)
  have hs9 := B9.size
  have B05 : Below w.heap.size w W5 := B8.trans (B85.mono B8.size)
  have o5 : ∀ k o, w8.heap[k]? = some o → W5.heap[k]? = some o := fun k o ho => (B85.block k (Array.getElem?_eq_some_iff.1 ho).1).trans ho
  have hbl := (Array.getElem?_eq_some_iff.1 hbx).1
  have bx5 : W5.heap[b]? = some (.cells #[.slice sa n sc] 142 (0, 0)) := (B95.block b hbl).trans hbx
  have ow5 : W5.ownsRow w8.heap.size 147 4 (.slice sa n sc) n (RL.flatMap (stC T.F)) := own_chw (B := 0) hrow (Chw.of_below B95)
  obtain ⟨kb, hkb⟩ : ∃ kb, w.heap.size + 1 + 1 + 1 = kb := ⟨_, rfl⟩
  rw [hkb] at p3
  have J0 : RwJ W5 kb D (.loop (rec .ready)) 0 W5 := ⟨Chg.refl _ _, bL, o5 _ _ p3⟩
  have hkD : kb < D := by omega
  have HQ : Hid (Tr w t T.F A O T.bl T.ino K ∧ Below w.heap.size w W5 ∧ W5.heap[w.heap.size]? = some (.cells #[ptr t] 25 (0, 0)) ∧ W5.heap[w.heap.size + 1]? = some (.cells #[.slice ra n rc] 82 (0, 0)) ∧ W5.heap[w.heap.size + 1 + 1]? = some (.cells #[.bool false] 4 (0, 0)) ∧ W5.heap[D]? = some (.deferred (some [])) ∧ w.heap.size + 3 = kb ∧ kb < D ∧ W5.heap.size = D + 2 ∧ w.ownsRow N0 96 5 (.slice ra n rc) n (RL.flatMap (rwC T.F)) ∧ ∀ y ∈ RL, rdC T.F y.1 = 0 → strC (rdB T.F y.1) = bytB (T.F y.2)) :=
    ⟨hTr, B05, o5 _ _ p0, o5 _ _ p1, o5 _ _ p2, bD, by omega, hkD, z5, hrw, hrd⟩
  have ih := Walk1_in b w8.heap.size (D + 1) n sa sc T.F RL hn (by omega) (fun i Wx => RwJ W5 kb D (.loop (rec .ready)) i Wx) (fun i Wx Wy h hc => h.below hc)
    (fun i Wx h => by
      have e1 : Wx.heap[b]? = some (.cells #[.slice sa n sc] 142 (0, 0)) := h.blk (by omega) (by omega) bx5
      refine ⟨(box_cell e1).1, ow5.1, ?_⟩
      rcases ow5.2 with h1 | ⟨g, cap, cur, e, q1, q2, q3⟩
      · exact .inl h1
      · refine .inr ⟨g, cap, cur, e, q1, h.blk (by omega) (fun hx => ?_) q2, q3⟩
        rw [hx, bL] at q2
        cases q2) ?hy W5 J0
  case hy =>
    rintro m i y Wx hyr hJ
    have hin : i < n := by have := (List.getElem?_eq_some_iff.1 hyr).1; omega
    obtain ⟨g, rfl, c0, c1, c2, c3, c4⟩ := own_row5 HQ.out.2.2.2.2.2.2.2.2.2.1 hyr
    have hrdy := HQ.out.2.2.2.2.2.2.2.2.2.2 y (List.mem_of_getElem? hyr)
    obtain ⟨Tx, Q⟩ := y
    obtain ⟨di, ni, ki, hinf⟩ : ∃ di ni ki, infD (T.F Q) = (di, ni, ki) := ⟨_, _, _, rfl⟩
    simp only [hinf] at c1 c2 c3
    simp only at c0 c4 hrdy
    have hlp := hJ.lp
    have hBx : Below w.heap.size w Wx := HQ.out.2.1.trans (hJ.chg.below (by omega) (fun k hk => by omega))
    have Ba := below_alloc Wx (inO di ni ki)
    have Ia := In.alloc Wx di ni ki
    have J1 := hJ.below Ba
    have m1 := J1.lp
    obtain ⟨Wz, m2⟩ : ∃ Wz, (Wx.alloc (inO di ni ki)).putObj (D + 1) (.loop (rec .busy)) = Wz := ⟨_, rfl⟩
    have JZ : RwJ W5 kb D (.loop (rec .busy)) i Wz := by rw [← m2]; exact J1.put (by omega)
    have Iz : Wz.heap[Wx.heap.size]? = some (inO di ni ki) := by
      rw [← m2]
      exact (World.putObj_heap_other (by have := hJ.chg.size; omega)).trans Ia
    have hBz : Below w.heap.size w Wz := HQ.out.2.1.trans (JZ.chg.below (by omega) (fun k hk => by omega))
    have hc := Chg.ofBelowC hBz
    have d0 := hc.cell c0 (fun h => h)
    have d1 := hc.cell c1 (fun h => h)
    have d2 := hc.cell c2 (fun h => h)
    have d3 := hc.cell c3 (fun h => h)
    have d4 := hc.cell c4 (fun h => h)
    have k0 : Wz.cell? ⟨Wx.heap.size, 0, none⟩ = some (.bool di) := by rw [cell_of_row _ _ _ _ _ _ Iz]; rfl
    have k1 : Wz.cell? ⟨Wx.heap.size, 1, none⟩ = some (.int .i64 ni) := by rw [cell_of_row _ _ _ _ _ _ Iz]; rfl
    have k2 : Wz.cell? ⟨Wx.heap.size, 2, none⟩ = some (.int .i64 ki) := by rw [cell_of_row _ _ _ _ _ _ Iz]; rfl
    have u1 := (box_cell (JZ.blk (by have := HQ.out.2.2.2.2.2.2.1; omega) (by omega) HQ.out.2.2.2.1)).1
    have u0 := (box_cell (JZ.blk (by have := HQ.out.2.2.2.2.2.2.1; omega) (by omega) HQ.out.2.2.1)).1
    have u3 := (box_cell JZ.kk).1
    have HZ : Hid (RwJ W5 kb D (.loop (rec .busy)) i Wz ∧ Below w.heap.size w Wz) := ⟨JZ, hBz⟩
    subst hkb
    refine yield_any HREC.out hlp rfl ?_
    simp only [hinf]
    have qi : (i : Int) < n := by omega
    have qj : ¬ n ≤ i := by omega
    obtain ⟨B, hB⟩ : ∃ B, bytB (T.F Q) = B := ⟨_, rfl⟩
    rw [hB] at d4 hrdy
    have wk : IntKind.i64.wrap ((i : Int) + 1) = (i : Int) + 1 := by rw [IntKind.wrap_i64]; omega
    clear HREC hJ hyr J1 Ba Ia JZ Iz hBz hBx hc c0 c1 c2 c3 c4 bD bL B85 B95 B9 p0 p1 p2 p3 hz8 hn hb hbx hrow o5 hbl bx5 ow5 J0 hs9 z5 hD hW5 H8 H9 hinf hB hlp B05 B8 hTr hG hrw hrd
    gi_wp2_with fail
    refine round_region (by kernel_rfl) (by kernel_rfl) (by kernel_rfl) ?_
    repeat (go_big_quiet_step (fail))
    refine wpQuiet_nil ?_
    intro _ hw'
    obtain ⟨nq, hw''⟩ := hw'
    subst hw''
    have BN : Below Wz.heap.size Wz (Wz.drewN nq) := below_drN (Below.refl _ _) nq
    have HY : Hid (RwJ W5 (w.heap.size + 1 + 1 + 1) D (.loop (rec .busy)) i (Wz.drewN nq) ∧ Below w.heap.size w (Wz.drewN nq)) := ⟨HZ.out.1.below BN, HZ.out.2.trans (BN.mono HZ.out.2.size)⟩
    clear HZ d0 d1 d2 d3
    cases di with
    | true =>
      obtain ⟨x1, x2, x3, x4⟩ := HY.out.1.fin (by omega) (.loop (rec .ready))
      have HM := hidOf (And.intro x3 x4)
      clear x3 x4 BN u1 u0 d4 k1 k2
      gi_wp2_with fail
      exact HM.out
    | false =>
      by_cases hsz : Tx.size ≤ 256
      · have qs : (Tx.size : Int) ≤ 256 := by omega
        have C := l_read (HQ.out.1.below HY.out.2) (s := Tx) (by omega)
        have HB4 := Chg.ofBelowC BN
        have e4 := HB4.cell d4 (fun h => h)
        have e1 := HB4.cell u1 (fun h => h)
        obtain ⟨cr, hcr⟩ : ∃ cr, rdC T.F Tx = cr := ⟨_, rfl⟩
        rw [hcr] at C hrdy
        have HRD := hidOf hrdy
        clear hcr hrdy BN HB4 u3
        gi_wp2_with fail
        refine ⟨trivial, (fun h => by cases h), ((callsIn_wide.2 C).inRound _).mono ?_⟩
        clear C
        rintro e w3 ⟨xa, xc, rfl, HB⟩
        have B3 := HB.out.2
        have HX : Hid (RwJ W5 (w.heap.size + 1 + 1 + 1) D (.loop (rec .busy)) i w3) := HY.out.1.below B3
        have HC3 := Chg.ofBelowC B3
        have g4 := HC3.cell e4 (fun h => h)
        have g1 := HC3.cell e1 (fun h => h)
        have g3 := (box_cell HX.out.kk).1
        have rr : ∀ k : Nat, (convert 33 9 (.slice xa (rdB T.F Tx).length xc)).run Tryz.prog (w3.drewN k) = .ok (.string (strC (rdB T.F Tx))) (w3.drewN k) := fun k => run_strC (HB.out.1.under (below_drN (Below.refl _ _) k))
        generalize strC (rdB T.F Tx) = sb at *
        generalize (rdB T.F Tx).length = nb at *
        clear HC3 B3 HB e4 e1 k0 k1 k2 u0 u1 d4 HY
        by_cases hz : cr = 0
        · obtain rfl := HRD.out hz
          subst hz
          clear HRD
          gi_wp2_with fail
          refine round_region (by kernel_rfl) (by kernel_rfl) (by kernel_rfl) ?_
          repeat (go_big_quiet_step (fail))
          refine wpQuiet_nil ?_
          intro _ hw'
          obtain ⟨nq2, hw''⟩ := hw'
          subst hw''
          have J3 := HX.out.below (below_drN (Below.refl _ _) nq2)
          obtain ⟨x1, x2, x3, x4⟩ := J3.fin (by omega) (.loop (rec .ready))
          have HM := hidOf (And.intro x3 x4)
          clear x3 x4 J3 g4 g1 g3 rr
          gi_wp2_with fail
          exact HM.out
        · have hz1 : decide (cr = 0) = false := by simpa using hz
          have hz2 : (cr == 0) = false := by simpa using hz
          clear HRD
          gi_wp2_with fail
          refine round_region (by kernel_rfl) (by kernel_rfl) (by kernel_rfl) ?_
          repeat (go_big_quiet_step (fail))
          refine wpQuiet_nil ?_
          intro _ hw'
          obtain ⟨nq2, hw''⟩ := hw'
          subst hw''
          have J3 := HX.out.below (below_drN (Below.refl _ _) nq2)
          obtain ⟨x1, x2, x3, x4⟩ := J3.fin (by omega) (.loop (rec .ready))
          have HM := hidOf (And.intro x3 x4)
          clear x3 x4 J3 g4 g1 g3 rr
          gi_wp2_with fail
          exact HM.out
      · have qs : ¬ (Tx.size : Int) ≤ 256 := by omega
        obtain ⟨x1, x2, x3, x4⟩ := HY.out.1.fin (by omega) (.loop (rec .ready))
        have HM := hidOf (And.intro x3 x4)
        clear x3 x4 BN u1 u0 d4 k1 k2
        gi_wp2_with fail
        exact HM.out
  subst hkb
  refine (show CallsIn Fence.wide (5 - 1) Tryz.prog 92 #[.func (.yield (D + 1)) #[] #[], ptr b] W5 _ from callsIn_wide.2 ih).mono ?_
  rintro e W7 ⟨⟨v, rfl⟩, hJ⟩
  refine ⟨⟨v, rfl⟩, hJ.lp, ?_⟩
  have J7 : RwJ W5 (w.heap.size + 1 + 1 + 1) D (.loop (rec .exhausted)) n (W7.putObj (D + 1) (.loop (rec .exhausted))) := hJ.put (by omega)
  obtain ⟨Wf, hWf⟩ : ∃ Wf, W7.putObj (D + 1) (.loop (rec .exhausted)) = Wf := ⟨_, rfl⟩
  rw [hWf] at J7 ⊢
  have hsz := HQ.out.2.2.2.2.2.2.2.2.1
  have B0f : Below w.heap.size w Wf := HQ.out.2.1.trans (J7.chg.below (by omega) (fun k hk => by omega))
  have y1 := J7.blk (by omega) (by omega) HQ.out.2.2.2.1
  have y2 := J7.blk (by omega) (by omega) HQ.out.2.2.2.2.1
  have yD := J7.blk (by omega) (by omega) HQ.out.2.2.2.2.2.1
  obtain ⟨v1, -⟩ := box_cell y1
  obtain ⟨v2, v2'⟩ := box_cell y2
  obtain ⟨v3, -⟩ := box_cell J7.kk
  have rT := World.cell?_setCell_same Wf ⟨w.heap.size + 1 + 1, 0, none⟩ (.bool true) v2
  have C1 : Chg (fun k => k = w.heap.size + 1 + 1) Wf (Wf.setCell ⟨w.heap.size + 1 + 1, 0, none⟩ (.bool true)) := Chg.setCell _ _ _ rfl
  have HE : Hid (Below w.heap.size w (Wf.setCell ⟨w.heap.size + 1 + 1, 0, none⟩ (.bool true))) := B0f.trans (C1.below B0f.size (fun k hk => by omega))
  have HD2 : Hid ((Wf.setCell ⟨w.heap.size + 1 + 1, 0, none⟩ (.bool true)).heap[D]? = some (.deferred (some []))) := (C1.block D (Array.getElem?_eq_some_iff.1 yD).1 (by omega)).trans yD
  have HR2 : Hid ((Wf.setCell ⟨w.heap.size + 1 + 1, 0, none⟩ (.bool true)).heap[w.heap.size + 1 + 1]? = some (.cells #[.bool true] 4 (0, 0)) ∧ ¬ w.heap.size + 1 + 1 = D ∧ w.heap.size < D) := ⟨heap_setCell_same Wf _ 0 _ 4 (.bool true) y2, by omega, by omega⟩
  clear C1 B0f y1 y2 yD J7 hJ hWf ih bD bL B85 B95 B9 p0 p1 p2 p3 hz8 hn hb hbx hrow o5 hbl bx5 ow5 J0 hs9 z5 hD hW5 H8 H9 HREC hsz hrw hrd hTr hG B8 B05
  gi_wp2_with fail
  show LeavesInM _ _ _ _ _ _ _ _ _
  refine leaves_marks [D] _ (List.nodup_cons.2 ⟨(fun h => by cases h), List.nodup_nil⟩) (fun E hE => ?_) (fun W' e1 e2 e3 e4 e5 => ?_)
  · obtain rfl : E = D := by simpa using hE
    exact HD2.out
  · have e6 : ∀ k, ¬ k = D → W'.heap[k]? = (Wf.setCell ⟨w.heap.size + 1 + 1, 0, none⟩ (.bool true)).heap[k]? := fun k hk => e5 k (by simpa using hk)
    have q := HE.out
    have hlt := HR2.out.2.2
    have BE : Below w.heap.size w W' := ⟨e2.trans q.os, e3.trans q.tape, e4.trans q.output, by rw [e1]; exact q.size, fun k hk => (e6 k (by omega)).trans (q.block k hk)⟩
    obtain ⟨rF, -⟩ := box_cell ((e6 _ HR2.out.2.1).trans HR2.out.1)
    exact ⟨.bool true, by simp [results, Tryz.f35, go_sem, rF], rfl, BE⟩
end Go.Proofs.YtlnjnimenihhnaaGreatDoor

namespace Go.Proofs.YtlnjnimenihhnaaGreatDoor
open Go.RowKit Go.Maps Go.Sort

section
variable {t r q : Nat} {T : Ts} {A : Pth → Nat} {O : Nat → Option (Pth × Nat)} {K : Nat} {R : Rs} {num : Pth → Nat} {G : Nat → Prop}
set_option maxHeartbeats 3200000 in
set_option maxRecDepth 100000 in
theorem vlooks_any (w : World) (h : Tr w t T.F A O T.bl T.ino K) (hR : Rt w r q G R) (hD : Dt T R num K) (hK : K ≤ 60000) (dd : Nat) (hd : ∀ z : Pth, dd < z.length → T.F z = none) (hdd : dd ≤ 100000) (hn : (rowsP T.F (dd + 1) [] ⟨#[]⟩).length ≤ 100000) :
    Calls Tryz.prog 12 #[ptr t, ptr r] w fun e w' => e = .returned (.bool true) ∧ Below w.heap.size w w' := by
  have HF : Hid (Calls Tryz.prog 20 #[ptr t] w fun e w' => e = .returned (.tuple #[.int .i64 T.bl, .int .i64 T.ino]) ∧ Below w.heap.size w w') := free_any t _ _ w h.cbl h.cin
  have H0 : Hid (Tr w t T.F A O T.bl T.ino K ∧ Rt w r q G R ∧ Dt T R num K ∧ ∀ z : Pth, dd < z.length → T.F z = none) := ⟨h, hR, hD, hd⟩
  clear h hR hD hd
  go_enter Tryz.func12, Tryz.ntmps12
  go_wp2_with fail
  refine HF.out.mono ?_
  clear HF
  rintro e w1 ⟨rfl, B1⟩
  have R1 := H0.out.2.1.below B1
  have c1 := R1.cB
  have c2 := R1.cI
  rw [H0.out.2.2.1.bl] at c1
  rw [H0.out.2.2.1.ino] at c2
  have HW : Hid (Calls Tryz.prog 36 #[ptr r] w1 fun e w' => ∃ a c, e = .returned (.slice a (rowsP T.F (dd + 1) [] ⟨#[]⟩).length c) ∧ Hid (w'.ownsRow w1.heap.size 96 5 (.slice a (rowsP T.F (dd + 1) [] ⟨#[]⟩).length c) (rowsP T.F (dd + 1) [] ⟨#[]⟩).length ((rowsP T.F (dd + 1) [] ⟨#[]⟩).flatMap (rwC T.F)) ∧ Below w1.heap.size w1 w')) := rWalk_any w1 R1 H0.out.2.2.1 hK dd H0.out.2.2.2 hdd (by omega)
  have HB : Hid (Below w.heap.size w w1) := B1
  clear R1 B1
  obtain ⟨n, hn'⟩ : ∃ n, (rowsP T.F (dd + 1) [] ⟨#[]⟩).length = n := ⟨_, rfl⟩
  rw [hn'] at hn HW
  have HN : Hid ((rowsP T.F (dd + 1) [] ⟨#[]⟩).length = n) := hn'
  clear hn'
  go_wp2_with fail
  refine HW.out.mono ?_
  clear HW
  rintro e w2 ⟨a, c, rfl, HX⟩
  have HB2 : Hid (Below w.heap.size w w2) := HB.out.trans (HX.out.2.mono HB.out.size)
  have HC : Hid (Calls Tryz.prog 35 #[ptr t, .slice a n c] w2 fun e w' => e = .returned (.bool true) ∧ Below w2.heap.size w2 w') := vrows_any w2 (H0.out.1.below HB2.out) (by omega) H0.out.2.2.1.gd dd H0.out.2.2.2 hdd rfl HN.out hn HX.out.1
  clear HX HB c1 c2
  go_wp2_with fail
  refine HC.out.mono ?_
  clear HC
  rintro e w3 ⟨rfl, B3⟩
  have HE : Hid (Below w.heap.size w w3) := HB2.out.trans (B3.mono HB2.out.size)
  clear B3 HB2
  go_wp2_with fail
  go_ret
  exact ⟨by simp, HE.out⟩
end
/-- The document's act, in a block. -/
def OpR (w : World) (b : Nat) (u0 u1 u2 u3 u4 : Value) : Prop := w.heap[b]? = some (.cells #[u0, u1, u2, u3, u4] 37 (0, 0))
theorem OpR.c {w : World} {b : Nat} {u0 u1 u2 u3 u4 : Value} (h : OpR w b u0 u1 u2 u3 u4) : w.cell? ⟨b, 0, none⟩ = some u0 ∧ w.cell? ⟨b, 1, none⟩ = some u1 ∧ w.cell? ⟨b, 2, none⟩ = some u2 ∧ w.cell? ⟨b, 3, none⟩ = some u3 ∧ w.cell? ⟨b, 4, none⟩ = some u4 := by
  unfold OpR at h
  refine ⟨?_, ?_, ?_, ?_, ?_⟩ <;> · rw [cell_of_row _ _ _ _ _ _ h]; rfl
theorem OpR.put {w : World} {b : Nat} {u0 u1 u2 u3 u4 : Value} (h : OpR w b u0 u1 u2 u3 u4) (v0 v1 v2 v3 v4 : Value) : OpR (((((w.setCell ⟨b, 0, none⟩ v0).setCell ⟨b, 1, none⟩ v1).setCell ⟨b, 2, none⟩ v2).setCell ⟨b, 3, none⟩ v3).setCell ⟨b, 4, none⟩ v4) b v0 v1 v2 v3 v4 ∧ Chg (fun k => k = b) w (((((w.setCell ⟨b, 0, none⟩ v0).setCell ⟨b, 1, none⟩ v1).setCell ⟨b, 2, none⟩ v2).setCell ⟨b, 3, none⟩ v3).setCell ⟨b, 4, none⟩ v4) := by
  have g0 := heap_setCell_same w b 0 _ _ v0 h
  have g1 := heap_setCell_same _ b 1 _ _ v1 g0
  have g2 := heap_setCell_same _ b 2 _ _ v2 g1
  have g3 := heap_setCell_same _ b 3 _ _ v3 g2
  have g4 := heap_setCell_same _ b 4 _ _ v4 g3
  refine ⟨?_, ((((Chg.setCell (S := fun k => k = b) w ⟨b, 0, none⟩ v0 rfl).trans (Chg.setCell (S := fun k => k = b) _ ⟨b, 1, none⟩ v1 rfl) (fun _ _ h => h)).trans (Chg.setCell (S := fun k => k = b) _ ⟨b, 2, none⟩ v2 rfl) (fun _ _ h => h)).trans (Chg.setCell (S := fun k => k = b) _ ⟨b, 3, none⟩ v3 rfl) (fun _ _ h => h)).trans (Chg.setCell (S := fun k => k = b) _ ⟨b, 4, none⟩ v4 rfl) (fun _ _ h => h)⟩
  unfold OpR
  rw [g4]
  rfl
set_option maxHeartbeats 3200000 in
set_option maxRecDepth 100000 in
theorem vof_any (w : World) (k n : Int) (p p2 : ByteArray) (da : Option Addr) (dn dc : Nat) :
    Calls Tryz.prog 11 #[.agg #[.int .i64 k, .string p, .string p2, .slice da dn dc, .int .i64 n]] w fun e w' => e = .returned (.agg #[.int .i64 k, .string p, .string p2, .slice da dn dc, .int .i64 n]) ∧ Below w.heap.size w w' := by
  have B0 := below_alloc w (.cells #[.int .i64 k, .string p, .string p2, .slice da dn dc, .int .i64 n] 35)
  have b0 := heap_alloc_new w (.cells #[.int .i64 k, .string p, .string p2, .slice da dn dc, .int .i64 n] 35)
  obtain ⟨wa, hwa⟩ : ∃ wa, w.alloc (.cells #[.int .i64 k, .string p, .string p2, .slice da dn dc, .int .i64 n] 35) = wa := ⟨_, rfl⟩
  have hza : wa.heap.size = w.heap.size + 1 := by rw [← hwa]; simp
  rw [hwa] at B0 b0
  have B1 := below_alloc wa (.cells #[.int .i64 0, .string ⟨#[]⟩, .string ⟨#[]⟩, .slice none 0 0, .int .i64 0] 37)
  have I1 : OpR (wa.alloc (.cells #[.int .i64 0, .string ⟨#[]⟩, .string ⟨#[]⟩, .slice none 0 0, .int .i64 0] 37)) wa.heap.size (.int .i64 0) (.string ⟨#[]⟩) (.string ⟨#[]⟩) (.slice none 0 0) (.int .i64 0) := heap_alloc_new wa _
  obtain ⟨wb, hwb⟩ : ∃ wb, wa.alloc (.cells #[.int .i64 0, .string ⟨#[]⟩, .string ⟨#[]⟩, .slice none 0 0, .int .i64 0] 37) = wb := ⟨_, rfl⟩
  rw [hwb] at B1 I1
  have b1 : wb.heap[w.heap.size]? = some (.cells #[.int .i64 k, .string p, .string p2, .slice da dn dc, .int .i64 n] 35 (0, 0)) := (B1.block _ (by omega)).trans b0
  have c0 : wb.cell? ⟨w.heap.size, 0, none⟩ = some (.int .i64 k) := by rw [cell_of_row _ _ _ _ _ _ b1]; rfl
  have c1 : wb.cell? ⟨w.heap.size, 1, none⟩ = some (.string p) := by rw [cell_of_row _ _ _ _ _ _ b1]; rfl
  have c2 : wb.cell? ⟨w.heap.size, 2, none⟩ = some (.string p2) := by rw [cell_of_row _ _ _ _ _ _ b1]; rfl
  have c3 : wb.cell? ⟨w.heap.size, 3, none⟩ = some (.slice da dn dc) := by rw [cell_of_row _ _ _ _ _ _ b1]; rfl
  have c4 : wb.cell? ⟨w.heap.size, 4, none⟩ = some (.int .i64 n) := by rw [cell_of_row _ _ _ _ _ _ b1]; rfl
  obtain ⟨d0, d1, d2, d3, d4⟩ := I1.c
  have fr : ∀ j, wb.frozen? ⟨wa.heap.size, j, none⟩ = false := fun j => by
    have := I1
    unfold OpR at this
    simp [World.frozen?, this]
  have HA : Hid (Below w.heap.size w wb ∧ OpR wb wa.heap.size (.int .i64 0) (.string ⟨#[]⟩) (.string ⟨#[]⟩) (.slice none 0 0) (.int .i64 0)) := ⟨B0.trans (B1.mono B0.size), I1⟩
  have hle : Hid (w.heap.size ≤ wa.heap.size) := by show w.heap.size ≤ wa.heap.size; omega
  clear B0 B1 I1 b0 b1 hza
  go_enter Tryz.func11, Tryz.ntmps11
  go_wp2_with fail
  obtain ⟨s1, s2⟩ := HA.out.2.put (.int .i64 k) (.string p) (.string p2) (.slice da dn dc) (.int .i64 n)
  try simp only [Exit.inBlock, Exit.then]
  generalize World.setCell _ ⟨wa.heap.size, 4, none⟩ _ = w9 at *
  obtain ⟨e0, e1, e2, e3, e4⟩ := s1.c
  refine bodyPost_ret (v := .agg #[.int .i64 k, .string p, .string p2, .slice da dn dc, .int .i64 n]) ?_ rfl ?_
  · simp [results, Tryz.results11, go_sem, e0, e1, e2, e3, e4]
  · exact ⟨rfl, HA.out.1.trans (s2.below HA.out.1.size (fun k hk => by rw [hk]; exact hle.out))⟩
end Go.Proofs.YtlnjnimenihhnaaGreatDoor

namespace Go.Proofs.YtlnjnimenihhnaaGreatDoor
open Go.RowKit Go.Maps Go.Sort

/-- An act's data lie below the law's blocks. -/
theorem dat_far {w : World} {dv : Value} {d : List Int} {t : Nat} (h : Bs w dv d) (ht : w.heap.size ≤ t) : ∀ a n c, dv = .slice (some a) n c → 0 < n → ¬ a.block = t := fun a n c e hn e2 => by
  rcases h with ⟨e3, _⟩ | ⟨a', c', e3, hl, hm, hcell⟩
  · rw [e3] at e; cases e
  · rw [e3] at e
    cases e
    have := World.block_lt_of_cell? w _ (hcell 0 hn)
    have h4 : (a.add 0).block = a.block := by unfold Addr.add; split <;> rfl
    rw [h4] at this
    omega
/-- Both trees in memory, apart: landed from the block t on, the document's in r. -/
structure Bo (N : Nat) (w0 w : World) (t r : Nat) (T : Ts) (K : Nat) : Prop where
  ex : ∃ A O q G R num, Tr w t T.F A O T.bl T.ino K ∧ Rt w r q G R ∧ Dt T R num K ∧ (∀ k, (O k).isSome = true → N ≤ k) ∧ N ≤ r ∧ N ≤ q ∧ O r = none ∧ O q = none ∧ ∀ b, G b → O b = none
  tab : Tab w
  pos : 0 < N
  bel : Below N w0 w
  le : N ≤ w.heap.size
/-- The same, behind the landed one's act. -/
structure Md (N : Nat) (w0 w : World) (t r : Nat) (T T' : Ts) (K : Nat) : Prop where
  ex : ∃ A O q G R num, Tr w t T'.F A O T'.bl T'.ino (K + 2) ∧ Rt w r q G R ∧ Dt T R num K ∧ (∀ k, (O k).isSome = true → N ≤ k) ∧ N ≤ r ∧ N ≤ q ∧ O r = none ∧ O q = none ∧ ∀ b, G b → O b = none
  tab : Tab w
  pos : 0 < N
  bel : Below N w0 w
  le : N ≤ w.heap.size
section
variable {N : Nat} {w0 w w' : World} {t r K : Nat} {T T' : Ts}
theorem Bo.kept (h : Bo N w0 w t r T K) (hb : Below w.heap.size w w') : Bo N w0 w' t r T K := by
  obtain ⟨A, O, q, G, R, num, h1, h2, h3, h4, h5, h6, h7⟩ := h.ex
  exact ⟨⟨A, O, q, G, R, num, h1.below hb, h2.below hb, h3, h4, h5, h6, h7⟩, tab_below h.tab hb, h.pos, h.bel.trans (hb.mono h.le), Nat.le_trans h.le hb.size⟩
theorem Md.kept (h : Md N w0 w t r T T' K) (hb : Below w.heap.size w w') : Md N w0 w' t r T T' K := by
  obtain ⟨A, O, q, G, R, num, h1, h2, h3, h4, h5, h6, h7⟩ := h.ex
  exact ⟨⟨A, O, q, G, R, num, h1.below hb, h2.below hb, h3, h4, h5, h6, h7⟩, tab_below h.tab hb, h.pos, h.bel.trans (hb.mono h.le), Nat.le_trans h.le hb.size⟩
theorem Bo.good (h : Bo N w0 w t r T K) : Gd T := by
  obtain ⟨A, O, q, G, R, num, h1, _⟩ := h.ex
  exact h1.good
theorem Bo.tN (h : Bo N w0 w t r T K) : N ≤ t ∧ N ≤ r := by
  obtain ⟨A, O, q, G, R, num, h1, h2, h3, h4, h5, _⟩ := h.ex
  exact ⟨h4 t (by rw [h1.atT]; rfl), h5⟩
theorem Bo.ib (h : Bo N w0 w t r T K) : 0 ≤ T.ino := by
  obtain ⟨A, O, q, G, R, num, h1, _⟩ := h.ex
  exact h1.ib.1
/-- The landed one's act. -/
theorem Bo.do1 (h : Bo N w0 w t r T K) (hK : K ≤ 60000) (o : Ac) (dv : Value) (hd : Bs w dv o.d) (hB : IsB o.d) (hdt : ∀ a n c, dv = .slice (some a) n c → 0 < n → ¬ a.block = t) (hp : o.p.size ≤ 3000) (hq : o.q.size ≤ 3000) {c : Int} (hr : doR T o = (c, T')) :
    Calls Tryz.prog 9 #[ptr t, .agg #[.int .i64 o.k, .string o.p, .string o.q, dv, .int .i64 o.n]] w fun e w' => e = .returned (.int .i64 c) ∧ Md N w0 w' t r T T' K := by
  obtain ⟨A, O, q, G, R, num, h1, h2, h3, h4, h5, h6, h7, h8, h9⟩ := h.ex
  have hO0 : O 0 = none := by
    cases e : O 0 with
    | none => rfl
    | some z => have := h4 0 (by rw [e]; rfl); have := h.pos; omega
  refine (do_any (N := w.heap.size) h1 h.tab hK hO0 o dv hd hB hdt hp hq (Nat.le_refl _)).mono ?_
  rintro e w' ⟨rfl, A3, O3, g1, g2, g3⟩
  rw [hr] at g1
  have g2' : Chg (fun b => N ≤ b ∧ b < w.heap.size) w w' := g2.mono (fun b _ hb => ⟨h4 b hb, by assumption⟩)
  have no : ∀ b, b < w.heap.size → O b = none → O3 b = none := fun b hb hn => by
    cases e : O3 b with
    | none => rfl
    | some z =>
      rcases g3 b (by rw [e]; rfl) with h | h
      · rw [hn] at h; cases h
      · omega
  have hlt := h2.lt
  have hR := h2.kept g2 (fun hs => by rw [h7] at hs; cases hs) (fun hs => by rw [h8] at hs; cases hs) (fun b hb hs => by rw [h9 b hb] at hs; cases hs)
  refine ⟨by rw [hr], ⟨⟨A3, O3, q, G, R, num, g1, hR, h3, fun k hk => (g3 k hk).elim (h4 k) (fun h6 => Nat.le_trans h.le h6), h5, h6, no r hlt.1 h7, no q hlt.2 h8, fun b hb => no b (h2.gl b hb) (h9 b hb)⟩, fun j hj => g2'.cell (h.tab j hj) (fun e => ?_), h.pos, h.bel.trans (g2'.below h.le (fun k hk => hk.1)), Nat.le_trans h.le g2.size⟩⟩
  have h0 : N ≤ 0 := e.1
  have := h.pos
  omega
/-- The document's act. -/
theorem Md.do2 (h : Md N w0 w t r T T' K) (hK : K ≤ 60000) (o : Ac) (dv : Value) (hd : Bs w dv o.d) (hB : IsB o.d) (hdl : o.d.length ≤ 10000000) (hdt : ∀ a n c, dv = .slice (some a) n c → 0 < n → ¬ a.block = r) (hp : o.p.size ≤ 3000) (hq : o.q.size ≤ 3000) {c : Int} (hr : doR T o = (c, T')) :
    Calls Tryz.prog 10 #[ptr r, .agg #[.int .i64 o.k, .string o.p, .string o.q, dv, .int .i64 o.n]] w fun e w' => e = .returned (.int .i64 c) ∧ Bo N w0 w' t r T' (K + 2) := by
  obtain ⟨A, O, q, G, R, num, h1, h2, h3, h4, h5, h6, h7, h8, h9⟩ := h.ex
  refine (vdo_any h2 h3 hK o dv hd hB hdl hdt hp hq hr).mono ?_
  rintro e w' ⟨rfl, R', num', ⟨⟨q', G', g1, g2, g3⟩, gc⟩, ht, hn, hbl, hino⟩
  have hT := h1.kept gc (fun b x hb hs => by
    rcases hs with rfl | rfl
    · rw [h7] at hb; cases hb
    · rw [h8] at hb; cases hb)
  have new : ∀ b, w.heap.size ≤ b → O b = none := fun b hb => by
    cases e : O b with
    | none => rfl
    | some z => have := h1.lt b z e; omega
  refine ⟨rfl, ⟨⟨A, O, q', G', R', num', hT, g1, hT.dt ht (by omega) hbl hino, h4, h5, ?_, h7, ?_, fun b hb => ?_⟩, fun j hj => gc.cell (h.tab j hj) (fun e => ?_), h.pos, h.bel.trans (gc.below h.le (fun k hk => ?_)), Nat.le_trans h.le gc.size⟩⟩
  · rcases g2 with rfl | g2
    · exact h6
    · exact Nat.le_trans h.le g2
  · rcases g2 with rfl | g2
    · exact h8
    · exact new _ g2
  · rcases g3 b hb with h | h
    · exact h9 b h
    · exact new _ h
  · have := h.pos
    rcases e with e | e <;> have e' : 0 = _ := e <;> omega
  · rcases hk with rfl | rfl
    · exact h5
    · exact h6
theorem Bo.looks (h : Bo N w0 w t r T K) (hK : K ≤ 60000) {n : Int} {M : Nat} (hC : Cn T n M) (hM : M ≤ 90000) (hn : n ≤ 90000) :
    Calls Tryz.prog 12 #[ptr t, ptr r] w fun e w' => e = .returned (.bool true) ∧ Below w.heap.size w w' := by
  obtain ⟨A, O, q, G, R, num, h1, h2, h3, _⟩ := h.ex
  have hc := rows_count h3.gd hC (d := M + 1) (by omega)
  have hi := h1.ib.1
  exact vlooks_any w h1 h2 h3 hK M (fun z hz => by
    cases e : T.F z with
    | none => rfl
    | some y => have := hC.dp z (by rw [e]; rfl); omega) (by omega) (by omega)
theorem tie_start (b i : Int) : Tie (tr0 b i).F ⟨[.dir []], b, i⟩ (fun _ => 0) := by
  have hF : ∀ p : Pth, ((tr0 b i).F p).isSome = true → p = [] := fun p hp => by
    by_cases e : p = []
    · exact e
    · simp [tr0, e] at hp
  refine ⟨rfl, fun p q hp hq _ => by rw [hF p hp, hF q hq], fun p bs hp => ?_, fun p s kn hp => ?_⟩
  · obtain rfl := hF p (by rw [hp]; rfl)
    simp [tr0] at hp
  · obtain rfl := hF p (by rw [hp]; rfl)
    simp [tr0] at hp
    obtain ⟨rfl, rfl⟩ := hp
    exact ⟨[], rfl, rfl, List.Perm.nil, fun e he => by cases he⟩
/-- Both of them made. -/
theorem Bo.start {b i : Int} (h : Lw N w0 w t (tr0 b (i - 1)) 0) {q : Nat} (hw : Below w.heap.size w w') (hR : Rt w' r q (fun _ => False) ⟨[.dir []], b, i - 1⟩) (hr : w.heap.size ≤ r) (hq : w.heap.size ≤ q) : Bo N w0 w' t r (tr0 b (i - 1)) 0 := by
  obtain ⟨A, O, h1, h2⟩ := h.ex
  have new : ∀ b, w.heap.size ≤ b → O b = none := fun b hb => by
    cases e : O b with
    | none => rfl
    | some z => have := h1.lt b z e; omega
  have hT := h1.below hw
  exact ⟨⟨A, O, q, fun _ => False, ⟨[.dir []], b, i - 1⟩, fun _ => 0, hT, hR, hT.dt (tie_start b (i - 1)) (by simp) rfl rfl, h2, Nat.le_trans h.le hr, Nat.le_trans h.le hq, new r hr, new q hq, fun _ h => h.elim⟩, tab_below h.tab hw, h.pos, h.bel.trans (hw.mono h.le), Nat.le_trans h.le hw.size⟩
end
end Go.Proofs.YtlnjnimenihhnaaGreatDoor

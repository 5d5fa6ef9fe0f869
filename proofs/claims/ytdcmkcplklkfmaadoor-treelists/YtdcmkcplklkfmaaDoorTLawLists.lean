/-
  TreeLists.
-/
import Derived.Test.YtdcmkcplklkfmaaDoorTRows
import Derived.Test.YtdcmkcplklkfmaaDoorTLs
import Derived.Test.YtdcmkcplklkfmaaDoorTWalk2
import Derived.Test.YtdcmkcplklkfmaaDoorTLawErrors
namespace Go.Proofs.YtdcmkcplklkfmaaDoor
open Go.RowKit Go.Maps Go.Sort Go.Shelf

theorem th_root {T : Ts} (hG : Gd T) : thE T.F ⟨#[47]⟩ = 0 ∧ spN ⟨#[47]⟩ = [] := by
  have e1 : spE ⟨#[47]⟩ = 0 := by kernel_rfl
  have e2 : spN ⟨#[47]⟩ = [] := by kernel_rfl
  obtain ⟨s, k, h⟩ := hG.rdir
  exact ⟨by simp [thE, fiE, e1, e2, folE, folA, h], e2⟩
attribute [local go_sem] Oper.semAt_some
set_option maxHeartbeats 12800000 in
set_option maxRecDepth 100000 in
theorem law_lists (v : Value) (l : List AcD) (w : World) (hT : Tab w) (hv : Ops w v l) :
    Calls Tryd.prog 6 #[v] w fun e w' => e = .returned (.bool true) ∧ Chg (fun _ => False) w w' := by
  obtain ⟨va, vc, rfl⟩ := hv.form
  have B0 := below_alloc w (.cells #[.bool false] 4)
  have hr0 := heap_alloc_new w (.cells #[.bool false] 4)
  obtain ⟨w0, hw0⟩ : ∃ w0, w.alloc (.cells #[.bool false] 4) = w0 := ⟨_, rfl⟩
  rw [hw0] at B0 hr0
  have HV : Hid (Ops w (.slice va l.length vc) l ∧ Tab w ∧ Below w.heap.size w w0 ∧ w0.heap[w.heap.size]? = some (.cells #[.bool false] 4 (0, 0))) := ⟨hv, hT, B0, hr0⟩
  clear hv hT B0 hr0
  refine (callsIn_wide (n := 5)).1 (callsIn_of_wp_marks Tryd.func6 rfl trivial ?_ rfl)
  simp only [Tryd.ntmps6, List.size_toArray, List.length_cons, List.length_nil, Nat.reduceAdd, Nat.reduceSub, Array.replicate_succ, Array.replicate_zero, List.push_toArray, List.append_toArray, List.nil_append, List.cons_append]
  gi_wp2_with fail
  refine ⟨trivial, (callsIn_wide.2 (known_any w0 (tab_below HV.out.2.1 HV.out.2.2.1))).mono ?_⟩
  rintro e w1 ⟨rfl, B1⟩
  clear hw0
  have HB1 : Hid (Below w.heap.size w w1 ∧ w1.heap[w.heap.size]? = some (.cells #[.bool false] 4 (0, 0))) := ⟨HV.out.2.2.1.trans (B1.mono HV.out.2.2.1.size), ((Chg.ofBelowC B1).block _ (Array.getElem?_eq_some_iff.1 HV.out.2.2.2).1 (fun h => h)).trans HV.out.2.2.2⟩
  clear B1
  gi_wp2_with fail
  refine ⟨trivial, (callsIn_wide.2 (Few_any _ l w1 (HV.out.1.below HB1.out.1))).mono ?_⟩
  rintro e w1' ⟨h1, h2⟩
  obtain rfl := h1.out
  clear h1
  rcases h2 with rfl | ⟨rfl, HW⟩
  · have hrb := HB1.out.2
    have r1 : w1'.cell? ⟨w.heap.size, 0, none⟩ = some (.bool false) := by rw [cell_of_row _ _ _ _ _ _ hrb]; rfl
    have r2 : w1'.frozen? ⟨w.heap.size, 0, none⟩ = false := by simp [World.frozen?, hrb]
    have rT := World.cell?_setCell_same w1' ⟨w.heap.size, 0, none⟩ (.bool true) r1
    have C1 : Chg (fun k => k = w.heap.size) w1' (w1'.setCell ⟨w.heap.size, 0, none⟩ (.bool true)) := Chg.setCell _ _ _ rfl
    have HE : Hid (Below w.heap.size w (w1'.setCell ⟨w.heap.size, 0, none⟩ (.bool true))) := HB1.out.1.trans (C1.below HB1.out.1.size (fun k hk => by rw [hk]; exact Nat.le_refl _))
    clear C1 hrb
    gi_wp2_with fail
    show LeavesInM _ _ _ _ _ _ [] _ _
    exact ⟨.bool true, by simp [results, Tryd.f6, go_sem, rT], rfl, Chg.ofBelowC HE.out⟩
  gi_wp2_with fail
  refine ⟨trivial, (callsIn_wide.2 (Lw.new 300 80 w1' (tab_below HV.out.2.1 HB1.out.1) (by omega) (by omega) (by omega) (by omega))).mono ?_⟩
  rintro e w2 ⟨t, rfl, L⟩
  have HL : Hid (Lw w1'.heap.size w1' w2 t (tr0 300 (80 - 1)) 0) := L
  clear L
  gi_wp2_with fail
  gi_loopw [5] (fun i wr => ∃ k : Nat, k ≤ l.length ∧ i = .int .i64 k ∧ Hid (∃ T, Lw w1'.heap.size w1' wr t T (2 * k) ∧ Cn T 79 (8 * k))) (fun i _ => l.length - (intOf i).toNat)
  case atStart => exact ⟨0, Nat.zero_le _, rfl, _, HL.out, Cn.start _ _⟩
  case round =>
    obtain ⟨k, hk, rfl, H⟩ := hrel
    have hl150 : l.length ≤ 150 := HW.out.1
    by_cases hlt : k < l.length
    · have q1 : (k : Int) < l.length := by omega
      obtain ⟨T, L4, hC⟩ := H.out
      have BW : Below w.heap.size w wr := HB1.out.1.trans (L4.bel.mono HB1.out.1.size)
      obtain ⟨b', off, rfl, hc⟩ := (HV.out.1.below BW).nth hlt
      have HX := HW.out.2 k hlt
      obtain ⟨b'', off', e', hc'⟩ := HV.out.1.nth hlt
      cases e'
      obtain ⟨x, hx⟩ : ∃ x, Hid (l.getD k AcD.z = x) := ⟨_, rfl⟩
      rw [hx.out] at hc hc' HX
      obtain ⟨c0, c1, c2, c3, c4, c5, c6⟩ := hc
      obtain ⟨c, T', hr⟩ : ∃ c T', doR T x.o = (c, T') := ⟨_, _, rfl⟩
      have htN := L4.tN.1
      have hlow := dat_low (t := t) hc'.2.2.2.2.2.1 (by have := HB1.out.1.size; omega)
      have hC2 : Cn T' 79 (8 * (k + 1)) := by
        have := hC.do_ L4.good x.o
        rw [hr] at this
        exact this
      have HD := (L4.do_ (by omega) x.o x.dv c5 c6 hlow (by omega) (by omega) hr).mono (fun e w' (h : e = .returned (.int .i64 c) ∧ Lw w1'.heap.size w1' w' t T' (2 * k + 2) ∧ Chg (fun b => w1'.heap.size ≤ b ∧ b < wr.heap.size) wr w') => (⟨h.1, h.2.1, hC2⟩ : e = .returned (.int .i64 c) ∧ Hid (Lw w1'.heap.size w1' w' t T' (2 * (k + 1))) ∧ Hid (Cn T' 79 (8 * (k + 1)))))
      obtain ⟨da, dc, hdv⟩ := c5.form'
      rw [hdv] at c3 HD
      clear H L4 hC hC2 BW HX hc' c5 c6 hr htN hlow hdv
      gi_wp2_with fail
      refine ⟨trivial, (callsIn_wide.2 HD).mono ?_⟩
      rintro e w5 ⟨rfl, L5, C5⟩
      clear HD c0 c1 c2 c3 c4
      gi_wp2_with fail
      go_roundw
      case rel => exact ⟨k + 1, by omega, by go_num, T', L5.out, C5.out⟩
      case measure => simp [intOf]; omega
    · have q1 : ¬ (k : Int) < l.length := by omega
      obtain ⟨T, L, hC⟩ := H.out
      have hG := L.good
      obtain ⟨s, kn, hroot⟩ := hG.rdir
      obtain ⟨z1, z2⟩ := th_root hG
      have hls := L.list (s := ⟨#[47]⟩) (by omega) (by decide) z1 (by rw [z2]; exact hroot)
      have HK : Hid (Lw w1'.heap.size w1' wr t T 300 ∧ Cn T 79 1200 ∧ Gd T ∧ T.F [] = some (.dir s kn) ∧ thE T.F ⟨#[47]⟩ = 0 ∧ spN ⟨#[47]⟩ = []) := ⟨⟨by obtain ⟨A, O, h1, h2⟩ := L.ex; exact ⟨A, O, h1.more (by omega), h2⟩, L.tab, L.pos, L.bel, L.le⟩, hC.more (by omega), hG, hroot, z1, z2⟩
      clear H L hC hG hroot z1 z2
      gi_wp2_with fail
      refine ⟨trivial, (callsIn_wide.2 hls).mono ?_⟩
      rintro e w3 ⟨vn, rfl, hn, B3⟩
      obtain ⟨na, nc, rfl⟩ := own_sl1 hn
      have hst := (HK.out.1.kept B3).stat (s := ⟨#[47]⟩) (by decide) HK.out.2.2.2.2.1 (by rw [HK.out.2.2.2.2.2]; exact HK.out.2.2.2.1)
      have HN : Hid (w3.ownsRow wr.heap.size 9 1 (.slice na kn.length nc) kn.length ((nmL kn).map encStr) ∧ Lw w1'.heap.size w1' w3 t T 300) := ⟨hn, HK.out.1.kept B3⟩
      clear hls hn B3
      gi_wp2_with fail
      have hst2 : Calls Tryd.prog 14 #[ptr t, .string ⟨#[47]⟩] w3 fun e w' => e = .returned (.tuple #[inV true 0 kn.length, .int .i64 0]) ∧ Below w3.heap.size w3 w' := hst
      clear hst
      refine ⟨trivial, (callsIn_wide.2 hst2).mono ?_⟩
      rintro e w4 ⟨rfl, B4⟩
      have B5 := B4.trans ((below_alloc w4 (inO true 0 kn.length)).mono B4.size)
      have I5 := In.alloc w4 true 0 kn.length
      obtain ⟨x0, x1, x2⟩ := I5.c
      have H5 : Hid (Below w3.heap.size w3 (w4.alloc (inO true 0 kn.length))) := B5
      clear hst2 B4 B5 I5
      gi_wp2_with fail
      obtain ⟨w8, hw8⟩ : ∃ w8, (((w4.alloc (inO true 0 kn.length)).alloc (iBx 0)).alloc (iBx 0)).alloc (sBx ⟨#[]⟩) = w8 := ⟨_, rfl⟩
      have hz8 : w8.heap.size = w4.heap.size + 4 := by rw [← hw8]; simp
      have Ba := below_alloc (w4.alloc (inO true 0 kn.length)) (iBx 0)
      have Bb := below_alloc ((w4.alloc (inO true 0 kn.length)).alloc (iBx 0)) (iBx 0)
      have Bc := below_alloc (((w4.alloc (inO true 0 kn.length)).alloc (iBx 0)).alloc (iBx 0)) (sBx ⟨#[]⟩)
      have p0 : w8.heap[w4.heap.size + 1]? = some (iBx 0) := by
        rw [← hw8, Bc.block _ (by simp), Bb.block _ (by simp)]
        have := heap_alloc_new (w4.alloc (inO true 0 kn.length)) (iBx 0)
        simpa using this
      have p1 : w8.heap[w4.heap.size + 1 + 1]? = some (iBx 0) := by
        rw [← hw8, Bc.block _ (by simp)]
        have := heap_alloc_new ((w4.alloc (inO true 0 kn.length)).alloc (iBx 0)) (iBx 0)
        simpa using this
      have p2 : w8.heap[w4.heap.size + 1 + 1 + 1]? = some (sBx ⟨#[]⟩) := by
        rw [← hw8]
        have := heap_alloc_new (((w4.alloc (inO true 0 kn.length)).alloc (iBx 0)).alloc (iBx 0)) (sBx ⟨#[]⟩)
        simpa using this
      have B38 : Below w3.heap.size w3 w8 := by
        rw [← hw8]
        exact H5.out.trans ((Ba.trans ((Bb.mono Ba.size).trans (Bc.mono (Nat.le_trans Ba.size Bb.size)))).mono H5.out.size)
      have h34 : w3.heap.size ≤ w4.heap.size + 1 := by have := H5.out.size; simpa using this
      obtain ⟨b0, hb0⟩ : ∃ b0, w4.heap.size + 1 = b0 := ⟨_, rfl⟩
      rw [hb0] at p0 p1 p2 h34 ⊢
      have hz8' : w8.heap.size = b0 + 3 := by omega
      have L8 := HN.out.2.kept B38
      obtain ⟨rows, hrows⟩ : ∃ rows, rowsP T.F (1200 + 1) [] ⟨#[]⟩ = rows := ⟨_, rfl⟩
      have hrc := rows_count HK.out.2.2.1 HK.out.2.1 (d := 1200 + 1) (by omega)
      rw [hrows] at hrc
      have hib : 0 ≤ T.ino := by obtain ⟨A, O, h1, h2⟩ := L8.ex; exact h1.ib.1
      obtain ⟨n, hnn⟩ : ∃ n, rows.length = n := ⟨_, rfl⟩
      rw [hnn] at hrc
      have hn79 : n ≤ 79 := by omega
      have HWk : Hid (Calls Tryd.prog 16 #[ptr t] w8 fun e w' => ∃ b v, e = .returned (.func (.func 33) #[] #[ptr b]) ∧ Below w8.heap.size w8 w' ∧ w8.heap.size ≤ b ∧ w'.heap[b]? = some (.cells #[v] 74 (0, 0)) ∧ w'.ownsRow w8.heap.size 79 4 v n (rows.flatMap (stC T.F))) := by
        obtain ⟨A, O, h1, h2⟩ := L8.ex
        have := Walk_any (by omega) w8 h1 1200 (fun r hr => by
          cases e : T.F r with
          | none => rfl
          | some z => have := HK.out.2.1.dp r (by rw [e]; rfl); omega) (by omega) (by rw [hrows, hnn]; omega)
        rw [hrows, hnn] at this
        exact this
      have H8 : Hid (Below w3.heap.size w3 w8 ∧ w8.heap[b0]? = some (iBx 0) ∧ w8.heap[b0 + 1]? = some (iBx 0) ∧ w8.heap[b0 + 1 + 1]? = some (sBx ⟨#[]⟩) ∧ w8.heap.size = b0 + 3 ∧ w3.heap.size ≤ b0 ∧ rowsP T.F (1200 + 1) [] ⟨#[]⟩ = rows ∧ rows.length = n ∧ T.ino + n = 79 ∧ n ≤ 79) := ⟨B38, p0, p1, p2, hz8', h34, hrows, hnn, hrc, hn79⟩
      clear Ba Bb Bc p0 p1 p2 B38 h34 hz8 hz8' L8 hrows hrc hib hnn hn79 x0 x1 x2 H5
      rw [hw8]
      clear hw8
      refine ⟨trivial, (callsIn_wide.2 HWk.out).mono ?_⟩
      rintro e w9 ⟨b, v, rfl, B9, hb, hbx, hrow⟩
      obtain ⟨ra, rc, rfl⟩ := own_sl4 hrow
      have H9 : Hid (Below w8.heap.size w8 w9 ∧ w8.heap.size ≤ b ∧ w9.heap[b]? = some (.cells #[.slice ra n rc] 74 (0, 0)) ∧ w9.ownsRow w8.heap.size 79 4 (.slice ra n rc) n (rows.flatMap (stC T.F))) := ⟨B9, hb, hbx, hrow⟩
      clear HWk B9 hb hbx hrow
      gi_wp2_with fail
      refine range_any rfl (fun _ _ => by kernel_rfl) (by omega) ?_
      intro fn rec hrec
      have HREC : Hid (∀ st, rec st = _) := hrec
      clear hrec
      obtain ⟨D, hD⟩ : ∃ D, w9.heap.size = D := ⟨_, rfl⟩
      obtain ⟨W5, hW5⟩ : ∃ W5, (w9.alloc (.deferred (some []))).alloc (.loop (rec .ready)) = W5 := ⟨_, rfl⟩
      rw [hD, hW5]
      have B95 : Below w9.heap.size w9 W5 := by rw [← hW5]; exact (below_alloc _ _).trans ((below_alloc _ _).mono (below_alloc _ _).size)
      have z5 : W5.heap.size = D + 2 := by rw [← hW5]; simp [hD]
      have bD : W5.heap[D]? = some (.deferred (some [])) := by
        rw [← hW5]
        exact ((below_alloc (w9.alloc (.deferred (some []))) _).block _ (by simp [hD])).trans (by rw [← hD]; exact heap_alloc_new _ _)
      have bL : W5.heap[D + 1]? = some (.loop (rec .ready)) := by
        rw [← hW5]
        have := heap_alloc_new (w9.alloc (.deferred (some []))) (.loop (rec .ready))
        simpa [hD] using this
      obtain ⟨B38, p0, p1, p2, hz8, h30, hrows, hnn, hrc, hn79⟩ := H8.out
      obtain ⟨B9, hb, hbx, hrow⟩ := H9.out
      have B85 : Below w8.heap.size w8 W5 := B9.trans (B95.mono B9.size)
      have hs9 := B9.size
      have o5 : ∀ k o, w8.heap[k]? = some o → W5.heap[k]? = some o := fun k o ho => (B85.block k (Array.getElem?_eq_some_iff.1 ho).1).trans ho
      have hbl := (Array.getElem?_eq_some_iff.1 hbx).1
      have bx5 : W5.heap[b]? = some (.cells #[.slice ra n rc] 74 (0, 0)) := (B95.block b hbl).trans hbx
      have ow5 : W5.ownsRow w8.heap.size 79 4 (.slice ra n rc) n (rows.flatMap (stC T.F)) := own_chw (B := 0) hrow (Chw.of_below B95)
      have J0 : LsJ W5 b0 D (.loop (rec .ready)) rows 0 W5 := ⟨Chg.refl _ _, bL, 0, 0, ⟨#[]⟩, o5 _ _ p0, o5 _ _ p1, o5 _ _ p2, rfl, fun y hy => by
        rw [← hrows] at hy
        exact rows_first HK.out.2.2.1 (List.mem_of_getElem? hy)⟩
      have hbD : b0 + 2 < D := by omega
      have ih := Walk1_in b w8.heap.size (D + 1) n ra rc T.F rows hnn (by omega) (fun i Wx => LsJ W5 b0 D (.loop (rec .ready)) rows i Wx) (fun i Wx Wy h hc => h.below hc)
        (fun i Wx h => by
          have e1 : Wx.heap[b]? = some (.cells #[.slice ra n rc] 74 (0, 0)) := (h.chg.block b (Array.getElem?_eq_some_iff.1 bx5).1 (by omega)).trans bx5
          refine ⟨(box_cell e1).1, ow5.1, ?_⟩
          rcases ow5.2 with h1 | ⟨g, cap, cur, e, q1, q2, q3⟩
          · exact .inl h1
          · refine .inr ⟨g, cap, cur, e, q1, (h.chg.block g (Array.getElem?_eq_some_iff.1 q2).1 (fun hx => ?_)).trans q2, q3⟩
            have : g = D + 1 := by omega
            rw [this, bL] at q2
            cases q2) ?hy W5 J0
      case hy =>
        rintro m i y Wx hyr hJ
        have hnx : ∀ z, rows[i + 1]? = some z → ¬ z.1 = y.1 := fun z hz => by
          rw [← hrows] at hyr hz
          exact rows_next HK.out.2.2.1 hyr hz
        have hi79 : i < 79 := by have := (List.getElem?_eq_some_iff.1 hyr).1; omega
        obtain ⟨Tx, Q⟩ := y
        obtain ⟨di, ni, ki, hinf⟩ : ∃ di ni ki, infD (T.F Q) = (di, ni, ki) := ⟨_, _, _, rfl⟩
        obtain ⟨dn, fn', sx, Wz, W1, W2, m1, m2, m3, m4, m5, m6, m7, m8, m9, m10, m11, m12, m13, m14, m15⟩ := ls_more (r2 := rec .busy) (r3 := rec .ready) hJ hbD (by omega) hyr hnx di ni ki
        have hlp := hJ.lp
        refine yield_any HREC.out hlp rfl ?_
        simp only [hinf]
        have hne : (Tx.toList == sx.toList) = false := beq_eq_false_iff_ne.2 (fun e => m4 (toList_inj (by rw [← Lib.toList_data, ← Lib.toList_data]; exact e)))
        have HM : Hid (W2.heap[D + 1]? = some (.loop (rec .busy)) ∧ LsJ W5 b0 D (.loop (rec .ready)) rows (i + 1) (W2.putObj (D + 1) (.loop (rec .ready)))) := ⟨m14, m15⟩
        have wd : IntKind.i64.wrap ((dn : Int) + 1) = (dn : Int) + 1 := by rw [IntKind.wrap_i64]; omega
        have wf : IntKind.i64.wrap ((fn' : Int) + 1) = (fn' : Int) + 1 := by rw [IntKind.wrap_i64]; omega
        clear HREC hJ hyr hnx m4 m12 m14 m15 bD bL B85 B95 B9 B38 p0 p1 p2 hz8 h30 hrows hnn hrc hn79 hb hbx hrow o5 hbl bx5 ow5 J0 hbD hs9 z5 hD hW5 H8 H9 HK HN hinf hlp hi79
        cases di with
        | true =>
          simp only [if_true] at m13
          gi_wp2_with fail
          exact HM.out
        | false =>
          simp only [Bool.false_eq_true, if_false] at m13
          gi_wp2_with fail
          exact HM.out
      refine (show CallsIn Fence.wide (5 - 1) Tryd.prog 33 #[.func (.yield (D + 1)) #[] #[], ptr b] W5 _ from callsIn_wide.2 ih).mono ?_
      rintro e W7 ⟨⟨v, rfl⟩, hJ⟩
      refine ⟨⟨v, rfl⟩, hJ.lp, ?_⟩
      obtain ⟨Wf, hWf⟩ : ∃ Wf, W7.putObj (D + 1) (.loop (rec .exhausted)) = Wf := ⟨_, rfl⟩
      rw [hWf]
      have hfo : ∀ j, ¬ j = D + 1 → Wf.heap[j]? = W7.heap[j]? := fun j h => by rw [← hWf]; exact World.putObj_heap_other h
      have hfs : Wf.heap.size = W7.heap.size := by rw [← hWf]; simp [World.putObj]
      have B3f : Below w3.heap.size w3 Wf := by
        have h1 := (B38.trans (B85.mono (by omega))).trans (hJ.chg.below (by omega) (fun k hk => by omega))
        exact ⟨by rw [← hWf]; exact h1.os, by rw [← hWf]; exact h1.tape, by rw [← hWf]; exact h1.output, by have := h1.size; omega, fun k hk => (hfo k (by omega)).trans (h1.block k hk)⟩
      obtain ⟨dn, fn', sx, y1, y2, y3, y4, -⟩ := hJ.cn
      have HF : Hid (Below w3.heap.size w3 Wf ∧ Wf.heap[D]? = some (.deferred (some [])) ∧ Wf.heap[b0]? = some (iBx dn) ∧ Wf.heap[b0 + 1]? = some (iBx fn') ∧ dn + fn' = n ∧ T.ino + n = 79 ∧ n ≤ 79 ∧ w.heap.size < w3.heap.size ∧ w3.heap.size ≤ b0 ∧ b0 + 2 < D) := by
        refine ⟨B3f, (hfo _ (by omega)).trans ((hJ.chg.block D (by omega) (by omega)).trans bD), (hfo _ (by omega)).trans y1, (hfo _ (by omega)).trans y2, y4, hrc, hn79, ?_, h30, hbD⟩
        have h1 := (Array.getElem?_eq_some_iff.1 HB1.out.2).1
        have h2 := HN.out.2.le
        omega
      have ownf := own_kept1 HN.out.1 B3f
      have HX : Hid (Wf.ownsRow wr.heap.size 9 1 (.slice na kn.length nc) kn.length ((nmL kn).map encStr) ∧ kn.Nodup ∧ kn.length ≤ 100000) := by
        obtain ⟨A, O, h1, h2⟩ := HK.out.1.ex
        have h3 := h1.nms _ _ _ HK.out.2.2.2.1
        exact ⟨ownf, h3.1, by omega⟩
      clear ih hJ hWf hfo hfs B3f y1 y2 y3 y4 bD bL B85 B95 B9 B38 p0 p1 p2 hz8 h30 hrows hnn hrc hn79 hb hbx hrow o5 hbl bx5 ow5 J0 hbD hs9 z5 hW5 H8 H9 HREC ownf
      gi_wp2_with fail
      gi_loopw [15] (fun j wl => ∃ i : Nat, i ≤ kn.length ∧ j = .int .i64 ((i : Int) + 1) ∧ Hid (Below Wf.heap.size Wf wl)) (fun j _ => kn.length + 1 - (intOf j).toNat)
      case atStart => exact ⟨0, Nat.zero_le _, rfl, Below.refl _ _⟩
      case round =>
        obtain ⟨i, hi, rfl, H⟩ := hrel
        by_cases hlt : i + 1 < kn.length
        · have q2 : (i : Int) + 1 < kn.length := by omega
          obtain ⟨g, X, Y, rfl, g1, g2, g3⟩ := nm_cells (own_kept1 HX.out.1 H.out) HX.out.2.1 hlt
          have wl' : IntKind.i64.wrap ((i : Int) + 1 + 1) = (i : Int) + 1 + 1 := by rw [IntKind.wrap_i64]; have := HX.out.2.2; omega
          have hk5 := HX.out.2.2
          gi_wp2_with fail
          refine wpIn_wide.2 ?_
          go_quiet (fail)
          have HB9 : Hid (Below Wf.heap.size Wf (wr.drewN nq)) := below_drN H.out _
          gi_wp2_with fail
          go_roundw
          case rel => exact ⟨i + 1, by omega, by go_num, HB9⟩
          case measure => simp [intOf]; omega
        · have q2 : ¬ (i : Int) + 1 < kn.length := by omega
          obtain ⟨B3f, bD, y1, y2, hsum, hino, hn79, hw3, hwb, hbD⟩ := HF.out
          have hfr := (HN.out.2.kept (B3f.trans (H.out.mono B3f.size))).free
          gi_wp2_with fail
          refine ⟨trivial, (callsIn_wide.2 hfr).mono ?_⟩
          rintro e wz ⟨rfl, Bz⟩
          have BZ := H.out.trans (Bz.mono H.out.size)
          have zk : ∀ k o, Wf.heap[k]? = some o → wz.heap[k]? = some o := fun k o ho => (BZ.block k (Array.getElem?_eq_some_iff.1 ho).1).trans ho
          have hres : wz.heap[w.heap.size]? = some (.cells #[.bool false] 4 (0, 0)) := by
            have h1 := (Array.getElem?_eq_some_iff.1 HB1.out.2).1
            have h2 : w3.heap[w.heap.size]? = some (.cells #[.bool false] 4 (0, 0)) := (HN.out.2.bel.block _ h1).trans HB1.out.2
            exact zk _ _ ((B3f.block _ hw3).trans h2)
          obtain ⟨r1, r2⟩ := box_cell hres
          obtain ⟨c1, -⟩ := box_cell (zk _ _ y1)
          obtain ⟨c2, -⟩ := box_cell (zk _ _ y2)
          have wd : IntKind.i64.wrap (79 - (dn : Int)) = 79 - (dn : Int) := by rw [IntKind.wrap_i64]; omega
          have wf : IntKind.i64.wrap (79 - (dn : Int) - (fn' : Int)) = 79 - (dn : Int) - (fn' : Int) := by rw [IntKind.wrap_i64]; omega
          have hi9 : T.ino = 79 - (dn : Int) - (fn' : Int) := by omega
          have rT := World.cell?_setCell_same wz ⟨w.heap.size, 0, none⟩ (.bool true) r1
          have C1 : Chg (fun k => k = w.heap.size) wz (wz.setCell ⟨w.heap.size, 0, none⟩ (.bool true)) := Chg.setCell _ _ _ rfl
          have BW3 : Below w.heap.size w wz := HB1.out.1.trans ((HN.out.2.bel.trans ((B3f.trans (BZ.mono B3f.size)).mono HN.out.2.le)).mono HB1.out.1.size)
          have HE : Hid (Below w.heap.size w (wz.setCell ⟨w.heap.size, 0, none⟩ (.bool true))) := BW3.trans (C1.below BW3.size (fun k hk => by rw [hk]; exact Nat.le_refl _))
          have HD2 : Hid ((wz.setCell ⟨w.heap.size, 0, none⟩ (.bool true)).heap[D]? = some (.deferred (some []))) := (C1.block D (Array.getElem?_eq_some_iff.1 (zk _ _ bD)).1 (by omega)).trans (zk _ _ bD)
          have HR2 : Hid ((wz.setCell ⟨w.heap.size, 0, none⟩ (.bool true)).heap[w.heap.size]? = some (.cells #[.bool true] 4 (0, 0)) ∧ ¬ w.heap.size = D) := ⟨heap_setCell_same wz w.heap.size 0 _ 4 (.bool true) hres, by omega⟩
          clear C1 BW3 BZ zk hfr y1 y2 bD B3f Bz H hres
          gi_wp2_with fail
          show LeavesInM _ _ _ _ _ _ _ _ _
          refine leaves_marks [D] _ (List.nodup_cons.2 ⟨(fun h => by cases h), List.nodup_nil⟩) (fun E hE => ?_) (fun W' e1 e2 e3 e4 e5 => ?_)
          · obtain rfl : E = D := by simpa using hE
            exact HD2.out
          · have e6 : ∀ k, ¬ k = D → W'.heap[k]? = (wz.setCell ⟨w.heap.size, 0, none⟩ (.bool true)).heap[k]? := fun k hk => e5 k (by simpa using hk)
            have q := HE.out
            have BE : Below w.heap.size w W' := ⟨e2.trans q.os, e3.trans q.tape, e4.trans q.output, by rw [e1]; exact q.size, fun k hk => (e6 k (by omega)).trans (q.block k hk)⟩
            obtain ⟨rF, -⟩ := box_cell ((e6 _ HR2.out.2).trans HR2.out.1)
            exact ⟨.bool true, by simp [results, Tryd.f6, go_sem, rF], rfl, Chg.ofBelowC BE⟩
end Go.Proofs.YtdcmkcplklkfmaaDoor

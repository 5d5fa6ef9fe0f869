/-
  TreeMoves.
-/
import Derived.Test.YtdcmkcplklkfmaaDoorTLawErrors
namespace Go.Proofs.YtdcmkcplklkfmaaDoor
open Go.RowKit Go.Maps Go.Sort

/-- Stat, whatever it answers. -/
theorem Lw.stat_or {N : Nat} {w0 w : World} {t : Nat} {T : Ts} {K : Nat} (h : Lw N w0 w t T K) {s : ByteArray} (hs : s.size ≤ 3000) :
    Calls Tryd.prog 14 #[ptr t, .string s] w fun e w' => ∃ d n k, e = .returned (.tuple #[inV d n k, .int .i64 (thE T.F s)]) ∧ Below w.heap.size w w' := by
  by_cases hE : thE T.F s = 0
  · have h1 : fiE T.F s = 0 := by
      unfold thE at hE
      split at hE
      · assumption
      · rename_i h2; exact absurd hE h2
    have h2 : (T.F (spN s)).isSome = true := by
      unfold thE at hE
      rw [if_pos h1] at hE
      split at hE
      · assumption
      · cases hE
    obtain ⟨nd, hnd⟩ := Option.isSome_iff_exists.1 h2
    refine (h.stat hs hE hnd).mono ?_
    rintro e w' ⟨rfl, B⟩
    obtain ⟨d, n, k, e⟩ := inf_form nd
    exact ⟨d, n, k, by rw [e, hE], B⟩
  · refine (h.statno hs rfl hE).mono ?_
    rintro e w' ⟨rfl, B⟩
    exact ⟨_, _, _, rfl, B⟩
theorem stoodIn : Tryd.prog.stoodInHeld 40 = false := by kernel_rfl
theorem fieldsIn : Tryd.prog.underlying 40 = some (.struct (Tryd.prog.fieldsOf 40)) := by kernel_rfl
theorem run_inEq (d : Bool) (n k : Int) (w : World) : (binOp .neq 40 (inV d n k) (inV d n k)).run Tryd.prog w = .ok (.bool false) w := by
  have p0 : ∀ w : World, (part 4 #[.bool d, .int .i64 n, .int .i64 k] 0).run Tryd.prog w = .ok (.bool d) w := fun _ => by kernel_rfl
  have p1 : ∀ w : World, (part 3 #[.bool d, .int .i64 n, .int .i64 k] 1).run Tryd.prog w = .ok (.int .i64 n) w := fun _ => by kernel_rfl
  have p2 : ∀ w : World, (part 3 #[.bool d, .int .i64 n, .int .i64 k] 2).run Tryd.prog w = .ok (.int .i64 k) w := fun _ => by kernel_rfl
  have e : ∀ (a : Int) (w : World), (Op.equalIn 9999 3 (.int .i64 a) (.int .i64 a)).run Tryd.prog w = .ok true w := fun a w => by rw [run_equalIn_int w 9998 3 .i64 .i64 a a Tryd.underlying3]; simp
  have eb : ∀ (a : Bool) (w : World), (Op.equalIn 9999 4 (.bool a) (.bool a)).run Tryd.prog w = .ok true w := fun a w => by cases a <;> kernel_rfl
  rw [run_neq_struct, run_equalIn_struct w 9999 40 _ _ fieldsIn stoodIn]
  simp [Program.fieldsOf, Tryd.underlying40, Op.eqFields, p0, p1, p2, e, eb, Result.andThen]
set_option maxHeartbeats 6400000 in
set_option maxRecDepth 100000 in
theorem law_moves (v : Value) (l : List AcD) (a b : ByteArray) (w : World) (hT : Tab w) (hv : Ops w v l) :
    Calls Tryd.prog 5 #[v, .string a, .string b] w fun e w' => e = .returned (.bool true) ∧ Chg (fun _ => False) w w' := by
  obtain ⟨va, vc, rfl⟩ := hv.form
  go_enter Tryd.func5, Tryd.ntmps5
  go_wp2_with fail
  refine (known_any w hT).mono ?_
  rintro e w1 ⟨rfl, B1⟩
  have fin : ∀ w', Below w.heap.size w w' → Hid (Chg (fun _ => False) w w') := fun w' h => Chg.ofBelowC h
  have HF := fin _ B1
  go_wp2_with fail
  refine (Few_any _ l w1 (hv.below B1)).mono ?_
  rintro e w1' ⟨h1, h2⟩
  obtain rfl := h1.out
  clear h1
  rcases h2 with rfl | ⟨rfl, HW⟩
  · go_wp2_with fail
    go_ret
    exact ⟨rfl, HF.out⟩
  by_cases ha : 300 < a.size
  · have q : (300 : Int) < a.size := by omega
    go_wp2_with fail
    go_ret
    exact ⟨rfl, HF.out⟩
  have q0 : ¬ (300 : Int) < a.size := by omega
  by_cases hb : 300 < b.size
  · have q : (300 : Int) < b.size := by omega
    go_wp2_with fail
    go_ret
    exact ⟨rfl, HF.out⟩
  have q1 : ¬ (300 : Int) < b.size := by omega
  go_wp2_with fail
  refine (Lw.new 200 60 w1' (tab_below hT B1) (by omega) (by omega) (by omega) (by omega)).mono ?_
  rintro e w2 ⟨t, rfl, L⟩
  have HL : Hid (Lw w1'.heap.size w1' w2 t (tr0 200 (60 - 1)) 0 ∧ Below w.heap.size w w1' ∧ a.size ≤ 3000 ∧ b.size ≤ 3000) := ⟨L, B1, by omega, by omega⟩
  have HV : Hid (Ops w (.slice va l.length vc) l) := hv
  clear L B1 hv HF ha hb q0 q1
  go_wp2_with fail
  go_loopw [9] (fun i wr => ∃ k : Nat, k ≤ l.length ∧ i = .int .i64 k ∧ Hid (∃ T, Lw w1'.heap.size w1' wr t T (2 * k))) (fun i _ => l.length - (intOf i).toNat)
  case atStart => exact ⟨0, Nat.zero_le _, rfl, _, HL.out.1⟩
  case round =>
    obtain ⟨k, hk, rfl, H⟩ := hrel
    have hl150 : l.length ≤ 150 := HW.out.1
    by_cases hlt : k < l.length
    · have q1 : (k : Int) < l.length := by omega
      obtain ⟨T, L4⟩ := H.out
      have BW : Below w.heap.size w wr := HL.out.2.1.trans (L4.bel.mono HL.out.2.1.size)
      obtain ⟨b', off, rfl, hc⟩ := (HV.out.below BW).nth hlt
      have HX := HW.out.2 k hlt
      obtain ⟨b'', off', e', hc'⟩ := HV.out.nth hlt
      cases e'
      obtain ⟨x, hx⟩ : ∃ x, Hid (l.getD k AcD.z = x) := ⟨_, rfl⟩
      rw [hx.out] at hc hc' HX
      obtain ⟨c0, c1, c2, c3, c4, c5, c6⟩ := hc
      obtain ⟨c, T', hr⟩ : ∃ c T', doR T x.o = (c, T') := ⟨_, _, rfl⟩
      have htN := L4.tN.1
      have hlow := dat_low (t := t) hc'.2.2.2.2.2.1 (by have := HL.out.2.1.size; omega)
      have HD := (L4.do_ (by omega) x.o x.dv c5 c6 hlow (by omega) (by omega) hr).mono (fun e w' (h : e = .returned (.int .i64 c) ∧ Lw w1'.heap.size w1' w' t T' (2 * k + 2) ∧ Chg (fun b => w1'.heap.size ≤ b ∧ b < wr.heap.size) wr w') => (⟨h.1, h.2.1⟩ : e = .returned (.int .i64 c) ∧ Lw w1'.heap.size w1' w' t T' (2 * k + 2)))
      obtain ⟨da, dc, hdv⟩ := c5.form'
      rw [hdv] at c3 HD
      clear H L4 BW HX hc' c5 c6 hr htN hlow hdv
      go_wp2_with fail
      refine HD.mono ?_
      rintro e w5 ⟨rfl, L5⟩
      have H5 : Hid (Lw w1'.heap.size w1' w5 t T' (2 * (k + 1))) := L5
      clear HD c0 c1 c2 c3 c4 L5
      go_wp2_with fail
      go_roundw
      case rel => exact ⟨k + 1, by omega, by go_num, T', H5.out⟩
      case measure => simp [intOf]; omega
    · have q1 : ¬ (k : Int) < l.length := by omega
      obtain ⟨T, L⟩ := H.out
      have HT : Hid (Lw w1'.heap.size w1' wr t T (2 * k)) := L
      have hs := L.stat_or HL.out.2.2.2
      obtain ⟨E, hE⟩ : ∃ E, Hid (thE T.F b = E) := ⟨_, rfl⟩
      rw [hE.out] at hs
      clear H L
      go_wp2_with fail
      refine hs.mono ?_
      rintro e w3 ⟨d3, n3, k3, rfl, B3⟩
      have B3' := B3.trans ((below_alloc w3 (inO d3 n3 k3)).mono B3.size)
      have H3 : Hid (Lw w1'.heap.size w1' (w3.alloc (inO d3 n3 k3)) t T (2 * k)) := HT.out.kept B3'
      have htw := H3.out.twin (by omega)
      clear hs B3 B3' HT
      go_wp2_with fail
      refine htw.mono ?_
      rintro e w4 ⟨u, rfl, L4, B4⟩
      obtain ⟨c, T', hr⟩ : ∃ c T', doR T ⟨7, a, b, [], 0⟩ = (c, T') := ⟨_, _, rfl⟩
      have HD := (L4.donil (by omega) 7 a b HL.out.2.2.1 HL.out.2.2.2 hr).mono (fun e w' (h : e = .returned (.int .i64 c) ∧ L2 w1'.heap.size w1' w' t T' u T (2 * k + 2) ∧ Chg (fun b => w1'.heap.size ≤ b ∧ b < w4.heap.size) w4 w') => (⟨h.1, h.2.1⟩ : e = .returned (.int .i64 c) ∧ L2 w1'.heap.size w1' w' t T' u T (2 * k + 2)))
      have HG : Hid (Gd T) := L4.fst.good
      have HR : Hid (renR T a b = (c, T')) := hr
      clear htw H3 L4 B4 hr
      go_wp2_with fail
      refine HD.mono ?_
      rintro e w5 ⟨rfl, L5⟩
      have HE5 := fin _ (HL.out.2.1.trans (L5.bel.mono HL.out.2.1.size))
      have H5 : Hid (L2 w1'.heap.size w1' w5 t T' u T (2 * k + 2)) := L5
      clear HD L5
      by_cases hc0 : c = 0
      case neg =>
        have hcd : decide (c = 0) = false := by simpa using hc0
        clear H5 HG HR hE
        go_wp2_with fail
        go_ret
        exact ⟨rfl, HE5.out⟩
      subst hc0
      by_cases hE0 : E = 0
      · subst hE0
        clear H5 HG HR hE
        go_wp2_with fail
        go_ret
        exact ⟨rfl, HE5.out⟩
      have hEd : decide (E = 0) = false := by simpa using hE0
      obtain ⟨r1, r2, r3, ⟨nd, r4, r5⟩, r6, T2, r7, r8⟩ := ren_back HG.out H5.out.fst.good HR.out (by rw [hE.out]; exact hE0)
      have hs1 := H5.out.swap.fst.stat HL.out.2.2.1 r1 r4
      obtain ⟨di, ni, ki, hinf⟩ := inf_form nd
      rw [hinf] at hs1
      have hq : eqB T'.F T.F [] [] = false := by
        cases e : eqB T'.F T.F [] []
        · rfl
        · exact absurd (eqB_root.1 e) r6
      have HN : Hid (thE T'.F b = 0 ∧ thE T'.F a = 8 ∧ T'.F (spN b) = some nd ∧ nd.inf = inV di ni ki ∧ eqB T'.F T.F [] [] = false ∧ renR T' b a = (0, T2) ∧ eqB T2.F T.F [] [] = true) :=
        ⟨r2, r3, r5, hinf, hq, r7, eqB_root.2 r8⟩
      have hnq := run_inEq di ni ki
      clear HG HR hE HE5 hq r1 r2 r3 r4 r5 r6 r7 r8 hinf
      go_wp2_with fail
      refine hs1.mono ?_
      rintro e w6 ⟨rfl, B6⟩
      have B6' := B6.trans ((below_alloc w6 (inO di ni ki)).mono B6.size)
      have I6 := In.alloc w6 di ni ki
      have H6 : Hid (L2 w1'.heap.size w1' (w6.alloc (inO di ni ki)) t T' u T (2 * k + 2)) := H5.out.kept B6'
      have hs2 := H6.out.fst.stat HL.out.2.2.2 HN.out.1 HN.out.2.2.1
      rw [HN.out.2.2.2.1] at hs2
      have HI : Hid (In (w6.alloc (inO di ni ki)) w6.heap.size (.bool di) (.int .i64 ni) (.int .i64 ki)) := I6
      clear hs1 B6 B6' I6 H5
      go_wp2_with fail
      refine hs2.mono ?_
      rintro e w7 ⟨rfl, B7⟩
      have B7' := B7.trans ((below_alloc w7 (inO di ni ki)).mono B7.size)
      have H7 : Hid (L2 w1'.heap.size w1' (w7.alloc (inO di ni ki)) t T' u T (2 * k + 2)) := H6.out.kept B7'
      have HI7 : Hid (In (w7.alloc (inO di ni ki)) w6.heap.size (.bool di) (.int .i64 ni) (.int .i64 ki) ∧ In (w7.alloc (inO di ni ki)) w7.heap.size (.bool di) (.int .i64 ni) (.int .i64 ki)) := ⟨HI.out.kept (Chg.ofBelowC B7') (fun h => h), In.alloc w7 di ni ki⟩
      have hs3 := H7.out.fst.statno HL.out.2.2.1 HN.out.2.1 (by omega)
      clear hs2 B7 B7' H6 HI
      go_wp2_with fail
      refine hs3.mono ?_
      rintro e w8 ⟨rfl, B8⟩
      have B8' := B8.trans ((below_alloc w8 (inO false 0 0)).mono B8.size)
      have H8 : Hid (L2 w1'.heap.size w1' (w8.alloc (inO false 0 0)) t T' u T (2 * k + 2)) := H7.out.kept B8'
      obtain ⟨x0, x1, x2⟩ := (HI7.out.1.kept (Chg.ofBelowC B8') (fun h => h)).c
      obtain ⟨y0, y1, y2⟩ := (HI7.out.2.kept (Chg.ofBelowC B8') (fun h => h)).c
      have hs4 := H8.out.same (by omega)
      rw [HN.out.2.2.2.2.1] at hs4
      clear hs3 B8 B8' H7 HI7
      go_wp2_with fail
      refine hs4.mono ?_
      rintro e w9 ⟨rfl, B9⟩
      have H9 : Hid (L2 w1'.heap.size w1' w9 t T' u T (2 * k + 2)) := H8.out.kept B9
      have HD2 := (H9.out.donil (by omega) 7 b a HL.out.2.2.2 HL.out.2.2.1 (show doR T' ⟨7, b, a, [], 0⟩ = (0, T2) from HN.out.2.2.2.2.2.1)).mono (fun e w' (h : e = .returned (.int .i64 0) ∧ L2 w1'.heap.size w1' w' t T2 u T (2 * k + 2 + 2) ∧ Chg (fun b => w1'.heap.size ≤ b ∧ b < w9.heap.size) w9 w') => (⟨h.1, h.2.1⟩ : e = .returned (.int .i64 0) ∧ L2 w1'.heap.size w1' w' t T2 u T (2 * k + 2 + 2)))
      clear hs4 H8 B9 x0 x1 x2 y0 y1 y2 hnq
      go_wp2_with fail
      refine HD2.mono ?_
      rintro e w10 ⟨rfl, L10⟩
      have hs5 := L10.same (by omega)
      rw [HN.out.2.2.2.2.2.2] at hs5
      have H10 : Hid (L2 w1'.heap.size w1' w10 t T2 u T (2 * k + 2 + 2)) := L10
      clear HD2 L10 H9
      go_wp2_with fail
      refine hs5.mono ?_
      rintro e w11 ⟨rfl, B11⟩
      have L11 := H10.out.kept B11
      have HE := fin _ (HL.out.2.1.trans (L11.bel.mono HL.out.2.1.size))
      clear hs5 H10 B11 L11
      go_wp2_with fail
      go_ret
      exact ⟨rfl, HE.out⟩
end Go.Proofs.YtdcmkcplklkfmaaDoor

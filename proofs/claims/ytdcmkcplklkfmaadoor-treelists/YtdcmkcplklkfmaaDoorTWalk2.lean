/-
  Walk: contract.
-/
import Derived.Test.YtdcmkcplklkfmaaDoorTWalk
namespace Go.Proofs.YtdcmkcplklkfmaaDoor
open Go.RowKit Go.Maps Go.Sort Go.Shelf

attribute [local go_sem] Oper.semAt_some
def appG := @Builtin.append_
theorem appG_eq : @Builtin.append_ = appG := rfl
attribute [local go_sem ↓] appG_eq
set_option maxHeartbeats 6400000 in
set_option maxRecDepth 100000 in
theorem Walk_any {t : Nat} {T : Ts} {A : Pth → Nat} {O : Nat → Option (Pth × Nat)} {K : Nat} (hK : K ≤ 100000) (w : World) (h : Tr w t T.F A O T.bl T.ino K) (d : Nat) (hd : ∀ r : Pth, d < r.length → T.F r = none) (hd2 : d ≤ 300000) (hlen : (rowsP T.F (d + 1) [] ⟨#[]⟩).length ≤ 1000000) :
    Calls Tryd.prog 16 #[ptr t] w fun e w' => ∃ b v, e = .returned (.func (.func 33) #[] #[ptr b]) ∧ Below w.heap.size w w' ∧ w.heap.size ≤ b ∧ w'.heap[b]? = some (.cells #[v] 74 (0, 0)) ∧ w'.ownsRow w.heap.size 79 4 v (rowsP T.F (d + 1) [] ⟨#[]⟩).length ((rowsP T.F (d + 1) [] ⟨#[]⟩).flatMap (stC T.F)) := by
  have HH : Hid (Tr w t T.F A O T.bl T.ino K ∧ ∀ r : Pth, d < r.length → T.F r = none) := ⟨h, hd⟩
  have hmf : ∀ (fn : Fn) (first cap : Array Value) (w : World), (Instr.makeFunc fn first cap).run Tryd.prog w = .ok (.func fn first cap) w := fun _ _ _ _ => rfl
  clear h hd
  refine (callsIn_wide (n := 5)).1 (callsIn_of_wp_marks Tryd.func16 rfl trivial ?_ rfl)
  simp only [Tryd.ntmps16, List.size_toArray, List.length_cons, List.length_nil, Nat.reduceAdd, Nat.reduceSub, Array.replicate_succ, Array.replicate_zero, List.push_toArray, List.append_toArray, List.nil_append, List.cons_append]
  gi_wp2_with fail
  refine ⟨trivial, (callsIn_wide.2 (below_any _ _ _)).mono ?_⟩
  rintro e W3 ⟨rfl, hW3⟩
  have HW3 : Hid (W3 = _) := hW3
  clear hW3
  gi_wp2_with fail
  refine range_any rfl (fun _ _ => by kernel_rfl) (by omega) ?_
  intro fn rec hrec
  have HREC : Hid (∀ st, rec st = _) := hrec
  clear hrec
  have hW3 := HW3.out
  have z3 : W3.heap.size = w.heap.size + 3 := by rw [hW3]; simp
  obtain ⟨D, hD⟩ : ∃ D, W3.heap.size = D := ⟨_, rfl⟩
  obtain ⟨W5, hW5⟩ : ∃ W5, (W3.alloc (.deferred (some []))).alloc (.loop (rec .ready)) = W5 := ⟨_, rfl⟩
  rw [hD, hW5]
  have Ba := below_alloc w (.cells #[.slice none 0 0] 74)
  have Bb := below_alloc (w.alloc (.cells #[.slice none 0 0] 74)) (.cells #[ptr t] 56)
  have Bc := below_alloc ((w.alloc (.cells #[.slice none 0 0] 74)).alloc (.cells #[ptr t] 56)) (.cells #[.string ⟨#[]⟩] 9)
  have B35 : Below W3.heap.size W3 W5 := by rw [← hW5]; exact (below_alloc _ _).trans ((below_alloc _ _).mono (below_alloc _ _).size)
  have z5 : W5.heap.size = D + 2 := by rw [← hW5]; simp [hD]
  have b0 : W5.heap[w.heap.size]? = some (.cells #[.slice none 0 0] 74 (0, 0)) := by
    rw [B35.block _ (by omega), hW3, Bc.block _ (by simp; omega), Bb.block _ (by simp)]
    exact heap_alloc_new _ _
  have b1 : W5.heap[w.heap.size + 1]? = some (.cells #[ptr t] 56) := by
    rw [B35.block _ (by omega), hW3, Bc.block _ (by simp)]
    have := heap_alloc_new (w.alloc (.cells #[.slice none 0 0] 74)) (.cells #[ptr t] 56)
    simpa using this
  have b2 : W5.heap[w.heap.size + 2]? = some (.cells #[.string ⟨#[]⟩] 9) := by
    rw [B35.block _ (by omega), hW3]
    have := heap_alloc_new ((w.alloc (.cells #[.slice none 0 0] 74)).alloc (.cells #[ptr t] 56)) (.cells #[.string ⟨#[]⟩] 9)
    simpa using this
  have bD : W5.heap[D]? = some (.deferred (some [])) := by
    rw [← hW5]
    exact ((below_alloc (W3.alloc (.deferred (some []))) _).block _ (by simp [hD])).trans (by rw [← hD]; exact heap_alloc_new _ _)
  have bL : W5.heap[D + 1]? = some (.loop (rec .ready)) := by
    rw [← hW5]
    have := heap_alloc_new (W3.alloc (.deferred (some []))) (.loop (rec .ready))
    simpa [hD] using this
  have Bw5 : Below w.heap.size w W5 := by
    refine Below.trans ?_ (B35.mono (by omega))
    rw [hW3]
    exact Ba.trans ((Bb.mono Ba.size).trans (Bc.mono (by simp; omega)))
  obtain ⟨rows, hrows⟩ : ∃ rows, rowsP T.F (d + 1) [] ⟨#[]⟩ = rows := ⟨_, rfl⟩
  have hG := HH.out.1.good
  have hmem : ∀ y ∈ rows, ∃ nd, T.F y.2 = some nd := fun y hy => by rw [← hrows] at hy; exact rowsP_mem hG _ _ _ y hy
  obtain ⟨s0, n0, hr0⟩ := HH.out.1.rdir
  rw [hrows] at hlen
  have J0 : WkJ w W5 D (.loop (rec .ready)) t 0 rows T.F W5 := ⟨Bw5, bL, bD, b1, b2, Nat.le_refl _, .slice none 0 0, b0, World.ownsRow_nil _ _ _ _⟩
  have hroot := HH.out.1.root
  have ih := below_all (t := t) (F := T.F) (A := A) (O := O) (bl := T.bl) (ino := T.ino) hK d [] _ ⟨#[]⟩ (w.heap.size + 1) (w.heap.size + 1 + 1) (D + 1) W5.heap.size (fun i Wx => WkJ w W5 D (.loop (rec .ready)) t i rows T.F Wx) W5 hr0
    (fun r hr => by rw [List.nil_append]; exact HH.out.2 r hr) (by show (0 : Nat) + 300 * (d + 1) ≤ 100000000; omega)
    (fun i Wx Wy h hc => h.chw hc (by omega) (by omega))
    (fun i Wx h => ⟨h.size, HH.out.1.below h.bel, by rw [cell_of_row _ _ _ _ _ _ h.b1, hroot]; rfl, by rw [cell_of_row _ _ _ _ _ _ h.b2]; rfl⟩) ?hy rfl J0
  case hy =>
    rintro m i y Wx hyr hJ
    rw [hrows] at hyr
    obtain ⟨nd, hnd⟩ := hmem y (List.mem_of_getElem? hyr)
    have hi : i ≤ 1000000 := by have := (List.getElem?_eq_some_iff.1 hyr).1; omega
    have HWM := fun w5 hB ty => wk_more (r2 := rec .busy) (r3 := rec .ready) (w5 := w5) hJ (by omega) (by omega) hyr hnd hi hB ty
    obtain ⟨v0, r1, r2⟩ := hJ.row
    obtain ⟨a, c, rfl⟩ := own_sl4 r2
    have hlp := hJ.lp
    have hzo : ∀ k, ¬ k = D + 1 → (Wx.putObj (D + 1) (.loop (rec .busy))).heap[k]? = Wx.heap[k]? := fun k hk => World.putObj_heap_other hk
    have hTz : Tr (Wx.putObj (D + 1) (.loop (rec .busy))) t T.F A O T.bl T.ino K := HH.out.1.below ⟨hJ.bel.os, hJ.bel.tape, hJ.bel.output, by have := hJ.bel.size; simpa [World.putObj] using this, fun k hk => (hzo k (by omega)).trans (hJ.bel.block k hk)⟩
    obtain ⟨di, ni, ki, hinf⟩ : ∃ di ni ki, infD (some nd) = (di, ni, ki) := ⟨_, _, _, rfl⟩
    have hin := infD_inf nd
    rw [hinf] at hin HWM
    simp only at hin HWM
    obtain ⟨Tx, Q⟩ := y
    simp only at hnd HWM
    refine yield_any HREC.out hlp rfl ?_
    obtain ⟨Wz, hWz⟩ : ∃ Wz, Wx.putObj (D + 1) (.loop (rec .busy)) = Wz := ⟨_, rfl⟩
    rw [hWz] at hTz HWM
    have cz : Wz.cell? ⟨w.heap.size, 0, none⟩ = some (.slice a i c) := by
      rw [cell_of_row _ _ _ _ _ _ ((show Wz.heap[w.heap.size]? = Wx.heap[w.heap.size]? by rw [← hWz]; exact hzo _ (by omega)).trans r1)]; rfl
    have HI : ∀ wb, Hid (Below Wz.heap.size Wz wb) → Hid (Calls Tryd.prog 30 #[ptr (A Q)] wb fun e w' => e = .returned (.agg #[.bool di, .int .i64 ni, .int .i64 ki]) ∧ ∃ a' c' w6, w'.cell? ⟨w.heap.size, 0, none⟩ = some (.slice a i c) ∧ (w'.alloc (.cells #[.string Tx, .bool di, .int .i64 ni, .int .i64 ki] 79)).cell? ⟨w.heap.size, 0, none⟩ = some (.slice a i c) ∧ (appG #[74, 74] 74 #[.slice a i c, .slice (some ⟨w'.heap.size, 0, none⟩) 1 1]).run Tryd.prog (w'.alloc (.cells #[.string Tx, .bool di, .int .i64 ni, .int .i64 ki] 79)) = .ok (.slice a' (i + 1) c') w6 ∧ w6.cell? ⟨w.heap.size, 0, none⟩ = some (.slice a i c) ∧ w6.frozen? ⟨w.heap.size, 0, none⟩ = false ∧ Hid (∀ w7, w6.setCell ⟨w.heap.size, 0, none⟩ (.slice a' (i + 1) c') = w7 → w7.heap[D + 1]? = some (.loop (rec .busy)) ∧ WkJ w W5 D (.loop (rec .ready)) t (i + 1) rows T.F (w7.putObj (D + 1) (.loop (rec .ready))) ∧ Kpy W5.heap.size Wx (w7.putObj (D + 1) (.loop (rec .ready))))) := fun wb hb => by
      refine ((hTz.below hb.out).info hnd).mono ?_
      rintro e w' ⟨rfl, B⟩
      have BB := hb.out.trans (B.mono hb.out.size)
      obtain ⟨a2, c2, a', c', w6, e1, e2, e3, e4, e5⟩ := HWM w' BB 74
      have c5 := (Chg.ofBelowC BB).cell cz (fun h => h)
      rw [c5] at e1
      cases e1
      exact ⟨by rw [hin], a', c', w6, c5, (Chg.ofBelowC (below_alloc w' _)).cell c5 (fun h => h), e2, e3, e4, e5⟩
    have D0 : ∀ k, Hid (Below Wz.heap.size Wz (Wz.drewN k).drew) := fun k => ⟨rfl, rfl, rfl, Nat.le_refl _, fun _ _ => rfl⟩
    have D9 : ∀ k, Hid (Below Wz.heap.size Wz (Wz.drewN k)) := fun k => ⟨rfl, rfl, rfl, Nat.le_refl _, fun _ _ => rfl⟩
    have D1 : Hid (Below Wz.heap.size Wz Wz.drew) := ⟨rfl, rfl, rfl, Nat.le_refl _, fun _ _ => rfl⟩
    have HZ5 : Hid (W5.heap.size = D + 2) := z5
    gi_wp2_with fail
    clear HREC HWM hTz hzo r1 r2 hJ hlp hWz hyr hnd hmem b0 b1 b2 bD bL Bw5 B35 Ba Bb Bc J0 hG hr0 hroot hlen hrows HH HW3 hW3 hW5 hD hin hinf z5
    gi_region_with (first | (refine ⟨trivial, (fun h => by cases h), ((callsIn_wide.2 (HI _ (by first | exact D1 | exact D0 _ | exact D9 _)).out).inRound _).mono ?_⟩; clear HI; rintro e w5 ⟨rfl, a', c', w6, d5, d5a, hr, d6, f6, H7⟩))
    all_goals
      have HE := H7.out _ rfl
      rw [HZ5.out] at HE
      have HE2 : Hid _ := HE
      clear HE H7 hr d5 d5a d6 f6 cz D0 D9 D1
      gi_wp2_with fail
      exact HE2.out
  refine (show CallsIn Fence.wide (5 - 1) Tryd.prog 50 #[.func (.yield (D + 1)) #[] #[], .pointer (some ⟨w.heap.size + 1, 0, none⟩), .pointer (some ⟨w.heap.size + 1 + 1, 0, none⟩)] W5 _ from callsIn_wide.2 ih).mono ?_
  rintro e W7 ⟨⟨v, rfl⟩, hJ, hz7⟩
  refine ⟨⟨v, rfl⟩, hJ.lp, ?_⟩
  obtain ⟨W8, hW8⟩ : ∃ W8, W7.putObj (D + 1) (.loop (rec .exhausted)) = W8 := ⟨_, rfl⟩
  rw [hW8]
  have hlp := hJ.lp
  have c8 : Chw (D + 1) W7 W8 := by rw [← hW8]; exact Chw.put hlp (Nat.le_refl _) _
  have hvo : ∀ j, ¬ j = D + 1 → W8.heap[j]? = W7.heap[j]? := fun j h => by rw [← hW8]; exact World.putObj_heap_other h
  have hvs : W8.heap.size = W7.heap.size := by rw [← hW8]; simp [World.putObj]
  obtain ⟨v7, r1, r2⟩ := hJ.row
  have H8 : Hid (W8.heap[D]? = some (.deferred (some [])) ∧ Below w.heap.size w W8 ∧ W8.heap[w.heap.size]? = some (.cells #[v7] 74 (0, 0)) ∧ W8.ownsRow W5.heap.size 79 4 v7 rows.length (rows.flatMap (stC T.F)) ∧ D = w.heap.size + 3 ∧ W5.heap.size = D + 2) := by
    have o8 := own_chw r2 c8
    rw [hrows] at o8
    rw [List.take_length] at o8
    exact ⟨(hvo _ (by omega)).trans hJ.df, ⟨c8.os.trans hJ.bel.os, c8.tape.trans hJ.bel.tape, c8.output.trans hJ.bel.output, by have := hJ.bel.size; omega, fun k hk => (hvo k (by omega)).trans (hJ.bel.block k hk)⟩, (hvo _ (by omega)).trans r1, o8, by omega, z5⟩
  have HR : Hid (rowsP T.F (d + 1) [] ⟨#[]⟩ = rows) := hrows
  clear ih hW8 hlp c8 hvo hvs r1 r2 hJ hmem b0 b1 b2 bD bL Bw5 B35 Ba Bb Bc J0 hG hr0 hroot hlen hrows HH HW3 hW3 hW5 hD HREC hz7 z3
  gi_wp2_with fail
  show LeavesInM _ _ _ _ _ _ _ _ _
  refine leaves_marks [D] W8 (List.nodup_cons.2 ⟨(fun h => by cases h), List.nodup_nil⟩) (fun E hE => ?_) (fun W' e1 e2 e3 e4 e5 => ?_)
  · obtain rfl : E = D := by simpa using hE
    exact H8.out.1
  · obtain ⟨q1, q2, q3, q4, q5, q6⟩ := H8.out
    have e6 : ∀ k, ¬ k = D → W'.heap[k]? = W8.heap[k]? := fun k hk => e5 k (by simpa using hk)
    refine ⟨_, by simp [results, Tryd.f16, go_sem], w.heap.size, v7, rfl, ⟨e2.trans q2.os, e3.trans q2.tape, e4.trans q2.output, by have := q2.size; omega, fun k hk => (e6 k (by omega)).trans (q2.block k hk)⟩, Nat.le_refl _, (e6 _ (by omega)).trans q3, ?_⟩
    rw [HR.out]
    refine ⟨q4.1, ?_⟩
    rcases q4.2 with h | ⟨g, cap, cur, e, p1, p2, p3⟩
    · exact .inl h
    · exact .inr ⟨g, cap, cur, e, by omega, (e6 g (by omega)).trans p2, p3⟩
end Go.Proofs.YtdcmkcplklkfmaaDoor

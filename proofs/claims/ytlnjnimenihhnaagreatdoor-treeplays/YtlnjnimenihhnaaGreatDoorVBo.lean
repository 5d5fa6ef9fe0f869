/-
  Looks; Of.
-/
import Derived.Test.YtlnjnimenihhnaaGreatDoorVStops2
import Derived.Test.YtlnjnimenihhnaaGreatDoorVAsks
import Derived.Test.YtlnjnimenihhnaaGreatDoorVDoAny
import Derived.Test.YtlnjnimenihhnaaGreatDoorTFew
import Derived.Test.YtlnjnimenihhnaaGreatDoorTRows
namespace Go.Proofs.YtlnjnimenihhnaaGreatDoor
open Go.RowKit Go.Maps Go.Sort

section
variable {t r q : Nat} {T : Ts} {A : Pth → Nat} {O : Nat → Option (Pth × Nat)} {K : Nat} {R : Rs} {num : Pth → Nat} {G : Nat → Prop}
set_option maxHeartbeats 3200000 in
set_option maxRecDepth 100000 in
theorem vlooks_any (w : World) (h : Tr w t T.F A O T.bl T.ino K) (hR : Rt w r q G R) (hD : Dt T R num K) (hK : K ≤ 60000) (dd : Nat) (hd : ∀ z : Pth, dd < z.length → T.F z = none) (hdd : dd ≤ 100000) (hn : (rowsP T.F (dd + 1) [] ⟨#[]⟩).length ≤ 100000) :
    Calls Tryz.prog 12 #[ptr t, ptr r] w fun e w' => e = .returned (.bool true) ∧ Below w.heap.size w w' := by
  have HF : Hid (Calls Tryz.prog 20 #[ptr t] w fun e w' => e = .returned (.tuple #[.int .i64 T.bl, .int .i64 T.ino]) ∧ Below w.heap.size w w') := free_any t _ _ w h.cbl h.cin
  have H0 : Hid (Tr w t T.F A O T.bl T.ino K ∧ Rt w r q G R ∧ Dt T R num K ∧ ∀ z : Pth, dd < z.length → T.F z = none) := ⟨h, hR, hD, hd⟩
  clear h hR hD hd
  go_enter Tryz.func12, Tryz.ntmps12
  go_wp2_with fail
  refine HF.out.mono ?_
  clear HF
  rintro e w1 ⟨rfl, B1⟩
  have R1 := H0.out.2.1.below B1
  have c1 := R1.cB
  have c2 := R1.cI
  rw [H0.out.2.2.1.bl] at c1
  rw [H0.out.2.2.1.ino] at c2
  have HW : Hid (Calls Tryz.prog 36 #[ptr r] w1 fun e w' => ∃ a c, e = .returned (.slice a (rowsP T.F (dd + 1) [] ⟨#[]⟩).length c) ∧ Hid (w'.ownsRow w1.heap.size 96 5 (.slice a (rowsP T.F (dd + 1) [] ⟨#[]⟩).length c) (rowsP T.F (dd + 1) [] ⟨#[]⟩).length ((rowsP T.F (dd + 1) [] ⟨#[]⟩).flatMap (rwC T.F)) ∧ Below w1.heap.size w1 w')) := rWalk_any w1 R1 H0.out.2.2.1 hK dd H0.out.2.2.2 hdd (by omega)
  have HB : Hid (Below w.heap.size w w1) := B1
  clear R1 B1
  obtain ⟨n, hn'⟩ : ∃ n, (rowsP T.F (dd + 1) [] ⟨#[]⟩).length = n := ⟨_, rfl⟩
  rw [hn'] at hn HW
  have HN : Hid ((rowsP T.F (dd + 1) [] ⟨#[]⟩).length = n) := hn'
  clear hn'
  go_wp2_with fail
  refine HW.out.mono ?_
  clear HW
  rintro e w2 ⟨a, c, rfl, HX⟩
  have HB2 : Hid (Below w.heap.size w w2) := HB.out.trans (HX.out.2.mono HB.out.size)
  have HC : Hid (Calls Tryz.prog 35 #[ptr t, .slice a n c] w2 fun e w' => e = .returned (.bool true) ∧ Below w2.heap.size w2 w') := vrows_any w2 (H0.out.1.below HB2.out) (by omega) H0.out.2.2.1.gd dd H0.out.2.2.2 hdd rfl HN.out hn HX.out.1
  clear HX HB c1 c2
  go_wp2_with fail
  refine HC.out.mono ?_
  clear HC
  rintro e w3 ⟨rfl, B3⟩
  have HE : Hid (Below w.heap.size w w3) := HB2.out.trans (B3.mono HB2.out.size)
  clear B3 HB2
  go_wp2_with fail
  go_ret
  exact ⟨by simp, HE.out⟩
end
/-- The document's act, in a block. -/
def OpR (w : World) (b : Nat) (u0 u1 u2 u3 u4 : Value) : Prop := w.heap[b]? = some (.cells #[u0, u1, u2, u3, u4] 37 (0, 0))
theorem OpR.c {w : World} {b : Nat} {u0 u1 u2 u3 u4 : Value} (h : OpR w b u0 u1 u2 u3 u4) : w.cell? ⟨b, 0, none⟩ = some u0 ∧ w.cell? ⟨b, 1, none⟩ = some u1 ∧ w.cell? ⟨b, 2, none⟩ = some u2 ∧ w.cell? ⟨b, 3, none⟩ = some u3 ∧ w.cell? ⟨b, 4, none⟩ = some u4 := by
  unfold OpR at h
  refine ⟨?_, ?_, ?_, ?_, ?_⟩ <;> · rw [cell_of_row _ _ _ _ _ _ h]; rfl
theorem OpR.put {w : World} {b : Nat} {u0 u1 u2 u3 u4 : Value} (h : OpR w b u0 u1 u2 u3 u4) (v0 v1 v2 v3 v4 : Value) : OpR (((((w.setCell ⟨b, 0, none⟩ v0).setCell ⟨b, 1, none⟩ v1).setCell ⟨b, 2, none⟩ v2).setCell ⟨b, 3, none⟩ v3).setCell ⟨b, 4, none⟩ v4) b v0 v1 v2 v3 v4 ∧ Chg (fun k => k = b) w (((((w.setCell ⟨b, 0, none⟩ v0).setCell ⟨b, 1, none⟩ v1).setCell ⟨b, 2, none⟩ v2).setCell ⟨b, 3, none⟩ v3).setCell ⟨b, 4, none⟩ v4) := by
  have g0 := heap_setCell_same w b 0 _ _ v0 h
  have g1 := heap_setCell_same _ b 1 _ _ v1 g0
  have g2 := heap_setCell_same _ b 2 _ _ v2 g1
  have g3 := heap_setCell_same _ b 3 _ _ v3 g2
  have g4 := heap_setCell_same _ b 4 _ _ v4 g3
  refine ⟨?_, ((((Chg.setCell (S := fun k => k = b) w ⟨b, 0, none⟩ v0 rfl).trans (Chg.setCell (S := fun k => k = b) _ ⟨b, 1, none⟩ v1 rfl) (fun _ _ h => h)).trans (Chg.setCell (S := fun k => k = b) _ ⟨b, 2, none⟩ v2 rfl) (fun _ _ h => h)).trans (Chg.setCell (S := fun k => k = b) _ ⟨b, 3, none⟩ v3 rfl) (fun _ _ h => h)).trans (Chg.setCell (S := fun k => k = b) _ ⟨b, 4, none⟩ v4 rfl) (fun _ _ h => h)⟩
  unfold OpR
  rw [g4]
  rfl
set_option maxHeartbeats 3200000 in
set_option maxRecDepth 100000 in
theorem vof_any (w : World) (k n : Int) (p p2 : ByteArray) (da : Option Addr) (dn dc : Nat) :
    Calls Tryz.prog 11 #[.agg #[.int .i64 k, .string p, .string p2, .slice da dn dc, .int .i64 n]] w fun e w' => e = .returned (.agg #[.int .i64 k, .string p, .string p2, .slice da dn dc, .int .i64 n]) ∧ Below w.heap.size w w' := by
  have B0 := below_alloc w (.cells #[.int .i64 k, .string p, .string p2, .slice da dn dc, .int .i64 n] 35)
  have b0 := heap_alloc_new w (.cells #[.int .i64 k, .string p, .string p2, .slice da dn dc, .int .i64 n] 35)
  obtain ⟨wa, hwa⟩ : ∃ wa, w.alloc (.cells #[.int .i64 k, .string p, .string p2, .slice da dn dc, .int .i64 n] 35) = wa := ⟨_, rfl⟩
  have hza : wa.heap.size = w.heap.size + 1 := by rw [← hwa]; simp
  rw [hwa] at B0 b0
  have B1 := below_alloc wa (.cells #[.int .i64 0, .string ⟨#[]⟩, .string ⟨#[]⟩, .slice none 0 0, .int .i64 0] 37)
  have I1 : OpR (wa.alloc (.cells #[.int .i64 0, .string ⟨#[]⟩, .string ⟨#[]⟩, .slice none 0 0, .int .i64 0] 37)) wa.heap.size (.int .i64 0) (.string ⟨#[]⟩) (.string ⟨#[]⟩) (.slice none 0 0) (.int .i64 0) := heap_alloc_new wa _
  obtain ⟨wb, hwb⟩ : ∃ wb, wa.alloc (.cells #[.int .i64 0, .string ⟨#[]⟩, .string ⟨#[]⟩, .slice none 0 0, .int .i64 0] 37) = wb := ⟨_, rfl⟩
  rw [hwb] at B1 I1
  have b1 : wb.heap[w.heap.size]? = some (.cells #[.int .i64 k, .string p, .string p2, .slice da dn dc, .int .i64 n] 35 (0, 0)) := (B1.block _ (by omega)).trans b0
  have c0 : wb.cell? ⟨w.heap.size, 0, none⟩ = some (.int .i64 k) := by rw [cell_of_row _ _ _ _ _ _ b1]; rfl
  have c1 : wb.cell? ⟨w.heap.size, 1, none⟩ = some (.string p) := by rw [cell_of_row _ _ _ _ _ _ b1]; rfl
  have c2 : wb.cell? ⟨w.heap.size, 2, none⟩ = some (.string p2) := by rw [cell_of_row _ _ _ _ _ _ b1]; rfl
  have c3 : wb.cell? ⟨w.heap.size, 3, none⟩ = some (.slice da dn dc) := by rw [cell_of_row _ _ _ _ _ _ b1]; rfl
  have c4 : wb.cell? ⟨w.heap.size, 4, none⟩ = some (.int .i64 n) := by rw [cell_of_row _ _ _ _ _ _ b1]; rfl
  obtain ⟨d0, d1, d2, d3, d4⟩ := I1.c
  have fr : ∀ j, wb.frozen? ⟨wa.heap.size, j, none⟩ = false := fun j => by
    have := I1
    unfold OpR at this
    simp [World.frozen?, this]
  have HA : Hid (Below w.heap.size w wb ∧ OpR wb wa.heap.size (.int .i64 0) (.string ⟨#[]⟩) (.string ⟨#[]⟩) (.slice none 0 0) (.int .i64 0)) := ⟨B0.trans (B1.mono B0.size), I1⟩
  have hle : Hid (w.heap.size ≤ wa.heap.size) := by show w.heap.size ≤ wa.heap.size; omega
  clear B0 B1 I1 b0 b1 hza
  go_enter Tryz.func11, Tryz.ntmps11
  go_wp2_with fail
  obtain ⟨s1, s2⟩ := HA.out.2.put (.int .i64 k) (.string p) (.string p2) (.slice da dn dc) (.int .i64 n)
  try simp only [Exit.inBlock, Exit.then]
  generalize World.setCell _ ⟨wa.heap.size, 4, none⟩ _ = w9 at *
  obtain ⟨e0, e1, e2, e3, e4⟩ := s1.c
  refine bodyPost_ret (v := .agg #[.int .i64 k, .string p, .string p2, .slice da dn dc, .int .i64 n]) ?_ rfl ?_
  · simp [results, Tryz.results11, go_sem, e0, e1, e2, e3, e4]
  · exact ⟨rfl, HA.out.1.trans (s2.below HA.out.1.size (fun k hk => by rw [hk]; exact hle.out))⟩
end Go.Proofs.YtlnjnimenihhnaaGreatDoor

namespace Go.Proofs.YtlnjnimenihhnaaGreatDoor
open Go.RowKit Go.Maps Go.Sort

/-- An act's data lie below the law's blocks. -/
theorem dat_far {w : World} {dv : Value} {d : List Int} {t : Nat} (h : Bs w dv d) (ht : w.heap.size ≤ t) : ∀ a n c, dv = .slice (some a) n c → 0 < n → ¬ a.block = t := fun a n c e hn e2 => by
  rcases h with ⟨e3, _⟩ | ⟨a', c', e3, hl, hm, hcell⟩
  · rw [e3] at e; cases e
  · rw [e3] at e
    cases e
    have := World.block_lt_of_cell? w _ (hcell 0 hn)
    have h4 : (a.add 0).block = a.block := by unfold Addr.add; split <;> rfl
    rw [h4] at this
    omega
/-- Both trees in memory, apart: landed from the block t on, the document's in r. -/
structure Bo (N : Nat) (w0 w : World) (t r : Nat) (T : Ts) (K : Nat) : Prop where
  ex : ∃ A O q G R num, Tr w t T.F A O T.bl T.ino K ∧ Rt w r q G R ∧ Dt T R num K ∧ (∀ k, (O k).isSome = true → N ≤ k) ∧ N ≤ r ∧ N ≤ q ∧ O r = none ∧ O q = none ∧ ∀ b, G b → O b = none
  tab : Tab w
  pos : 0 < N
  bel : Below N w0 w
  le : N ≤ w.heap.size
/-- The same, behind the landed one's act. -/
structure Md (N : Nat) (w0 w : World) (t r : Nat) (T T' : Ts) (K : Nat) : Prop where
  ex : ∃ A O q G R num, Tr w t T'.F A O T'.bl T'.ino (K + 2) ∧ Rt w r q G R ∧ Dt T R num K ∧ (∀ k, (O k).isSome = true → N ≤ k) ∧ N ≤ r ∧ N ≤ q ∧ O r = none ∧ O q = none ∧ ∀ b, G b → O b = none
  tab : Tab w
  pos : 0 < N
  bel : Below N w0 w
  le : N ≤ w.heap.size
section
variable {N : Nat} {w0 w w' : World} {t r K : Nat} {T T' : Ts}
theorem Bo.kept (h : Bo N w0 w t r T K) (hb : Below w.heap.size w w') : Bo N w0 w' t r T K := by
  obtain ⟨A, O, q, G, R, num, h1, h2, h3, h4, h5, h6, h7⟩ := h.ex
  exact ⟨⟨A, O, q, G, R, num, h1.below hb, h2.below hb, h3, h4, h5, h6, h7⟩, tab_below h.tab hb, h.pos, h.bel.trans (hb.mono h.le), Nat.le_trans h.le hb.size⟩
theorem Md.kept (h : Md N w0 w t r T T' K) (hb : Below w.heap.size w w') : Md N w0 w' t r T T' K := by
  obtain ⟨A, O, q, G, R, num, h1, h2, h3, h4, h5, h6, h7⟩ := h.ex
  exact ⟨⟨A, O, q, G, R, num, h1.below hb, h2.below hb, h3, h4, h5, h6, h7⟩, tab_below h.tab hb, h.pos, h.bel.trans (hb.mono h.le), Nat.le_trans h.le hb.size⟩
theorem Bo.good (h : Bo N w0 w t r T K) : Gd T := by
  obtain ⟨A, O, q, G, R, num, h1, _⟩ := h.ex
  exact h1.good
theorem Bo.tN (h : Bo N w0 w t r T K) : N ≤ t ∧ N ≤ r := by
  obtain ⟨A, O, q, G, R, num, h1, h2, h3, h4, h5, _⟩ := h.ex
  exact ⟨h4 t (by rw [h1.atT]; rfl), h5⟩
theorem Bo.ib (h : Bo N w0 w t r T K) : 0 ≤ T.ino := by
  obtain ⟨A, O, q, G, R, num, h1, _⟩ := h.ex
  exact h1.ib.1
/-- The landed one's act. -/
theorem Bo.do1 (h : Bo N w0 w t r T K) (hK : K ≤ 60000) (o : Ac) (dv : Value) (hd : Bs w dv o.d) (hB : IsB o.d) (hdt : ∀ a n c, dv = .slice (some a) n c → 0 < n → ¬ a.block = t) (hp : o.p.size ≤ 3000) (hq : o.q.size ≤ 3000) {c : Int} (hr : doR T o = (c, T')) :
    Calls Tryz.prog 9 #[ptr t, .agg #[.int .i64 o.k, .string o.p, .string o.q, dv, .int .i64 o.n]] w fun e w' => e = .returned (.int .i64 c) ∧ Md N w0 w' t r T T' K := by
  obtain ⟨A, O, q, G, R, num, h1, h2, h3, h4, h5, h6, h7, h8, h9⟩ := h.ex
  have hO0 : O 0 = none := by
    cases e : O 0 with
    | none => rfl
    | some z => have := h4 0 (by rw [e]; rfl); have := h.pos; omega
  refine (do_any (N := w.heap.size) h1 h.tab hK hO0 o dv hd hB hdt hp hq (Nat.le_refl _)).mono ?_
  rintro e w' ⟨rfl, A3, O3, g1, g2, g3⟩
  rw [hr] at g1
  have g2' : Chg (fun b => N ≤ b ∧ b < w.heap.size) w w' := g2.mono (fun b _ hb => ⟨h4 b hb, by assumption⟩)
  have no : ∀ b, b < w.heap.size → O b = none → O3 b = none := fun b hb hn => by
    cases e : O3 b with
    | none => rfl
    | some z =>
      rcases g3 b (by rw [e]; rfl) with h | h
      · rw [hn] at h; cases h
      · omega
  have hlt := h2.lt
  have hR := h2.kept g2 (fun hs => by rw [h7] at hs; cases hs) (fun hs => by rw [h8] at hs; cases hs) (fun b hb hs => by rw [h9 b hb] at hs; cases hs)
  refine ⟨by rw [hr], ⟨⟨A3, O3, q, G, R, num, g1, hR, h3, fun k hk => (g3 k hk).elim (h4 k) (fun h6 => Nat.le_trans h.le h6), h5, h6, no r hlt.1 h7, no q hlt.2 h8, fun b hb => no b (h2.gl b hb) (h9 b hb)⟩, fun j hj => g2'.cell (h.tab j hj) (fun e => ?_), h.pos, h.bel.trans (g2'.below h.le (fun k hk => hk.1)), Nat.le_trans h.le g2.size⟩⟩
  have h0 : N ≤ 0 := e.1
  have := h.pos
  omega
/-- The document's act. -/
theorem Md.do2 (h : Md N w0 w t r T T' K) (hK : K ≤ 60000) (o : Ac) (dv : Value) (hd : Bs w dv o.d) (hB : IsB o.d) (hdl : o.d.length ≤ 10000000) (hdt : ∀ a n c, dv = .slice (some a) n c → 0 < n → ¬ a.block = r) (hp : o.p.size ≤ 3000) (hq : o.q.size ≤ 3000) {c : Int} (hr : doR T o = (c, T')) :
    Calls Tryz.prog 10 #[ptr r, .agg #[.int .i64 o.k, .string o.p, .string o.q, dv, .int .i64 o.n]] w fun e w' => e = .returned (.int .i64 c) ∧ Bo N w0 w' t r T' (K + 2) := by
  obtain ⟨A, O, q, G, R, num, h1, h2, h3, h4, h5, h6, h7, h8, h9⟩ := h.ex
  refine (vdo_any h2 h3 hK o dv hd hB hdl hdt hp hq hr).mono ?_
  rintro e w' ⟨rfl, R', num', ⟨⟨q', G', g1, g2, g3⟩, gc⟩, ht, hn, hbl, hino⟩
  have hT := h1.kept gc (fun b x hb hs => by
    rcases hs with rfl | rfl
    · rw [h7] at hb; cases hb
    · rw [h8] at hb; cases hb)
  have new : ∀ b, w.heap.size ≤ b → O b = none := fun b hb => by
    cases e : O b with
    | none => rfl
    | some z => have := h1.lt b z e; omega
  refine ⟨rfl, ⟨⟨A, O, q', G', R', num', hT, g1, hT.dt ht (by omega) hbl hino, h4, h5, ?_, h7, ?_, fun b hb => ?_⟩, fun j hj => gc.cell (h.tab j hj) (fun e => ?_), h.pos, h.bel.trans (gc.below h.le (fun k hk => ?_)), Nat.le_trans h.le gc.size⟩⟩
  · rcases g2 with rfl | g2
    · exact h6
    · exact Nat.le_trans h.le g2
  · rcases g2 with rfl | g2
    · exact h8
    · exact new _ g2
  · rcases g3 b hb with h | h
    · exact h9 b h
    · exact new _ h
  · have := h.pos
    rcases e with e | e <;> have e' : 0 = _ := e <;> omega
  · rcases hk with rfl | rfl
    · exact h5
    · exact h6
theorem Bo.asks (h : Bo N w0 w t r T K) (hK : K ≤ 60000) {s : ByteArray} (hs : s.size ≤ 3000) :
    Calls Tryz.prog 13 #[ptr t, ptr r, .string s] w fun e w' => e = .returned (.bool true) ∧ Below w.heap.size w w' := by
  obtain ⟨A, O, q, G, R, num, h1, h2, h3, _⟩ := h.ex
  exact vasks_any h1 h2 h3 hK hs
theorem Bo.looks (h : Bo N w0 w t r T K) (hK : K ≤ 60000) {n : Int} {M : Nat} (hC : Cn T n M) (hM : M ≤ 90000) (hn : n ≤ 90000) :
    Calls Tryz.prog 12 #[ptr t, ptr r] w fun e w' => e = .returned (.bool true) ∧ Below w.heap.size w w' := by
  obtain ⟨A, O, q, G, R, num, h1, h2, h3, _⟩ := h.ex
  have hc := rows_count h3.gd hC (d := M + 1) (by omega)
  have hi := h1.ib.1
  exact vlooks_any w h1 h2 h3 hK M (fun z hz => by
    cases e : T.F z with
    | none => rfl
    | some y => have := hC.dp z (by rw [e]; rfl); omega) (by omega) (by omega)
theorem tie_start (b i : Int) : Tie (tr0 b i).F ⟨[.dir []], b, i⟩ (fun _ => 0) := by
  have hF : ∀ p : Pth, ((tr0 b i).F p).isSome = true → p = [] := fun p hp => by
    by_cases e : p = []
    · exact e
    · simp [tr0, e] at hp
  refine ⟨rfl, fun p q hp hq _ => by rw [hF p hp, hF q hq], fun p bs hp => ?_, fun p s kn hp => ?_⟩
  · obtain rfl := hF p (by rw [hp]; rfl)
    simp [tr0] at hp
  · obtain rfl := hF p (by rw [hp]; rfl)
    simp [tr0] at hp
    obtain ⟨rfl, rfl⟩ := hp
    exact ⟨[], rfl, rfl, List.Perm.nil, fun e he => by cases he⟩
/-- Both of them made. -/
theorem Bo.start {b i : Int} (h : Lw N w0 w t (tr0 b (i - 1)) 0) {q : Nat} (hw : Below w.heap.size w w') (hR : Rt w' r q (fun _ => False) ⟨[.dir []], b, i - 1⟩) (hr : w.heap.size ≤ r) (hq : w.heap.size ≤ q) : Bo N w0 w' t r (tr0 b (i - 1)) 0 := by
  obtain ⟨A, O, h1, h2⟩ := h.ex
  have new : ∀ b, w.heap.size ≤ b → O b = none := fun b hb => by
    cases e : O b with
    | none => rfl
    | some z => have := h1.lt b z e; omega
  have hT := h1.below hw
  exact ⟨⟨A, O, q, fun _ => False, ⟨[.dir []], b, i - 1⟩, fun _ => 0, hT, hR, hT.dt (tie_start b (i - 1)) (by simp) rfl rfl, h2, Nat.le_trans h.le hr, Nat.le_trans h.le hq, new r hr, new q hq, fun _ h => h.elim⟩, tab_below h.tab hw, h.pos, h.bel.trans (hw.mono h.le), Nat.le_trans h.le hw.size⟩
end
end Go.Proofs.YtlnjnimenihhnaaGreatDoor

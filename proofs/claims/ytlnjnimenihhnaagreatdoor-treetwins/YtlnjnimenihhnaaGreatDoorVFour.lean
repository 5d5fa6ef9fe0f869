/-
  Two trees and the document's two beside them: what is done to the one pair leaves the other one alone.
-/
import Derived.Test.YtlnjnimenihhnaaGreatDoorVBo
import Derived.Test.YtlnjnimenihhnaaGreatDoorVTwin
import Derived.Test.YtlnjnimenihhnaaGreatDoorTL2
namespace Go.Proofs.YtlnjnimenihhnaaGreatDoor
open Go.RowKit Go.Maps Go.Sort

/-- The pair that is left alone: its blocks are among P. -/
def St (P : Nat → Prop) (w : World) (u r : Nat) (U : Ts) (K : Nat) : Prop :=
  ∃ A O q G R num, Tr w u U.F A O U.bl U.ino K ∧ Rt w r q G R ∧ Dt U R num K ∧ (∀ b, (O b).isSome = true → P b) ∧ P r ∧ P q ∧ ∀ b, G b → P b
theorem St.kept {P S : Nat → Prop} {w w' : World} {u r K : Nat} {U : Ts} (h : St P w u r U K) (hc : Chg S w w') (hS : ∀ b, P b → ¬ S b) : St P w' u r U K := by
  obtain ⟨A, O, q, G, R, num, h1, h2, h3, h4, h5, h6, h7⟩ := h
  exact ⟨A, O, q, G, R, num, h1.kept hc (fun b x hb => hS b (h4 b (by rw [hb]; rfl))), h2.kept hc (hS r h5) (hS q h6) (fun b hb => hS b (h7 b hb)), h3, h4, h5, h6, h7⟩
structure Fo (N : Nat) (w0 w : World) (P : Nat → Prop) (t s u r : Nat) (T U : Ts) (K K' : Nat) : Prop where
  ex : ∃ A O q G R num, Tr w t T.F A O T.bl T.ino K ∧ Rt w s q G R ∧ Dt T R num K ∧ (∀ k, (O k).isSome = true → N ≤ k) ∧ N ≤ s ∧ N ≤ q ∧ O s = none ∧ O q = none ∧ (∀ b, G b → O b = none) ∧ ∀ b, P b → O b = none ∧ ¬ b = s ∧ ¬ b = q
  st : St P w u r U K'
  pl : ∀ b, P b → b < w.heap.size
  tab : Tab w
  pos : 0 < N
  bel : Below N w0 w
  le : N ≤ w.heap.size
structure Fm (N : Nat) (w0 w : World) (P : Nat → Prop) (t s u r : Nat) (T T' U : Ts) (K K' : Nat) : Prop where
  ex : ∃ A O q G R num, Tr w t T'.F A O T'.bl T'.ino (K + 2) ∧ Rt w s q G R ∧ Dt T R num K ∧ (∀ k, (O k).isSome = true → N ≤ k) ∧ N ≤ s ∧ N ≤ q ∧ O s = none ∧ O q = none ∧ (∀ b, G b → O b = none) ∧ ∀ b, P b → O b = none ∧ ¬ b = s ∧ ¬ b = q
  st : St P w u r U K'
  pl : ∀ b, P b → b < w.heap.size
  tab : Tab w
  pos : 0 < N
  bel : Below N w0 w
  le : N ≤ w.heap.size
section
variable {N : Nat} {w0 w w' : World} {P : Nat → Prop} {t s u r K K' : Nat} {T T' U : Ts}
theorem Fo.kept (h : Fo N w0 w P t s u r T U K K') (hb : Below w.heap.size w w') : Fo N w0 w' P t s u r T U K K' := by
  obtain ⟨A, O, q, G, R, num, h1, h2, h3, h4⟩ := h.ex
  exact ⟨⟨A, O, q, G, R, num, h1.below hb, h2.below hb, h3, h4⟩, h.st.kept (Chg.ofBelowC hb) (fun _ _ h => h), fun b hb' => Nat.lt_of_lt_of_le (h.pl b hb') hb.size, tab_below h.tab hb, h.pos, h.bel.trans (hb.mono h.le), Nat.le_trans h.le hb.size⟩
theorem Fm.kept (h : Fm N w0 w P t s u r T T' U K K') (hb : Below w.heap.size w w') : Fm N w0 w' P t s u r T T' U K K' := by
  obtain ⟨A, O, q, G, R, num, h1, h2, h3, h4⟩ := h.ex
  exact ⟨⟨A, O, q, G, R, num, h1.below hb, h2.below hb, h3, h4⟩, h.st.kept (Chg.ofBelowC hb) (fun _ _ h => h), fun b hb' => Nat.lt_of_lt_of_le (h.pl b hb') hb.size, tab_below h.tab hb, h.pos, h.bel.trans (hb.mono h.le), Nat.le_trans h.le hb.size⟩
theorem Fo.good (h : Fo N w0 w P t s u r T U K K') : Gd T ∧ N ≤ t ∧ N ≤ s := by
  obtain ⟨A, O, q, G, R, num, h1, h2, h3, h4, h5, _⟩ := h.ex
  exact ⟨h1.good, h4 t (by rw [h1.atT]; rfl), h5⟩
theorem Fo.do1 (h : Fo N w0 w P t s u r T U K K') (hK : K ≤ 60000) (o : Ac) (dv : Value) (hd : Bs w dv o.d) (hB : IsB o.d) (hdt : ∀ a n c, dv = .slice (some a) n c → 0 < n → ¬ a.block = t) (hp : o.p.size ≤ 3000) (hq : o.q.size ≤ 3000) {c : Int} (hr : doR T o = (c, T')) :
    Calls Tryz.prog 9 #[ptr t, .agg #[.int .i64 o.k, .string o.p, .string o.q, dv, .int .i64 o.n]] w fun e w' => e = .returned (.int .i64 c) ∧ Fm N w0 w' P t s u r T T' U K K' := by
  obtain ⟨A, O, q, G, R, num, h1, h2, h3, h4, h5, h6, h7, h8, h9, hP⟩ := h.ex
  have hO0 : O 0 = none := by
    cases e : O 0 with
    | none => rfl
    | some z => have := h4 0 (by rw [e]; rfl); have := h.pos; omega
  refine (do_any (N := w.heap.size) h1 h.tab hK hO0 o dv hd hB hdt hp hq (Nat.le_refl _)).mono ?_
  rintro e w' ⟨rfl, A3, O3, g1, g2, g3⟩
  rw [hr] at g1
  have g2' : Chg (fun b => N ≤ b ∧ b < w.heap.size) w w' := g2.mono (fun b _ hb => ⟨h4 b hb, by assumption⟩)
  have no : ∀ b, b < w.heap.size → O b = none → O3 b = none := fun b hb hn => by
    cases e : O3 b with
    | none => rfl
    | some z =>
      rcases g3 b (by rw [e]; rfl) with h | h
      · rw [hn] at h; cases h
      · omega
  have hlt := h2.lt
  have hR := h2.kept g2 (fun hs => by rw [h7] at hs; cases hs) (fun hs => by rw [h8] at hs; cases hs) (fun b hb hs => by rw [h9 b hb] at hs; cases hs)
  refine ⟨by rw [hr], ⟨⟨A3, O3, q, G, R, num, g1, hR, h3, fun k hk => (g3 k hk).elim (h4 k) (fun h6 => Nat.le_trans h.le h6), h5, h6, no s hlt.1 h7, no q hlt.2 h8, fun b hb => no b (h2.gl b hb) (h9 b hb), fun b hb => ⟨no b (h.pl b hb) (hP b hb).1, (hP b hb).2⟩⟩, h.st.kept g2 (fun b hb hs => by rw [(hP b hb).1] at hs; cases hs), fun b hb => Nat.lt_of_lt_of_le (h.pl b hb) g2.size, fun j hj => g2'.cell (h.tab j hj) (fun e => ?_), h.pos, h.bel.trans (g2'.below h.le (fun k hk => hk.1)), Nat.le_trans h.le g2.size⟩⟩
  have h0 : N ≤ 0 := e.1
  have := h.pos
  omega
theorem Fm.do2 (h : Fm N w0 w P t s u r T T' U K K') (hK : K ≤ 60000) (o : Ac) (dv : Value) (hd : Bs w dv o.d) (hB : IsB o.d) (hdl : o.d.length ≤ 10000000) (hdt : ∀ a n c, dv = .slice (some a) n c → 0 < n → ¬ a.block = s) (hp : o.p.size ≤ 3000) (hq : o.q.size ≤ 3000) {c : Int} (hr : doR T o = (c, T')) :
    Calls Tryz.prog 10 #[ptr s, .agg #[.int .i64 o.k, .string o.p, .string o.q, dv, .int .i64 o.n]] w fun e w' => e = .returned (.int .i64 c) ∧ Fo N w0 w' P t s u r T' U (K + 2) K' := by
  obtain ⟨A, O, q, G, R, num, h1, h2, h3, h4, h5, h6, h7, h8, h9, hP⟩ := h.ex
  refine (vdo_any h2 h3 hK o dv hd hB hdl hdt hp hq hr).mono ?_
  rintro e w' ⟨rfl, R', num', ⟨⟨q', G', g1, g2, g3⟩, gc⟩, ht, hn, hbl, hino⟩
  have hT := h1.kept gc (fun b x hb hs => by
    rcases hs with rfl | rfl
    · rw [h7] at hb; cases hb
    · rw [h8] at hb; cases hb)
  have new : ∀ b, w.heap.size ≤ b → O b = none := fun b hb => by
    cases e : O b with
    | none => rfl
    | some z => have := h1.lt b z e; omega
  refine ⟨rfl, ⟨⟨A, O, q', G', R', num', hT, g1, hT.dt ht (by omega) hbl hino, h4, h5, ?_, h7, ?_, fun b hb => ?_, fun b hb => ⟨(hP b hb).1, (hP b hb).2.1, fun e => ?_⟩⟩, h.st.kept gc (fun b hb hs => hs.elim (hP b hb).2.1 (hP b hb).2.2), fun b hb => Nat.lt_of_lt_of_le (h.pl b hb) gc.size, fun j hj => gc.cell (h.tab j hj) (fun e => ?_), h.pos, h.bel.trans (gc.below h.le (fun k hk => ?_)), Nat.le_trans h.le gc.size⟩⟩
  · rcases g2 with rfl | g2
    · exact h6
    · exact Nat.le_trans h.le g2
  · rcases g2 with rfl | g2
    · exact h8
    · exact new _ g2
  · rcases g3 b hb with h | h
    · exact h9 b h
    · exact new _ h
  · rcases g2 with rfl | g2
    · exact (hP b hb).2.2 e
    · have := h.pl b hb; omega
  · have := h.pos
    rcases e with e | e <;> have e' : 0 = _ := e <;> omega
  · rcases hk with rfl | rfl
    · exact h5
    · exact h6
theorem Fo.looks (h : Fo N w0 w P t s u r T U K K') (hK : K ≤ 60000) {n : Int} {M : Nat} (hC : Cn T n M) (hM : M ≤ 90000) (hn : n ≤ 90000) :
    Calls Tryz.prog 12 #[ptr t, ptr s] w fun e w' => e = .returned (.bool true) ∧ Below w.heap.size w w' := by
  obtain ⟨A, O, q, G, R, num, h1, h2, h3, _⟩ := h.ex
  have hc := rows_count h3.gd hC (d := M + 1) (by omega)
  have hi := h1.ib.1
  exact vlooks_any w h1 h2 h3 hK M (fun z hz => by
    cases e : T.F z with
    | none => rfl
    | some y => have := hC.dp z (by rw [e]; rfl); omega) (by omega) (by omega)
theorem St.looks (h : St P w u r U K) (hK : K ≤ 60000) {n : Int} {M : Nat} (hC : Cn U n M) (hM : M ≤ 90000) (hn : n ≤ 90000) :
    Calls Tryz.prog 12 #[ptr u, ptr r] w fun e w' => e = .returned (.bool true) ∧ Below w.heap.size w w' := by
  obtain ⟨A, O, q, G, R, num, h1, h2, h3, _⟩ := h
  have hc := rows_count h3.gd hC (d := M + 1) (by omega)
  have hi := h1.ib.1
  exact vlooks_any w h1 h2 h3 hK M (fun z hz => by
    cases e : U.F z with
    | none => rfl
    | some y => have := hC.dp z (by rw [e]; rfl); omega) (by omega) (by omega)
theorem Fo.same (h : Fo N w0 w P t s u r T U K K') (hK : K ≤ 900000) (hK' : K' ≤ 900000) : (Calls Tryz.prog 16 #[ptr t, ptr u] w fun e w' => e = .returned (.bool (eqB T.F U.F [] [])) ∧ Below w.heap.size w w') ∧ (Calls Tryz.prog 16 #[ptr u, ptr t] w fun e w' => e = .returned (.bool (eqB U.F T.F [] [])) ∧ Below w.heap.size w w') := by
  obtain ⟨A, O, q, G, R, num, h1, h2, h3, _⟩ := h.ex
  obtain ⟨A', O', q', G', R', num', g1, g2, g3, _⟩ := h.st
  exact ⟨Same_any hK hK' w h1 g1, Same_any hK' hK w g1 h1⟩
end
/-- A tree, its twin, the document's. -/
structure Tw (N : Nat) (w0 w : World) (t r u : Nat) (T : Ts) (K : Nat) : Prop where
  ex : ∃ A O q G R num A2 O2, Tr w t T.F A O T.bl T.ino K ∧ Rt w r q G R ∧ Dt T R num K ∧ (∀ k, (O k).isSome = true → N ≤ k) ∧ O r = none ∧ O q = none ∧ (∀ b, G b → O b = none) ∧ Tr w u T.F A2 O2 T.bl T.ino K ∧ ∀ k, (O2 k).isSome = true → O k = none
  tab : Tab w
  pos : 0 < N
  bel : Below N w0 w
  le : N ≤ w.heap.size
section
variable {N : Nat} {w0 w : World} {t r u K : Nat} {T : Ts}
theorem Bo.twin1 (h : Bo N w0 w t r T K) (hK : K ≤ 60000) : Calls Tryz.prog 14 #[ptr t] w fun e w' => ∃ u, e = .returned (ptr u) ∧ Hid (Tw N w0 w' t r u T K) := by
  obtain ⟨A, O, q, G, R, num, h1, h2, h3, h4, h5, h6, h7, h8, h9⟩ := h.ex
  refine (Twin_any (by omega) w h1).mono ?_
  rintro e w' ⟨u, A2, O2, rfl, g1, g2, B⟩
  refine ⟨u, rfl, ⟨A, O, q, G, R, num, A2, O2, h1.below B, h2.below B, h3, h4, h7, h8, h9, g1, fun k hk => ?_⟩, tab_below h.tab B, h.pos, h.bel.trans (B.mono h.le), Nat.le_trans h.le B.size⟩
  cases e : O k with
  | none => rfl
  | some z =>
    have := h1.lt k z e
    have := g2 k hk
    omega
theorem Tw.twin2 (h : Tw N w0 w t r u T K) (hK : K ≤ 60000) : Calls Tryz.prog 15 #[ptr r] w fun e w' => ∃ s, e = .returned (ptr s) ∧ Hid (∃ P, Fo N w0 w' P t s u r T T K K) := by
  obtain ⟨A, O, q, G, R, num, A2, O2, h1, h2, h3, h4, h5, h6, h7, h8, h9⟩ := h.ex
  have hn := h3.n
  have h0 := h3.tie.lt h3.root.2
  refine (rtwin_any w h2 (by omega) (by omega)).mono ?_
  rintro e w' ⟨s, q', rfl, H⟩
  obtain ⟨g1, g2, g3, B⟩ := H.out
  have new : ∀ b, w.heap.size ≤ b → O b = none := fun b hb => by
    cases e : O b with
    | none => rfl
    | some z => have := h1.lt b z e; omega
  have hlt := h2.lt
  have hPl : ∀ b, ((O2 b).isSome = true ∨ b = r ∨ b = q ∨ G b) → b < w.heap.size := fun b hb => by
    rcases hb with hb | rfl | rfl | hb
    · obtain ⟨y, hy⟩ := Option.isSome_iff_exists.1 hb
      exact h8.lt b y hy
    · exact hlt.1
    · exact hlt.2
    · exact h2.gl b hb
  refine ⟨s, rfl, fun b => (O2 b).isSome = true ∨ b = r ∨ b = q ∨ G b, ⟨⟨A, O, q', G, R, num, h1.below B, g1, h3, h4, Nat.le_trans h.le g2, Nat.le_trans h.le g3, new s g2, new q' g3, h7, fun b hb => ⟨?_, ?_, ?_⟩⟩, ⟨A2, O2, q, G, R, num, h8.below B, h2.below B, h3, fun b hb => .inl hb, .inr (.inl rfl), .inr (.inr (.inl rfl)), fun b hb => .inr (.inr (.inr hb))⟩, fun b hb => Nat.lt_of_lt_of_le (hPl b hb) B.size, tab_below h.tab B, h.pos, h.bel.trans (B.mono h.le), Nat.le_trans h.le B.size⟩⟩
  · rcases hb with hb | rfl | rfl | hb
    · exact h9 b hb
    · exact h5
    · exact h6
    · exact h7 b hb
  · have := hPl b hb; omega
  · have := hPl b hb; omega
end
end Go.Proofs.YtlnjnimenihhnaaGreatDoor

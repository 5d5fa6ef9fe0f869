/-
  Two trees in a law.
-/
import Derived.Test.YtdcmkcplklkfmaaDoorTPair
namespace Go.Proofs.YtdcmkcplklkfmaaDoor
open Go.RowKit Go.Maps Go.Sort

/-- A law's two trees: neither has a block of the other's. -/
structure L2 (N : Nat) (w0 w : World) (t : Nat) (T : Ts) (u : Nat) (U : Ts) (K : Nat) : Prop where
  ex : ∃ A O A' O', Tr w t T.F A O T.bl T.ino K ∧ Tr w u U.F A' O' U.bl U.ino K ∧ (∀ k, (O k).isSome = true → N ≤ k) ∧ (∀ k, (O' k).isSome = true → N ≤ k) ∧ ∀ k, (O k).isSome = true → O' k = none
  tab : Tab w
  pos : 0 < N
  bel : Below N w0 w
  le : N ≤ w.heap.size
section
variable {N : Nat} {w0 w w' : World} {t u K : Nat} {T U : Ts}
theorem L2.swap (h : L2 N w0 w t T u U K) : L2 N w0 w u U t T K := by
  obtain ⟨A, O, A', O', h1, h2, h3, h4, h5⟩ := h.ex
  refine ⟨⟨A', O', A, O, h2, h1, h4, h3, fun k hk => ?_⟩, h.tab, h.pos, h.bel, h.le⟩
  cases e : O k with
  | none => rfl
  | some z => have := h5 k (by rw [e]; rfl); rw [this] at hk; cases hk
theorem L2.fst (h : L2 N w0 w t T u U K) : Lw N w0 w t T K := by
  obtain ⟨A, O, A', O', h1, h2, h3, h4, h5⟩ := h.ex
  exact ⟨⟨A, O, h1, h3⟩, h.tab, h.pos, h.bel, h.le⟩
theorem L2.kept (h : L2 N w0 w t T u U K) (hb : Below w.heap.size w w') : L2 N w0 w' t T u U K := by
  obtain ⟨A, O, A', O', h1, h2, h3, h4, h5⟩ := h.ex
  exact ⟨⟨A, O, A', O', h1.below hb, h2.below hb, h3, h4, h5⟩, tab_below h.tab hb, h.pos, h.bel.trans (hb.mono h.le), Nat.le_trans h.le hb.size⟩
/-- An act on the one, the other stays. -/
theorem L2.do_ (h : L2 N w0 w t T u U K) (hK : K ≤ 60000) (o : Ac) (dv : Value) (hd : Bs w dv o.d) (hB : IsB o.d) (hdt : ∀ a n c, dv = .slice (some a) n c → 0 < n → ¬ a.block = t) (hp : o.p.size ≤ 3000) (hq : o.q.size ≤ 3000) {c : Int} {T' : Ts} (hr : doR T o = (c, T')) :
    Calls Tryd.prog 12 #[ptr t, .agg #[.int .i64 o.k, .string o.p, .string o.q, dv, .int .i64 o.n]] w fun e w' => e = .returned (.int .i64 c) ∧ L2 N w0 w' t T' u U (K + 2) ∧ Chg (fun b => N ≤ b ∧ b < w.heap.size) w w' := by
  obtain ⟨A, O, A', O', h1, h2, h3, h4, h5⟩ := h.ex
  have hO0 : O 0 = none := by
    cases e : O 0 with
    | none => rfl
    | some z => have := h3 0 (by rw [e]; rfl); have := h.pos; omega
  refine (do_any (N := w.heap.size) h1 h.tab hK hO0 o dv hd hB hdt hp hq (Nat.le_refl _)).mono ?_
  rintro e w' ⟨rfl, A3, O3, g1, g2, g3⟩
  rw [hr] at g1
  have g2' : Chg (fun b => N ≤ b ∧ b < w.heap.size) w w' := g2.mono (fun b _ hb => ⟨h3 b hb, by assumption⟩)
  have k2 : Tr w' u U.F A' O' U.bl U.ino K := h2.kept g2 (fun b x hb hO => by rw [h5 b hO] at hb; cases hb)
  refine ⟨by rw [hr], ⟨⟨A3, O3, A', O', g1, k2.more (by omega), fun k hk => (g3 k hk).elim (h3 k) (fun h6 => Nat.le_trans h.le h6), h4, fun k hk => ?_⟩, fun j hj => g2'.cell (h.tab j hj) (fun e => ?_), h.pos, h.bel.trans (g2'.below h.le (fun k hk => hk.1)), Nat.le_trans h.le g2.size⟩, g2'⟩
  · rcases g3 k hk with h6 | h6
    · exact h5 k h6
    · cases e : O' k with
      | none => rfl
      | some z => have := h2.lt k z e; omega
  · have h0 : N ≤ 0 := e.1
    have := h.pos
    omega
theorem L2.donil (h : L2 N w0 w t T u U K) (hK : K ≤ 60000) (k : Int) (p q : ByteArray) (hp : p.size ≤ 3000) (hq : q.size ≤ 3000) {c : Int} {T' : Ts} (hr : doR T ⟨k, p, q, [], 0⟩ = (c, T')) :
    Calls Tryd.prog 12 #[ptr t, .agg #[.int .i64 k, .string p, .string q, .slice none 0 0, .int .i64 0]] w fun e w' => e = .returned (.int .i64 c) ∧ L2 N w0 w' t T' u U (K + 2) ∧ Chg (fun b => N ≤ b ∧ b < w.heap.size) w w' :=
  h.do_ hK ⟨k, p, q, [], 0⟩ (.slice none 0 0) (.inl ⟨rfl, rfl⟩) (fun _ h => by cases h) (fun a n c e _ => by cases e) hp hq hr
theorem L2.same (h : L2 N w0 w t T u U K) (hK : K ≤ 900000) : Calls Tryd.prog 13 #[ptr t, ptr u] w fun e w' => e = .returned (.bool (eqB T.F U.F [] [])) ∧ Below w.heap.size w w' := by
  obtain ⟨A, O, A', O', h1, h2, h3, h4, h5⟩ := h.ex
  exact Same_any hK hK w h1 h2
theorem Lw.twin (h : Lw N w0 w t T K) (hK : K ≤ 900000) : Calls Tryd.prog 10 #[ptr t] w fun e w' => ∃ u, e = .returned (ptr u) ∧ L2 N w0 w' t T u T K ∧ Below w.heap.size w w' := by
  obtain ⟨A, O, h1, h2⟩ := h.ex
  refine (Twin_any hK w h1).mono ?_
  rintro e w' ⟨u, A2, O2, rfl, g1, g2, B⟩
  refine ⟨u, rfl, ⟨⟨A, O, A2, O2, h1.below B, g1, h2, fun k hk => Nat.le_trans h.le (g2 k hk), fun k hk => ?_⟩, tab_below h.tab B, h.pos, h.bel.trans (B.mono h.le), Nat.le_trans h.le B.size⟩, B⟩
  cases e : O2 k with
  | none => rfl
  | some z =>
    obtain ⟨y, hy⟩ := Option.isSome_iff_exists.1 hk
    have := h1.lt k y hy
    have := g2 k (by rw [e]; rfl)
    omega
theorem Lw.good (h : Lw N w0 w t T K) : Gd T := by
  obtain ⟨A, O, h1, h2⟩ := h.ex
  exact h1.good
theorem eqB_refl (F : Pth → Option Nd) : eqB F F [] [] = true := eqB_iff.2 (EqT.refl _)
theorem eqB_root {F G : Pth → Option Nd} : eqB F G [] [] = true ↔ EqT F G := by
  rw [eqB_iff]
  have e : ∀ H : Pth → Option Nd, subF H [] = H := fun H => by funext q; simp [subF]
  rw [e, e]
end
end Go.Proofs.YtdcmkcplklkfmaaDoor

/-
  What is renamed: a tree with one node, and all below it, at another path.
-/
import Derived.Test.YtlnjnimenihhnaaGreatDoorTTree
namespace Go.Proofs.YtlnjnimenihhnaaGreatDoor
open Go.RowKit Go.Maps

/-- q is g, or below it. -/
abbrev Un (g q : Pth) : Prop := q.take g.length = g
theorem un_iff {g q : Pth} : Un g q ↔ ∃ r, q = g ++ r := by
  constructor
  · intro h
    exact ⟨q.drop g.length, by conv => lhs; rw [← List.take_append_drop g.length q]
                               rw [h]⟩
  · rintro ⟨r, rfl⟩
    simp [Un]
theorem un_self (g : Pth) : Un g g := un_iff.2 ⟨[], by simp⟩
theorem un_app (g r : Pth) : Un g (g ++ r) := un_iff.2 ⟨r, rfl⟩
theorem un_step {g q : Pth} {nm : ByteArray} (h : Un g (q ++ [nm])) : Un g q ∨ q ++ [nm] = g := by
  obtain ⟨r, hr⟩ := un_iff.1 h
  rcases List.eq_nil_or_concat r with rfl | ⟨r', y, rfl⟩
  · right; simpa using hr
  · left
    rw [List.concat_eq_append, ← List.append_assoc] at hr
    exact un_iff.2 ⟨r', (pth_inj hr).1⟩
theorem un_more {g q : Pth} (h : Un g q) (r : Pth) : Un g (q ++ r) := by
  obtain ⟨r', rfl⟩ := un_iff.1 h
  exact un_iff.2 ⟨r' ++ r, by simp⟩
theorem un_len {g q : Pth} (h : Un g q) : g.length ≤ q.length := by
  obtain ⟨r, rfl⟩ := un_iff.1 h
  simp
/-- What is at f, and below, is at g. -/
def graft (F : Pth → Option Nd) (f g : Pth) : Pth → Option Nd := fun q => if Un g q then F (f ++ q.drop g.length) else if Un f q then none else F q
theorem graft_at (F : Pth → Option Nd) (f g r : Pth) : graft F f g (g ++ r) = F (f ++ r) := by
  unfold graft
  rw [if_pos (un_app g r)]
  simp
theorem graft_none (F : Pth → Option Nd) {f g q : Pth} (h1 : ¬ Un g q) (h2 : Un f q) : graft F f g q = none := by
  unfold graft
  rw [if_neg h1, if_pos h2]
theorem graft_else (F : Pth → Option Nd) {f g q : Pth} (h1 : ¬ Un g q) (h2 : ¬ Un f q) : graft F f g q = F q := by
  unfold graft
  rw [if_neg h1, if_neg h2]
def graA (A : Pth → Nat) (f g : Pth) : Pth → Nat := fun q => if Un g q then A (f ++ q.drop g.length) else A q
theorem graA_at (A : Pth → Nat) (f g r : Pth) : graA A f g (g ++ r) = A (f ++ r) := by
  unfold graA
  rw [if_pos (un_app g r)]
  simp
theorem graA_else (A : Pth → Nat) {f g q : Pth} (h1 : ¬ Un g q) : graA A f g q = A q := by
  unfold graA
  rw [if_neg h1]
def graO (O : Nat → Option (Pth × Nat)) (f g : Pth) : Nat → Option (Pth × Nat) := fun b => (O b).map fun y => if Un f y.1 then (g ++ y.1.drop f.length, y.2) else y
theorem graO_at {O : Nat → Option (Pth × Nat)} {f g r : Pth} {b k : Nat} (h : O b = some (f ++ r, k)) : graO O f g b = some (g ++ r, k) := by
  unfold graO
  rw [h]
  simp [un_app f r]
theorem graO_else {O : Nat → Option (Pth × Nat)} {f g q : Pth} {b k : Nat} (h : O b = some (q, k)) (hq : ¬ Un f q) : graO O f g b = some (q, k) := by
  unfold graO
  rw [h]
  simp [hq]
theorem graO_some {O : Nat → Option (Pth × Nat)} {f g : Pth} {b : Nat} : (graO O f g b).isSome = (O b).isSome := by simp [graO]
theorem Tr.pre {w : World} {t : Nat} {F : Pth → Option Nd} {A : Pth → Nat} {O : Nat → Option (Pth × Nat)} {bl ino : Int} {K : Nat} (h : Tr w t F A O bl ino K) (p : Pth) : ∀ r : Pth, (F (p ++ r)).isSome = true → (F p).isSome = true := by
  have key : ∀ n (r : Pth), r.length = n → (F (p ++ r)).isSome = true → (F p).isSome = true := by
    intro n
    induction n with
    | zero =>
      intro r hr h1
      obtain rfl : r = [] := List.length_eq_zero_iff.1 hr
      simpa using h1
    | succ n ih =>
      intro r hr h1
      rcases List.eq_nil_or_concat r with rfl | ⟨r', x, rfl⟩
      · simp at hr
      · rw [List.concat_eq_append, ← List.append_assoc] at h1
        obtain ⟨s, ns, h2, _⟩ := h.up (p ++ r') x h1
        exact ih r' (by simpa using hr) (by rw [h2]; rfl)
  exact fun r => key r.length r rfl

/-- A node, and all below it, at another path. -/
theorem Tr.move {N : Nat} {w w' : World} {t : Nat} {F F2 : Pth → Option Nd} {A : Pth → Nat} {O : Nat → Option (Pth × Nat)} {bl ino bl' : Int} {K K' : Nat} (h : Tr w t F A O bl ino K) (hk : K ≤ K') {pf pg : Pth} {xf xg : ByteArray} {mf mg : Nat} (hf : (F (pf ++ [xf])).isSome = true) (hg : F (pg ++ [xg]) = none) (hpf : (F pf).isSome = true) (hpg : (F pg).isSome = true) (hfg : ¬ Un (pf ++ [xf]) (pg ++ [xg]))
    (hF2 : ∀ q, ¬ q = pf → ¬ q = pg → F2 q = F q) (hmf : O mf = some (pf, 1)) (hmg : O mg = some (pg, 1))
    (hD : ∀ Q, Q = pf ∨ Q = pg → ∃ s kn m, F2 Q = some (.dir s kn) ∧ kn.Nodup ∧ (∀ nm ∈ kn, nameB nm = true) ∧ kn.length ≤ s ∧ s ≤ K' ∧ (∀ nm, nm ∈ kn ↔ (Q ++ [nm] = pg ++ [xg] ∨ (¬ Q ++ [nm] = pf ++ [xf] ∧ (F (Q ++ [nm])).isSome = true))) ∧ w'.cell? ⟨A Q, 0, none⟩ = some (.bool false) ∧ w'.cell? ⟨A Q, 1, none⟩ = some (.slice none 0 0) ∧ w'.cell? ⟨A Q, 2, none⟩ = some (.map (some m)) ∧ w'.cell? ⟨A Q, 3, none⟩ = some (.int .i64 s) ∧ O m = some (Q, 1) ∧ SMap w' m kn.length (fun nm => if inB nm kn = true then some (ptr (A (if Q ++ [nm] = pg ++ [xg] then pf ++ [xf] else Q ++ [nm]))) else none))
    (hU : Upd (fun b i => (b = t ∧ i = 4) ∨ (b = A pg ∧ i = 3)) (fun k => k = mf ∨ k = mg) w w') (k4 : w'.cell? ⟨t, 4, none⟩ = some (.int .i64 bl')) (hbb : 0 ≤ bl' ∧ bl' ≤ 20000 * K' + 20000) :
    TrTo N w w' t O (graft F2 (pf ++ [xf]) (pg ++ [xg])) bl' ino K' := by
  have hT := h.atT
  obtain ⟨s0, n0, hr0⟩ := h.rdir
  obtain ⟨f, ef⟩ : ∃ f, f = pf ++ [xf] := ⟨_, rfl⟩
  obtain ⟨g, eg⟩ : ∃ g, g = pg ++ [xg] := ⟨_, rfl⟩
  rw [← ef] at hf hfg hD ⊢
  rw [← eg] at hg hfg hD ⊢
  have lf : f.length = pf.length + 1 := by rw [ef]; simp
  have lg : g.length = pg.length + 1 := by rw [eg]; simp
  -- where things are not
  have nfpf : ¬ Un f pf := fun e => by have := un_len e; omega
  have nfpg : ¬ Un f pg := fun e => hfg (by rw [eg]; exact un_more e _)
  have ngpg : ¬ Un g pg := fun e => by have := un_len e; omega
  have ngf : ¬ Un g f := fun e => by
    obtain ⟨r, hr⟩ := un_iff.1 e
    have := h.pre g r (by rw [← hr]; exact hf)
    rw [hg] at this; cases this
  have ngpf : ¬ Un g pf := fun e => ngf (by rw [ef]; exact un_more e _)
  have ng0 : ¬ Un g [] := fun e => by have : _ ≤ 0 := un_len e; omega
  have nf0 : ¬ Un f [] := fun e => by have : _ ≤ 0 := un_len e; omega
  have hfr2 : ∀ r, F2 (f ++ r) = F (f ++ r) := fun r => hF2 _ (fun e => nfpf (by rw [← e]; exact un_app f r)) (fun e => nfpg (by rw [← e]; exact un_app f r))
  have hsome2 : ∀ q, (F2 q).isSome = true ↔ (F q).isSome = true := fun q => by
    by_cases e1 : q = pf
    · obtain ⟨s, kn, m, h1, _⟩ := hD q (.inl e1)
      rw [h1, e1, hpf]; simp
    · by_cases e2 : q = pg
      · obtain ⟨s, kn, m, h1, _⟩ := hD q (.inr e2)
        rw [h1, e2, hpg]; simp
      · rw [hF2 q e1 e2]
  have hSome : ∀ p nd, F p = some nd → ¬ (A p = mf ∨ A p = mg) := fun p nd hp e => by
    have := h.own p nd hp
    rcases e with e | e <;> · rw [e] at this; first | (rw [hmf] at this; cases this) | (rw [hmg] at this; cases this)
  obtain ⟨ndg, hpg'⟩ := Option.isSome_iff_exists.1 hpg
  have hopg := h.own pg _ hpg'
  -- what a path of the new tree was
  have way : ∀ q nd, graft F2 f g q = some nd → (∃ r, q = g ++ r ∧ F (f ++ r) = some nd) ∨ (¬ Un g q ∧ ¬ Un f q ∧ F2 q = some nd) := fun q nd hq => by
    by_cases e1 : Un g q
    · obtain ⟨r, rfl⟩ := un_iff.1 e1
      rw [graft_at, hfr2] at hq
      exact .inl ⟨r, rfl, hq⟩
    · by_cases e2 : Un f q
      · rw [graft_none _ e1 e2] at hq; cases hq
      · rw [graft_else _ e1 e2] at hq
        exact .inr ⟨e1, e2, hq⟩
  have kc : ∀ p nd, F p = some nd → ¬ p = pg → ∀ i, i < 4 → ¬ ((A p = t ∧ i = 4) ∨ (A p = A pg ∧ i = 3)) := fun p nd hp hne i hi e => by
    rcases e with ⟨_, e⟩ | ⟨e, _⟩
    · omega
    · exact hne (h.inj hp hpg' e)
  have kS : ∀ p b r, O b = some (p, r) → ¬ p = pf → ¬ p = pg → ¬ (b = mf ∨ b = mg) := fun p b r hb n1 n2 e => by
    rcases e with e | e
    · rw [e, hmf] at hb; cases hb; exact n1 rfl
    · rw [e, hmg] at hb; cases hb; exact n2 rfl
  have kC : ∀ p b r, O b = some (p, r) → ¬ r = 0 → ∀ i, ¬ ((b = t ∧ i = 4) ∨ (b = A pg ∧ i = 3)) := fun p b r hb hr i e => by
    rcases e with ⟨e, _⟩ | ⟨e, _⟩
    · exact hr (h.eqT hb e)
    · rw [e, hopg] at hb; cases hb; exact hr rfl
  have HT : Tr w' t (graft F2 f g) (graA A f g) (graO O f g) bl' ino K' := by
    refine ⟨?_, ?_, ?_, ?_, ?_, ?_, ?_, ?_, ?_, ?_, k4, ?_, hbb, ⟨h.ib.1, by have := h.ib.2; omega⟩⟩
    · rw [graA_else A ng0]; exact h.root
    · rw [graft_else _ ng0 nf0]
      by_cases e : [] = pf ∨ [] = pg
      · obtain ⟨s, kn, m, h1, _⟩ := hD _ e
        exact ⟨s, kn, h1⟩
      · rw [hF2 _ (fun e1 => e (.inl e1)) (fun e2 => e (.inr e2))]
        exact ⟨_, _, hr0⟩
    · intro b y hb
      have : (O b).isSome = true := by rw [← graO_some (f := f) (g := g), hb]; rfl
      obtain ⟨z, hz⟩ := Option.isSome_iff_exists.1 this
      exact Nat.lt_of_lt_of_le (h.lt b z hz) hU.lt
    · intro q nd hq
      rcases way q nd hq with ⟨r, rfl, h1⟩ | ⟨n1, n2, h1⟩
      · rw [graA_at]; exact graO_at (h.own _ _ h1)
      · rw [graA_else A n1]
        obtain ⟨nd', h2⟩ := Option.isSome_iff_exists.1 ((hsome2 q).1 (by rw [h1]; rfl))
        exact graO_else (h.own _ _ h2) n2
    · intro q nd hq
      rcases way q nd hq with ⟨r, rfl, h1⟩ | ⟨n1, n2, h1⟩
      · have a1 : ¬ f ++ r = pf := fun e => nfpf (by rw [← e]; exact un_app f r)
        have a2 : ¬ f ++ r = pg := fun e => nfpg (by rw [← e]; exact un_app f r)
        exact (h.nd _ _ h1).keptU hU (h.own _ _ h1) (kc _ _ h1 a2) (fun b r' hb => kS _ b r' hb a1 a2) (fun b r' hb hr => kC _ b r' hb hr) (graA_at _ _ _ _) (fun nm _ => by rw [List.append_assoc, graA_at, List.append_assoc]) (fun b r' hb => graO_at hb)
      · have hst : ∀ nm, ¬ q ++ [nm] = g → graA A f g (q ++ [nm]) = A (q ++ [nm]) := fun nm e => graA_else A (fun e2 => (un_step e2).elim n1 e)
        by_cases e : q = pf ∨ q = pg
        · obtain ⟨s, kn, m, d1, -, -, -, -, -, d2, d3, d4, d5, d6, d7⟩ := hD q e
          rw [d1] at h1
          cases h1
          refine ⟨by rw [graA_else A n1]; exact d2, by rw [graA_else A n1]; exact d3, ⟨m, by rw [graA_else A n1]; exact d4, graO_else d6 n2, d7.ext (fun nm _ => ?_)⟩, by rw [graA_else A n1]; exact d5⟩
          unfold kidF
          by_cases e3 : q ++ [nm] = g
          · rw [if_pos e3, e3]
            have := graA_at A f g []
            simp only [List.append_nil] at this
            rw [this]
          · rw [if_neg e3, hst nm e3]
        · have e1 : ¬ q = pf := fun e1 => e (.inl e1)
          have e2 : ¬ q = pg := fun e1 => e (.inr e1)
          rw [hF2 q e1 e2] at h1
          refine (h.nd _ _ h1).keptU hU (h.own _ _ h1) (kc _ _ h1 e2) (fun b r' hb => kS _ b r' hb e1 e2) (fun b r' hb hr => kC _ b r' hb hr) (graA_else A n1) (fun nm _ => hst nm (fun e3 => e2 (pth_inj (e3.trans eg)).1)) (fun b r' hb => graO_else hb n2)
    · intro q nd hq i
      rcases way q nd hq with ⟨r, rfl, h1⟩ | ⟨n1, n2, h1⟩
      · rw [graA_at]; exact (hU.fr _ i (h.lt _ _ (h.own _ _ h1)) (hSome _ _ h1)).trans (h.fr _ _ h1 i)
      · rw [graA_else A n1]
        obtain ⟨nd', h2⟩ := Option.isSome_iff_exists.1 ((hsome2 q).1 (by rw [h1]; rfl))
        exact (hU.fr _ i (h.lt _ _ (h.own _ _ h2)) (hSome _ _ h2)).trans (h.fr _ _ h2 i)
    · intro q nm hq
      obtain ⟨nd, hq⟩ := Option.isSome_iff_exists.1 hq
      rcases way _ nd hq with ⟨r, hr, h1⟩ | ⟨n1, n2, h1⟩
      · rcases List.eq_nil_or_concat r with rfl | ⟨r', y, rfl⟩
        · rw [List.append_nil] at hr
          obtain ⟨rfl, rfl⟩ := pth_inj (hr.trans eg)
          rw [graft_else _ ngpg nfpg]
          obtain ⟨s, kn, m, d1, -, -, -, -, d2, -⟩ := hD q (.inr rfl)
          exact ⟨s, kn, d1, (d2 nm).2 (.inl eg.symm)⟩
        · rw [List.concat_eq_append, ← List.append_assoc] at hr h1
          obtain ⟨rfl, rfl⟩ := pth_inj hr
          obtain ⟨s, ns, h2, h3⟩ := h.up (f ++ r') nm (by rw [h1]; rfl)
          exact ⟨s, ns, by rw [graft_at, hfr2]; exact h2, h3⟩
      · have m1 : ¬ Un g q := fun e => n1 (un_more e _)
        have m2 : ¬ Un f q := fun e => n2 (un_more e _)
        have hFq : (F (q ++ [nm])).isSome = true := (hsome2 _).1 (by rw [h1]; rfl)
        rw [graft_else _ m1 m2]
        by_cases e : q = pf ∨ q = pg
        · obtain ⟨s, kn, m, d1, -, -, -, -, d2, -⟩ := hD q e
          exact ⟨s, kn, d1, (d2 nm).2 (.inr ⟨fun e => n2 (by rw [e]; exact un_self f), hFq⟩)⟩
        · rw [hF2 q (fun e1 => e (.inl e1)) (fun e1 => e (.inr e1))]
          exact h.up q nm hFq
    · intro q s ns nm hq hm
      rcases way _ _ hq with ⟨r, rfl, h1⟩ | ⟨n1, n2, h1⟩
      · rw [List.append_assoc, graft_at, hfr2, ← List.append_assoc]
        exact h.dn _ s ns nm h1 hm
      · by_cases e3 : q ++ [nm] = g
        · rw [e3]
          have := graft_at F2 f g []
          simp only [List.append_nil] at this
          rw [this]
          have := hfr2 []
          simp only [List.append_nil] at this
          rw [this]; exact hf
        · have m1 : ¬ Un g (q ++ [nm]) := fun e => (un_step e).elim n1 e3
          by_cases e : q = pf ∨ q = pg
          · obtain ⟨s', kn, m, d1, -, -, -, -, d2, -⟩ := hD q e
            rw [d1] at h1
            cases h1
            rcases (d2 nm).1 hm with e4 | ⟨e4, e5⟩
            · exact absurd e4 e3
            · rw [graft_else _ m1 (fun e => (un_step e).elim n2 e4)]
              exact (hsome2 _).2 e5
          · have e1 : ¬ q = pf := fun e1 => e (.inl e1)
            rw [hF2 q e1 (fun e1 => e (.inr e1))] at h1
            rw [graft_else _ m1 (fun e => (un_step e).elim n2 (fun e5 => e1 (pth_inj (e5.trans ef)).1))]
            exact (hsome2 _).2 (h.dn q s ns nm h1 hm)
    · intro q s ns hq
      rcases way _ _ hq with ⟨r, rfl, h1⟩ | ⟨n1, n2, h1⟩
      · obtain ⟨a1, a2, a3, a4⟩ := h.nms _ _ _ h1
        exact ⟨a1, a2, a3, by omega⟩
      · by_cases e : q = pf ∨ q = pg
        · obtain ⟨s', kn, m, d1, d2, d3, d4, d5, -⟩ := hD q e
          rw [d1] at h1
          cases h1
          exact ⟨d2, d3, d4, d5⟩
        · rw [hF2 q (fun e1 => e (.inl e1)) (fun e1 => e (.inr e1))] at h1
          obtain ⟨a1, a2, a3, a4⟩ := h.nms _ _ _ h1
          exact ⟨a1, a2, a3, by omega⟩
    · intro q cs hq
      rcases way _ _ hq with ⟨r, rfl, h1⟩ | ⟨n1, n2, h1⟩
      · exact h.fil _ _ h1
      · by_cases e : q = pf ∨ q = pg
        · obtain ⟨s', kn, m, d1, -⟩ := hD q e
          rw [d1] at h1
          cases h1
        · rw [hF2 q (fun e1 => e (.inl e1)) (fun e1 => e (.inr e1))] at h1
          exact h.fil _ _ h1
    · refine hU.cell _ _ _ ?_ (by omega) h.cin
      have := hSome _ _ hr0
      rwa [h.root] at this
  refine ⟨_, _, HT, hU.chg.mono (fun b _ hb => ?_), fun b hb => .inl (by rwa [graO_some] at hb)⟩
  rcases hb with (hb | hb) | ⟨i, (⟨hb, _⟩ | ⟨hb, _⟩)⟩
  · rw [hb, hmf]; rfl
  · rw [hb, hmg]; rfl
  · rw [hb, hT]; rfl
  · rw [hb, hopg]; rfl
end Go.Proofs.YtlnjnimenihhnaaGreatDoor

namespace Go.Proofs.YtlnjnimenihhnaaGreatDoor
open Go.RowKit Go.Maps

/-- A tree: what stands where, what is free. -/
structure Ts where
  F : Pth → Option Nd
  bl : Int
  ino : Int
/-- An act. -/
structure Ac where
  k : Int
  p : ByteArray
  q : ByteArray
  d : List Int
  n : Int
/-- Create, Mkdir. -/
def addR (T : Ts) (ns : Pth) (nd0 : Nd) : Int × Ts :=
  match T.F ns, T.F ns.dropLast with
  | some _, _ => (9, T)
  | none, some (.dir s kn) => if T.ino = 0 ∨ T.bl < furB s kn.length then (7, T) else (0, ⟨setN (setN T.F ns.dropLast (some (.dir (max s (kn.length + 1)) (lastN ns :: kn)))) ns (some nd0), T.bl - furB s kn.length, T.ino - 1⟩)
  | none, _ => (8, T)
/-- Append. -/
def extR (T : Ts) (ns : Pth) (d : List Int) : Int × Ts :=
  match T.F ns with
  | none => (8, T)
  | some (.dir _ _) => (10, T)
  | some (.file bs) => if 8458240 < bs.length + d.length then (5, T) else if T.bl < allN ((bs.length : Int) + d.length) - allN bs.length then (7, T) else (0, ⟨setN T.F ns (some (.file (bs ++ d))), T.bl - (allN ((bs.length : Int) + d.length) - allN bs.length), T.ino⟩)
/-- Cut. -/
def cutR (T : Ts) (ns : Pth) (n : Int) : Int × Ts :=
  match T.F ns with
  | none => (8, T)
  | some (.dir _ _) => (10, T)
  | some (.file bs) => if 0 ≤ n ∧ n ≤ bs.length then (0, ⟨setN T.F ns (some (.file (bs.take n.toNat))), T.bl + (allN bs.length - allN n.toNat), T.ino⟩) else (1, T)
/-- A file, or an empty directory, goes. -/
def goneT (T : Ts) (ns : Pth) : Ts :=
  match T.F ns, T.F ns.dropLast with
  | some nd, some (.dir s kn) => ⟨setN (setN T.F ns.dropLast (some (.dir s (dele kn (lastN ns))))) ns none, T.bl + nd.blk, T.ino + 1⟩
  | _, _ => T
/-- Unlink. -/
def unlR (T : Ts) (ns : Pth) : Int × Ts :=
  match T.F ns with
  | none => (8, T)
  | some (.dir _ _) => (10, T)
  | some (.file _) => (0, goneT T ns)
/-- Rmdir. -/
def rmdR (T : Ts) (ns : Pth) : Int × Ts :=
  match T.F ns with
  | none => (8, T)
  | some (.file _) => (11, T)
  | some (.dir _ kn) => if ns = [] ∨ ¬ kn = [] then (13, T) else (0, goneT T ns)
/-- A name moves, with all that is below it. -/
def movR (T : Ts) (f g : Pth) : Int × Ts :=
  match T.F f.dropLast, T.F g.dropLast with
  | some (.dir sf kf), some (.dir sg kg) =>
    if f.dropLast = g.dropLast then (0, ⟨graft (setN T.F g.dropLast (some (.dir sg (lastN g :: dele kg (lastN f))))) f g, T.bl, T.ino⟩)
    else if T.bl < furB sg kg.length then (7, T)
    else (0, ⟨graft (setN (setN T.F f.dropLast (some (.dir sf (dele kf (lastN f))))) g.dropLast (some (.dir (max sg (kg.length + 1)) (lastN g :: kg)))) f g, T.bl - furB sg kg.length, T.ino⟩)
  | _, _ => (8, T)
/-- A name moves over another one. -/
def repR (T : Ts) (f g : Pth) : Int × Ts :=
  match T.F f, T.F g with
  | some (.file _), some (.dir _ _) => (10, T)
  | some (.dir _ _), some (.file _) => (11, T)
  | some (.dir _ _), some (.dir _ kn) => if kn = [] then movR (goneT T g) f g else (13, T)
  | some (.file _), some (.file _) => movR (goneT T g) f g
  | _, _ => (8, T)
/-- Rename. -/
def renR (T : Ts) (a b : ByteArray) : Int × Ts :=
  if ¬ spE a = 0 then (spE a, T) else if ¬ spE b = 0 then (spE b, T) else if ¬ folE T.F (spN a) = 0 then (folE T.F (spN a), T)
  else if (T.F (spN a)).isSome = false then (8, T) else if spN a = [] ∨ spN b = [] then (13, T)
  else if ¬ folE T.F (spN b) = 0 then (folE T.F (spN b), T) else if spN a = spN b then (0, T) else if Un (spN a) (spN b) then (13, T)
  else if (T.F (spN b)).isSome = true then repR T (spN a) (spN b) else movR T (spN a) (spN b)
/-- Do. -/
def doR (T : Ts) (o : Ac) : Int × Ts :=
  if o.k < 1 ∨ 7 < o.k then (1, T) else if o.k = 7 then renR T o.p o.q else if ¬ fiE T.F o.p = 0 then (fiE T.F o.p, T)
  else if o.k = 1 then addR T (spN o.p) (.file []) else if o.k = 2 then addR T (spN o.p) (.dir 0 []) else if o.k = 3 then extR T (spN o.p) o.d
  else if o.k = 4 then cutR T (spN o.p) o.n else if o.k = 5 then unlR T (spN o.p) else rmdR T (spN o.p)

theorem pth_split {ns : Pth} (h : ¬ ns = []) : ns = ns.dropLast ++ [lastN ns] := by
  rcases List.eq_nil_or_concat ns with rfl | ⟨r, x, rfl⟩
  · exact absurd rfl h
  · simp [lastN]
theorem folA_dir (F : Pth → Option Nd) : ∀ (r p : Pth) (x : ByteArray), folA F p (r ++ [x]) = 0 → ∃ s kn, F (p ++ r) = some (.dir s kn)
  | [], p, x, h => by
    simp only [List.nil_append, folA] at h
    rw [List.append_nil]
    split at h
    · cases h
    · cases h
    · rename_i s kn e; exact ⟨s, kn, e⟩
  | y :: r, p, x, h => by
    simp only [List.cons_append, folA] at h
    split at h
    · cases h
    · cases h
    · obtain ⟨s, kn, e⟩ := folA_dir F r (p ++ [y]) x h
      exact ⟨s, kn, by simpa using e⟩
/-- What a way leads to stands in a directory. -/
theorem fol_dir {F : Pth → Option Nd} {ns : Pth} (h : folE F ns = 0) (h0 : ¬ ns = []) : ∃ s kn, F ns.dropLast = some (.dir s kn) := by
  rw [pth_split h0] at h
  have := folA_dir F ns.dropLast [] (lastN ns) h
  simpa using this
/-- A directory in memory. -/
theorem Tr.dirM {w : World} {t : Nat} {F : Pth → Option Nd} {A : Pth → Nat} {O : Nat → Option (Pth × Nat)} {bl ino : Int} {K : Nat} (h : Tr w t F A O bl ino K) {p : Pth} {s : Nat} {kn : List ByteArray} (hF : F p = some (.dir s kn)) :
    ∃ m, w.cell? ⟨A p, 0, none⟩ = some (.bool false) ∧ w.cell? ⟨A p, 1, none⟩ = some (.slice none 0 0) ∧ w.cell? ⟨A p, 2, none⟩ = some (.map (some m)) ∧ w.cell? ⟨A p, 3, none⟩ = some (.int .i64 s) ∧ O m = some (p, 1) ∧ SMap w m kn.length (kidF A p kn) ∧ ¬ t = m ∧ ∀ q nd, F q = some nd → ¬ A q = m := by
  obtain ⟨m0, m1, ⟨m, m2, m3, m4⟩, m5⟩ := h.nd p _ hF
  exact ⟨m, m0, m1, m2, m5, m3, m4, (fun e => by have := h.atT; rw [e, m3] at this; cases this), (fun q nd hq e => by have := h.own q nd hq; rw [e, m3] at this; cases this)⟩
theorem Tr.frT {w : World} {t : Nat} {F : Pth → Option Nd} {A : Pth → Nat} {O : Nat → Option (Pth × Nat)} {bl ino : Int} {K : Nat} (h : Tr w t F A O bl ino K) (i : Nat) : w.frozen? ⟨t, i, none⟩ = false := by
  obtain ⟨s, ns, hr⟩ := h.rdir
  rw [← h.root]; exact h.fr _ _ hr i
theorem kidF_none {A : Pth → Nat} {p : Pth} {kn : List ByteArray} {x : ByteArray} (h : ¬ x ∈ kn) : kidF A p kn x = none := by
  unfold kidF; rw [inB_not h]; simp
theorem kidF_some {A : Pth → Nat} {p : Pth} {kn : List ByteArray} {x : ByteArray} (h : x ∈ kn) : (kidF A p kn x).isSome = true := by
  unfold kidF; rw [(inB_iff _ _).2 h]; simp
theorem Tr.mem {w : World} {t : Nat} {F : Pth → Option Nd} {A : Pth → Nat} {O : Nat → Option (Pth × Nat)} {bl ino : Int} {K : Nat} (h : Tr w t F A O bl ino K) {p : Pth} {s : Nat} {kn : List ByteArray} (hF : F p = some (.dir s kn)) (x : ByteArray) : x ∈ kn ↔ (F (p ++ [x])).isSome = true := by
  refine ⟨h.dn p s kn x hF, fun hs => ?_⟩
  obtain ⟨s', ns', h1, h2⟩ := h.up p x hs
  rw [hF] at h1; cases h1; exact h2
end Go.Proofs.YtlnjnimenihhnaaGreatDoor

namespace Go.Proofs.YtlnjnimenihhnaaGreatDoor
open Go.RowKit Go.Maps

set_option maxHeartbeats 1600000 in
theorem add_exists (t q : Nat) (o : Option Addr) (x : ByteArray) (v : Value) (w : World) :
    Calls Tryz.prog 24 #[ptr t, .agg #[.pointer o, .string x, ptr q], v] w fun e w' => e = .returned (.int .i64 9) ∧ Below w.heap.size w w' := by
  go_enter Tryz.func24, Tryz.ntmps24
  go_wp2_with fail
  go_ret
  exact ⟨rfl, below_alloc _ _⟩
set_option maxHeartbeats 1600000 in
theorem add_full0 (t u : Nat) (x : ByteArray) (v : Value) (w : World) (cin : w.cell? ⟨t, 5, none⟩ = some (.int .i64 0)) :
    Calls Tryz.prog 24 #[ptr t, .agg #[ptr u, .string x, .pointer none], v] w fun e w' => e = .returned (.int .i64 7) ∧ Below w.heap.size w w' := by
  have A0 := below_alloc w (spO (ptr u) (.string x) (.pointer none))
  have S0 := Sp.alloc w (ptr u) (.string x) (.pointer none)
  obtain ⟨wa, hwa⟩ : ∃ wa, Hid (w.alloc (spO (ptr u) (.string x) (.pointer none)) = wa) := ⟨_, rfl⟩
  rw [hwa.out] at A0 S0
  have g5 := (Chg.ofBelowC A0).cell cin (fun h => h)
  obtain ⟨s0, s1, s2⟩ := S0.c
  have HB : Hid (Below w.heap.size w wa) := A0
  clear A0 S0 cin
  go_enter Tryz.func24, Tryz.ntmps24
  go_wp2_with fail
  rw [hwa.out]
  go_wp2_with fail
  go_region
  go_wp2_with fail
  go_ret
  exact ⟨rfl, HB.out.trans ((below_drew _ _).mono HB.out.size)⟩
set_option maxHeartbeats 3200000 in
set_option maxRecDepth 100000 in
theorem add_full (t u m n s : Nat) (x : ByteArray) (f : ByteArray → Option Value) (v : Value) (bl ino : Int) (w : World) (hT : Tab w) (cbl : w.cell? ⟨t, 4, none⟩ = some (.int .i64 bl)) (cin : w.cell? ⟨t, 5, none⟩ = some (.int .i64 ino)) (hi : ¬ ino = 0) (c2 : w.cell? ⟨u, 2, none⟩ = some (.map (some m))) (hm : SMap w m n f) (c3 : w.cell? ⟨u, 3, none⟩ = some (.int .i64 s)) (hn : n ≤ s) (hs : s ≤ 80000) (hq : bl < furB s n) :
    Calls Tryz.prog 24 #[ptr t, .agg #[ptr u, .string x, .pointer none], v] w fun e w' => e = .returned (.int .i64 7) ∧ Below w.heap.size w w' := by
  have fb := furB_bd s n
  have hid : decide (ino = 0) = false := by simpa using hi
  have hie : (ino == 0) = false := by simpa using hi
  have A0 := below_alloc w (spO (ptr u) (.string x) (.pointer none))
  have S0 := Sp.alloc w (ptr u) (.string x) (.pointer none)
  obtain ⟨wa, hwa⟩ : ∃ wa, Hid (w.alloc (spO (ptr u) (.string x) (.pointer none)) = wa) := ⟨_, rfl⟩
  rw [hwa.out] at A0 S0
  have C0 := Chg.ofBelowC A0
  have g4 := C0.cell cbl (fun h => h)
  have g5 := C0.cell cin (fun h => h)
  have g3 := C0.cell c3 (fun h => h)
  have g2 := C0.cell c2 (fun h => h)
  have gm := hm.kept (C0.block m hm.lt (fun h => h))
  have htl : t < w.heap.size := World.block_lt_of_cell? w ⟨t, 4, none⟩ cbl
  have hul : u < w.heap.size := World.block_lt_of_cell? w ⟨u, 2, none⟩ c2
  have hTa := tab_below hT A0
  obtain ⟨X, hX⟩ : ∃ X, Hid (furB s n = X) := ⟨_, rfl⟩
  rw [hX.out] at fb hq
  have HB : ∀ wb, Hid (Below wa.heap.size wa wb) → Hid (Calls Tryz.prog 52 #[ptr u] wb fun e w' => e = .returned (.int .i64 X) ∧ w'.cell? ⟨t, 4, none⟩ = some (.int .i64 bl) ∧ w'.cell? ⟨t, 5, none⟩ = some (.int .i64 ino) ∧ Hid (Below wa.heap.size wa w')) := by
    intro wb hb
    have C1 := Chg.ofBelowC hb.out
    have h9 := further_any u s n m f wb (tab_below hTa hb.out) (C1.cell g2 (fun h => h)) (gm.kept (C1.block m gm.lt (fun h => h))) (C1.cell g3 (fun h => h)) (by omega) hn
    rw [hX.out] at h9
    refine h9.mono ?_
    rintro e w' ⟨rfl, B⟩
    have B2 := hb.out.trans (B.mono hb.out.size)
    exact ⟨rfl, (Chg.ofBelowC B2).cell g4 (fun h => h), (Chg.ofBelowC B2).cell g5 (fun h => h), B2⟩
  have D0 : Hid (Below wa.heap.size wa wa.drew) := below_drew _ _
  have HS0 : Hid (Sp wa w.heap.size (ptr u) (.string x) (.pointer none)) := S0
  obtain ⟨s0, s1, s2⟩ := S0.c
  have HG : Hid (wa.cell? ⟨u, 3, none⟩ = some (.int .i64 s) ∧ wa.cell? ⟨u, 2, none⟩ = some (.map (some m)) ∧ SMap wa m n f ∧ Below w.heap.size w wa ∧ Tab wa) := ⟨g3, g2, gm, A0, hTa⟩
  clear A0 S0 C0 g2 g3 gm hTa hT cbl cin c2 c3 hm
  go_enter Tryz.func24, Tryz.ntmps24
  go_wp2_with fail
  rw [hwa.out]
  go_wp2_with fail
  go_region_with (first | (go_at_call 52; refine (HB _ (by first | exact D0)).out.mono ?_; clear HB; rintro e w5 ⟨rfl, d4, d5, HB5⟩))
  all_goals
    go_wp2_with fail
    go_ret
    exact ⟨rfl, HG.out.2.2.2.1.trans (HB5.out.mono HG.out.2.2.2.1.size)⟩
set_option maxHeartbeats 3200000 in
set_option maxRecDepth 100000 in
theorem add_ok (t u m n s : Nat) (x : ByteArray) (f : ByteArray → Option Value) (v : Value) (bl ino : Int) (w : World) (hT : Tab w) (hx : x.size ≤ 256) (cbl : w.cell? ⟨t, 4, none⟩ = some (.int .i64 bl)) (cin : w.cell? ⟨t, 5, none⟩ = some (.int .i64 ino)) (hi : ¬ ino = 0) (c2 : w.cell? ⟨u, 2, none⟩ = some (.map (some m))) (hm : SMap w m n f) (c3 : w.cell? ⟨u, 3, none⟩ = some (.int .i64 s)) (hn : n ≤ s) (hs : s ≤ 80000) (hf : f x = none) (htm : ¬ t = m) (hum : ¬ u = m) (frt : ∀ i, w.frozen? ⟨t, i, none⟩ = false) (fru : ∀ i, w.frozen? ⟨u, i, none⟩ = false) (hb0 : -1000000000000 ≤ bl) (hb1 : bl ≤ 1000000000000) (hi0 : -1000000000000 ≤ ino) (hi1 : ino ≤ 1000000000000) (hq : ¬ bl < furB s n) :
    Calls Tryz.prog 24 #[ptr t, .agg #[ptr u, .string x, .pointer none], v] w fun e w' => e = .returned (.int .i64 0) ∧ SMap w' m (n + 1) (updB f x (some v)) ∧ Upd (fun b i => (b = t ∧ (i = 4 ∨ i = 5)) ∨ (b = u ∧ i = 3)) (fun k => k = m) w w' ∧ w'.cell? ⟨t, 4, none⟩ = some (.int .i64 (bl - furB s n)) ∧ w'.cell? ⟨t, 5, none⟩ = some (.int .i64 (ino - 1)) ∧ w'.cell? ⟨u, 3, none⟩ = some (.int .i64 (max s (n + 1) : Nat)) := by
  have fb := furB_bd s n
  have hid : decide (ino = 0) = false := by simpa using hi
  have hie : (ino == 0) = false := by simpa using hi
  have A0 := below_alloc w (spO (ptr u) (.string x) (.pointer none))
  have S0 := Sp.alloc w (ptr u) (.string x) (.pointer none)
  obtain ⟨wa, hwa⟩ : ∃ wa, Hid (w.alloc (spO (ptr u) (.string x) (.pointer none)) = wa) := ⟨_, rfl⟩
  rw [hwa.out] at A0 S0
  have C0 := Chg.ofBelowC A0
  have g4 := C0.cell cbl (fun h => h)
  have g5 := C0.cell cin (fun h => h)
  have g3 := C0.cell c3 (fun h => h)
  have g2 := C0.cell c2 (fun h => h)
  have gm := hm.kept (C0.block m hm.lt (fun h => h))
  have htl : t < w.heap.size := World.block_lt_of_cell? w ⟨t, 4, none⟩ cbl
  have hul : u < w.heap.size := World.block_lt_of_cell? w ⟨u, 2, none⟩ c2
  have hTa := tab_below hT A0
  obtain ⟨X, hX⟩ : ∃ X, Hid (furB s n = X) := ⟨_, rfl⟩
  rw [hX.out] at fb hq
  have HB : ∀ wb, Hid (Below wa.heap.size wa wb) → Hid (Calls Tryz.prog 52 #[ptr u] wb fun e w' => e = .returned (.int .i64 X) ∧ w'.cell? ⟨t, 4, none⟩ = some (.int .i64 bl) ∧ w'.cell? ⟨t, 5, none⟩ = some (.int .i64 ino) ∧ Hid (Below wa.heap.size wa w')) := by
    intro wb hb
    have C1 := Chg.ofBelowC hb.out
    have h9 := further_any u s n m f wb (tab_below hTa hb.out) (C1.cell g2 (fun h => h)) (gm.kept (C1.block m gm.lt (fun h => h))) (C1.cell g3 (fun h => h)) (by omega) hn
    rw [hX.out] at h9
    refine h9.mono ?_
    rintro e w' ⟨rfl, B⟩
    have B2 := hb.out.trans (B.mono hb.out.size)
    exact ⟨rfl, (Chg.ofBelowC B2).cell g4 (fun h => h), (Chg.ofBelowC B2).cell g5 (fun h => h), B2⟩
  have D0 : Hid (Below wa.heap.size wa wa.drew) := below_drew _ _
  have HS0 : Hid (Sp wa w.heap.size (ptr u) (.string x) (.pointer none)) := S0
  obtain ⟨s0, s1, s2⟩ := S0.c
  have HG : Hid (wa.cell? ⟨u, 3, none⟩ = some (.int .i64 s) ∧ wa.cell? ⟨u, 2, none⟩ = some (.map (some m)) ∧ SMap wa m n f ∧ Below w.heap.size w wa ∧ Tab wa) := ⟨g3, g2, gm, A0, hTa⟩
  have frt0 : ∀ i, wa.frozen? ⟨t, i, none⟩ = false := fun i => (World.frozen?_of_block (C0.block t htl (fun h => h))).trans (frt i)
  have fru0 : ∀ i, wa.frozen? ⟨u, i, none⟩ = false := fun i => (World.frozen?_of_block (C0.block u hul (fun h => h))).trans (fru i)
  have wi : IntKind.i64.wrap (ino - 1) = ino - 1 := by rw [IntKind.wrap_i64]; omega
  have FR5 : ∀ w5, Hid (Below wa.heap.size wa w5) → w5.frozen? ⟨t, 5, none⟩ = false := fun w5 hb => (World.frozen?_of_block ((Chg.ofBelowC hb.out).block t (Nat.lt_of_lt_of_le htl HG.out.2.2.2.1.size) (fun h => h))).trans (frt0 5)
  have END : ∀ w5, w5.cell? ⟨t, 4, none⟩ = some (.int .i64 bl) → w5.cell? ⟨t, 5, none⟩ = some (.int .i64 ino) → Hid (Below wa.heap.size wa w5) → ∀ w6, w5.setCell ⟨t, 5, none⟩ (.int .i64 (ino - 1)) = w6 → w6.cell? ⟨w.heap.size, 0, none⟩ = some (ptr u) ∧ w6.cell? ⟨w.heap.size, 1, none⟩ = some (.string x) ∧ w6.cell? ⟨w.heap.size, 2, none⟩ = some (.pointer none) ∧ Hid (w6.cell? ⟨t, 5, none⟩ = some (.int .i64 (ino - 1)) ∧ w6.cell? ⟨t, 4, none⟩ = some (.int .i64 bl) ∧ Upd (fun b i => (b = t ∧ (i = 4 ∨ i = 5)) ∨ (b = u ∧ i = 3)) (fun k => k = m) w w6 ∧ w6.cell? ⟨u, 2, none⟩ = some (.map (some m)) ∧ w6.cell? ⟨u, 3, none⟩ = some (.int .i64 s) ∧ SMap w6 m n f ∧ (∀ i, w6.frozen? ⟨u, i, none⟩ = false) ∧ (∀ i, w6.frozen? ⟨t, i, none⟩ = false) ∧ Tab w6) := by
    rintro w5 d4 d5 HB5 w6 rfl
    have W6 := Upd.setCell w5 t 5 (.int .i64 (ino - 1))
    have V6 : Upd (fun b i => b = t ∧ i = 5) (fun _ => False) wa (w5.setCell ⟨t, 5, none⟩ (.int .i64 (ino - 1))) := (Upd.below HB5.out).trans W6
    have U6 : Upd (fun b i => b = t ∧ i = 5) (fun _ => False) w (w5.setCell ⟨t, 5, none⟩ (.int .i64 (ino - 1))) := (Upd.below HG.out.2.2.2.1).trans V6
    refine ⟨V6.cell _ _ _ (fun h => h) (by omega) s0, V6.cell _ _ _ (fun h => h) (by omega) s1, V6.cell _ _ _ (fun h => h) (by omega) s2, World.cell?_setCell_same _ _ _ d5, W6.cell _ _ _ (fun h => h) (by omega) d4, U6.mono (fun _ _ h => .inl ⟨h.1, .inr h.2⟩) (fun _ h => h.elim), V6.cell _ _ _ (fun h => h) (by omega) HG.out.2.1, V6.cell _ _ _ (fun h => h) (by omega) HG.out.1, V6.smap HG.out.2.2.1 (fun h => h) (by omega), fun i => (V6.fr u i (Nat.lt_of_lt_of_le hul HG.out.2.2.2.1.size) (fun h => h)).trans (fru0 i), fun i => (V6.fr t i (Nat.lt_of_lt_of_le htl HG.out.2.2.2.1.size) (fun h => h)).trans (frt0 i), fun j hj => V6.cell _ _ _ (fun h => h) ?_ (HG.out.2.2.2.2 j hj)⟩
    rintro ⟨e, e2⟩
    have e3 := HG.out.2.2.2.2 j hj
    rw [e, e2, g5] at e3
    cases e3
  clear A0 S0 C0 g2 g3 gm hTa hT cbl cin c2 c3 hm frt fru
  go_enter Tryz.func24, Tryz.ntmps24
  go_wp2_with fail
  rw [hwa.out]
  go_wp2_with fail
  go_region_with (first | (go_at_call 52; refine (HB _ (by first | exact D0)).out.mono ?_; clear HB; rintro e w5 ⟨rfl, d4, d5, HB5⟩))
  all_goals
    have hE := END w5 d4 d5 HB5
    have fr5 := FR5 w5 HB5
    clear END FR5 HB5 s0 s1 s2 frt0 fru0 g4 g5
    go_wp2_with fail
    generalize w5.setCell ⟨t, 5, none⟩ (.int .i64 (ino - 1)) = w6 at *
    obtain ⟨e0, e1, e2', HE⟩ := hE w6 rfl
    clear hE d4 d5 fr5
    go_wp2_with fail
    obtain ⟨e5, e4, U6, e2, e3, em, ef, et, eT⟩ := HE.out
    refine (tput_any t u m n s x f (.pointer none) v bl w6 eT hx e4 e2 em e3 hf hn hs htm hum et ef hb0 hb1).mono ?_
    rintro e w7 ⟨rfl, hm7, U7, h4, h3⟩
    rw [hX.out] at h4
    have HU : Hid (SMap w7 m (n + 1) (updB f x (some v)) ∧ Upd (fun b i => (b = t ∧ (i = 4 ∨ i = 5)) ∨ (b = u ∧ i = 3)) (fun k => k = m) w w7 ∧ w7.cell? ⟨t, 4, none⟩ = some (.int .i64 (bl - X)) ∧ w7.cell? ⟨t, 5, none⟩ = some (.int .i64 (ino - 1)) ∧ w7.cell? ⟨u, 3, none⟩ = some (.int .i64 (max s (n + 1) : Nat))) := ⟨hm7, U6.trans (U7.mono (fun _ _ h => h.elim (fun h => .inl ⟨h.1, .inl h.2⟩) .inr) (fun _ h => h)), h4, U7.cell _ _ _ htm (by omega) e5, h3⟩
    clear HE e5 e4 U6 e2 e3 em ef et eT hm7 U7 h4 h3 e0 e1 e2'
    go_wp2_with fail
    go_ret
    rw [hX.out]
    exact ⟨rfl, HU.out⟩
end Go.Proofs.YtlnjnimenihhnaaGreatDoor

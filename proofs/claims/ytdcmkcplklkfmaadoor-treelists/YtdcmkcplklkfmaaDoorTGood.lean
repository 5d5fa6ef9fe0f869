/-
  What holds of every tree; an act that is refused leaves it; a name that moves there and back.
-/
import Derived.Test.YtdcmkcplklkfmaaDoorTDo
namespace Go.Proofs.YtdcmkcplklkfmaaDoor
open Go.RowKit Go.Maps

/-- A tree as it may be. -/
structure Gd (T : Ts) : Prop where
  rdir : ∃ s ns, T.F [] = some (.dir s ns)
  up : ∀ p nm, (T.F (p ++ [nm])).isSome = true → ∃ s ns, T.F p = some (.dir s ns) ∧ nm ∈ ns
  dn : ∀ p s ns nm, T.F p = some (.dir s ns) → nm ∈ ns → (T.F (p ++ [nm])).isSome = true
  nms : ∀ p s ns, T.F p = some (.dir s ns) → ns.Nodup ∧ (∀ nm ∈ ns, nameB nm = true) ∧ ns.length ≤ s
  bl : 0 ≤ T.bl
theorem Tr.good {w : World} {t : Nat} {T : Ts} {A : Pth → Nat} {O : Nat → Option (Pth × Nat)} {K : Nat} (h : Tr w t T.F A O T.bl T.ino K) : Gd T :=
  ⟨h.rdir, h.up, h.dn, fun p s ns hp => ⟨(h.nms p s ns hp).1, (h.nms p s ns hp).2.1, (h.nms p s ns hp).2.2.1⟩, h.bb.1⟩
theorem Gd.pre {T : Ts} (h : Gd T) (p : Pth) : ∀ (n : Nat) (r : Pth), r.length = n → (T.F (p ++ r)).isSome = true → (T.F p).isSome = true
  | 0, r, hn, hs => by
    rw [List.eq_nil_of_length_eq_zero hn, List.append_nil] at hs
    exact hs
  | n + 1, r, hn, hs => by
    rcases List.eq_nil_or_concat r with rfl | ⟨r', x, rfl⟩
    · simp at hn
    · rw [List.concat_eq_append, ← List.append_assoc] at hs
      obtain ⟨s, ns, h1, _⟩ := h.up _ _ hs
      exact h.pre p n r' (by simpa using hn) (by rw [h1]; rfl)
theorem Gd.un {T : Ts} (h : Gd T) {p q : Pth} (hu : Un p q) (hs : (T.F q).isSome = true) : (T.F p).isSome = true := by
  obtain ⟨r, rfl⟩ := un_iff.1 hu
  exact h.pre p _ r rfl hs
theorem Gd.dirs {T : Ts} (h : Gd T) {p v : Pth} (hv : ¬ v = []) (hs : (T.F (p ++ v)).isSome = true) : ∃ s ns, T.F p = some (.dir s ns) := by
  cases v with
  | nil => exact absurd rfl hv
  | cons x r =>
    have e : p ++ x :: r = (p ++ [x]) ++ r := by simp
    rw [e] at hs
    obtain ⟨s, ns, h1, _⟩ := h.up p x (h.pre _ _ r rfl hs)
    exact ⟨s, ns, h1⟩
theorem folA_dirs (F : Pth → Option Nd) : ∀ (r p : Pth), (∀ u v, r = u ++ v → ¬ v = [] → ∃ s k, F (p ++ u) = some (.dir s k)) → folA F p r = 0
  | [], _, _ => rfl
  | x :: r, p, h => by
    obtain ⟨s, k, e⟩ := h [] (x :: r) rfl (by simp)
    rw [List.append_nil] at e
    unfold folA
    rw [e]
    refine folA_dirs F r (p ++ [x]) (fun u v e2 hv => ?_)
    obtain ⟨s, k, e3⟩ := h (x :: u) v (by rw [e2]; rfl) hv
    exact ⟨s, k, by simpa using e3⟩
theorem Gd.fol {T : Ts} (h : Gd T) {p : Pth} (hs : (T.F p).isSome = true) : folE T.F p = 0 :=
  folA_dirs T.F p [] (fun u v e hv => by
    subst e
    exact h.dirs hv hs)
theorem Gd.folD {T : Ts} (h : Gd T) {p : Pth} {s : Nat} {kn : List ByteArray} (x : ByteArray) (hs : T.F p = some (.dir s kn)) : folE T.F (p ++ [x]) = 0 := by
  refine folA_dirs T.F _ [] (fun u v e hv => ?_)
  rcases List.eq_nil_or_concat v with rfl | ⟨v', y, rfl⟩
  · exact absurd rfl hv
  · rw [List.concat_eq_append, ← List.append_assoc] at e
    obtain ⟨rfl, _⟩ := pth_inj e
    by_cases h0 : v' = []
    · subst h0
      exact ⟨s, kn, by simpa using hs⟩
    · exact h.dirs h0 (by simp only [List.nil_append]; rw [hs]; rfl)
theorem movR_same (T : Ts) (f g : Pth) (h : ¬ (movR T f g).1 = 0) : (movR T f g).2 = T := by
  revert h
  unfold movR
  split
  · split
    · simp
    · split <;> simp
  · simp
/-- What is there is none's parent: then nothing refuses. -/
theorem rep_zero {T : Ts} (hG : Gd T) {f g : Pth} (hf0 : ¬ f = []) (hg0 : ¬ g = []) (hf : (T.F f).isSome = true) {ng : Nd} (hg : T.F g = some ng) (hn : ∀ nm, T.F (g ++ [nm]) = none) : (movR (goneT T g) f g).1 = 0 := by
  have eg := pth_split hg0
  have ef := pth_split hf0
  obtain ⟨r, hr⟩ : ∃ r, g.dropLast = r := ⟨_, rfl⟩
  obtain ⟨y, hy⟩ : ∃ y, lastN g = y := ⟨_, rfl⟩
  obtain ⟨r2, hr2⟩ : ∃ r, f.dropLast = r := ⟨_, rfl⟩
  obtain ⟨x, hx⟩ : ∃ y, lastN f = y := ⟨_, rfl⟩
  rw [hr, hy] at eg
  rw [hr2, hx] at ef
  subst eg ef
  obtain ⟨s, kn, hF, hym⟩ := hG.up r y (by rw [hg]; rfl)
  obtain ⟨s2, kn2, hF2, _⟩ := hG.up r2 x hf
  rw [goneT_eq hF hg]
  have n1 : ¬ r2 = r ++ [y] := fun e => by rw [e, hn] at hf; cases hf
  have eA : setN (setN T.F r (some (.dir s (dele kn y)))) (r ++ [y]) none r = some (.dir s (dele kn y)) := by rw [setN_other _ _ (pth_ne r y), setN_same]
  unfold movR
  simp only [hr, hr2, eA]
  by_cases e : r2 = r
  · subst e
    rw [eA]
    simp
  · have eB : setN (setN T.F r (some (.dir s (dele kn y)))) (r ++ [y]) none r2 = some (.dir s2 kn2) := by rw [gone_at n1 e]; exact hF2
    rw [eB]
    simp only [e, if_false]
    have h1 := dele_in (hG.nms _ _ _ hF).1 hym
    have h2 := (hG.nms _ _ _ hF).2.2
    rw [furB_free (by omega)]
    have h3 := hG.bl
    have h4 := ng.blk_bd.1
    rw [if_neg (by omega)]
theorem repR_same {T : Ts} (hG : Gd T) {f g : Pth} (hf0 : ¬ f = []) (hg0 : ¬ g = []) (hf : (T.F f).isSome = true) (_hg : (T.F g).isSome = true) (h : ¬ (repR T f g).1 = 0) : (repR T f g).2 = T := by
  have hz : ∀ ng, T.F g = some ng → (∀ nm, ¬ ng.has nm) → (movR (goneT T g) f g).1 = 0 := fun ng hng hl => rep_zero hG hf0 hg0 hf hng (fun nm => by
    cases e : T.F (g ++ [nm]) with
    | none => rfl
    | some z =>
      obtain ⟨s, ns, h1, h2⟩ := hG.up g nm (by rw [e]; rfl)
      rw [hng] at h1; cases h1
      exact absurd h2 (hl nm))
  revert h
  unfold repR
  split
  · simp
  · simp
  · rename_i s0 k0 s kn e1 e2
    split
    · rename_i hk
      subst hk
      intro h
      exact absurd (hz _ e2 (fun nm h => by cases h)) h
    · simp
  · rename_i b1 b2 e1 e2
    intro h
    exact absurd (hz _ e2 (fun nm h => h)) h
  · simp
theorem renR_same {T : Ts} (hG : Gd T) (a b : ByteArray) (h : ¬ (renR T a b).1 = 0) : (renR T a b).2 = T := by
  revert h
  unfold renR
  split
  · simp
  split
  · simp
  split
  · simp
  split
  · simp
  rename_i h4
  split
  · simp
  rename_i h5
  split
  · simp
  split
  · simp
  split
  · simp
  split
  · rename_i h10
    intro h
    exact repR_same hG (fun e => h5 (.inl e)) (fun e => h5 (.inr e)) (by revert h4; cases (T.F (spN a)).isSome <;> simp) h10 h
  · exact movR_same _ _ _
/-- An act that is refused changes nothing. -/
theorem doR_same {T : Ts} (hG : Gd T) (o : Ac) (h : ¬ (doR T o).1 = 0) : (doR T o).2 = T := by
  revert h
  unfold doR
  split
  · simp
  split
  · exact renR_same hG _ _
  split
  · simp
  split
  · unfold addR
    split
    · simp
    · split <;> simp
    · simp
  split
  · unfold addR
    split
    · simp
    · split <;> simp
    · simp
  split
  · unfold extR
    split
    · simp
    · simp
    · split
      · simp
      · split <;> simp
  split
  · unfold cutR
    split
    · simp
    · simp
    · split <;> simp
  split
  · unfold unlR
    split <;> simp
  · unfold rmdR
    split
    · simp
    · simp
    · split <;> simp

/-- Are nodes the same, but for their slots? -/
def EqN : Option Nd → Option Nd → Prop
  | none, none => True
  | some (.file a), some (.file b) => a = b
  | some (.dir _ _), some (.dir _ _) => True
  | _, _ => False
theorem EqN.refl (x : Option Nd) : EqN x x := by
  cases x with
  | none => trivial
  | some nd => cases nd <;> simp [EqN]
/-- Are trees the same, from two paths on? -/
def EqT (F G : Pth → Option Nd) : Prop := ∀ q, EqN (F q) (G q)
theorem EqT.refl (F : Pth → Option Nd) : EqT F F := fun _ => EqN.refl _

theorem mov_F {T T1 : Ts} {f g : Pth} (h : movR T f g = (0, T1)) {sf sg : Nat} {kf kg : List ByteArray} (hf : T.F f.dropLast = some (.dir sf kf)) (hg : T.F g.dropLast = some (.dir sg kg)) (hG : Gd T) (hx : lastN f ∈ kf) :
    0 ≤ T1.bl ∧ ∃ F', T1.F = graft F' f g ∧ (∀ q, ¬ q = f.dropLast → ¬ q = g.dropLast → F' q = T.F q) ∧ (∃ s k, F' f.dropLast = some (.dir s k) ∧ (f.dropLast = g.dropLast ∨ k.length < s)) ∧ ∃ s k, F' g.dropLast = some (.dir s k) := by
  unfold movR at h
  rw [hf, hg] at h
  simp only at h
  by_cases e : f.dropLast = g.dropLast
  · rw [if_pos e] at h
    cases h
    refine ⟨hG.bl, _, rfl, fun q _ h2 => setN_other _ _ h2, ⟨_, _, by rw [e]; exact setN_same _ _ _, .inl e⟩, ⟨_, _, setN_same _ _ _⟩⟩
  · rw [if_neg e] at h
    split at h
    · cases h
    · rename_i hb
      cases h
      refine ⟨by show (0 : Int) ≤ T.bl - furB sg kg.length; omega, _, rfl, fun q h1 h2 => by rw [setN_other _ _ h2, setN_other _ _ h1], ⟨sf, dele kf (lastN f), by rw [setN_other _ _ e, setN_same], .inr ?_⟩, ⟨_, _, setN_same _ _ _⟩⟩
      have h1 := dele_in (hG.nms _ _ _ hf).1 hx
      have h2 := (hG.nms _ _ _ hf).2.2
      omega

/-- A name that moved moves back: all is as it was. -/
theorem mov_back {T T1 : Ts} {f g : Pth} (hG : Gd T) (hG1 : Gd T1) (hf0 : ¬ f = []) (hg0 : ¬ g = []) (hf : (T.F f).isSome = true) (hg : T.F g = none) (hgd : ∃ s k, T.F g.dropLast = some (.dir s k)) (hun : ¬ Un f g) (h : movR T f g = (0, T1)) :
    T1.F g = T.F f ∧ T1.F f = none ∧ (∃ s k, T1.F f.dropLast = some (.dir s k)) ∧ ¬ Un g f ∧ ∃ T2, movR T1 g f = (0, T2) ∧ EqT T2.F T.F := by
  obtain ⟨sg, kg, hgd⟩ := hgd
  have ef := pth_split hf0
  obtain ⟨sf, kf, hfd, hxm⟩ := hG.up f.dropLast (lastN f) (by rw [← ef]; exact hf)
  have eg := pth_split hg0
  have ngf : ¬ Un g f := fun e => by have := hG.un e hf; rw [hg] at this; cases this
  have lf : f.length = f.dropLast.length + 1 := by rw [List.length_dropLast]; have := List.length_pos_iff.2 hf0; omega
  have lg : g.length = g.dropLast.length + 1 := by rw [List.length_dropLast]; have := List.length_pos_iff.2 hg0; omega
  have n1 : ¬ Un f f.dropLast := fun e => by have := un_len e; omega
  have n2 : ¬ Un g g.dropLast := fun e => by have := un_len e; omega
  have n3 : ¬ Un g f.dropLast := fun e => by have := hG.un e (by rw [hfd]; rfl); rw [hg] at this; cases this
  have n4 : ¬ Un f g.dropLast := fun e => hun (by rw [eg]; exact un_more e _)
  obtain ⟨hb1, F', e1, q1, ⟨s3, k3, q2, q3⟩, s4, k4, q4⟩ := mov_F h hfd hgd hG hxm
  have a1 : T1.F g = T.F f := by
    rw [e1]
    have := graft_at F' f g []
    rw [List.append_nil, List.append_nil] at this
    rw [this]
    exact q1 f (fun e => by have := congrArg List.length e; omega) (fun e => n4 (by rw [← e]; exact un_self f))
  have a2 : T1.F f = none := by rw [e1]; exact graft_none F' ngf (un_self f)
  have a3 : T1.F f.dropLast = some (.dir s3 k3) := by rw [e1, graft_else F' n3 n1]; exact q2
  have a4 : T1.F g.dropLast = some (.dir s4 k4) := by rw [e1, graft_else F' n2 n4]; exact q4
  refine ⟨a1, a2, ⟨s3, k3, a3⟩, ngf, ?_⟩
  have hgm : lastN g ∈ k4 := by
    obtain ⟨s5, k5, h5, h6⟩ := hG1.up g.dropLast (lastN g) (by rw [← eg, a1]; exact hf)
    rw [a4] at h5; cases h5
    exact h6
  obtain ⟨T2, hT2⟩ : ∃ T2, movR T1 g f = (0, T2) := by
    unfold movR
    rw [a3, a4]
    simp only
    by_cases e : g.dropLast = f.dropLast
    · rw [if_pos e]; exact ⟨_, rfl⟩
    · rw [if_neg e]
      have : k3.length < s3 := q3.elim (fun h => absurd h.symm e) id
      rw [furB_free this, if_neg (by omega)]
      exact ⟨_, rfl⟩
  refine ⟨T2, hT2, ?_⟩
  obtain ⟨_, F2, e2, p1, ⟨s6, k6, p2, p3⟩, s7, k7, p4⟩ := mov_F hT2 a4 a3 hG1 hgm
  intro q
  rw [e2]
  by_cases u1 : Un f q
  · obtain ⟨r, rfl⟩ := un_iff.1 u1
    rw [graft_at, p1 (g ++ r) (fun e => n2 (by rw [← e]; exact un_app g r)) (fun e => n3 (by rw [← e]; exact un_app g r)), e1, graft_at, q1 (f ++ r) (fun e => n1 (by rw [← e]; exact un_app f r)) (fun e => n4 (by rw [← e]; exact un_app f r))]
    exact EqN.refl _
  · by_cases u2 : Un g q
    · rw [graft_none F2 u1 u2]
      cases e : T.F q with
      | none => trivial
      | some z => have := hG.un u2 (by rw [e]; rfl); rw [hg] at this; cases this
    · rw [graft_else F2 u1 u2]
      by_cases z1 : q = f.dropLast
      · rw [z1, p4, hfd]; trivial
      · by_cases z2 : q = g.dropLast
        · rw [z2, p2, hgd]; trivial
        · rw [p1 q z2 z1, e1, graft_else F' u2 u1, q1 q z1 z2]
          exact EqN.refl _
/-- What a Rename that is done, to where nothing was, comes to. -/
theorem ren_back {T T1 : Ts} (hG : Gd T) (hG1 : Gd T1) {a b : ByteArray} (h : renR T a b = (0, T1)) (hb : ¬ thE T.F b = 0) :
    thE T.F a = 0 ∧ thE T1.F b = 0 ∧ thE T1.F a = 8 ∧ (∃ nd, T.F (spN a) = some nd ∧ T1.F (spN b) = some nd) ∧ ¬ EqT T1.F T.F ∧ ∃ T2, renR T1 b a = (0, T2) ∧ EqT T2.F T.F := by
  unfold renR at h
  split at h
  · rename_i h1; exact absurd (Prod.mk.inj h).1 h1
  rename_i h1
  split at h
  · rename_i h2; exact absurd (Prod.mk.inj h).1 h2
  rename_i h2
  have h1 : spE a = 0 := by simpa using h1
  have h2 : spE b = 0 := by simpa using h2
  split at h
  · rename_i h3; exact absurd (Prod.mk.inj h).1 h3
  rename_i h3
  have h3 : folE T.F (spN a) = 0 := by simpa using h3
  split at h
  · cases h
  rename_i h4
  have h4 : (T.F (spN a)).isSome = true := by revert h4; cases (T.F (spN a)).isSome <;> simp
  split at h
  · cases h
  rename_i h5
  have f0 : ¬ spN a = [] := fun e => h5 (.inl e)
  have g0 : ¬ spN b = [] := fun e => h5 (.inr e)
  split at h
  · rename_i h6; exact absurd (Prod.mk.inj h).1 h6
  rename_i h6
  have h6 : folE T.F (spN b) = 0 := by simpa using h6
  have hgn : T.F (spN b) = none := by
    cases e : T.F (spN b) with
    | none => rfl
    | some z => exact absurd (by simp [thE, fiE, h2, h6, e]) hb
  split at h
  · rename_i h7; rw [h7, hgn] at h4; cases h4
  split at h
  · cases h
  rename_i h8
  rw [hgn] at h
  simp only [Option.isSome_none, Bool.false_eq_true, if_false] at h
  obtain ⟨a1, a2, ⟨s3, k3, a3⟩, ngf, T2, hT2, hE⟩ := mov_back hG hG1 f0 g0 h4 hgn (fol_dir h6 g0) h8 h
  have ea := pth_split f0
  have k1 : folE T1.F (spN a) = 0 := by rw [ea]; exact hG1.folD _ a3
  have k2 : folE T1.F (spN b) = 0 := hG1.fol (by rw [a1]; exact h4)
  obtain ⟨nd, hnd⟩ := Option.isSome_iff_exists.1 h4
  refine ⟨by simp [thE, fiE, h1, h3, h4], by simp [thE, fiE, h2, k2, a1, h4], by simp [thE, fiE, h1, k1, a2], ⟨nd, hnd, a1.trans hnd⟩, fun he => ?_, T2, ?_, hE⟩
  · have := he (spN a)
    rw [a2, hnd] at this
    exact this
  · unfold renR
    rw [if_neg (by omega), if_neg (by omega), if_neg (by omega), if_neg (by rw [a1, hnd]; simp), if_neg (fun e => e.elim g0 f0), if_neg (by omega), if_neg (fun e => by rw [← e, hgn] at h4; cases h4), if_neg ngf, a2]
    simp only [Option.isSome_none, Bool.false_eq_true, if_false]
    exact hT2
end Go.Proofs.YtdcmkcplklkfmaaDoor

/-
  Twin and Same of trees.
-/
import Derived.Test.YtlnjnimenihhnaaGreatDoorTTwD
import Derived.Test.YtlnjnimenihhnaaGreatDoorTEq
namespace Go.Proofs.YtlnjnimenihhnaaGreatDoor
open Go.RowKit Go.Maps Go.Sort

open Classical in
theorem same_any {t t' : Nat} {T U : Ts} {A A' : Pth → Nat} {O O' : Nat → Option (Pth × Nat)} {K K' : Nat} (hK : K ≤ 900000) (hK' : K' ≤ 900000) : ∀ (n : Nat) (p q : Pth) (x y : Nd) (w : World), Tr w t T.F A O T.bl T.ino K → Tr w t' U.F A' O' U.bl U.ino K' → T.F p = some x → U.F q = some y → (∀ r, n ≤ r.length → T.F (p ++ r) = none) →
    Calls Tryz.prog 43 #[ptr (A p), ptr (A' q)] w fun e w' => e = .returned (.bool (eqB T.F U.F p q)) ∧ Below w.heap.size w w'
  | 0, p, q, x, y, w, _, _, hp, _, hn => by
    have := hn [] (Nat.le_refl _)
    rw [List.append_nil, hp] at this
    cases this
  | n + 1, p, q, .file bs, .dir s kn, w, h, h', hp, hq, hn => by
    have c0 := (h.nd p _ hp).1
    have d0 := (h'.nd q _ hq).1
    rw [eqB_no (by rw [hp, hq]; exact fun h => h)]
    exact same_kind (A p) (A' q) true w c0 d0
  | n + 1, p, q, .dir s kn, .file bs, w, h, h', hp, hq, hn => by
    have c0 := (h.nd p _ hp).1
    have d0 := (h'.nd q _ hq).1
    rw [eqB_no (by rw [hp, hq]; exact fun h => h)]
    exact same_kind (A p) (A' q) false w c0 d0
  | n + 1, p, q, .file bs, .file cs, w, h, h', hp, hq, hn => by
    obtain ⟨c0, ⟨v, c1, ho, hv⟩, c2, c3⟩ := h.nd p _ hp
    obtain ⟨d0, ⟨v', d1, ho', hv'⟩, d2, d3⟩ := h'.nd q _ hq
    have hB := (h.fil _ _ hp).2
    have hB' := (h'.fil _ _ hq).2
    obtain ⟨a1, k1, rfl⟩ := own_form' ho
    obtain ⟨a2, k2, rfl⟩ := own_form' ho'
    have HQ : ∀ wb, Hid (Below w.heap.size w wb) → Calls Tryz.prog 76 #[.slice a1 bs.length k1, .slice a2 cs.length k2] wb fun e w' => e = .returned (.bool (decide (bs = cs))) ∧ w' = wb := fun wb hb =>
      equalB_any _ _ bs cs wb (Bs.ofOwns (own_far ho (Chg.ofBelowC hb.out) (fun _ _ h => h))) (Bs.ofOwns (own_far ho' (Chg.ofBelowC hb.out) (fun _ _ h => h))) hB hB'
    by_cases e : bs = cs
    · have hR : eqB T.F U.F p q = true := eqB_iff.2 ((eq_files h.good h'.good hp hq).2 e)
      rw [hR]
      refine same_go (A p) (A' q) true _ _ _ _ _ _ _ _ true w c0 d0 c1 d1 c2 d2 (fun wb hb => (HQ wb hb).mono ?_) (fun wb hb => (eqf_nil wb _).mono ?_)
      · rintro e' w' ⟨rfl, rfl⟩
        exact ⟨by simp [e], hb⟩
      · rintro e' w' ⟨rfl, B⟩
        exact ⟨rfl, hb.out.trans (B.mono hb.out.size)⟩
    · have hR : eqB T.F U.F p q = false := by
        cases e2 : eqB T.F U.F p q
        · rfl
        · exact absurd ((eq_files h.good h'.good hp hq).1 (eqB_iff.1 e2)) e
      rw [hR]
      refine same_bytes (A p) (A' q) true _ _ _ _ _ _ w c0 d0 c1 d1 (fun wb hb => (HQ wb hb).mono ?_)
      rintro e' w' ⟨rfl, rfl⟩
      exact ⟨by simp [e], rfl⟩
  | n + 1, p, q, .dir s kn, .dir s' kn', w, h, h', hp, hq, hn => by
    obtain ⟨m, c0, c1, c2, c3, mO, hm, -, -⟩ := h.dirM hp
    obtain ⟨m', d0, d1, d2, d3, mO', hm', -, -⟩ := h'.dirM hq
    obtain ⟨a1, a2, a3, a4⟩ := h.nms _ _ _ hp
    obtain ⟨b1, b2, b3, b4⟩ := h'.nms _ _ _ hq
    have hR : eqB T.F U.F p q = (decide (kn.length = kn'.length) && decide (∀ x ∈ kn, x ∈ kn' ∧ eqB T.F U.F (p ++ [x]) (q ++ [x]) = true)) := by
      have h1 := eq_dirs h.good h'.good hp hq
      have h2 : eqB T.F U.F p q = true ↔ (decide (kn.length = kn'.length) && decide (∀ x ∈ kn, x ∈ kn' ∧ eqB T.F U.F (p ++ [x]) (q ++ [x]) = true)) = true := by
        rw [eqB_iff, h1, Bool.and_eq_true, decide_eq_true_iff, decide_eq_true_iff]
      exact Bool.eq_iff_iff.2 h2
    rw [hR]
    refine same_go (A p) (A' q) false _ _ _ _ _ _ _ _ _ w c0 d0 c1 d1 c2 d2 (fun wb hb => ?_) (fun wb hb => ?_)
    · refine (equalB_any _ _ [] [] wb (.inl ⟨rfl, rfl⟩) (.inl ⟨rfl, rfl⟩) (fun _ h => by cases h) (fun _ h => by cases h)).mono ?_
      rintro e' w' ⟨rfl, rfl⟩
      exact ⟨by simp, hb⟩
    · have Cb := Chg.ofBelowC hb.out
      refine (eqf_any m m' kn.length kn'.length _ _ kn kn' (fun x => eqB T.F U.F (p ++ [x]) (q ++ [x])) (fun x => A (p ++ [x])) (fun x => A' (q ++ [x])) wb (hm.kept (Cb.block m hm.lt (fun h => h))) (hm'.kept (Cb.block m' hm'.lt (fun h => h))) (by omega) (by omega) (fun x => rfl) (fun x => rfl) (fun x hx => name_size (a2 x hx)) (fun x wc hx hx' hc => ?_)).mono ?_
      · obtain ⟨nd, hnd⟩ := Option.isSome_iff_exists.1 (h.dn p s kn x hp hx)
        obtain ⟨nd', hnd'⟩ := Option.isSome_iff_exists.1 (h'.dn q s' kn' x hq hx')
        have B := hb.out.trans (hc.mono hb.out.size)
        refine same_any hK hK' n (p ++ [x]) (q ++ [x]) nd nd' wc (h.below B) (h'.below B) hnd hnd' (fun r hr => ?_)
        have := hn (x :: r) (by simp; omega)
        simpa using this
      · rintro e' w' ⟨rfl, B⟩
        exact ⟨rfl, hb.out.trans (B.mono hb.out.size)⟩
set_option maxHeartbeats 1600000 in
/-- Same. -/
theorem Same_any {t t' : Nat} {T U : Ts} {A A' : Pth → Nat} {O O' : Nat → Option (Pth × Nat)} {K K' : Nat} (hK : K ≤ 900000) (hK' : K' ≤ 900000) (w : World) (h : Tr w t T.F A O T.bl T.ino K) (h' : Tr w t' U.F A' O' U.bl U.ino K') :
    Calls Tryz.prog 16 #[ptr t, ptr t'] w fun e w' => e = .returned (.bool (eqB T.F U.F [] [])) ∧ Below w.heap.size w w' := by
  obtain ⟨s, ns, hr⟩ := h.rdir
  obtain ⟨s', ns', hr'⟩ := h'.rdir
  have HS : ∀ wb, Hid (Below w.heap.size w wb) → Hid (Calls Tryz.prog 43 #[ptr t, ptr t'] wb fun e w' => e = .returned (.bool (eqB T.F U.F [] [])) ∧ Hid (Below w.heap.size w w')) := fun wb hb => by
    have := same_any hK hK' wb.heap.size [] [] _ _ wb (h.below hb.out) (h'.below hb.out) hr hr' (fun r hr => by
      rw [List.nil_append]
      cases e : T.F r with
      | none => rfl
      | some z => have := (h.below hb.out).depth (p := r) (by rw [e]; rfl); omega)
    rw [h.root, h'.root] at this
    refine this.mono ?_
    rintro e w' ⟨rfl, B⟩
    exact ⟨rfl, hb.out.trans (B.mono hb.out.size)⟩
  have c0 : ∃ v, w.cell? ⟨t, 0, none⟩ = some v := ⟨_, by have := (h.nd [] _ hr).1; rw [h.root] at this; exact this⟩
  have d0 : ∃ v, w.cell? ⟨t', 0, none⟩ = some v := ⟨_, by have := (h'.nd [] _ hr').1; rw [h'.root] at this; exact this⟩
  obtain ⟨R, hR⟩ : ∃ R, eqB T.F U.F [] [] = R := ⟨_, rfl⟩
  rw [hR] at HS ⊢
  clear h h' hr hr' hR
  go_enter Tryz.func16, Tryz.ntmps16
  have D0 : ∀ k, Hid (Below w.heap.size w (w.drewN k).drew) := fun k => ⟨rfl, rfl, rfl, Nat.le_refl _, fun _ _ => rfl⟩
  have D9 : ∀ k, Hid (Below w.heap.size w (w.drewN k)) := fun k => ⟨rfl, rfl, rfl, Nat.le_refl _, fun _ _ => rfl⟩
  have D1 : Hid (Below w.heap.size w w.drew) := ⟨rfl, rfl, rfl, Nat.le_refl _, fun _ _ => rfl⟩
  go_wp2_with fail
  go_region_with (first | (go_at_call 43; refine (HS _ (by first | exact D1 | exact D0 _ | exact D9 _)).out.mono ?_; clear HS; rintro e w5 ⟨rfl, HB5⟩))
  all_goals
    go_wp2_with fail
    go_ret
    exact ⟨rfl, HB5.out⟩
abbrev trO6 (m : Nat) (s b i : Int) : Obj := .cells #[.bool false, .slice none 0 0, .map (some m), .int .i64 s, .int .i64 b, .int .i64 i] 60
/-- A tree out of a node that was copied. -/
theorem Sb.tree {w w0 : World} {t : Nat} {T : Ts} {A A2 : Pth → Nat} {O O2 : Nat → Option (Pth × Nat)} {K N m : Nat} {s : Nat} {kn : List ByteArray} (hT : Tr w0 t T.F A O T.bl T.ino K) (hr : T.F [] = some (.dir s kn)) (h : Sb w (subF T.F []) A2 O2 N) (c2 : w.cell? ⟨A2 [], 2, none⟩ = some (.map (some m))) :
    ∃ A3 O3, Tr (w.alloc (trO6 m s T.bl T.ino)) w.heap.size T.F A3 O3 T.bl T.ino K ∧ ∀ k, (O3 k).isSome = true → N ≤ k := by
  have hF : ∀ q, subF T.F [] q = T.F q := fun q => by simp [subF]
  have hO0 := h.own [] _ ((hF []).trans hr)
  obtain ⟨d0, d1, ⟨m', d2, d3, d4⟩, d5⟩ := h.nd [] _ ((hF []).trans hr)
  rw [c2] at d2
  cases d2
  have hg := h.lt _ _ hO0
  have hml := h.lt _ _ d3
  have hn := heap_alloc_new w (trO6 m s T.bl T.ino)
  have C := Chg.ofBelowC (below_alloc w (trO6 m s T.bl T.ino))
  have hz : (w.alloc (trO6 m s T.bl T.ino)).heap.size = w.heap.size + 1 := by simp
  generalize w.alloc (trO6 m s T.bl T.ino) = w' at *
  have hOk : ∀ b q k, O2 b = some (q, k) → ¬ b = A2 [] → (if b = w.heap.size then some (([] : Pth), 0) else if b = A2 [] then none else O2 b) = some (q, k) := fun b q k hb h1 => by
    rw [if_neg (by have := (h.lt b _ hb).2; omega), if_neg h1]
    exact hb
  have hne : ∀ q nd, ¬ q = [] → T.F q = some nd → ¬ A2 q = A2 [] := fun q nd hq hF2 e => by
    have := h.own q nd ((hF q).trans hF2)
    rw [e, hO0] at this
    cases this
    exact hq rfl
  refine ⟨fun q => if q = [] then w.heap.size else A2 q, fun b => if b = w.heap.size then some ([], 0) else if b = A2 [] then none else O2 b, ⟨if_pos rfl, ⟨s, kn, hr⟩, fun b x hb => ?_, fun q nd hq => ?_, fun q nd hq => ?_, fun q nd hq i => ?_, hT.up, hT.dn, hT.nms, hT.fil, ?_, ?_, hT.bb, hT.ib⟩, fun k hk => ?_⟩
  · split at hb
    · omega
    · split at hb
      · cases hb
      · have := (h.lt b x hb).2; omega
  · by_cases e : q = []
    · subst e; simp
    · simp only [e, if_false]
      exact hOk _ _ _ (h.own q nd ((hF q).trans hq)) (hne q nd e hq)
  · by_cases e : q = []
    · subst e
      rw [hr] at hq
      cases hq
      refine ⟨?_, ?_, ⟨m, ?_, hOk _ _ _ d3 (fun e => by rw [e, hO0] at d3; cases d3), ?_⟩, ?_⟩
      · show w'.cell? ⟨w.heap.size, 0, none⟩ = _
        rw [cell_of_row _ _ _ _ _ _ hn]; rfl
      · show w'.cell? ⟨w.heap.size, 1, none⟩ = _
        rw [cell_of_row _ _ _ _ _ _ hn]; rfl
      · show w'.cell? ⟨w.heap.size, 2, none⟩ = _
        rw [cell_of_row _ _ _ _ _ _ hn]; rfl
      · refine (d4.kept (C.block m hml.2 (fun h => h))).ext (fun z _ => ?_)
        unfold kidF
        simp
      · show w'.cell? ⟨w.heap.size, 3, none⟩ = _
        rw [cell_of_row _ _ _ _ _ _ hn]; rfl
    · have h1 := h.own q nd ((hF q).trans hq)
      refine (h.nd q nd ((hF q).trans hq)).kept C h1 (fun _ _ _ h => h) (if_neg e) (fun nm _ => if_neg (by simp)) (fun b k hb => hOk b q k hb (fun e2 => ?_))
      rw [e2, hO0] at hb
      cases hb
      exact e rfl
  · by_cases e : q = []
    · subst e
      simp only [if_true, World.frozen?, hn]
      simp
    · simp only [e, if_false]
      exact (World.frozen?_of_block (C.block (A2 q) (h.lt _ _ (h.own q nd ((hF q).trans hq))).2 (fun h => h))).trans (h.fr q nd ((hF q).trans hq) i)
  · rw [cell_of_row _ _ _ _ _ _ hn]; rfl
  · rw [cell_of_row _ _ _ _ _ _ hn]; rfl
  · dsimp only at hk
    split at hk
    · have := h.lt _ _ hO0; omega
    · split at hk
      · cases hk
      · obtain ⟨y, hy⟩ := Option.isSome_iff_exists.1 hk
        exact (h.lt k y hy).1
set_option maxHeartbeats 3200000 in
set_option maxRecDepth 100000 in
/-- Twin. -/
theorem Twin_any {t : Nat} {T : Ts} {A : Pth → Nat} {O : Nat → Option (Pth × Nat)} {K : Nat} (hK : K ≤ 900000) (w : World) (h : Tr w t T.F A O T.bl T.ino K) :
    Calls Tryz.prog 14 #[ptr t] w fun e w' => ∃ u A2 O2, e = .returned (ptr u) ∧ Tr w' u T.F A2 O2 T.bl T.ino K ∧ (∀ k, (O2 k).isSome = true → w.heap.size ≤ k) ∧ Below w.heap.size w w' := by
  obtain ⟨s, kn, hr⟩ := h.rdir
  have HT : ∀ wb, Hid (Below w.heap.size w wb) → Hid (Calls Tryz.prog 42 #[ptr t] wb fun e w' => ∃ g m, e = .returned (ptr g) ∧ w'.cell? ⟨g, 0, none⟩ = some (.bool false) ∧ w'.cell? ⟨g, 1, none⟩ = some (.slice none 0 0) ∧ w'.cell? ⟨g, 2, none⟩ = some (.map (some m)) ∧ w'.cell? ⟨g, 3, none⟩ = some (.int .i64 s) ∧ w'.cell? ⟨t, 4, none⟩ = some (.int .i64 T.bl) ∧ w'.cell? ⟨t, 5, none⟩ = some (.int .i64 T.ino) ∧ Hid (∃ A2 O2, A2 [] = g ∧ Below w.heap.size w w' ∧ Sb w' (subF T.F []) A2 O2 w.heap.size)) := fun wb hb => by
    have := twin_any hK wb.heap.size [] _ wb (h.below hb.out) hr (fun r hr => by
      rw [List.nil_append]
      cases e : T.F r with
      | none => rfl
      | some z => have := (h.below hb.out).depth (p := r) (by rw [e]; rfl); omega)
    rw [h.root] at this
    refine this.mono ?_
    rintro e w' ⟨g, A2, O2, rfl, B, S, rfl⟩
    obtain ⟨d0, d1, ⟨m', d2, d3, d4⟩, d5⟩ := S.nd [] (.dir s kn) (by simpa [subF] using hr)
    have C := Chg.ofBelowC (hb.out.trans (B.mono hb.out.size))
    exact ⟨A2 [], m', rfl, d0, d1, d2, d5, C.cell h.cbl (fun h => h), C.cell h.cin (fun h => h), A2, O2, rfl, hb.out.trans (B.mono hb.out.size), S.less hb.out.size⟩
  have HH : Hid (Tr w t T.F A O T.bl T.ino K ∧ T.F [] = some (.dir s kn)) := ⟨h, hr⟩
  have c4 := h.cbl
  have c5 := h.cin
  have c4d : w.drew.cell? ⟨t, 4, none⟩ = some (.int .i64 T.bl) := c4
  have END : ∀ w5 g m, w5.cell? ⟨g, 2, none⟩ = some (.map (some m)) → (∃ A2 O2, A2 [] = g ∧ Below w.heap.size w w5 ∧ Sb w5 (subF T.F []) A2 O2 w.heap.size) → Hid (∃ A3 O3, Tr (w5.alloc (trO6 m s T.bl T.ino)) w5.heap.size T.F A3 O3 T.bl T.ino K ∧ (∀ k, (O3 k).isSome = true → w.heap.size ≤ k) ∧ Below w.heap.size w (w5.alloc (trO6 m s T.bl T.ino))) := by
    rintro w5 g m hc ⟨A2, O2, rfl, B, S⟩
    obtain ⟨A3, O3, h1, h2⟩ := S.tree HH.out.1 HH.out.2 hc
    exact ⟨A3, O3, h1, h2, B.trans ((below_alloc w5 _).mono B.size)⟩
  obtain ⟨F, bl, ino⟩ := T
  simp only at c4 c5 c4d HT END ⊢
  clear h hr HH
  have D0 : ∀ k, Hid (Below w.heap.size w (w.drewN k).drew) := fun k => ⟨rfl, rfl, rfl, Nat.le_refl _, fun _ _ => rfl⟩
  have D9 : ∀ k, Hid (Below w.heap.size w (w.drewN k)) := fun k => ⟨rfl, rfl, rfl, Nat.le_refl _, fun _ _ => rfl⟩
  have D1 : Hid (Below w.heap.size w w.drew) := ⟨rfl, rfl, rfl, Nat.le_refl _, fun _ _ => rfl⟩
  go_enter Tryz.func14, Tryz.ntmps14
  go_wp2_with fail
  go_region_with (first | (go_at_call 42; refine (HT _ (by first | exact D1 | exact D0 _ | exact D9 _)).out.mono ?_; clear HT; rintro e w5 ⟨g, m, rfl, d0, d1, d2, d3, d4, d5, H5⟩))
  all_goals
    have HE := END w5 g m d2 H5.out
    clear END H5 d0 d1 d2 d3 d4 d5 c4 c5 c4d
    go_wp2_with fail
    go_ret
    obtain ⟨A3, O3, g1, g2, g3⟩ := HE.out
    exact ⟨_, A3, O3, rfl, g1, g2, g3⟩

end Go.Proofs.YtlnjnimenihhnaaGreatDoor

namespace Go.Proofs.YtlnjnimenihhnaaGreatDoor
open Go.RowKit Go.Maps Go.Sort

/-- A law's two trees: neither has a block of the other's. -/
structure L2 (N : Nat) (w0 w : World) (t : Nat) (T : Ts) (u : Nat) (U : Ts) (K : Nat) : Prop where
  ex : ∃ A O A' O', Tr w t T.F A O T.bl T.ino K ∧ Tr w u U.F A' O' U.bl U.ino K ∧ (∀ k, (O k).isSome = true → N ≤ k) ∧ (∀ k, (O' k).isSome = true → N ≤ k) ∧ ∀ k, (O k).isSome = true → O' k = none
  tab : Tab w
  pos : 0 < N
  bel : Below N w0 w
  le : N ≤ w.heap.size
section
variable {N : Nat} {w0 w w' : World} {t u K : Nat} {T U : Ts}
theorem L2.swap (h : L2 N w0 w t T u U K) : L2 N w0 w u U t T K := by
  obtain ⟨A, O, A', O', h1, h2, h3, h4, h5⟩ := h.ex
  refine ⟨⟨A', O', A, O, h2, h1, h4, h3, fun k hk => ?_⟩, h.tab, h.pos, h.bel, h.le⟩
  cases e : O k with
  | none => rfl
  | some z => have := h5 k (by rw [e]; rfl); rw [this] at hk; cases hk
theorem L2.fst (h : L2 N w0 w t T u U K) : Lw N w0 w t T K := by
  obtain ⟨A, O, A', O', h1, h2, h3, h4, h5⟩ := h.ex
  exact ⟨⟨A, O, h1, h3⟩, h.tab, h.pos, h.bel, h.le⟩
theorem L2.kept (h : L2 N w0 w t T u U K) (hb : Below w.heap.size w w') : L2 N w0 w' t T u U K := by
  obtain ⟨A, O, A', O', h1, h2, h3, h4, h5⟩ := h.ex
  exact ⟨⟨A, O, A', O', h1.below hb, h2.below hb, h3, h4, h5⟩, tab_below h.tab hb, h.pos, h.bel.trans (hb.mono h.le), Nat.le_trans h.le hb.size⟩
/-- An act on the one, the other stays. -/
theorem L2.do_ (h : L2 N w0 w t T u U K) (hK : K ≤ 60000) (o : Ac) (dv : Value) (hd : Bs w dv o.d) (hB : IsB o.d) (hdt : ∀ a n c, dv = .slice (some a) n c → 0 < n → ¬ a.block = t) (hp : o.p.size ≤ 3000) (hq : o.q.size ≤ 3000) {c : Int} {T' : Ts} (hr : doR T o = (c, T')) :
    Calls Tryz.prog 9 #[ptr t, .agg #[.int .i64 o.k, .string o.p, .string o.q, dv, .int .i64 o.n]] w fun e w' => e = .returned (.int .i64 c) ∧ L2 N w0 w' t T' u U (K + 2) ∧ Chg (fun b => N ≤ b ∧ b < w.heap.size) w w' := by
  obtain ⟨A, O, A', O', h1, h2, h3, h4, h5⟩ := h.ex
  have hO0 : O 0 = none := by
    cases e : O 0 with
    | none => rfl
    | some z => have := h3 0 (by rw [e]; rfl); have := h.pos; omega
  refine (do_any (N := w.heap.size) h1 h.tab hK hO0 o dv hd hB hdt hp hq (Nat.le_refl _)).mono ?_
  rintro e w' ⟨rfl, A3, O3, g1, g2, g3⟩
  rw [hr] at g1
  have g2' : Chg (fun b => N ≤ b ∧ b < w.heap.size) w w' := g2.mono (fun b _ hb => ⟨h3 b hb, by assumption⟩)
  have k2 : Tr w' u U.F A' O' U.bl U.ino K := h2.kept g2 (fun b x hb hO => by rw [h5 b hO] at hb; cases hb)
  refine ⟨by rw [hr], ⟨⟨A3, O3, A', O', g1, k2.more (by omega), fun k hk => (g3 k hk).elim (h3 k) (fun h6 => Nat.le_trans h.le h6), h4, fun k hk => ?_⟩, fun j hj => g2'.cell (h.tab j hj) (fun e => ?_), h.pos, h.bel.trans (g2'.below h.le (fun k hk => hk.1)), Nat.le_trans h.le g2.size⟩, g2'⟩
  · rcases g3 k hk with h6 | h6
    · exact h5 k h6
    · cases e : O' k with
      | none => rfl
      | some z => have := h2.lt k z e; omega
  · have h0 : N ≤ 0 := e.1
    have := h.pos
    omega
theorem L2.donil (h : L2 N w0 w t T u U K) (hK : K ≤ 60000) (k : Int) (p q : ByteArray) (hp : p.size ≤ 3000) (hq : q.size ≤ 3000) {c : Int} {T' : Ts} (hr : doR T ⟨k, p, q, [], 0⟩ = (c, T')) :
    Calls Tryz.prog 9 #[ptr t, .agg #[.int .i64 k, .string p, .string q, .slice none 0 0, .int .i64 0]] w fun e w' => e = .returned (.int .i64 c) ∧ L2 N w0 w' t T' u U (K + 2) ∧ Chg (fun b => N ≤ b ∧ b < w.heap.size) w w' :=
  h.do_ hK ⟨k, p, q, [], 0⟩ (.slice none 0 0) (.inl ⟨rfl, rfl⟩) (fun _ h => by cases h) (fun a n c e _ => by cases e) hp hq hr
theorem L2.same (h : L2 N w0 w t T u U K) (hK : K ≤ 900000) : Calls Tryz.prog 16 #[ptr t, ptr u] w fun e w' => e = .returned (.bool (eqB T.F U.F [] [])) ∧ Below w.heap.size w w' := by
  obtain ⟨A, O, A', O', h1, h2, h3, h4, h5⟩ := h.ex
  exact Same_any hK hK w h1 h2
theorem Lw.twin (h : Lw N w0 w t T K) (hK : K ≤ 900000) : Calls Tryz.prog 14 #[ptr t] w fun e w' => ∃ u, e = .returned (ptr u) ∧ L2 N w0 w' t T u T K ∧ Below w.heap.size w w' := by
  obtain ⟨A, O, h1, h2⟩ := h.ex
  refine (Twin_any hK w h1).mono ?_
  rintro e w' ⟨u, A2, O2, rfl, g1, g2, B⟩
  refine ⟨u, rfl, ⟨⟨A, O, A2, O2, h1.below B, g1, h2, fun k hk => Nat.le_trans h.le (g2 k hk), fun k hk => ?_⟩, tab_below h.tab B, h.pos, h.bel.trans (B.mono h.le), Nat.le_trans h.le B.size⟩, B⟩
  cases e : O2 k with
  | none => rfl
  | some z =>
    obtain ⟨y, hy⟩ := Option.isSome_iff_exists.1 hk
    have := h1.lt k y hy
    have := g2 k (by rw [e]; rfl)
    omega
theorem Lw.good (h : Lw N w0 w t T K) : Gd T := by
  obtain ⟨A, O, h1, h2⟩ := h.ex
  exact h1.good
theorem eqB_refl (F : Pth → Option Nd) : eqB F F [] [] = true := eqB_iff.2 (EqT.refl _)
theorem eqB_root {F G : Pth → Option Nd} : eqB F G [] [] = true ↔ EqT F G := by
  rw [eqB_iff]
  have e : ∀ H : Pth → Option Nd, subF H [] = H := fun H => by funext q; simp [subF]
  rw [e, e]
end
end Go.Proofs.YtlnjnimenihhnaaGreatDoor

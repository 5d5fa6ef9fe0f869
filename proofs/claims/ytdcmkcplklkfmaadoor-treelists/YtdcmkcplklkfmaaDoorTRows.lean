/-
  How many things a tree has, how deep they lie; Walk's rows are all of them.
-/
import Derived.Test.YtdcmkcplklkfmaaDoorTWalk
namespace Go.Proofs.YtdcmkcplklkfmaaDoor
open Go.RowKit Go.Maps Go.Sort

theorem filt_len {α : Type} [DecidableEq α] : ∀ (L : List α) (x : α), L.Nodup → x ∈ L → (L.filter fun y => !decide (y = x)).length + 1 = L.length
  | [], _, _, h => by cases h
  | y :: r, x, hn, h => by
    have hn2 := List.nodup_cons.1 hn
    by_cases e : y = x
    · subst e
      have : r.filter (fun z => !decide (z = y)) = r := List.filter_eq_self.2 (fun z hz => by
        have hz2 : ¬ z = y := fun e2 => hn2.1 (by rw [← e2]; exact hz)
        simpa using hz2)
      rw [List.filter_cons_of_neg (by simp), this]
      simp
    · rw [List.filter_cons_of_pos (by simpa using e)]
      have := filt_len r x hn2.2 ((List.mem_cons.1 h).resolve_left (fun e2 => e e2.symm))
      simp only [List.length_cons]
      omega
theorem nodup_le {α : Type} [DecidableEq α] : ∀ (D L : List α), D.Nodup → L.Nodup → (∀ x ∈ D, x ∈ L) → D.length ≤ L.length
  | [], _, _, _, _ => Nat.zero_le _
  | x :: D, L, hD, hL, h => by
    have h1 := nodup_le D (L.filter fun y => !decide (y = x)) (List.nodup_cons.1 hD).2 (List.Pairwise.filter _ hL) (fun y hy => by
      refine List.mem_filter.2 ⟨h y (List.mem_cons_of_mem _ hy), ?_⟩
      have hz : ¬ y = x := fun e => (List.nodup_cons.1 hD).1 (e ▸ hy)
      simpa using hz)
    have h2 := filt_len L x hL (h x List.mem_cons_self)
    simp only [List.length_cons]
    omega
/-- As many things as inodes are taken; none deeper than M. -/
structure Cn (T : Ts) (n : Int) (M : Nat) : Prop where
  ex : ∃ L : List Pth, L.Nodup ∧ (∀ p, p ∈ L ↔ (¬ p = [] ∧ (T.F p).isSome = true)) ∧ T.ino + L.length = n
  dp : ∀ p : Pth, (T.F p).isSome = true → p.length ≤ M
theorem Cn.more {T : Ts} {n : Int} {M M' : Nat} (h : Cn T n M) (hM : M ≤ M') : Cn T n M' := ⟨h.ex, fun p hp => Nat.le_trans (h.dp p hp) hM⟩
theorem Cn.same {T T' : Ts} {n : Int} {M : Nat} (h : Cn T n M) (hF : ∀ p, (T'.F p).isSome = (T.F p).isSome) (hi : T'.ino = T.ino) : Cn T' n M := by
  obtain ⟨L, h1, h2, h3⟩ := h.ex
  exact ⟨⟨L, h1, fun p => by rw [hF]; exact h2 p, by rw [hi]; exact h3⟩, fun p hp => h.dp p (by rw [← hF]; exact hp)⟩
theorem Cn.add {T T' : Ts} {n : Int} {M : Nat} {ns : Pth} (h : Cn T n M) (h0 : ¬ ns = []) (hn : T.F ns = none) (hM : ns.length ≤ M) (hF : ∀ p, (T'.F p).isSome = (decide (p = ns) || (T.F p).isSome)) (hi : T'.ino = T.ino - 1) : Cn T' n M := by
  obtain ⟨L, h1, h2, h3⟩ := h.ex
  refine ⟨⟨ns :: L, List.nodup_cons.2 ⟨fun hm => ?_, h1⟩, fun p => ?_, ?_⟩, fun p hp => ?_⟩
  · have := ((h2 ns).1 hm).2
    rw [hn] at this; cases this
  · rw [List.mem_cons, h2, hF]
    by_cases e : p = ns
    · subst e; simp [h0]
    · simp [e]
  · rw [hi]; simp only [List.length_cons]; omega
  · rw [hF] at hp
    by_cases e : p = ns
    · rw [e]; exact hM
    · simp [e] at hp; exact h.dp p hp
theorem Cn.gone {T T' : Ts} {n : Int} {M : Nat} {ns : Pth} (h : Cn T n M) (h0 : ¬ ns = []) (hn : (T.F ns).isSome = true) (hF : ∀ p, (T'.F p).isSome = (!decide (p = ns) && (T.F p).isSome)) (hi : T'.ino = T.ino + 1) : Cn T' n M := by
  obtain ⟨L, h1, h2, h3⟩ := h.ex
  have hm : ns ∈ L := (h2 ns).2 ⟨h0, hn⟩
  have hl := filt_len L ns h1 hm
  refine ⟨⟨L.filter fun y => !decide (y = ns), List.Pairwise.filter _ h1, fun p => ?_, by rw [hi]; omega⟩, fun p hp => ?_⟩
  · rw [List.mem_filter, h2, hF]
    by_cases e : p = ns
    · subst e; simp
    · simp [e]
  · rw [hF] at hp
    exact h.dp p (by simp at hp; simp [hp.2])
theorem Cn.graft {T T' : Ts} {n : Int} {M : Nat} {f g : Pth} (h : Cn T n M) (hf0 : ¬ f = []) (hg0 : ¬ g = []) (hng : ∀ q, (T.F q).isSome = true → ¬ Un g q) (_hfg : ¬ Un f g) (hg8 : g.length ≤ 8) (F' : Pth → Option Nd) (hF' : ∀ p, (F' p).isSome = (T.F p).isSome) (hF : T'.F = graft F' f g) (hi : T'.ino = T.ino) : Cn T' n (M + 8) := by
  obtain ⟨L, h1, h2, h3⟩ := h.ex
  have hat : ∀ r, (T'.F (g ++ r)).isSome = (T.F (f ++ r)).isSome := fun r => by rw [hF, graft_at, hF']
  have hel : ∀ q, ¬ Un g q → ¬ Un f q → (T'.F q).isSome = (T.F q).isSome := fun q a b => by rw [hF, graft_else F' a b, hF']
  have hno : ∀ q, ¬ Un g q → Un f q → T'.F q = none := fun q a b => by rw [hF, graft_none F' a b]
  let φ : Pth → Pth := fun q => if Un f q then g ++ q.drop f.length else q
  have φf : ∀ r, φ (f ++ r) = g ++ r := fun r => by show (if Un f (f ++ r) then _ else _) = _; rw [if_pos (un_app f r)]; simp
  have φe : ∀ q, ¬ Un f q → φ q = q := fun q a => if_neg a
  have hLg : ∀ q ∈ L, ¬ Un g q := fun q hq => hng q ((h2 q).1 hq).2
  refine ⟨⟨L.map φ, ?_, fun p => ?_, by rw [hi, List.length_map]; exact h3⟩, fun p hp => ?_⟩
  · refine List.Pairwise.map _ (R := fun a b => a ∈ L ∧ b ∈ L ∧ ¬ a = b) ?_ (h1.imp_of_mem (fun ha hb hab => ⟨ha, hb, hab⟩))
    rintro a b ⟨ha, hb, hab⟩ e
    by_cases ua : Un f a
    · obtain ⟨ra, rfl⟩ := un_iff.1 ua
      rw [φf] at e
      by_cases ub : Un f b
      · obtain ⟨rb, rfl⟩ := un_iff.1 ub
        rw [φf] at e
        exact hab (by rw [List.append_cancel_left e])
      · rw [φe b ub] at e
        exact hLg b hb (by rw [← e]; exact un_app g ra)
    · rw [φe a ua] at e
      by_cases ub : Un f b
      · obtain ⟨rb, rfl⟩ := un_iff.1 ub
        rw [φf] at e
        exact hLg a ha (by rw [e]; exact un_app g rb)
      · rw [φe b ub] at e
        exact hab e
  · rw [List.mem_map]
    constructor
    · rintro ⟨q, hq, rfl⟩
      obtain ⟨q0, q1⟩ := (h2 q).1 hq
      by_cases u : Un f q
      · obtain ⟨r, rfl⟩ := un_iff.1 u
        rw [φf, hat]
        exact ⟨by simp [hg0], q1⟩
      · rw [φe q u, hel q (hLg q hq) u]
        exact ⟨q0, q1⟩
    · rintro ⟨p0, p1⟩
      by_cases ug : Un g p
      · obtain ⟨r, rfl⟩ := un_iff.1 ug
        rw [hat] at p1
        exact ⟨f ++ r, (h2 _).2 ⟨by simp [hf0], p1⟩, φf r⟩
      · by_cases uf : Un f p
        · rw [hno p ug uf] at p1; cases p1
        · rw [hel p ug uf] at p1
          exact ⟨p, (h2 p).2 ⟨p0, p1⟩, φe p uf⟩
  · by_cases ug : Un g p
    · obtain ⟨r, rfl⟩ := un_iff.1 ug
      rw [hat] at hp
      have := h.dp _ hp
      simp at this ⊢
      omega
    · by_cases uf : Un f p
      · rw [hno p ug uf] at hp; cases hp
      · rw [hel p ug uf] at hp
        have := h.dp p hp
        omega
theorem setN_some {F : Pth → Option Nd} {p : Pth} {nd nd' : Nd} (h : F p = some nd) (q : Pth) : (setN F p (some nd') q).isSome = (F q).isSome := by
  by_cases e : q = p
  · rw [e, setN_same, h]; rfl
  · rw [setN_other _ _ e]
theorem Cn.mov {T : Ts} {n : Int} {M : Nat} {f g : Pth} (h : Cn T n M) (hf0 : ¬ f = []) (hg0 : ¬ g = []) (hng : ∀ q, (T.F q).isSome = true → ¬ Un g q) (hfg : ¬ Un f g) (hg8 : g.length ≤ 8) : Cn (movR T f g).2 n (M + 8) := by
  unfold movR
  split
  · rename_i sf kf sg kg e1 e2
    split
    · exact h.graft hf0 hg0 hng hfg hg8 _ (setN_some e2) rfl rfl
    · rename_i hne
      split
      · exact h.more (by omega)
      · refine h.graft hf0 hg0 hng hfg hg8 _ (fun p => ?_) rfl rfl
        rw [setN_some (nd := .dir sg kg) (by rw [setN_other _ _ (fun e => hne e.symm)]; exact e2), setN_some e1]
  · exact h.more (by omega)
theorem Cn.goneT {T : Ts} {n : Int} {M : Nat} {ns : Pth} (h : Cn T n M) (h0 : ¬ ns = []) {nd : Nd} (hn : T.F ns = some nd) {s : Nat} {kn : List ByteArray} (hd : T.F ns.dropLast = some (.dir s kn)) : Cn (goneT T ns) n M ∧ ∀ p, ((Go.Proofs.YtdcmkcplklkfmaaDoor.goneT T ns).F p).isSome = (!decide (p = ns) && (T.F p).isSome) := by
  have e : Go.Proofs.YtdcmkcplklkfmaaDoor.goneT T ns = ⟨setN (setN T.F ns.dropLast (some (.dir s (dele kn (lastN ns))))) ns none, T.bl + nd.blk, T.ino + 1⟩ := by
    unfold Go.Proofs.YtdcmkcplklkfmaaDoor.goneT; rw [hn, hd]
  have hF : ∀ p, ((Go.Proofs.YtdcmkcplklkfmaaDoor.goneT T ns).F p).isSome = (!decide (p = ns) && (T.F p).isSome) := fun p => by
    rw [e]
    show (setN _ ns none p).isSome = _
    by_cases e2 : p = ns
    · rw [e2, setN_same]; simp
    · rw [setN_other _ _ e2, setN_some hd]; simp [e2]
  exact ⟨h.gone h0 (by rw [hn]; rfl) hF (by rw [e]), hF⟩
theorem drop_dir {T : Ts} (hG : Gd T) {p : Pth} (h0 : ¬ p = []) (hp : (T.F p).isSome = true) : ∃ s kn, T.F p.dropLast = some (.dir s kn) := by
  rw [pth_split h0] at hp
  obtain ⟨s, kn, h, _⟩ := hG.up _ _ hp
  exact ⟨s, kn, h⟩
theorem Cn.ren {T : Ts} {n : Int} {M : Nat} (hG : Gd T) (h : Cn T n M) (a b : ByteArray) : Cn (renR T a b).2 n (M + 8) := by
  have hs : Cn T n (M + 8) := h.more (by omega)
  unfold renR
  split
  · exact hs
  split
  · exact hs
  rename_i h2
  split
  · exact hs
  split
  · exact hs
  rename_i h4
  split
  · exact hs
  rename_i h5
  have f0 : ¬ spN a = [] := fun e => h5 (.inl e)
  have g0 : ¬ spN b = [] := fun e => h5 (.inr e)
  have g8 : (spN b).length ≤ 8 := (spN_all (by simpa using h2)).2
  split
  · exact hs
  split
  · exact hs
  split
  · exact hs
  rename_i h8
  split
  · rename_i h10
    obtain ⟨ng, hng⟩ := Option.isSome_iff_exists.1 h10
    obtain ⟨s, kn, hd⟩ := drop_dir hG g0 h10
    have GO : (∀ nm, ¬ ng.has nm) → Cn (movR (Go.Proofs.YtdcmkcplklkfmaaDoor.goneT T (spN b)) (spN a) (spN b)).2 n (M + 8) := fun hl => by
      obtain ⟨c1, c2⟩ := h.goneT g0 hng hd
      refine c1.mov f0 g0 (fun q hq hu => ?_) h8 g8
      rw [c2] at hq
      simp at hq
      obtain ⟨r, rfl⟩ := un_iff.1 hu
      cases r with
      | nil => exact hq.1 (by simp)
      | cons x r =>
        have e1 : spN b ++ x :: r = (spN b ++ [x]) ++ r := by simp
        have h9 := hG.pre (spN b ++ [x]) _ r rfl (by rw [← e1]; simp [hq.2])
        obtain ⟨s', k', h11, h12⟩ := hG.up _ _ h9
        rw [hng] at h11; cases h11
        exact hl x h12
    unfold repR
    split
    · exact hs
    · exact hs
    · rename_i e1 e2
      split
      · rename_i hk
        rw [hng] at e2; cases e2
        exact GO (fun nm hm => by subst hk; cases hm)
      · exact hs
    · rename_i e1 e2
      rw [hng] at e2; cases e2
      exact GO (fun nm hm => hm)
    · exact hs
  · rename_i h10
    exact h.mov f0 g0 (fun q hq hu => h10 (hG.un hu hq)) h8 g8
theorem Cn.addR {T : Ts} {n : Int} {M : Nat} (h : Cn T n M) (ns : Pth) (nd0 : Nd) (h0 : ∃ s k, T.F [] = some (.dir s k)) (h8 : ns.length ≤ 8) : Cn (addR T ns nd0).2 n (M + 8) := by
  have hs : Cn T n (M + 8) := h.more (by omega)
  unfold Go.Proofs.YtdcmkcplklkfmaaDoor.addR
  split
  · exact hs
  · rename_i e1 e2
    split
    · exact hs
    · have hne : ¬ ns = [] := fun e => by obtain ⟨s, k, h0⟩ := h0; rw [e, h0] at e1; cases e1
      refine hs.add hne e1 (by omega) (fun p => ?_) rfl
      show (setN _ ns (some nd0) p).isSome = _
      by_cases e : p = ns
      · rw [e, setN_same]; simp
      · rw [setN_other _ _ e, setN_some e2]; simp [e]
  · exact hs
theorem Cn.do_ {T : Ts} {n : Int} {M : Nat} (hG : Gd T) (h : Cn T n M) (o : Ac) : Cn (doR T o).2 n (M + 8) := by
  have hs : Cn T n (M + 8) := h.more (by omega)
  unfold doR
  split
  · exact hs
  split
  · exact h.ren hG _ _
  split
  · exact hs
  rename_i hfi
  have h8 : (spN o.p).length ≤ 8 := by
    refine (spN_all ?_).2
    unfold fiE at hfi
    by_cases e : spE o.p = 0
    · exact e
    · rw [if_neg e] at hfi; exact absurd e hfi
  have hgo : ∀ nd, T.F (spN o.p) = some nd → ¬ spN o.p = [] → Cn (Go.Proofs.YtdcmkcplklkfmaaDoor.goneT T (spN o.p)) n (M + 8) := fun nd hnd h0 => by
    obtain ⟨s, kn, hd⟩ := drop_dir hG h0 (by rw [hnd]; rfl)
    exact ((h.goneT h0 hnd hd).1).more (by omega)
  split
  · exact h.addR _ _ hG.rdir h8
  split
  · exact h.addR _ _ hG.rdir h8
  split
  · unfold extR
    split
    · exact hs
    · exact hs
    · rename_i e1
      split
      · exact hs
      · split
        · exact hs
        · exact hs.same (setN_some e1) rfl
  split
  · unfold cutR
    split
    · exact hs
    · exact hs
    · rename_i e1
      split
      · exact hs.same (setN_some e1) rfl
      · exact hs
  split
  · unfold unlR
    split
    · exact hs
    · exact hs
    · rename_i e1
      refine hgo _ e1 (fun e => ?_)
      obtain ⟨s, k, h0⟩ := hG.rdir
      rw [e, h0] at e1; cases e1
  · unfold rmdR
    split
    · exact hs
    · exact hs
    · rename_i e1
      split
      · exact hs
      · rename_i hb
        exact hgo _ e1 (fun e => hb (.inl e))
theorem Cn.start (b i : Int) : Cn (tr0 b i) i 0 := by
  have hF : ∀ p : Pth, ((tr0 b i).F p).isSome = true → p = [] := fun p hp => by
    by_cases e : p = []
    · exact e
    · simp [tr0, e] at hp
  refine ⟨⟨[], List.nodup_nil, fun p => ?_, by simp [tr0]⟩, fun p hp => by rw [hF p hp]; exact Nat.le_refl _⟩
  constructor
  · intro h; cases h
  · rintro ⟨h1, h2⟩; exact absurd (hF p h2) h1
end Go.Proofs.YtdcmkcplklkfmaaDoor

namespace Go.Proofs.YtdcmkcplklkfmaaDoor
open Go.RowKit Go.Maps Go.Sort

theorem nodup_fm {α β : Type} (f : α → List β) : ∀ l : List α, l.Nodup → (∀ x ∈ l, (f x).Nodup) → (∀ a b, ¬ a = b → ∀ q, q ∈ f a → q ∈ f b → False) → (l.flatMap f).Nodup
  | [], _, _, _ => List.nodup_nil
  | x :: l, hl, hf, hd => by
    have hl2 := List.nodup_cons.1 hl
    rw [List.flatMap_cons]
    refine List.pairwise_append.2 ⟨hf x List.mem_cons_self, nodup_fm f l hl2.2 (fun y hy => hf y (List.mem_cons_of_mem _ hy)) hd, fun a ha b hb e => ?_⟩
    obtain ⟨y, hy, hb⟩ := List.mem_flatMap.1 hb
    subst e
    exact hd x y (fun e => hl2.1 (e ▸ hy)) a ha hb
theorem nmL_mem' {kn : List ByteArray} {x : ByteArray} (h : x ∈ kn) : x.data.toList ∈ nmL kn := by
  unfold nmL
  exact (List.mergeSort_perm _ _).mem_iff.2 (List.mem_map.2 ⟨x, h, rfl⟩)
theorem nmL_nodup {kn : List ByteArray} (h : kn.Nodup) : (nmL kn).Nodup := by
  unfold nmL
  refine (List.mergeSort_perm _ _).nodup_iff.2 ?_
  exact List.Pairwise.map _ (fun a b hab e => hab (toList_inj e)) h
def txt (at' : ByteArray) (r : Pth) : ByteArray := r.foldl (fun a x => a ++ ⟨#[47]⟩ ++ x) at'
theorem txt_list : ∀ (r : Pth) (at' : ByteArray), (txt at' r).data.toList = at'.data.toList ++ r.flatMap (fun x => 47 :: x.data.toList)
  | [], at' => by simp [txt]
  | x :: r, at' => by
    have := txt_list r (at' ++ ⟨#[47]⟩ ++ x)
    unfold txt at this ⊢
    rw [List.foldl_cons, this]
    simp
theorem no47 {x : ByteArray} (h : nameB x = true) : ∀ c ∈ x.data.toList, ¬ c = 47 := fun c hc e => by
  have := List.all_eq_true.1 (nameB_parts h).2.2.2.2 c hc
  subst e
  exact absurd this (by decide)
theorem cut47 : ∀ (a b c d : List UInt8), (∀ x ∈ a, ¬ x = 47) → (∀ x ∈ b, ¬ x = 47) → (c = [] ∨ ∃ c', c = 47 :: c') → (d = [] ∨ ∃ d', d = 47 :: d') → a ++ c = b ++ d → a = b ∧ c = d
  | [], [], _, _, _, _, _, _, h => ⟨rfl, h⟩
  | [], y :: b, c, d, _, hb, hc, _, h => by
    rcases hc with rfl | ⟨c', rfl⟩
    · cases h
    · injection h with h1 h2
      exact absurd h1.symm (hb y List.mem_cons_self)
  | x :: a, [], c, d, ha, _, _, hd, h => by
    rcases hd with rfl | ⟨d', rfl⟩
    · cases h
    · injection h with h1 h2
      exact absurd h1 (ha x List.mem_cons_self)
  | x :: a, y :: b, c, d, ha, hb, hc, hd, h => by
    injection h with h1 h2
    obtain ⟨h3, h4⟩ := cut47 a b c d (fun z hz => ha z (List.mem_cons_of_mem _ hz)) (fun z hz => hb z (List.mem_cons_of_mem _ hz)) hc hd h2
    exact ⟨by rw [h1, h3], h4⟩
theorem fm47 (r : Pth) : (r.flatMap fun x => (47 : UInt8) :: x.data.toList) = [] ∨ ∃ c', (r.flatMap fun x => (47 : UInt8) :: x.data.toList) = 47 :: c' := by
  cases r with
  | nil => exact .inl rfl
  | cons x r => exact .inr ⟨_, by rw [List.flatMap_cons, List.cons_append]⟩
theorem fm_inj : ∀ (r s : Pth), (∀ x ∈ r, nameB x = true) → (∀ x ∈ s, nameB x = true) → (r.flatMap fun x => (47 : UInt8) :: x.data.toList) = (s.flatMap fun x => 47 :: x.data.toList) → r = s
  | [], [], _, _, _ => rfl
  | [], y :: s, _, _, h => by rw [List.flatMap_cons, List.cons_append] at h; cases h
  | x :: r, [], _, _, h => by rw [List.flatMap_cons, List.cons_append] at h; cases h
  | x :: r, y :: s, hr, hs, h => by
    rw [List.flatMap_cons, List.flatMap_cons, List.cons_append, List.cons_append] at h
    injection h with _ h
    obtain ⟨h1, h2⟩ := cut47 _ _ _ _ (no47 (hr x List.mem_cons_self)) (no47 (hs y List.mem_cons_self)) (fm47 r) (fm47 s) h
    rw [toList_inj h1, fm_inj r s (fun z hz => hr z (List.mem_cons_of_mem _ hz)) (fun z hz => hs z (List.mem_cons_of_mem _ hz)) h2]
theorem txt_inj {r s : Pth} (hr : ∀ x ∈ r, nameB x = true) (hs : ∀ x ∈ s, nameB x = true) (h : txt ⟨#[]⟩ r = txt ⟨#[]⟩ s) : r = s := by
  have := congrArg (fun b : ByteArray => b.data.toList) h
  simp only [txt_list] at this
  exact fm_inj r s hr hs (by simpa using this)
section
variable {T : Ts}
theorem rows_path (hG : Gd T) : ∀ (d : Nat) (p : Pth) (at' : ByteArray) (y : ByteArray × Pth), y ∈ rowsP T.F d p at' → ∃ x r, y.2 = p ++ x :: r ∧ y.1 = txt at' (x :: r) ∧ (∀ z ∈ x :: r, nameB z = true) ∧ (T.F y.2).isSome = true
  | 0, _, _, _, h => by cases h
  | d + 1, p, at', y, h => by
    rw [rowsP_succ] at h
    obtain ⟨x, hx, hy⟩ := List.mem_flatMap.1 h
    obtain ⟨s, kn, e, hxk⟩ : ∃ s kn, T.F p = some (.dir s kn) ∧ nmX x ∈ kn := by
      unfold nmOf at hx
      cases e : T.F p with
      | none => rw [e] at hx; cases hx
      | some nd =>
        cases nd with
        | file bs => rw [e] at hx; cases hx
        | dir s kn => rw [e] at hx; exact ⟨s, kn, rfl, nmL_mem hx⟩
    have hn := (hG.nms p s kn e).2.1 _ hxk
    rcases List.mem_cons.1 hy with rfl | hy
    · exact ⟨nmX x, [], rfl, rfl, fun z hz => by rw [List.mem_singleton.1 hz]; exact hn, hG.dn p s kn _ e hxk⟩
    · obtain ⟨x2, r, h1, h2, h3, h4⟩ := rows_path hG d _ _ y hy
      refine ⟨nmX x, x2 :: r, by rw [h1]; simp, by rw [h2]; rfl, fun z hz => ?_, h4⟩
      rcases List.mem_cons.1 hz with rfl | hz
      · exact hn
      · exact h3 z hz
theorem rows_all (hG : Gd T) : ∀ (d : Nat) (p : Pth) (at' : ByteArray) (x : ByteArray) (r : Pth), (T.F (p ++ x :: r)).isSome = true → r.length + 1 ≤ d → ∃ y ∈ rowsP T.F d p at', y.2 = p ++ x :: r
  | 0, _, _, _, _, _, h => by omega
  | d + 1, p, at', x, r, hs, hl => by
    have e1 : p ++ x :: r = (p ++ [x]) ++ r := by simp
    have hx : (T.F (p ++ [x])).isSome = true := hG.pre (p ++ [x]) _ r rfl (by rw [← e1]; exact hs)
    obtain ⟨s, kn, h1, h2⟩ := hG.up p x hx
    have hm : x.data.toList ∈ nmOf T.F p := by unfold nmOf; rw [h1]; exact nmL_mem' h2
    rw [rowsP_succ]
    cases r with
    | nil => exact ⟨_, List.mem_flatMap.2 ⟨_, hm, List.mem_cons_self⟩, rfl⟩
    | cons x2 r =>
      obtain ⟨y, hy, e⟩ := rows_all hG d (p ++ [nmX x.data.toList]) (joinT at' x.data.toList) x2 r (by rw [e1] at hs; exact hs) (by simp at hl; omega)
      exact ⟨y, List.mem_flatMap.2 ⟨_, hm, List.mem_cons_of_mem _ hy⟩, by rw [e, e1]⟩
theorem rows_nodup (hG : Gd T) : ∀ (d : Nat) (p : Pth) (at' : ByteArray), ((rowsP T.F d p at').map Prod.snd).Nodup
  | 0, _, _ => List.nodup_nil
  | d + 1, p, at' => by
    rw [rowsP_succ, List.map_flatMap]
    have hnd : (nmOf T.F p).Nodup := by
      unfold nmOf
      split
      · rename_i s kn e; exact nmL_nodup (hG.nms _ _ _ e).1
      · exact List.nodup_nil
    have pre : ∀ x q, q ∈ ((joinT at' x, p ++ [nmX x]) :: rowsP T.F d (p ++ [nmX x]) (joinT at' x)).map Prod.snd → ∃ r, q = p ++ nmX x :: r := fun x q hq => by
      rw [List.map_cons] at hq
      rcases List.mem_cons.1 hq with rfl | hq
      · exact ⟨[], rfl⟩
      · obtain ⟨y, hy, rfl⟩ := List.mem_map.1 hq
        obtain ⟨x2, r, h1, _⟩ := rows_path hG d _ _ y hy
        exact ⟨x2 :: r, by rw [h1]; simp⟩
    refine nodup_fm _ _ hnd (fun x _ => ?_) ?_
    · rw [List.map_cons]
      refine List.nodup_cons.2 ⟨fun h => ?_, rows_nodup hG d _ _⟩
      obtain ⟨y, hy, e⟩ := List.mem_map.1 h
      obtain ⟨x2, r, h1, _⟩ := rows_path hG d _ _ y hy
      rw [e] at h1
      have := congrArg List.length h1
      simp at this
    · intro a b hab q hqa hqb
      obtain ⟨r1, e1⟩ := pre a q hqa
      obtain ⟨r2, e2⟩ := pre b q hqb
      rw [e1] at e2
      have := List.append_cancel_left e2
      injection this with h1 _
      exact hab (by injection h1 with h2; injection h2)
theorem rows_count (hG : Gd T) {n : Int} {M : Nat} (h : Cn T n M) {d : Nat} (hd : M ≤ d) : T.ino + (rowsP T.F d [] ⟨#[]⟩).length = n := by
  obtain ⟨L, h1, h2, h3⟩ := h.ex
  have hr := rows_nodup hG d [] ⟨#[]⟩
  have e1 := nodup_le _ L hr h1 (fun q hq => by
    obtain ⟨y, hy, rfl⟩ := List.mem_map.1 hq
    obtain ⟨x, r, a1, _, _, a4⟩ := rows_path hG d _ _ y hy
    exact (h2 _).2 ⟨by rw [a1]; simp, a4⟩)
  have e2 := nodup_le L _ h1 hr (fun q hq => by
    obtain ⟨q0, q1⟩ := (h2 q).1 hq
    cases q with
    | nil => exact absurd rfl q0
    | cons x r =>
      have := h.dp _ q1
      obtain ⟨y, hy, e⟩ := rows_all hG d [] ⟨#[]⟩ x r q1 (by simp at this; omega)
      exact List.mem_map.2 ⟨y, hy, e⟩)
  rw [List.length_map] at e1 e2
  omega
theorem rows_first (hG : Gd T) {d : Nat} {y : ByteArray × Pth} (hy : y ∈ rowsP T.F d [] ⟨#[]⟩) : ¬ y.1 = ⟨#[]⟩ := fun e => by
  obtain ⟨x, r, _, h2, _, _⟩ := rows_path hG d _ _ y hy
  have := congrArg (fun b : ByteArray => b.data.toList) (e.symm.trans h2)
  simp only [txt_list] at this
  rw [List.flatMap_cons] at this
  simp at this
theorem rows_next (hG : Gd T) {d i : Nat} {y z : ByteArray × Pth} (hy : (rowsP T.F d [] ⟨#[]⟩)[i]? = some y) (hz : (rowsP T.F d [] ⟨#[]⟩)[i + 1]? = some z) : ¬ z.1 = y.1 := fun e => by
  obtain ⟨x1, r1, a1, a2, a3, _⟩ := rows_path hG d _ _ y (List.mem_of_getElem? hy)
  obtain ⟨x2, r2, b1, b2, b3, _⟩ := rows_path hG d _ _ z (List.mem_of_getElem? hz)
  rw [a2, b2] at e
  have h1 := txt_inj b3 a3 e
  have h2 : z.2 = y.2 := by rw [a1, b1, h1]
  have hn := rows_nodup hG d [] ⟨#[]⟩
  have h3 : ((rowsP T.F d [] ⟨#[]⟩).map Prod.snd)[i]? = some y.2 := by rw [List.getElem?_map, hy]; rfl
  have h4 : ((rowsP T.F d [] ⟨#[]⟩).map Prod.snd)[i + 1]? = some y.2 := by rw [List.getElem?_map, hz, ← h2]; rfl
  obtain ⟨l3, g3⟩ := List.getElem?_eq_some_iff.1 h3
  obtain ⟨l4, g4⟩ := List.getElem?_eq_some_iff.1 h4
  exact (List.pairwise_iff_getElem.1 hn i (i + 1) l3 l4 (by omega)) (g3.trans g4.symm)
end
end Go.Proofs.YtdcmkcplklkfmaaDoor

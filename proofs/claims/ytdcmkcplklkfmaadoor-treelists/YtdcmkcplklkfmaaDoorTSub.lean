/-
  A node and all that is below it, in blocks of its own; one further kid in a node that is being filled.
-/
import Derived.Test.YtdcmkcplklkfmaaDoorTRng
namespace Go.Proofs.YtdcmkcplklkfmaaDoor
open Go.RowKit Go.Maps

theorem Chg.of_none {w w' : World} (h : w.grownBy w' none) : Chg (fun _ => False) w w' := (Chg.ofGrown h).mono (fun _ _ e => by cases e)
theorem Chg.of_grown {w w' : World} {m : Nat} (h : w.grownBy w' (some m)) : Chg (fun k => k = m) w w' := grown_chg h
/-- A node and what is below it, by paths from it on, in blocks from N on. -/
structure Sb (w : World) (F : Pth → Option Nd) (A : Pth → Nat) (O : Nat → Option (Pth × Nat)) (N : Nat) : Prop where
  lt : ∀ b x, O b = some x → N ≤ b ∧ b < w.heap.size
  own : ∀ p nd, F p = some nd → O (A p) = some (p, 0)
  nd : ∀ p nd, F p = some nd → NdM w A O p nd
  fr : ∀ p nd, F p = some nd → ∀ i, w.frozen? ⟨A p, i, none⟩ = false
section
variable {w w1 w2 w' : World} {F : Pth → Option Nd} {A A2 : Pth → Nat} {O O2 : Nat → Option (Pth × Nat)} {N s m : Nat} {p : Pth} {D : List ByteArray} {x : ByteArray}
theorem Sb.kept {S : Nat → Prop} (h : Sb w F A O N) (hc : Chg S w w') (hS : ∀ b x, O b = some x → ¬ S b) : Sb w' F A O N :=
  ⟨fun b x hb => ⟨(h.lt b x hb).1, Nat.lt_of_lt_of_le (h.lt b x hb).2 hc.size⟩, h.own, fun p nd hp => (h.nd p nd hp).kept hc (h.own p nd hp) (fun b _r hb => hS b _ hb) rfl (fun _ _ => rfl) (fun _ _ h => h), fun p nd hp i => (World.frozen?_of_block (hc.block _ (h.lt _ _ (h.own p nd hp)).2 (hS _ _ (h.own p nd hp)))).trans (h.fr p nd hp i)⟩
theorem Sb.below (h : Sb w F A O N) (hb : Below w.heap.size w w') : Sb w' F A O N := h.kept (Chg.ofBelowC hb) (fun _ _ _ h => h)
theorem Sb.less {N' : Nat} (h : Sb w F A O N) (hN : N' ≤ N) : Sb w F A O N' := ⟨fun b x hb => ⟨Nat.le_trans hN (h.lt b x hb).1, (h.lt b x hb).2⟩, h.own, h.nd, h.fr⟩
def subF (F : Pth → Option Nd) (p : Pth) : Pth → Option Nd := fun q => F (p ++ q)
/-- A directory of which the kids D are there. -/
def partF (F : Pth → Option Nd) (p : Pth) (s : Nat) (D : List ByteArray) : Pth → Option Nd
  | [] => some (.dir s D)
  | x :: r => if inB x D = true then F (p ++ x :: r) else none
def hangA (A A2 : Pth → Nat) (x : ByteArray) : Pth → Nat
  | [] => A []
  | y :: r => if y = x then A2 r else A (y :: r)
def hangO (O O2 : Nat → Option (Pth × Nat)) (n : Nat) (x : ByteArray) : Nat → Option (Pth × Nat) := fun k => if k < n then O k else (O2 k).map fun z => (x :: z.1, z.2)
theorem hangO_lt {n k : Nat} (h : k < n) : hangO O O2 n x k = O k := if_pos h
theorem hangO_ge {n k : Nat} {q : Pth} {r : Nat} (h : n ≤ k) (e : O2 k = some (q, r)) : hangO O O2 n x k = some (x :: q, r) := by
  unfold hangO; rw [if_neg (by omega), e]; rfl
theorem hangA_at (r : Pth) : hangA A A2 x (x :: r) = A2 r := if_pos rfl
theorem hangA_ne {y : ByteArray} (r : Pth) (h : ¬ y = x) : hangA A A2 x (y :: r) = A (y :: r) := if_neg h
theorem Sb.hang (h : Sb w (partF F p s D) A O N) (hx : inB x D = false) (c2 : w.cell? ⟨A [], 2, none⟩ = some (.map (some m))) (hB : Below w.heap.size w w1) (h2 : Sb w1 (subF F (p ++ [x])) A2 O2 w.heap.size)
    (hm : SMap w2 m (D.length + 1) (updB (kidF A [] D) x (some (ptr (A2 []))))) (hc : Chg (fun k => k = m) w1 w2) : Sb w2 (partF F p s (x :: D)) (hangA A A2 x) (hangO O O2 w.heap.size x) N := by
  have hO0 := h.own [] _ rfl
  obtain ⟨d0, d1, ⟨m', d2, d3, d4⟩, d5⟩ := h.nd [] _ rfl
  rw [c2] at d2
  cases d2
  have hA0 := h.lt _ _ hO0
  have hm0 := h.lt _ _ d3
  have hAm : ¬ A [] = m := fun e => by rw [e, d3] at hO0; cases hO0
  have hC1 := Chg.ofBelowC hB
  have hC : Chg (fun k => k = m) w w2 := (hC1.mono (fun _ _ h => h.elim)).trans hc (fun _ _ h => h)
  have hF : ∀ r nd, partF F p s (x :: D) (x :: r) = some nd → subF F (p ++ [x]) r = some nd := fun r nd hp => by
    have e : partF F p s (x :: D) (x :: r) = F (p ++ x :: r) := if_pos (by simp [inB])
    rw [e] at hp
    rw [← hp]; simp [subF]
  have hF2 : ∀ y r nd, ¬ y = x → partF F p s (x :: D) (y :: r) = some nd → partF F p s D (y :: r) = some nd := fun y r nd hy hp => by
    rw [← hp]
    simp [partF, inB, hy]
  refine ⟨fun b z hb => ?_, fun q nd hq => ?_, fun q nd hq => ?_, fun q nd hq i => ?_⟩
  · unfold hangO at hb
    split at hb
    · have := h.lt b _ hb
      exact ⟨this.1, Nat.lt_of_lt_of_le this.2 hC.size⟩
    · obtain ⟨z', hz, _⟩ := Option.map_eq_some_iff.1 hb
      have := h2.lt b _ hz
      exact ⟨by omega, Nat.lt_of_lt_of_le this.2 hc.size⟩
  · match q, hq with
    | [], hq => cases hq; exact (hangO_lt hA0.2).trans hO0
    | y :: r, hq =>
      by_cases e : y = x
      · subst e
        have := h2.own r nd (hF r nd hq)
        rw [hangA_at]
        exact hangO_ge (h2.lt _ _ this).1 this
      · have := h.own _ nd (hF2 y r nd e hq)
        rw [hangA_ne _ e]
        exact (hangO_lt (h.lt _ _ this).2).trans this
  · match q, hq with
    | [], hq =>
      cases hq
      refine ⟨hC.cell d0 hAm, hC.cell d1 hAm, ⟨m, hC.cell c2 hAm, (hangO_lt hm0.2).trans d3, ?_⟩, hC.cell d5 hAm⟩
      refine hm.ext (fun z _ => ?_)
      unfold kidF
      by_cases e : z = x
      · subst e
        rw [updB_same]
        simp [inB, hangA]
      · rw [updB_other _ _ e]
        simp [inB, e, hangA]
    | y :: r, hq =>
      by_cases e : y = x
      · subst e
        have hs := hF r nd hq
        refine (h2.nd r nd hs).kept hc (h2.own r nd hs) (fun b k hb e => ?_) (hangA_at r) (fun nm _ => hangA_at _) (fun b k hb => hangO_ge (h2.lt _ _ hb).1 hb)
        have := (h2.lt _ _ hb).1
        omega
      · have hs := hF2 y r nd e hq
        refine (h.nd _ nd hs).kept hC (h.own _ nd hs) (fun b k hb e => ?_) (hangA_ne r e) (fun nm _ => hangA_ne _ e) (fun b k hb => (hangO_lt (h.lt _ _ hb).2).trans hb)
        rw [e, d3] at hb
        cases hb
  · match q, hq with
    | [], hq =>
      exact (World.frozen?_of_block (hC.block _ hA0.2 hAm)).trans (h.fr _ _ rfl i)
    | y :: r, hq =>
      by_cases e : y = x
      · subst e
        have hs := hF r nd hq
        have hl := (h2.lt _ _ (h2.own r nd hs))
        rw [hangA_at]
        exact (World.frozen?_of_block (hc.block (A2 r) hl.2 (fun e => by omega))).trans (h2.fr _ _ hs i)
      · have hs := hF2 y r nd e hq
        have ho := h.own _ nd hs
        rw [hangA_ne _ e]
        exact (World.frozen?_of_block (hC.block (A (y :: r)) (h.lt _ _ ho).2 (fun e => by rw [e, d3] at ho; cases ho))).trans (h.fr _ _ hs i)

theorem nodup_len : ∀ (D kn : List ByteArray), D.Nodup → kn.Nodup → (∀ x ∈ D, x ∈ kn) → D.length ≤ kn.length
  | [], _, _, _, _ => Nat.zero_le _
  | x :: D, kn, hD, hk, h => by
    have h1 := nodup_len D (dele kn x) (List.nodup_cons.1 hD).2 (dele_nodup x hk) (fun y hy => dele_mem.2 ⟨fun e => (List.nodup_cons.1 hD).1 (e ▸ hy), h y (List.mem_cons_of_mem _ hy)⟩)
    have h2 := dele_len hk (h x (List.mem_cons_self))
    have h3 : 0 < kn.length := List.length_pos_of_mem (h x (List.mem_cons_self))
    simp only [List.length_cons]
    omega
theorem Sb.full {kn : List ByteArray} (h : Sb w (partF F p s D) A O N) (hF : F p = some (.dir s kn)) (hD : D.Nodup) (hk : kn.Nodup) (hm : ∀ x, x ∈ D ↔ x ∈ kn) (hup : ∀ x r, (F (p ++ x :: r)).isSome = true → x ∈ kn) : Sb w (subF F p) A O N := by
  have hlen : D.length = kn.length := Nat.le_antisymm (nodup_len _ _ hD hk (fun x hx => (hm x).1 hx)) (nodup_len _ _ hk hD (fun x hx => (hm x).2 hx))
  have hin : ∀ x, inB x D = inB x kn := fun x => by
    cases e : inB x kn
    · exact inB_not (fun hx => by rw [(inB_iff _ _).2 ((hm x).1 hx)] at e; cases e)
    · exact (inB_iff _ _).2 ((hm x).2 ((inB_iff _ _).1 e))
  have e2 : ∀ x r nd, subF F p (x :: r) = some nd → partF F p s D (x :: r) = some nd := fun x r nd h => by
    have := hup x r (by show (subF F p (x :: r)).isSome = true; rw [h]; rfl)
    rw [← h]
    exact if_pos ((inB_iff _ _).2 ((hm x).2 this))
  have e1 : ∀ nd, subF F p [] = some nd → nd = .dir s kn := fun nd h => by
    have : subF F p [] = F p := by simp [subF]
    rw [this, hF] at h; cases h; rfl
  refine ⟨h.lt, fun q nd hq => ?_, fun q nd hq => ?_, fun q nd hq => ?_⟩
  · match q, hq with
    | [], hq => exact h.own [] _ rfl
    | y :: r, hq => exact h.own _ _ (e2 _ _ _ hq)
  · match q, hq with
    | [], hq =>
      obtain rfl := e1 nd hq
      obtain ⟨d0, d1, ⟨m', d2, d3, d4⟩, d5⟩ := h.nd [] _ rfl
      rw [hlen] at d4
      exact ⟨d0, d1, ⟨m', d2, d3, d4.ext (fun z _ => by unfold kidF; rw [hin])⟩, d5⟩
    | y :: r, hq => exact h.nd _ _ (e2 _ _ _ hq)
  · match q, hq with
    | [], hq => exact h.fr [] _ rfl
    | y :: r, hq => exact h.fr _ _ (e2 _ _ _ hq)
end

/-- No way is longer than memory has blocks. -/
theorem lt_len : ∀ (n : Nat) (l : List Nat), l.Nodup → (∀ x ∈ l, x < n) → l.length ≤ n
  | 0, [], _, _ => Nat.le_refl _
  | 0, x :: _, _, h => absurd (h x List.mem_cons_self) (Nat.not_lt_zero _)
  | n + 1, l, hl, h => by
    have h1 := lt_len n (l.filter (fun y => ¬ y = n)) (List.Pairwise.filter _ hl) (fun x hx => by
      have := List.mem_filter.1 hx
      have h2 := h x this.1
      have h3 : ¬ x = n := by simpa using this.2
      omega)
    have h2 : ∀ l : List Nat, l.Nodup → l.length ≤ (l.filter (fun y => ¬ y = n)).length + 1 := by
      intro l
      induction l with
      | nil => intro _; simp
      | cons y r ih =>
        intro hn
        have hn := List.nodup_cons.1 hn
        by_cases e : y = n
        · subst e
          have : r.filter (fun z => ¬ z = y) = r := List.filter_eq_self.2 (fun z hz => by
            have hz2 : ¬ z = y := fun e2 => hn.1 (by rw [← e2]; exact hz)
            simpa using hz2)
          rw [List.filter_cons_of_neg (by simp), this]
          simp
        · have := ih hn.2
          simp [e]
          simpa using this
    have := h2 l hl
    omega
theorem Tr.depth {w : World} {t : Nat} {F : Pth → Option Nd} {A : Pth → Nat} {O : Nat → Option (Pth × Nat)} {bl ino : Int} {K : Nat} (h : Tr w t F A O bl ino K) {p : Pth} (hp : (F p).isSome = true) : p.length < w.heap.size := by
  have hs : ∀ i, i ≤ p.length → (F (p.take i)).isSome = true := fun i _ => h.pre (p.take i) (p.drop i) (by rw [List.take_append_drop]; exact hp)
  have := lt_len w.heap.size ((List.range (p.length + 1)).map fun i => A (p.take i)) ?_ ?_
  · rw [List.length_map, List.length_range] at this
    omega
  · refine List.Pairwise.map _ (R := fun i j => i < p.length + 1 ∧ j < p.length + 1 ∧ ¬ i = j) ?_ ?_
    · intro i j ⟨hi, hj, hij⟩ e
      obtain ⟨x, hx⟩ := Option.isSome_iff_exists.1 (hs i (by omega))
      obtain ⟨y, hy⟩ := Option.isSome_iff_exists.1 (hs j (by omega))
      have := congrArg List.length (h.inj hx hy e)
      simp at this
      omega
    · refine (List.nodup_range (n := p.length + 1)).imp_of_mem ?_
      intro i j hi hj hij
      exact ⟨List.mem_range.1 hi, List.mem_range.1 hj, hij⟩
  · intro x hx
    obtain ⟨i, hi, rfl⟩ := List.mem_map.1 hx
    obtain ⟨y, hy⟩ := Option.isSome_iff_exists.1 (hs i (by have := List.mem_range.1 hi; omega))
    exact h.lt _ _ (h.own _ _ hy)
end Go.Proofs.YtdcmkcplklkfmaaDoor

/-
  A node and all that is below it, in blocks of its own; one further kid in a node that is being filled.
-/
import Derived.Test.YtlnjnimenihhnaaGreatDoorTFew
import Derived.BigRegion
namespace Go.Proofs.YtlnjnimenihhnaaGreatDoor
open Go.RowKit Go.Maps

theorem Chg.of_none {w w' : World} (h : w.grownBy w' none) : Chg (fun _ => False) w w' := (Chg.ofGrown h).mono (fun _ _ e => by cases e)
theorem Chg.of_grown {w w' : World} {m : Nat} (h : w.grownBy w' (some m)) : Chg (fun k => k = m) w w' := grown_chg h
/-- A node and what is below it, by paths from it on, in blocks from N on. -/
structure Sb (w : World) (F : Pth → Option Nd) (A : Pth → Nat) (O : Nat → Option (Pth × Nat)) (N : Nat) : Prop where
  lt : ∀ b x, O b = some x → N ≤ b ∧ b < w.heap.size
  own : ∀ p nd, F p = some nd → O (A p) = some (p, 0)
  nd : ∀ p nd, F p = some nd → NdM w A O p nd
  fr : ∀ p nd, F p = some nd → ∀ i, w.frozen? ⟨A p, i, none⟩ = false
section
variable {w w1 w2 w' : World} {F : Pth → Option Nd} {A A2 : Pth → Nat} {O O2 : Nat → Option (Pth × Nat)} {N s m : Nat} {p : Pth} {D : List ByteArray} {x : ByteArray}
theorem Sb.kept {S : Nat → Prop} (h : Sb w F A O N) (hc : Chg S w w') (hS : ∀ b x, O b = some x → ¬ S b) : Sb w' F A O N :=
  ⟨fun b x hb => ⟨(h.lt b x hb).1, Nat.lt_of_lt_of_le (h.lt b x hb).2 hc.size⟩, h.own, fun p nd hp => (h.nd p nd hp).kept hc (h.own p nd hp) (fun b _r hb => hS b _ hb) rfl (fun _ _ => rfl) (fun _ _ h => h), fun p nd hp i => (World.frozen?_of_block (hc.block _ (h.lt _ _ (h.own p nd hp)).2 (hS _ _ (h.own p nd hp)))).trans (h.fr p nd hp i)⟩
theorem Sb.below (h : Sb w F A O N) (hb : Below w.heap.size w w') : Sb w' F A O N := h.kept (Chg.ofBelowC hb) (fun _ _ _ h => h)
theorem Sb.less {N' : Nat} (h : Sb w F A O N) (hN : N' ≤ N) : Sb w F A O N' := ⟨fun b x hb => ⟨Nat.le_trans hN (h.lt b x hb).1, (h.lt b x hb).2⟩, h.own, h.nd, h.fr⟩
def subF (F : Pth → Option Nd) (p : Pth) : Pth → Option Nd := fun q => F (p ++ q)
/-- A directory of which the kids D are there. -/
def partF (F : Pth → Option Nd) (p : Pth) (s : Nat) (D : List ByteArray) : Pth → Option Nd
  | [] => some (.dir s D)
  | x :: r => if inB x D = true then F (p ++ x :: r) else none
def hangA (A A2 : Pth → Nat) (x : ByteArray) : Pth → Nat
  | [] => A []
  | y :: r => if y = x then A2 r else A (y :: r)
def hangO (O O2 : Nat → Option (Pth × Nat)) (n : Nat) (x : ByteArray) : Nat → Option (Pth × Nat) := fun k => if k < n then O k else (O2 k).map fun z => (x :: z.1, z.2)
theorem hangO_lt {n k : Nat} (h : k < n) : hangO O O2 n x k = O k := if_pos h
theorem hangO_ge {n k : Nat} {q : Pth} {r : Nat} (h : n ≤ k) (e : O2 k = some (q, r)) : hangO O O2 n x k = some (x :: q, r) := by
  unfold hangO; rw [if_neg (by omega), e]; rfl
theorem hangA_at (r : Pth) : hangA A A2 x (x :: r) = A2 r := if_pos rfl
theorem hangA_ne {y : ByteArray} (r : Pth) (h : ¬ y = x) : hangA A A2 x (y :: r) = A (y :: r) := if_neg h
theorem Sb.hang (h : Sb w (partF F p s D) A O N) (hx : inB x D = false) (c2 : w.cell? ⟨A [], 2, none⟩ = some (.map (some m))) (hB : Below w.heap.size w w1) (h2 : Sb w1 (subF F (p ++ [x])) A2 O2 w.heap.size)
    (hm : SMap w2 m (D.length + 1) (updB (kidF A [] D) x (some (ptr (A2 []))))) (hc : Chg (fun k => k = m) w1 w2) : Sb w2 (partF F p s (x :: D)) (hangA A A2 x) (hangO O O2 w.heap.size x) N := by
  have hO0 := h.own [] _ rfl
  obtain ⟨d0, d1, ⟨m', d2, d3, d4⟩, d5⟩ := h.nd [] _ rfl
  rw [c2] at d2
  cases d2
  have hA0 := h.lt _ _ hO0
  have hm0 := h.lt _ _ d3
  have hAm : ¬ A [] = m := fun e => by rw [e, d3] at hO0; cases hO0
  have hC1 := Chg.ofBelowC hB
  have hC : Chg (fun k => k = m) w w2 := (hC1.mono (fun _ _ h => h.elim)).trans hc (fun _ _ h => h)
  have hF : ∀ r nd, partF F p s (x :: D) (x :: r) = some nd → subF F (p ++ [x]) r = some nd := fun r nd hp => by
    have e : partF F p s (x :: D) (x :: r) = F (p ++ x :: r) := if_pos (by simp [inB])
    rw [e] at hp
    rw [← hp]; simp [subF]
  have hF2 : ∀ y r nd, ¬ y = x → partF F p s (x :: D) (y :: r) = some nd → partF F p s D (y :: r) = some nd := fun y r nd hy hp => by
    rw [← hp]
    simp [partF, inB, hy]
  refine ⟨fun b z hb => ?_, fun q nd hq => ?_, fun q nd hq => ?_, fun q nd hq i => ?_⟩
  · unfold hangO at hb
    split at hb
    · have := h.lt b _ hb
      exact ⟨this.1, Nat.lt_of_lt_of_le this.2 hC.size⟩
    · obtain ⟨z', hz, _⟩ := Option.map_eq_some_iff.1 hb
      have := h2.lt b _ hz
      exact ⟨by omega, Nat.lt_of_lt_of_le this.2 hc.size⟩
  · match q, hq with
    | [], hq => cases hq; exact (hangO_lt hA0.2).trans hO0
    | y :: r, hq =>
      by_cases e : y = x
      · subst e
        have := h2.own r nd (hF r nd hq)
        rw [hangA_at]
        exact hangO_ge (h2.lt _ _ this).1 this
      · have := h.own _ nd (hF2 y r nd e hq)
        rw [hangA_ne _ e]
        exact (hangO_lt (h.lt _ _ this).2).trans this
  · match q, hq with
    | [], hq =>
      cases hq
      refine ⟨hC.cell d0 hAm, hC.cell d1 hAm, ⟨m, hC.cell c2 hAm, (hangO_lt hm0.2).trans d3, ?_⟩, hC.cell d5 hAm⟩
      refine hm.ext (fun z _ => ?_)
      unfold kidF
      by_cases e : z = x
      · subst e
        rw [updB_same]
        simp [inB, hangA]
      · rw [updB_other _ _ e]
        simp [inB, e, hangA]
    | y :: r, hq =>
      by_cases e : y = x
      · subst e
        have hs := hF r nd hq
        refine (h2.nd r nd hs).kept hc (h2.own r nd hs) (fun b k hb e => ?_) (hangA_at r) (fun nm _ => hangA_at _) (fun b k hb => hangO_ge (h2.lt _ _ hb).1 hb)
        have := (h2.lt _ _ hb).1
        omega
      · have hs := hF2 y r nd e hq
        refine (h.nd _ nd hs).kept hC (h.own _ nd hs) (fun b k hb e => ?_) (hangA_ne r e) (fun nm _ => hangA_ne _ e) (fun b k hb => (hangO_lt (h.lt _ _ hb).2).trans hb)
        rw [e, d3] at hb
        cases hb
  · match q, hq with
    | [], hq =>
      exact (World.frozen?_of_block (hC.block _ hA0.2 hAm)).trans (h.fr _ _ rfl i)
    | y :: r, hq =>
      by_cases e : y = x
      · subst e
        have hs := hF r nd hq
        have hl := (h2.lt _ _ (h2.own r nd hs))
        rw [hangA_at]
        exact (World.frozen?_of_block (hc.block (A2 r) hl.2 (fun e => by omega))).trans (h2.fr _ _ hs i)
      · have hs := hF2 y r nd e hq
        have ho := h.own _ nd hs
        rw [hangA_ne _ e]
        exact (World.frozen?_of_block (hC.block (A (y :: r)) (h.lt _ _ ho).2 (fun e => by rw [e, d3] at ho; cases ho))).trans (h.fr _ _ hs i)

theorem nodup_len : ∀ (D kn : List ByteArray), D.Nodup → kn.Nodup → (∀ x ∈ D, x ∈ kn) → D.length ≤ kn.length
  | [], _, _, _, _ => Nat.zero_le _
  | x :: D, kn, hD, hk, h => by
    have h1 := nodup_len D (dele kn x) (List.nodup_cons.1 hD).2 (dele_nodup x hk) (fun y hy => dele_mem.2 ⟨fun e => (List.nodup_cons.1 hD).1 (e ▸ hy), h y (List.mem_cons_of_mem _ hy)⟩)
    have h2 := dele_len hk (h x (List.mem_cons_self))
    have h3 : 0 < kn.length := List.length_pos_of_mem (h x (List.mem_cons_self))
    simp only [List.length_cons]
    omega
theorem Sb.full {kn : List ByteArray} (h : Sb w (partF F p s D) A O N) (hF : F p = some (.dir s kn)) (hD : D.Nodup) (hk : kn.Nodup) (hm : ∀ x, x ∈ D ↔ x ∈ kn) (hup : ∀ x r, (F (p ++ x :: r)).isSome = true → x ∈ kn) : Sb w (subF F p) A O N := by
  have hlen : D.length = kn.length := Nat.le_antisymm (nodup_len _ _ hD hk (fun x hx => (hm x).1 hx)) (nodup_len _ _ hk hD (fun x hx => (hm x).2 hx))
  have hin : ∀ x, inB x D = inB x kn := fun x => by
    cases e : inB x kn
    · exact inB_not (fun hx => by rw [(inB_iff _ _).2 ((hm x).1 hx)] at e; cases e)
    · exact (inB_iff _ _).2 ((hm x).2 ((inB_iff _ _).1 e))
  have e2 : ∀ x r nd, subF F p (x :: r) = some nd → partF F p s D (x :: r) = some nd := fun x r nd h => by
    have := hup x r (by show (subF F p (x :: r)).isSome = true; rw [h]; rfl)
    rw [← h]
    exact if_pos ((inB_iff _ _).2 ((hm x).2 this))
  have e1 : ∀ nd, subF F p [] = some nd → nd = .dir s kn := fun nd h => by
    have : subF F p [] = F p := by simp [subF]
    rw [this, hF] at h; cases h; rfl
  refine ⟨h.lt, fun q nd hq => ?_, fun q nd hq => ?_, fun q nd hq => ?_⟩
  · match q, hq with
    | [], hq => exact h.own [] _ rfl
    | y :: r, hq => exact h.own _ _ (e2 _ _ _ hq)
  · match q, hq with
    | [], hq =>
      obtain rfl := e1 nd hq
      obtain ⟨d0, d1, ⟨m', d2, d3, d4⟩, d5⟩ := h.nd [] _ rfl
      rw [hlen] at d4
      exact ⟨d0, d1, ⟨m', d2, d3, d4.ext (fun z _ => by unfold kidF; rw [hin])⟩, d5⟩
    | y :: r, hq => exact h.nd _ _ (e2 _ _ _ hq)
  · match q, hq with
    | [], hq => exact h.fr [] _ rfl
    | y :: r, hq => exact h.fr _ _ (e2 _ _ _ hq)
end

/-- No way is longer than memory has blocks. -/
theorem lt_len : ∀ (n : Nat) (l : List Nat), l.Nodup → (∀ x ∈ l, x < n) → l.length ≤ n
  | 0, [], _, _ => Nat.le_refl _
  | 0, x :: _, _, h => absurd (h x List.mem_cons_self) (Nat.not_lt_zero _)
  | n + 1, l, hl, h => by
    have h1 := lt_len n (l.filter (fun y => ¬ y = n)) (List.Pairwise.filter _ hl) (fun x hx => by
      have := List.mem_filter.1 hx
      have h2 := h x this.1
      have h3 : ¬ x = n := by simpa using this.2
      omega)
    have h2 : ∀ l : List Nat, l.Nodup → l.length ≤ (l.filter (fun y => ¬ y = n)).length + 1 := by
      intro l
      induction l with
      | nil => intro _; simp
      | cons y r ih =>
        intro hn
        have hn := List.nodup_cons.1 hn
        by_cases e : y = n
        · subst e
          have : r.filter (fun z => ¬ z = y) = r := List.filter_eq_self.2 (fun z hz => by
            have hz2 : ¬ z = y := fun e2 => hn.1 (by rw [← e2]; exact hz)
            simpa using hz2)
          rw [List.filter_cons_of_neg (by simp), this]
          simp
        · have := ih hn.2
          simp [e]
          simpa using this
    have := h2 l hl
    omega
theorem Tr.depth {w : World} {t : Nat} {F : Pth → Option Nd} {A : Pth → Nat} {O : Nat → Option (Pth × Nat)} {bl ino : Int} {K : Nat} (h : Tr w t F A O bl ino K) {p : Pth} (hp : (F p).isSome = true) : p.length < w.heap.size := by
  have hs : ∀ i, i ≤ p.length → (F (p.take i)).isSome = true := fun i _ => h.pre (p.take i) (p.drop i) (by rw [List.take_append_drop]; exact hp)
  have := lt_len w.heap.size ((List.range (p.length + 1)).map fun i => A (p.take i)) ?_ ?_
  · rw [List.length_map, List.length_range] at this
    omega
  · refine List.Pairwise.map _ (R := fun i j => i < p.length + 1 ∧ j < p.length + 1 ∧ ¬ i = j) ?_ ?_
    · intro i j ⟨hi, hj, hij⟩ e
      obtain ⟨x, hx⟩ := Option.isSome_iff_exists.1 (hs i (by omega))
      obtain ⟨y, hy⟩ := Option.isSome_iff_exists.1 (hs j (by omega))
      have := congrArg List.length (h.inj hx hy e)
      simp at this
      omega
    · refine (List.nodup_range (n := p.length + 1)).imp_of_mem ?_
      intro i j hi hj hij
      exact ⟨List.mem_range.1 hi, List.mem_range.1 hj, hij⟩
  · intro x hx
    obtain ⟨i, hi, rfl⟩ := List.mem_map.1 hx
    obtain ⟨y, hy⟩ := Option.isSome_iff_exists.1 (hs i (by have := List.mem_range.1 hi; omega))
    exact h.lt _ _ (h.own _ _ hy)
end Go.Proofs.YtlnjnimenihhnaaGreatDoor

namespace Go.Proofs.YtlnjnimenihhnaaGreatDoor
open Go.RowKit Go.Maps Go.Sort

abbrev ndO5 (f : Bool) (v : Value) (mo : Option Nat) (s : Int) : Obj := .cells #[.bool f, v, .map mo, .int .i64 s] 56
set_option maxHeartbeats 400000 in
theorem clone_nil (w : World) : Calls Tryz.prog 45 #[.slice none 0 0] w fun e w' => e = .returned (.slice none 0 0) ∧ w' = w := by
  have hq := eq32_nil
  go_enter Tryz.func45, Tryz.ntmps45
  go_wp2
  go_ret
  exact ⟨rfl, rfl⟩
theorem below_alloc' {w w' : World} (h : Hid (Below w.heap.size w w')) (o : Obj) : Hid (Below w.heap.size w (w'.alloc o)) := Below.alloc h.out h.out.size o
set_option maxHeartbeats 1600000 in
theorem twin_file (b : Nat) (v : Value) (bs : List Int) (w : World) (c0 : w.cell? ⟨b, 0, none⟩ = some (.bool true)) (c1 : w.cell? ⟨b, 1, none⟩ = some v) (ho : w.ownsRow 0 5 1 v bs.length (bcells bs)) (c2 : w.cell? ⟨b, 2, none⟩ = some (.map none)) (c3 : w.cell? ⟨b, 3, none⟩ = some (.int .i64 0)) (hl : bs.length ≤ 1099511627776) :
    Calls Tryz.prog 42 #[ptr b] w fun e w' => ∃ u g, e = .returned (ptr g) ∧ Below w.heap.size w w' ∧ w.heap.size ≤ g ∧ w'.heap[g]? = some (ndO5 true u none 0) ∧ w'.ownsRow w.heap.size 5 1 u bs.length (bcells bs) := by
  have HC : ∀ wb, Hid (Below w.heap.size w wb) → Hid (Calls Tryz.prog 45 #[v] wb fun e w' => ∃ ua uc, e = .returned (.slice ua bs.length uc) ∧ Hid (Below w.heap.size w w') ∧ Hid (w'.ownsRow w.heap.size 5 1 (.slice ua bs.length uc) bs.length (bcells bs))) := by
    intro wb hb
    refine (cloneB_any v bs wb (Bs.ofOwns (own_far ho (Chg.ofBelowC hb.out) (fun _ _ h => h))) hl).mono ?_
    rintro e w' ⟨u, rfl, h1, h2⟩
    obtain ⟨ua, uc, rfl⟩ := own_form' h1
    exact ⟨ua, uc, rfl, hb.out.trans (h2.below hb.out.size (fun _ h => h.elim)), own_monoT h1 hb.out.size⟩
  have HS : ∀ w', Hid (Below w.heap.size w w') → (Hid (Below w.heap.size w w') ∧ w'.cell? ⟨b, 0, none⟩ = some (.bool true) ∧ w'.cell? ⟨b, 1, none⟩ = some v ∧ w'.cell? ⟨b, 3, none⟩ = some (.int .i64 0)) := fun w' hb => ⟨hb, (Chg.ofBelowC hb.out).cell c0 (fun h => h), (Chg.ofBelowC hb.out).cell c1 (fun h => h), (Chg.ofBelowC hb.out).cell c3 (fun h => h)⟩
  have B0 : ∀ k, Hid (Below w.heap.size w (w.drewN k).drew) := fun k => ⟨rfl, rfl, rfl, Nat.le_refl _, fun _ _ => rfl⟩
  have B9 : ∀ k, Hid (Below w.heap.size w (w.drewN k)) := fun k => ⟨rfl, rfl, rfl, Nat.le_refl _, fun _ _ => rfl⟩
  have B1 : Hid (Below w.heap.size w w.drew) := ⟨rfl, rfl, rfl, Nat.le_refl _, fun _ _ => rfl⟩
  have BA : ∀ w' o, Hid (Below w.heap.size w w') → Hid (Below w.heap.size w (w'.alloc o)) := fun w' o h => below_alloc' h o
  have END : ∀ w5, Hid (Below w.heap.size w w5) → ∀ (ua : Option Addr) (uc : Nat) w6, w5.alloc (ndO5 true (.slice ua bs.length uc) none 0) = w6 → w6.cell? ⟨b, 0, none⟩ = some (.bool true) ∧ w6.cell? ⟨b, 2, none⟩ = some (.map none) ∧ w6.heap[w5.heap.size]? = some (ndO5 true (.slice ua bs.length uc) none 0) ∧ Hid (Below w.heap.size w w6) := by
    rintro w5 HB ua uc w6 rfl
    have HB6 := BA w5 (ndO5 true (.slice ua bs.length uc) none 0) HB
    exact ⟨(Chg.ofBelowC HB6.out).cell c0 (fun h => h), (Chg.ofBelowC HB6.out).cell c2 (fun h => h), heap_alloc_new _ _, HB6⟩
  obtain ⟨a, c, rfl⟩ := own_form' ho
  clear ho c2
  go_enter Tryz.func42, Tryz.ntmps42
  go_wp2_with fail
  go_region_held (fun w' => (Hid (Below w.heap.size w w') ∧ w'.cell? ⟨b, 0, none⟩ = some (.bool true) ∧ w'.cell? ⟨b, 1, none⟩ = some (.slice a bs.length c) ∧ w'.cell? ⟨b, 3, none⟩ = some (.int .i64 0))) (exact HS _ (by first | with_reducible assumption | exact B1 | exact B0 _ | exact B9 _ | exact BA _ _ (by with_reducible assumption)))
    (first | (go_at_call 45; refine (HC _ (by first | with_reducible assumption | exact B1 | exact B0 _ | exact B9 _)).out.mono ?_; rintro e w5 ⟨ua, uc, rfl, HB5, HO5⟩))
  obtain ⟨w6, hw6⟩ : ∃ w6, w5.alloc (ndO5 true (.slice ua bs.length uc) none 0) = w6 := ⟨_, rfl⟩
  obtain ⟨g0, g2, hg, HB6⟩ := END w5 HB5 ua uc w6 hw6
  have HO6 : Hid (w6.ownsRow w.heap.size 5 1 (.slice ua bs.length uc) bs.length (bcells bs)) := by
    rw [← hw6]; exact own_keptT HO5.out (below_alloc _ _)
  have HQ : Hid (w6.heap[w5.heap.size]? = some (ndO5 true (.slice ua bs.length uc) none 0) ∧ w.heap.size ≤ w5.heap.size) := ⟨hg, HB5.out.size⟩
  rw [hw6]
  clear hw6 END HS B0 B9 B1 BA HC HB5 HO5 c0 c1 c3 hg
  have hrg := run_range_nilMap (P := Tryz.prog) w6 54 9 57 Tryz.underlying54
  have hnx : ∀ ty, (Instr.next (.pointer (some ⟨w6.heap.size, 0, none⟩)) false ty).run Tryz.prog (w6.alloc (.mapIter none 0 #[] 0)) = _ := fun ty => run_next_nilMap w6 ty 0 0 #[]
  go_wp2_with fail
  refine wp_loop_rounds 1 ?_
  rw [rounds_succ]
  go_wp2_with fail
  go_ret
  have B7 := below_alloc w6 (.mapIter none 0 #[] 0)
  exact ⟨_, _, rfl, HB6.out.trans (B7.mono HB6.out.size), HQ.out.2, ((Chg.ofBelowC B7).block _ (by
    by_cases hlt : w5.heap.size < w6.heap.size
    · exact hlt
    · have := HQ.out.1
      simp [Array.getElem?_eq_none (Nat.le_of_not_lt hlt)] at this) (fun h => h)).trans HQ.out.1, own_keptT HO6.out B7⟩
end Go.Proofs.YtlnjnimenihhnaaGreatDoor

namespace Go.Proofs.YtlnjnimenihhnaaGreatDoor
open Go.RowKit Go.Maps Go.Sort

theorem Sb.start {w : World} {F : Pth → Option Nd} {p : Pth} {s g m N : Nat} (hg : w.heap[g]? = some (ndO5 false (.slice none 0 0) (some m) s)) (hm : SMap w m 0 (fun _ => none)) (hNg : N ≤ g) (hNm : N ≤ m) : Sb w (partF F p s []) (fun _ => g) (fun k => if k = g then some ([], 0) else if k = m then some ([], 1) else none) N := by
  have hgm : ¬ g = m := fun e => by
    obtain ⟨D, ⟨es, clock, hb, _⟩, _⟩ := hm
    rw [← e, hg] at hb; cases hb
  have hF : ∀ q nd, partF F p s [] q = some nd → q = [] ∧ nd = .dir s [] := fun q nd hq => by
    cases q with
    | nil => cases hq; exact ⟨rfl, rfl⟩
    | cons x r => simp [partF, inB] at hq
  have hlt : g < w.heap.size := by
    by_cases hlt : g < w.heap.size
    · exact hlt
    · simp [Array.getElem?_eq_none (Nat.le_of_not_lt hlt)] at hg
  refine ⟨fun b x hb => ?_, fun q nd hq => ?_, fun q nd hq => ?_, fun q nd hq i => ?_⟩
  · split at hb
    · rename_i e; subst e; exact ⟨hNg, hlt⟩
    · split at hb
      · rename_i e; subst e; exact ⟨hNm, hm.lt⟩
      · cases hb
  · obtain ⟨rfl, rfl⟩ := hF q nd hq
    simp
  · obtain ⟨rfl, rfl⟩ := hF q nd hq
    refine ⟨?_, ?_, ⟨m, ?_, ?_, hm.ext (fun _ _ => rfl)⟩, ?_⟩
    · rw [cell_of_row _ _ _ _ _ _ hg]; rfl
    · rw [cell_of_row _ _ _ _ _ _ hg]; rfl
    · rw [cell_of_row _ _ _ _ _ _ hg]; rfl
    · simp [Ne.symm hgm]
    · rw [cell_of_row _ _ _ _ _ _ hg]; rfl
  · simp only [World.frozen?, hg]
    simp
theorem run_mk (n : Nat) (w : World) : (Instr.makeMap 54 (some (.int .i64 (n : Int)))).run Tryz.prog w = .ok (.map (some w.heap.size)) (w.alloc (.map #[] 0)) := by
  simp [Instr.makeMap, run_underlying Tryz.underlying54, asInt, asIntOf, Result.andThen]
set_option maxHeartbeats 3200000 in
set_option maxRecDepth 100000 in
theorem twin_dir {w : World} {t : Nat} {F : Pth → Option Nd} {A : Pth → Nat} {O : Nat → Option (Pth × Nat)} {bl ino : Int} {K : Nat} (h : Tr w t F A O bl ino K) (hK : K ≤ 900000) {p : Pth} {s : Nat} {kn : List ByteArray} (hp : F p = some (.dir s kn))
    (HK : ∀ x wb, x ∈ kn → Below w.heap.size w wb → Calls Tryz.prog 42 #[ptr (A (p ++ [x]))] wb fun e w' => ∃ g A2 O2, e = .returned (ptr g) ∧ Below wb.heap.size wb w' ∧ Sb w' (subF F (p ++ [x])) A2 O2 wb.heap.size ∧ A2 [] = g) :
    Calls Tryz.prog 42 #[ptr (A p)] w fun e w' => ∃ g A2 O2, e = .returned (ptr g) ∧ Below w.heap.size w w' ∧ Sb w' (subF F p) A2 O2 w.heap.size ∧ A2 [] = g := by
  obtain ⟨m, c0, c1, c2, c3, mO, hm, -, -⟩ := h.dirM hp
  obtain ⟨a1, a2, a3, a4⟩ := h.nms _ _ _ hp
  have hbl : A p < w.heap.size := World.block_lt_of_cell? w ⟨A p, 0, none⟩ c0
  have HP : Hid ((∀ x ∈ kn, x.size ≤ 256) ∧ kn.Nodup ∧ (∀ x r, (F (p ++ x :: r)).isSome = true → x ∈ kn) ∧ F p = some (.dir s kn)) := ⟨fun x hx => name_size (a2 x hx), a1, fun x r hr => by
    have e : p ++ x :: r = (p ++ [x]) ++ r := by simp
    rw [e] at hr
    obtain ⟨s', k', h1, h2⟩ := h.up p x (h.pre _ _ hr)
    rw [hp] at h1; cases h1
    exact h2, hp⟩
  have HKH : Hid (∀ x wb, x ∈ kn → Below w.heap.size w wb → Calls Tryz.prog 42 #[ptr (A (p ++ [x]))] wb fun e w' => ∃ g A2 O2, e = .returned (ptr g) ∧ Below wb.heap.size wb w' ∧ Sb w' (subF F (p ++ [x])) A2 O2 wb.heap.size ∧ A2 [] = g) := HK
  obtain ⟨b, hb⟩ : ∃ b, A p = b := ⟨_, rfl⟩
  rw [hb] at c0 c1 c2 c3 hbl ⊢
  have hn : kn.length ≤ 900000 := by omega
  have hmw : m < w.heap.size := hm.lt
  have HC : ∀ wb, Hid (Below w.heap.size w wb) → Hid (Calls Tryz.prog 45 #[.slice none 0 0] wb fun e w' => e = .returned (.slice none 0 0) ∧ Hid (Below w.heap.size w w')) := by
    intro wb hb
    refine (clone_nil wb).mono ?_
    rintro e w' ⟨rfl, rfl⟩
    exact ⟨rfl, hb⟩
  have HS : ∀ w', Hid (Below w.heap.size w w') → (Hid (Below w.heap.size w w') ∧ w'.cell? ⟨b, 0, none⟩ = some (.bool false) ∧ w'.cell? ⟨b, 1, none⟩ = some (.slice none 0 0) ∧ w'.cell? ⟨b, 3, none⟩ = some (.int .i64 s)) := fun w' hb => ⟨hb, (Chg.ofBelowC hb.out).cell c0 (fun h => h), (Chg.ofBelowC hb.out).cell c1 (fun h => h), (Chg.ofBelowC hb.out).cell c3 (fun h => h)⟩
  have B0 : ∀ k, Hid (Below w.heap.size w (w.drewN k).drew) := fun k => ⟨rfl, rfl, rfl, Nat.le_refl _, fun _ _ => rfl⟩
  have B9 : ∀ k, Hid (Below w.heap.size w (w.drewN k)) := fun k => ⟨rfl, rfl, rfl, Nat.le_refl _, fun _ _ => rfl⟩
  have B1 : Hid (Below w.heap.size w w.drew) := ⟨rfl, rfl, rfl, Nat.le_refl _, fun _ _ => rfl⟩
  have BA : ∀ w' o, Hid (Below w.heap.size w w') → Hid (Below w.heap.size w (w'.alloc o)) := fun w' o h => below_alloc' h o
  have END : ∀ w5, Hid (Below w.heap.size w w5) → ∀ w6, w5.alloc (ndO5 false (.slice none 0 0) none s) = w6 → w6.cell? ⟨b, 0, none⟩ = some (.bool false) ∧ w6.cell? ⟨b, 2, none⟩ = some (.map (some m)) ∧ (Builtin.len_ #[54] 3 #[.map (some m)]).run Tryz.prog w6 = .ok (.int .i64 kn.length) w6 ∧ w6.frozen? ⟨w5.heap.size, 2, none⟩ = false ∧ w6.cell? ⟨w5.heap.size, 2, none⟩ = some (.map none) ∧ Hid (w6.heap[w5.heap.size]? = some (ndO5 false (.slice none 0 0) none s) ∧ Below w.heap.size w w6 ∧ w.heap.size ≤ w5.heap.size ∧ SMap w6 m kn.length (kidF A p kn)) := by
    rintro w5 HB w6 rfl
    have HB6 := BA w5 (ndO5 false (.slice none 0 0) none s) HB
    have hn := heap_alloc_new w5 (ndO5 false (.slice none 0 0) none s)
    have hm6 := hm.kept ((Chg.ofBelowC HB6.out).block m hm.lt (fun h => h))
    refine ⟨(Chg.ofBelowC HB6.out).cell c0 (fun h => h), (Chg.ofBelowC HB6.out).cell c2 (fun h => h), hm6.len 3, ?_, ?_, hn, HB6.out, HB.out.size, hm6⟩
    · simp only [World.frozen?, hn]; simp
    · rw [cell_of_row _ _ _ _ _ _ hn]; rfl
  clear h hK hp HK a1 a2 a3 a4 mO c0 c1 c2 c3 hm
  go_enter Tryz.func42, Tryz.ntmps42
  go_wp2_with fail
  go_region_held (fun w' => (Hid (Below w.heap.size w w') ∧ w'.cell? ⟨b, 0, none⟩ = some (.bool false) ∧ w'.cell? ⟨b, 1, none⟩ = some (.slice none 0 0) ∧ w'.cell? ⟨b, 3, none⟩ = some (.int .i64 s))) (exact HS _ (by first | with_reducible assumption | exact B1 | exact B0 _ | exact B9 _ | exact BA _ _ (by with_reducible assumption)))
    (first | (go_at_call 45; refine (HC _ (by first | with_reducible assumption | exact B1 | exact B0 _ | exact B9 _)).out.mono ?_; rintro e w5 ⟨rfl, HB5⟩))
  obtain ⟨w6, hw6⟩ : ∃ w6, w5.alloc (ndO5 false (.slice none 0 0) none s) = w6 := ⟨_, rfl⟩
  obtain ⟨g0, g2, gl, gf, gc, HG⟩ := END w5 HB5 w6 hw6
  rw [hw6]
  obtain ⟨G, hG⟩ : ∃ G, w5.heap.size = G := ⟨_, rfl⟩
  rw [hG] at gf gc HG ⊢
  clear hw6 END HS B0 B9 B1 BA HC HB5 hG
  have hmk := run_mk kn.length w6
  have B6 := below_alloc w6 (.map #[] 0)
  have hGl : G < w6.heap.size := World.block_lt_of_cell? w6 ⟨G, 2, none⟩ gc
  have gf2 : (w6.alloc (.map #[] 0)).frozen? ⟨G, 2, none⟩ = false := (World.frozen?_of_block ((Chg.ofBelowC B6).block G hGl (fun h => h))).trans gf
  have gc2 := (Chg.ofBelowC B6).cell gc (fun h => h)
  clear B6 gf gc
  go_upto_region 4 with fail
  obtain ⟨w8, hw8⟩ : ∃ w8, (w6.setCell ⟨G, 2, none⟩ (.map (some w6.heap.size))).alloc (.map #[] 0) = w8 := ⟨_, rfl⟩
  have hz : (w6.setCell ⟨G, 2, none⟩ (.map (some w6.heap.size))).heap.size = w6.heap.size := by simp
  have C8 : Chg (fun k => k = G) w6 w8 := by
    rw [← hw8]
    have h1 : Chg (fun k => k = G) w6 (w6.setCell ⟨G, 2, none⟩ (.map (some w6.heap.size))) := Chg.setCell _ _ _ rfl
    exact h1.trans (Chg.alloc (fun _ => False) _ _) (fun _ _ h => h.elim)
  have hg8 : w8.heap[G]? = some (ndO5 false (.slice none 0 0) (some w6.heap.size) s) := by
    rw [← hw8]
    exact ((Chg.ofBelowC (below_alloc (w6.setCell ⟨G, 2, none⟩ (.map (some w6.heap.size))) (.map #[] 0))).block G (by rw [hz]; exact hGl) (fun h => h)).trans (heap_setCell_same w6 G 2 _ 56 (.map (some w6.heap.size)) HG.out.1)
  have hm8 : SMap w8 w6.heap.size 0 (fun _ => none) := by
    have := SMap.new (w6.setCell ⟨G, 2, none⟩ (.map (some w6.heap.size)))
    rw [hw8, hz] at this
    exact this
  have B8 : Below w.heap.size w w8 := HG.out.2.1.trans (C8.below HG.out.2.1.size (fun k hk => by rw [hk]; exact HG.out.2.2.1))
  have hGm : ¬ m = G := fun e => by
    obtain ⟨D, ⟨es, clock, hb, _⟩, _⟩ := HG.out.2.2.2
    rw [e, HG.out.1] at hb; cases hb
  have hGb : ¬ b = G := fun e => by have := HG.out.2.2.1; omega
  have hmap : SMap w8 m kn.length (kidF A p kn) := HG.out.2.2.2.kept (C8.block m HG.out.2.2.2.lt hGm)
  have c2 := C8.cell g2 hGb
  have HM : Hid (m < w8.heap.size ∧ w6.heap.size < w8.heap.size ∧ Sb w8 (partF F p s []) (fun _ => G) (fun k => if k = G then some ([], 0) else if k = w6.heap.size then some ([], 1) else none) w.heap.size ∧ Below w.heap.size w w8 ∧ w8.cell? ⟨G, 2, none⟩ = some (.map (some w6.heap.size))) :=
    ⟨hmap.lt, hm8.lt, Sb.start hg8 hm8 HG.out.2.2.1 HG.out.2.1.size, B8, by rw [cell_of_row _ _ _ _ _ _ hg8]; rfl⟩
  rw [hw8]
  obtain ⟨M, hM⟩ : ∃ M, w6.heap.size = M := ⟨_, rfl⟩
  rw [hM] at HM ⊢
  clear hw8 hz C8 hg8 hm8 B8 hGm hGb HG g0 g2 gl gf2 gc2 hmk hGl hM hbl hb
  go_wp2_with (at_range; refine wpList_range_s _ rfl (.tmp 38) rfl m kn.length (kidF A p kn) rfl hmap ?_; intro w0 cnt0 hrg0 hg0 hs0)
  go_frame
  obtain ⟨r, hr⟩ : ∃ r, w8.heap.size = r := ⟨_, rfl⟩
  rw [hr] at hrg0 ⊢
  have C0 := Chg.of_none hg0
  have REL0 : Hid (Rng w0 m r (kidF A p kn) (fun x => (kidF A p kn x).isSome) cnt0 ∧ Below w.heap.size w w0 ∧ m < w0.heap.size ∧ r < w0.heap.size ∧ ¬ r = M ∧ ¬ r = m ∧ w.heap.size ≤ r ∧ (∀ x, x.size ≤ 256 → (kidF A p kn x).isSome = (inB x kn && !inB x [])) ∧ (∀ x ∈ ([] : List ByteArray), x ∈ kn) ∧ ([] : List ByteArray).Nodup ∧ (fun _ => G : Pth → Nat) [] = G ∧ w0.cell? ⟨G, 2, none⟩ = some (.map (some M)) ∧ M < w0.heap.size ∧ Sb w0 (partF F p s []) (fun _ => G) (fun k => if k = G then some ([], 0) else if k = M then some ([], 1) else none) w.heap.size ∧ ∀ b x, (fun k => if k = G then some (([] : Pth), 0) else if k = M then some ([], 1) else none) b = some x → ¬ b = r) := by
    have h1 := HM.out
    refine ⟨hrg0, h1.2.2.2.1.trans (C0.below h1.2.2.2.1.size (fun _ h => h.elim)), by omega, by omega, by omega, by omega, by have := h1.2.2.2.1.size; omega, fun x _ => ?_, (fun _ h => by cases h), List.nodup_nil, rfl, C0.cell h1.2.2.2.2 (fun h => h), by omega, h1.2.2.1.kept C0 (fun _ _ _ h => h), fun b x hb => ?_⟩
    · unfold kidF
      cases inB x kn <;> simp [inB]
    · have := (h1.2.2.1.lt b x hb).2
      omega
  clear hrg0 hg0 hs0 C0 hmap c2 HM hr
  go_loopw [4, 5] (fun _ _ wr => ∃ D A' O' g cnt, Hid (Rng wr m r (kidF A p kn) g cnt ∧ Below w.heap.size w wr ∧ m < wr.heap.size ∧ r < wr.heap.size ∧ ¬ r = M ∧ ¬ r = m ∧ w.heap.size ≤ r ∧ (∀ x, x.size ≤ 256 → g x = (inB x kn && !inB x D)) ∧ (∀ x ∈ D, x ∈ kn) ∧ D.Nodup ∧ A' [] = G ∧ wr.cell? ⟨G, 2, none⟩ = some (.map (some M)) ∧ M < wr.heap.size ∧ Sb wr (partF F p s D) A' O' w.heap.size ∧ ∀ b x, O' b = some x → ¬ b = r)) (fun _ _ wr => wr.rangeLeft m r)
  case atStart => exact ⟨[], (fun _ => G), (fun k => if k = G then some ([], 0) else if k = M then some ([], 1) else none), (fun x => (kidF A p kn x).isSome), cnt0, REL0⟩
  case round =>
    clear REL0
    obtain ⟨D, A', O', g, cnt, HQ⟩ := hrel
    have hrg := HQ.out.1
    go_wp2_with (first
      | (at_next; refine wpList_next_s _ rfl (.tmp 39) rfl m r (kidF A p kn) g cnt rfl hrg ?_ ?_)
      | go_in)
    · intro hdone
      have HE : Hid (Below w.heap.size w wr ∧ Sb wr (subF F p) A' O' w.heap.size ∧ A' [] = G) := by
        obtain ⟨_, q2, _, _, _, _, _, q6, q7, q8, q9, _, _, q10, _⟩ := HQ.out
        refine ⟨q2, q10.full HP.out.2.2.2 q8 HP.out.2.1 (fun x => ⟨q7 x, fun hx => ?_⟩) HP.out.2.2.1, q9⟩
        have h1 := q6 x (HP.out.1 x hx)
        rw [hdone x (HP.out.1 x hx), (inB_iff _ _).2 hx] at h1
        refine (inB_iff _ _).1 ?_
        cases e : inB x D
        · rw [e] at h1; cases h1
        · rfl
      clear HQ hrg HP HKH
      go_wp2_with fail
      go_ret
      exact ⟨G, A', O', rfl, HE.out⟩
    · intro x v w2 cnt2 hx hgx hfx hrg2 hlt2 hg2 hs2 hen
      obtain ⟨q1, q2, q3, q4, q5, q5b, q5c, q6, q7, q8, q9, q10, q11, q12, q13⟩ := HQ.out
      have h1 := q6 x hx
      rw [hgx] at h1
      have hk : x ∈ kn := by
        refine (inB_iff _ _).1 ?_
        cases e : inB x kn
        · rw [e] at h1; cases h1
        · rfl
      have hD : inB x D = false := by
        cases e : inB x D
        · rfl
        · rw [e] at h1; simp at h1
      have hv : v = ptr (A (p ++ [x])) := by
        unfold kidF at hfx
        rw [(inB_iff _ _).2 hk] at hfx
        cases hfx; rfl
      subst hv
      have hDl : D.length ≤ 900000 := Nat.le_trans (nodup_len D kn q8 HP.out.2.1 q7) hn
      have C2 := Chg.of_grown hg2
      have B2 : Below w.heap.size w w2 := q2.trans (C2.below q2.size (fun _ h => by omega))
      have hAG : ∀ bx y, O' bx = some y → ¬ bx = r := q13
      have S2 : Sb w2 (partF F p s D) A' O' w.heap.size := q12.kept C2 (fun bx y hb e => q13 bx y hb e)
      have hGr : ¬ G = r := fun e => by
        have := q12.own [] _ rfl
        rw [q9] at this
        exact q13 _ _ this e
      have c2 := C2.cell q10 hGr
      have hmD : SMap w2 M D.length (kidF A' [] D) := by
        obtain ⟨-, -, ⟨m', d2, -, d4⟩, -⟩ := S2.nd [] _ rfl
        rw [q9, c2] at d2
        cases d2
        exact d4
      have hl := hrg.left
      have HC : ∀ wb, Hid (Below w2.heap.size w2 wb) → Hid (Calls Tryz.prog 42 #[ptr (A (p ++ [x]))] wb fun e w' => ∃ gg, e = .returned (ptr gg) ∧ w'.cell? ⟨G, 2, none⟩ = some (.map (some M)) ∧ ∃ w3, (Instr.mapUpdate 54 (.map (some M)) (.string x) (ptr gg)).run Tryz.prog w' = .ok () w3 ∧ w3.rangeLeft m r = cnt2 ∧ Hid (∃ A3 O3, (Rng w3 m r (kidF A p kn) (updG g x) cnt2 ∧ Below w.heap.size w w3 ∧ m < w3.heap.size ∧ r < w3.heap.size ∧ ¬ r = M ∧ ¬ r = m ∧ w.heap.size ≤ r ∧ (∀ y, y.size ≤ 256 → updG g x y = (inB y kn && !inB y (x :: D))) ∧ (∀ y ∈ (x :: D), y ∈ kn) ∧ (x :: D).Nodup ∧ A3 [] = G ∧ w3.cell? ⟨G, 2, none⟩ = some (.map (some M)) ∧ M < w3.heap.size ∧ Sb w3 (partF F p s (x :: D)) A3 O3 w.heap.size ∧ ∀ bx y, O3 bx = some y → ¬ bx = r))) := by
        intro wb hb
        have Cb := Chg.ofBelowC hb.out
        refine (HKH.out x wb hk (B2.trans (hb.out.mono B2.size))).mono ?_
        rintro e w' ⟨gg, A2, O2, rfl, B5, S5, rfl⟩
        have Bw : Below w2.heap.size w2 w' := hb.out.trans (B5.mono hb.out.size)
        have C5 := Chg.ofBelowC Bw
        have hM2 : M < w2.heap.size := hmD.lt
        have hm5 := hmD.kept (C5.block M hmD.lt (fun h => h))
        obtain ⟨w3, hr3, hm3, hg3, hz3⟩ := hm5.store hx (by omega) (ptr (A2 []))
        have hf0 : kidF A' [] D x = none := by unfold kidF; rw [hD]; simp
        rw [hf0] at hm3
        simp only [Option.isSome_none, Bool.false_eq_true, if_false] at hm3
        have C3 := Chg.of_grown hg3
        have hc5 := C5.cell c2 (fun h => h)
        have Sb5 := S2.below Bw
        have hMo : O' M = some ([], 1) := by
          obtain ⟨-, -, ⟨m', d2, d3, -⟩, -⟩ := S2.nd [] _ rfl
          rw [q9, c2] at d2
          cases d2
          exact d3
        have hGM : ¬ G = M := fun e => by
          have := q12.own [] _ rfl
          rw [q9, e, hMo] at this
          cases this
        have hrM : ¬ r = M := q5
        have hrg3 : Rng w3 m r (kidF A p kn) (updG g x) cnt2 := by
          refine hrg2.kept ((C3.block m (Nat.lt_of_lt_of_le (by omega) Bw.size) (fun e => ?_)).trans (C5.block m (by omega) (fun h => h))) ((C3.block r (Nat.lt_of_lt_of_le (by omega) Bw.size) (fun e => hrM e)).trans (C5.block r (by omega) (fun h => h)))
          have h9 := (S2.lt M _ hMo).1
          omega
        have hwle : wb.heap.size ≤ w'.heap.size := B5.size
        have S5' : Sb w' (subF F (p ++ [x])) A2 O2 wb.heap.size := S5
        refine ⟨A2 [], rfl, hc5, w3, hr3, hrg3.left, hangA A' A2 x, hangO O' O2 wb.heap.size x, hrg3, B2.trans ((Bw.mono B2.size).trans (C3.below (Nat.le_trans B2.size Bw.size) (fun k hk => by rw [hk]; exact (S2.lt M _ hMo).1))), by have := Bw.size; omega, by have := Bw.size; omega, q5, q5b, q5c, fun y hy => ?_, fun y hy => ?_, ?_, q9, C3.cell hc5 hGM, by have := Bw.size; omega, ?_, fun bx y hb2 e => ?_⟩
        · unfold updG
          by_cases e : y = x
          · subst e; simp [inB]
          · rw [if_neg e, q6 y hy]; simp [inB, e]
        · rcases List.mem_cons.1 hy with rfl | hy
          · exact hk
          · exact q7 y hy
        · refine List.nodup_cons.2 ⟨fun h => ?_, q8⟩
          rw [(inB_iff _ _).2 h] at hD; cases hD
        · exact (S2.below hb.out).hang hD (by rw [q9]; exact Cb.cell c2 (fun h => h)) B5 S5 hm3 C3
        · unfold hangO at hb2
          split at hb2
          · exact q13 bx y hb2 e
          · have := hb.out.size
            omega
      clear HQ hrg hrg2 hg2 hs2 hfx h1 q1 q2 q3 q4 q5 q5b q5c q6 q7 q8 q9 q10 q11 q12 q13 C2 B2 hAG S2 hmD hD hk hDl
      have D0 : ∀ k, Hid (Below w2.heap.size w2 (w2.drewN k).drew) := fun k => ⟨rfl, rfl, rfl, Nat.le_refl _, fun _ _ => rfl⟩
      have D9 : ∀ k, Hid (Below w2.heap.size w2 (w2.drewN k)) := fun k => ⟨rfl, rfl, rfl, Nat.le_refl _, fun _ _ => rfl⟩
      have D1 : Hid (Below w2.heap.size w2 w2.drew) := ⟨rfl, rfl, rfl, Nat.le_refl _, fun _ _ => rfl⟩
      go_wp2_with fail
      go_region_with (first | (go_at_call 42; refine (HC _ (by first | exact D1 | exact D0 _ | exact D9 _)).out.mono ?_; clear HC; rintro e w5 ⟨gg, rfl, d2, w3, hr3, hl3, H3⟩))
      all_goals
        clear hr3 d2 D0 D9 D1
        go_wp2_with fail
        go_roundw
        case rel =>
          obtain ⟨A3, O3, h3⟩ := H3.out
          exact ⟨x :: D, A3, O3, updG g x, cnt2, h3⟩
        case measure => rw [hl3, hl]; exact hlt2
/-- twin of any node. -/
theorem twin_any {t : Nat} {F : Pth → Option Nd} {A : Pth → Nat} {O : Nat → Option (Pth × Nat)} {bl ino : Int} {K : Nat} (hK : K ≤ 900000) : ∀ (n : Nat) (p : Pth) (nd : Nd) (w : World), Tr w t F A O bl ino K → F p = some nd → (∀ r, n ≤ r.length → F (p ++ r) = none) →
    Calls Tryz.prog 42 #[ptr (A p)] w fun e w' => ∃ g A2 O2, e = .returned (ptr g) ∧ Below w.heap.size w w' ∧ Sb w' (subF F p) A2 O2 w.heap.size ∧ A2 [] = g
  | 0, p, nd, w, _, hp, hn => by
    have := hn [] (Nat.le_refl _)
    rw [List.append_nil, hp] at this
    cases this
  | n + 1, p, .dir s kn, w, h, hp, hn => by
    refine twin_dir h hK hp (fun x wb hx hb => ?_)
    obtain ⟨nd, hnd⟩ := Option.isSome_iff_exists.1 (h.dn p s kn x hp hx)
    refine twin_any hK n (p ++ [x]) nd wb (h.below hb) hnd (fun r hr => ?_)
    have := hn (x :: r) (by simp; omega)
    simpa using this
  | n + 1, p, .file bs, w, h, hp, hn => by
    obtain ⟨c0, ⟨v, c1, ho, hv⟩, c2, c3⟩ := h.nd p _ hp
    have hl := (h.fil _ _ hp).1
    refine (twin_file (A p) v bs w c0 c1 ho c2 c3 (by omega)).mono ?_
    rintro e w' ⟨u, g, rfl, B, hNg, hg, ho'⟩
    have hk : ∀ x r, F (p ++ x :: r) = none := fun x r => by
      cases e : F (p ++ x :: r) with
      | none => rfl
      | some z =>
        have e1 : p ++ x :: r = (p ++ [x]) ++ r := by simp
        have := h.pre (p ++ [x]) r (by rw [← e1, e]; rfl)
        obtain ⟨s, k, h2, _⟩ := h.up p x this
        rw [hp] at h2; cases h2
    have hF : ∀ q nd, subF F p q = some nd → q = [] ∧ nd = .file bs := fun q nd hq => by
      cases q with
      | nil => simp only [subF, List.append_nil] at hq; rw [hp] at hq; cases hq; exact ⟨rfl, rfl⟩
      | cons x r => simp only [subF] at hq; rw [hk] at hq; cases hq
    have hlt : g < w'.heap.size := by
      by_cases hlt : g < w'.heap.size
      · exact hlt
      · simp [Array.getElem?_eq_none (Nat.le_of_not_lt hlt)] at hg
    have hub : ∀ k, u.ownBlock = some k → ¬ k = g ∧ w.heap.size ≤ k ∧ k < w'.heap.size := fun k hk => by
      rcases ho'.2 with ⟨e, -⟩ | ⟨g', cap, cur, e, h1, h2, _⟩
      · rw [e] at hk; cases hk
      · rw [e] at hk
        cases hk
        refine ⟨fun e => ?_, h1, ?_⟩
        · have e2 : g' = g := e
          rw [e2, hg] at h2; cases h2
        · by_cases hlt : g' < w'.heap.size
          · exact hlt
          · simp [Array.getElem?_eq_none (Nat.le_of_not_lt hlt)] at h2
    refine ⟨g, fun _ => g, fun k => if k = g then some ([], 0) else if u.ownBlock = some k then some ([], 2) else none, rfl, B, ⟨fun b x hb => ?_, fun q nd hq => ?_, fun q nd hq => ?_, fun q nd hq i => ?_⟩, rfl⟩
    · split at hb
      · rename_i e; subst e; exact ⟨hNg, hlt⟩
      · split at hb
        · rename_i e; exact (hub b e).2
        · cases hb
    · obtain ⟨rfl, rfl⟩ := hF q nd hq
      simp
    · obtain ⟨rfl, rfl⟩ := hF q nd hq
      refine ⟨?_, ⟨u, ?_, own_monoT ho' (Nat.zero_le _), fun b hb => ?_⟩, ?_, ?_⟩
      · rw [cell_of_row _ _ _ _ _ _ hg]; rfl
      · rw [cell_of_row _ _ _ _ _ _ hg]; rfl
      · exact (if_neg (hub b hb).1).trans (if_pos hb)
      · rw [cell_of_row _ _ _ _ _ _ hg]; rfl
      · rw [cell_of_row _ _ _ _ _ _ hg]; rfl
    · simp only [World.frozen?, hg]
      simp
end Go.Proofs.YtlnjnimenihhnaaGreatDoor

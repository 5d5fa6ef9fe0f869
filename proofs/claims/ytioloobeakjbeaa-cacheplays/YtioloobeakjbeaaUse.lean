/-
  The contracts of blank and of miss of package cache, at both of the functions that it is handed.
-/
import Derived.Test.YtioloobeakjbeaaClean
namespace Go.Proofs.Ytioloobeakjbeaa
open Go.RowKit Go.Maps

theorem Mp.len {w : World} {m nb : Nat} {ls : List Nat} {nd : Nat → Node} (h : Mp w m nb ls nd) (_hnb : nb ≤ 16384) (hu : (ls.map fun a => (nd a).n).Nodup) (hl : ∀ a ∈ ls, (nd a).n < nb) (ty : TypeId) :
    (Builtin.len_ #[74] ty #[.map (some m)]).run Try.prog w = .ok (.int .i64 (ls.length : Int)) w := by
  obtain ⟨f, ⟨c, D, ho, hD⟩, hr⟩ := h
  rw [ho.len Try.underlying74 ty]
  have e : Maps.size D = ls.length := by
    obtain ⟨es, rfl, hp, hk⟩ := ho.entries law3
    have h1 : (es.map Prod.fst).Nodup := List.pairwise_map.2 hp
    have h2 : (ls.map fun a => kn (nd a).n).Nodup := by
      have : (ls.map fun a => kn (nd a).n) = (ls.map fun a => (nd a).n).map kn := by simp
      rw [this]
      exact hu.map kn (fun a b hab e => hab (kn_inj e))
    have hperm : (es.map Prod.fst).Perm (ls.map fun a => kn (nd a).n) := by
      refine (List.perm_ext_iff_of_nodup h1 h2).2 (fun k => ⟨fun hk1 => ?_, fun hk1 => ?_⟩)
      · obtain ⟨q, hq, rfl⟩ := List.mem_map.1 hk1
        have hh : Maps.has (.map es) q.1 = true := List.any_eq_true.2 ⟨q, hq, WideAt.sameKey_self (hk q hq)⟩
        obtain ⟨n, hn, e⟩ := hD.keys _ hh
        have h3 := hD.has n hn
        rw [← e, hh] at h3
        obtain ⟨u, hu2⟩ := Option.isSome_iff_exists.1 h3.symm
        obtain ⟨a, ha, e2, _⟩ := (hr n u hn).1 hu2
        exact List.mem_map.2 ⟨a, ha, by rw [e2, e]⟩
      · obtain ⟨a, ha, rfl⟩ := List.mem_map.1 hk1
        have h3 := hD.has _ (hl a ha)
        rw [(hr _ _ (hl a ha)).2 ⟨a, ha, rfl, rfl⟩] at h3
        have h4 : Maps.has (.map es) (kn (nd a).n) = true := h3
        obtain ⟨q, hq, hs⟩ := List.any_eq_true.1 h4
        by_cases e : q.1 = kn (nd a).n
        · exact List.mem_map.2 ⟨q, hq, e⟩
        · rw [sameKey_ne e] at hs; cases hs
    have := hperm.length_eq
    simp at this
    simpa [Maps.size] using this
  rw [e]

section
variable {w : World} {G : Nat → Prop} {c p nb : Nat} {C : Ca} {m r : Nat} {ls : List Nat} {nd : Nat → Node}
theorem CaAt.len (h : CaAt w G c p nb C m r ls nd) (ty : TypeId) : (Builtin.len_ #[74] ty #[.map (some m)]).run Try.prog w = .ok (.int .i64 (C.L.length : Int)) w := by
  have hu := h.wf.uniq
  rw [h.items, List.map_map] at hu
  rw [h.map.len h.nbt hu (fun a ha => h.nlt ha) ty, h.items, List.length_map]
end

set_option maxHeartbeats 800000 in
set_option maxRecDepth 100000 in
theorem blank_any (n : Int) (w : World) : Calls Try.prog 54 #[.int .i64 n] w fun e w' => ∃ u, e = .returned (.tuple #[u, .int .i64 0]) ∧ Fresh w w' u (zeros 512) := by
  obtain ⟨i0, hi, hz0, hz1, hz2⟩ := info_parts info5
  go_enter Try.func54, Try.ntmps54
  go_wp2_with (refine wpList_make_full _ rfl _ _ 39 rfl w.heap.size 5 i0 (.int .u8 0) 1 Try.underlying39 hi hz0 hz1 .i64 .i64 _ _ 512 rfl rfl rfl rfl (by rw [hz2]; omega) (by unfold maxLen; omega) (Nat.le_refl _) ?_; intro w1 own1 grow1)
  rw [made_bytes] at own1
  have hc1 := Chg.of_none grow1
  have HF : Hid (Fresh w w1 (.slice (some ⟨w.heap.size, 0, none⟩) 512 512) (zeros 512)) := ⟨by rw [zeros_len]; exact own1, hc1⟩
  clear own1 grow1 hc1
  go_wp2
  go_ret2
  exact ⟨_, rfl, HF.out⟩

/-- The cache ahead of what is held anew. -/
def midC (C : Ca) : Ca := if C.L.length = C.size then (match C.goes with | none => C | some g => C.out g.n) else C
/-- A node that was just made. -/
def NewN (w : World) (a n : Nat) (u : Value) : Prop := w.heap[a]? = some (.cells #[.int .i64 (n : Int), u, .bool false, .int .i64 0, .pointer none, .pointer none] 95 (0, 0))
/-- What miss leaves. -/
def MissP (F G : Nat → Prop) (c p m r : Nat) (ls : List Nat) (C : Ca) (n : Nat) (fb : List Int) (R : Res) (w : World) (e : Ending) (w' : World) : Prop :=
  ∃ F', Gr F G w w' F' G ∧
    ((R.e ≠ 0 ∧ e = .returned (.tuple #[.pointer none, .int .i64 R.e]) ∧ ∃ nd', Ck w' F' G c p R.S C m r ls nd') ∨
     (R.e = 0 ∧ ∃ a u ls' nd', e = .returned (.tuple #[.pointer (some ⟨a, 0, none⟩), .int .i64 0]) ∧ Ck w' F' G c p R.S (midC C) m r ls' nd' ∧ NewN w' a n u ∧ w'.ownsRow 0 5 1 u 512 (bcells fb) ∧
       w.heap.size ≤ a ∧ (∀ g, u.ownBlock = some g → w.heap.size ≤ g) ∧ ¬ F' a ∧ ∀ g, u.ownBlock = some g → ¬ F' g))

theorem goes_split {w : World} {G : Nat → Prop} {c p nb : Nat} {C : Ca} {m r : Nat} {ls : List Nat} {nd : Nat → Node} (h : CaAt w G c p nb C m r ls nd) {xs ys : List Nat} {a : Nat} (hs : ls = xs ++ a :: ys) (hx : ∀ b ∈ xs, (nd b).k ≠ 0) (ha : (nd a).k = 0) : C.goes = some (nd a).it := by
  unfold Ca.goes
  rw [h.items, hs, List.map_append, List.map_cons, List.find?_append, List.find?_eq_none.2, List.find?_cons_of_pos]
  · rfl
  · show ((nd a).k == 0) = true
    rw [ha]; rfl
  · intro i hi
    obtain ⟨b, hb, rfl⟩ := List.mem_map.1 hi
    have := hx b hb
    simpa [Node.it] using this
theorem goes_none {w : World} {G : Nat → Prop} {c p nb : Nat} {C : Ca} {m r : Nat} {ls : List Nat} {nd : Nat → Node} (h : CaAt w G c p nb C m r ls nd) (hx : ∀ b ∈ ls, (nd b).k ≠ 0) : C.goes = none := by
  unfold Ca.goes
  rw [h.items, List.find?_eq_none]
  intro i hi
  obtain ⟨b, hb, rfl⟩ := List.mem_map.1 hi
  have := hx b hb
  simpa [Node.it] using this
/-- The new node, behind what was there. -/
theorem new_node {w0 w1 w2 : World} {F F' G : Nat → Prop} {c p m r n : Nat} {S' : St} {C' : Ca} {ls' : List Nat} {nd' : Nat → Node} {u : Value} {fb : List Int} (fr : Fresh w0 w1 u fb) (hlen : fb.length = 512) (hF : ∀ b, F b → b < w0.heap.size) (g2 : Gr F G w1 w2 F' G) (hG : ∀ b, G b → b < w0.heap.size) (k2 : Ck w2 F' G c p S' C' m r ls' nd') :
    Ck (w2.alloc (.cells #[.int .i64 (n : Int), u, .bool false, .int .i64 0, .pointer none, .pointer none] 95)) F' G c p S' C' m r ls' nd' ∧ NewN (w2.alloc (.cells #[.int .i64 (n : Int), u, .bool false, .int .i64 0, .pointer none, .pointer none] 95)) w2.heap.size n u ∧
    (w2.alloc (.cells #[.int .i64 (n : Int), u, .bool false, .int .i64 0, .pointer none, .pointer none] 95)).ownsRow 0 5 1 u 512 (bcells fb) ∧ w0.heap.size ≤ w2.heap.size ∧ (∀ g, u.ownBlock = some g → w0.heap.size ≤ g) ∧ ¬ F' w2.heap.size ∧ ∀ g, u.ownBlock = some g → ¬ F' g := by
  have ca := Chg.alloc (fun _ => False) w2 (.cells #[.int .i64 (n : Int), u, .bool false, .int .i64 0, .pointer none, .pointer none] 95)
  have hu := fr.new
  have s1 := fr.chg.size
  have s2 := g2.chg.size
  have hul : ∀ g, u.ownBlock = some g → g < w1.heap.size := fun g hg => (fr.own.lt g hg).2
  have hnF : ∀ g, u.ownBlock = some g → ¬ F' g := fun g hg hf => by
    have h1 := hu g hg
    have h2 := hul g hg
    rcases g2.f g hf with e | e
    · have := hF g e; omega
    · omega
  have own2 : w2.ownsRow 0 5 1 u 512 (bcells fb) := by
    have h0 := own_mono fr.own (Nat.zero_le _)
    rw [hlen] at h0
    refine own_same h0 (fun g hg => g2.chg.block g (hul g hg) (fun e => ?_))
    have h1 := hu g hg
    rcases e with e | e
    · have := hF g e; omega
    · have := hG g e; omega
  refine ⟨⟨k2.dk.kept ca (fun _ _ h => h), k2.ca.kept ca (fun _ _ h => h), k2.no⟩, heap_alloc_new w2 _, own2.alloc _, by omega, hu, fun hf => ?_, hnF⟩
  have := k2.dk.lt _ hf
  omega
end Go.Proofs.Ytioloobeakjbeaa

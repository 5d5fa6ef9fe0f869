/-
  A cache in memory: which blocks it owns and what they hold; contracts of Stats, eldest, Drop and New.
-/
import Derived.Test.YtioloobeakjbeaaRing
import Derived.LaidEqlPtr
import Derived.Deep.QuietTactic
import Derived.Deep.LoopGhost
namespace Go.Proofs.Ytioloobeakjbeaa
open Go.RowKit Go.Maps

/-- The cache at c over the disk at p, of nb blocks, is C; G: its blocks. -/
structure CaAt (w : World) (G : Nat → Prop) (c p nb : Nat) (C : Ca) (m r : Nat) (ls : List Nat) (nd : Nat → Node) : Prop where
  wf : C.Wf nb
  nbt : nb ≤ 16384
  blk : w.heap[c]? = some (.cells #[.pointer (some ⟨p, 0, none⟩), .int .i64 (C.size : Int), .map (some m), .pointer (some ⟨r, 0, none⟩), .int .i64 (C.hits : Int), .int .i64 (C.misses : Int), .int .i64 (C.evicted : Int)] 77 (0, 0))
  map : Mp w m nb ls nd
  nodes : Nds w (r :: ls) nd
  nodup : (r :: ls).Nodup
  chain : Chain nd r ls r
  items : C.L = ls.map fun a => (nd a).it
  own : ∀ a ∈ ls, w.ownsRow 0 5 1 (nd a).v 512 (bcells (nd a).b)
  apart : ∀ a ∈ ls, ∀ b ∈ ls, a ≠ b → ∀ g, (nd a).v.ownBlock = some g → (nd b).v.ownBlock ≠ some g
  fc : G c
  fm : G m
  fn : ∀ a ∈ r :: ls, G a
  fb : ∀ a ∈ ls, ∀ g, (nd a).v.ownBlock = some g → G g
  lt : ∀ b, G b → b < w.heap.size

section
variable {w : World} {G : Nat → Prop} {c p nb : Nat} {C : Ca} {m r : Nat} {ls : List Nat} {nd : Nat → Node}
theorem CaAt.c0 (h : CaAt w G c p nb C m r ls nd) : w.cell? ⟨c, 0, none⟩ = some (.pointer (some ⟨p, 0, none⟩)) := by rw [cell_of_row w c 0 _ _ _ h.blk]; rfl
theorem CaAt.c1 (h : CaAt w G c p nb C m r ls nd) : w.cell? ⟨c, 1, none⟩ = some (.int .i64 (C.size : Int)) := by rw [cell_of_row w c 1 _ _ _ h.blk]; rfl
theorem CaAt.c2 (h : CaAt w G c p nb C m r ls nd) : w.cell? ⟨c, 2, none⟩ = some (.map (some m)) := by rw [cell_of_row w c 2 _ _ _ h.blk]; rfl
theorem CaAt.c3 (h : CaAt w G c p nb C m r ls nd) : w.cell? ⟨c, 3, none⟩ = some (.pointer (some ⟨r, 0, none⟩)) := by rw [cell_of_row w c 3 _ _ _ h.blk]; rfl
theorem CaAt.c4 (h : CaAt w G c p nb C m r ls nd) : w.cell? ⟨c, 4, none⟩ = some (.int .i64 (C.hits : Int)) := by rw [cell_of_row w c 4 _ _ _ h.blk]; rfl
theorem CaAt.c5 (h : CaAt w G c p nb C m r ls nd) : w.cell? ⟨c, 5, none⟩ = some (.int .i64 (C.misses : Int)) := by rw [cell_of_row w c 5 _ _ _ h.blk]; rfl
theorem CaAt.c6 (h : CaAt w G c p nb C m r ls nd) : w.cell? ⟨c, 6, none⟩ = some (.int .i64 (C.evicted : Int)) := by rw [cell_of_row w c 6 _ _ _ h.blk]; rfl
theorem CaAt.fr (h : CaAt w G c p nb C m r ls nd) (i : Nat) : w.frozen? ⟨c, i, none⟩ = false := by simp [World.frozen?, h.blk]
theorem CaAt.clt (h : CaAt w G c p nb C m r ls nd) : c < w.heap.size := (Array.getElem?_eq_some_iff.1 h.blk).1
theorem CaAt.mem (h : CaAt w G c p nb C m r ls nd) {a : Nat} (ha : a ∈ ls) : (nd a).it ∈ C.L := by rw [h.items]; exact List.mem_map_of_mem ha
theorem CaAt.nlt (h : CaAt w G c p nb C m r ls nd) {a : Nat} (ha : a ∈ ls) : (nd a).n < nb := h.wf.lt _ (h.mem ha)
theorem CaAt.blen (h : CaAt w G c p nb C m r ls nd) {a : Nat} (ha : a ∈ ls) : (nd a).b.length = 512 := h.wf.len _ (h.mem ha)
theorem CaAt.pins (h : CaAt w G c p nb C m r ls nd) {a : Nat} (ha : a ∈ ls) : (nd a).k ≤ C.hits + C.misses := h.wf.pins _ (h.mem ha)
theorem CaAt.slice (h : CaAt w G c p nb C m r ls nd) {a : Nat} (ha : a ∈ ls) : ∃ g cap, (nd a).v = .slice (some ⟨g, 0, none⟩) 512 cap ∧ G g := by
  have ho := h.own a ha
  have hf := h.fb a ha
  rcases ho.2 with ⟨_, h0⟩ | ⟨g, cap, cur, e, _⟩
  · exact absurd h0 (by decide)
  · exact ⟨g, cap, e, hf g (by rw [e]; rfl)⟩
theorem CaAt.bs (h : CaAt w G c p nb C m r ls nd) {a : Nat} (ha : a ∈ ls) : Bs w (nd a).v (nd a).b := by
  have := h.own a ha
  exact Bs.ofOwns this
/-- The numbers are told apart. -/
theorem CaAt.inj (h : CaAt w G c p nb C m r ls nd) {a b : Nat} (ha : a ∈ ls) (hb : b ∈ ls) (e : (nd a).n = (nd b).n) : a = b := by
  have hu := h.wf.uniq
  rw [h.items, List.map_map] at hu
  have hp := (List.pairwise_map.1 hu)
  have hd := (List.nodup_cons.1 h.nodup).2
  by_cases hab : a = b
  · exact hab
  · exfalso
    have key : ∀ (l : List Nat), l.Pairwise (fun x y => (It.n ∘ fun a => (nd a).it) x ≠ (It.n ∘ fun a => (nd a).it) y) → a ∈ l → b ∈ l → False := by
      intro l
      induction l with
      | nil => intro _ h; cases h
      | cons x l ih =>
        intro hp h1 h2
        obtain ⟨hx, hp⟩ := List.pairwise_cons.1 hp
        rcases List.mem_cons.1 h1 with e1 | h1 <;> rcases List.mem_cons.1 h2 with e2 | h2
        · exact hab (e1.trans e2.symm)
        · rw [← e1] at hx; exact hx b h2 e
        · rw [← e2] at hx; exact hx a h1 e.symm
        · exact ih hp h1 h2
    exact key ls hp ha hb

theorem CaAt.kept {w' : World} {E : Nat → Prop} (h : CaAt w G c p nb C m r ls nd) (hc : Chg E w w') (hE : ∀ b, G b → ¬ E b) : CaAt w' G c p nb C m r ls nd := by
  have hb : ∀ b, G b → w'.heap[b]? = w.heap[b]? := fun b hf => hc.block b (h.lt b hf) (hE b hf)
  exact ⟨h.wf, h.nbt, (hb c h.fc).trans h.blk, h.map.kept (hb m h.fm), fun a ha => (h.nodes a ha).same (hb a (h.fn a ha)), h.nodup, h.chain, h.items, fun a ha => own_same (h.own a ha) (fun g hg => hb g (h.fb a ha g hg)), h.apart, h.fc, h.fm, h.fn, h.fb, fun b hf => Nat.lt_of_lt_of_le (h.lt b hf) hc.size⟩
theorem CaAt.mono {G' : Nat → Prop} (h : CaAt w G c p nb C m r ls nd) (hG : ∀ b, G b → G' b) (hl : ∀ b, G' b → b < w.heap.size) : CaAt w G' c p nb C m r ls nd :=
  ⟨h.wf, h.nbt, h.blk, h.map, h.nodes, h.nodup, h.chain, h.items, h.own, h.apart, hG _ h.fc, hG _ h.fm, fun a ha => hG _ (h.fn a ha), fun a ha g hg => hG _ (h.fb a ha g hg), hl⟩

/-- Blocks of unlike kinds are not the same. -/
theorem CaAt.node_ne (h : CaAt w G c p nb C m r ls nd) {a : Nat} (ha : a ∈ r :: ls) : a ≠ c ∧ a ≠ m ∧ ∀ b ∈ ls, ∀ g, (nd b).v.ownBlock = some g → a ≠ g := by
  have hn := h.nodes a ha
  refine ⟨?_, ?_, ?_⟩
  · rintro rfl
    have hn' : w.heap[a]? = some (.cells _ 95 (0, 0)) := hn
    rw [h.blk] at hn'; cases hn'
  · rintro rfl
    have hn' : w.heap[a]? = some (.cells _ 95 (0, 0)) := hn
    obtain ⟨es, cl, ho⟩ := h.map.obj
    rw [ho] at hn'; cases hn'
  · rintro b hb g hg rfl
    have hn' : w.heap[a]? = some (.cells _ 95 (0, 0)) := hn
    obtain ⟨cur, hc⟩ := own_obj (h.own b hb) hg
    rw [hc] at hn'; cases hn'
theorem CaAt.c_ne (h : CaAt w G c p nb C m r ls nd) : c ≠ m ∧ ∀ b ∈ ls, ∀ g, (nd b).v.ownBlock = some g → c ≠ g := by
  refine ⟨?_, ?_⟩
  · rintro rfl
    obtain ⟨es, cl, ho⟩ := h.map.obj
    rw [h.blk] at ho; cases ho
  · rintro b hb g hg rfl
    obtain ⟨cur, hc⟩ := own_obj (h.own b hb) hg
    rw [h.blk] at hc; cases hc
theorem CaAt.m_ne (h : CaAt w G c p nb C m r ls nd) : ∀ b ∈ ls, ∀ g, (nd b).v.ownBlock = some g → m ≠ g := by
  rintro b hb g hg rfl
  obtain ⟨es, cl, ho⟩ := h.map.obj
  obtain ⟨cur, hc⟩ := own_obj (h.own b hb) hg
  rw [ho] at hc; cases hc

/-- Only the cache's struct has changed: what it counts. -/
theorem CaAt.restruct {w' : World} {C' : Ca} (h : CaAt w G c p nb C m r ls nd) (hc : Chg (fun k => k = c) w w')
    (hb : w'.heap[c]? = some (.cells #[.pointer (some ⟨p, 0, none⟩), .int .i64 (C'.size : Int), .map (some m), .pointer (some ⟨r, 0, none⟩), .int .i64 (C'.hits : Int), .int .i64 (C'.misses : Int), .int .i64 (C'.evicted : Int)] 77 (0, 0)))
    (hwf : C'.Wf nb) (hL : C'.L = C.L) : CaAt w' G c p nb C' m r ls nd := by
  have hb' : ∀ b, G b → b ≠ c → w'.heap[b]? = w.heap[b]? := fun b hf hne => hc.block b (h.lt b hf) hne
  exact ⟨hwf, h.nbt, hb, h.map.kept (hb' m h.fm (fun e => h.c_ne.1 e.symm)), fun a ha => (h.nodes a ha).same (hb' a (h.fn a ha) (h.node_ne ha).1), h.nodup, h.chain, hL.trans h.items,
    fun a ha => own_same (h.own a ha) (fun g hg => hb' g (h.fb a ha g hg) (fun e => h.c_ne.2 a ha g hg e.symm)), h.apart, h.fc, h.fm, h.fn, h.fb, fun b hf => Nat.lt_of_lt_of_le (h.lt b hf) hc.size⟩

/-- Only nodes of the ring have changed, and not what they hold: another order. -/
theorem CaAt.ring {w' : World} {C' : Ca} {ls' : List Nat} {nd' : Nat → Node} (h : CaAt w G c p nb C m r ls nd) (hc : Chg (fun k => k ∈ r :: ls) w w') (hn : Nds w' (r :: ls) nd') (hi : ∀ a, (nd' a).it = (nd a).it ∧ (nd' a).v = (nd a).v)
    (hm : ∀ a, a ∈ ls' ↔ a ∈ ls) (hd : ls'.Nodup) (hch : Chain nd' r ls' r) (hwf : C'.Wf nb) (hL : C'.L = ls'.map fun a => (nd a).it) (hs : C'.size = C.size) (h1 : C'.hits = C.hits) (h2 : C'.misses = C.misses) (h3 : C'.evicted = C.evicted) : CaAt w' G c p nb C' m r ls' nd' := by
  have hb' : ∀ b, G b → b ∉ r :: ls → w'.heap[b]? = w.heap[b]? := fun b hf hne => hc.block b (h.lt b hf) hne
  have hmem : ∀ a ∈ r :: ls', a ∈ r :: ls := fun a ha => by
    rcases List.mem_cons.1 ha with e | e
    · subst e; simp
    · exact List.mem_cons_of_mem _ ((hm a).1 e)
  have hin : ∀ a, (nd' a).n = (nd a).n := fun a => congrArg It.n (hi a).1
  have hib : ∀ a, (nd' a).b = (nd a).b := fun a => congrArg It.b (hi a).1
  refine ⟨hwf, h.nbt, ?_, ?_, fun a ha => hn a (hmem a ha), ?_, hch, ?_, fun a ha => ?_, fun a ha b hb hab g hg => ?_, h.fc, h.fm, fun a ha => h.fn a (hmem a ha), fun a ha g hg => ?_, fun b hf => Nat.lt_of_lt_of_le (h.lt b hf) hc.size⟩
  · rw [hs, h1, h2, h3]
    exact (hb' c h.fc (fun e => (h.node_ne e).1 rfl)).trans h.blk
  · exact (h.map.kept (hb' m h.fm (fun e => (h.node_ne e).2.1 rfl))).congr hm (fun a _ => hin a)
  · refine List.nodup_cons.2 ⟨fun e => (List.nodup_cons.1 h.nodup).1 ((hm r).1 e), hd⟩
  · rw [hL]; exact List.map_congr_left (fun a _ => (hi a).1.symm)
  · rw [(hi a).2, hib]
    refine own_same (h.own a ((hm a).1 ha)) (fun g hg => hb' g (h.fb a ((hm a).1 ha) g hg) (fun e => (h.node_ne e).2.2 a ((hm a).1 ha) g hg rfl))
  · rw [(hi a).2] at hg
    rw [(hi b).2]
    exact h.apart a ((hm a).1 ha) b ((hm b).1 hb) hab g hg
  · rw [(hi a).2] at hg
    exact h.fb a ((hm a).1 ha) g hg
end

/-! ### small contracts -/
theorem info95 : ∃ j, Try.prog.info? 95 = some j ∧ j.size ≠ 0 := by
  have h : (Try.prog.info? 95).map (fun i => i.size) = some 6 := by kernel_rfl
  obtain ⟨i, hi, e⟩ := Option.map_eq_some_iff.1 h
  exact ⟨i, hi, by rw [e]; decide⟩
theorem neq75_ne {w : World} {a b : Nat} {ca cb : Array Value} {ta tb : TypeId} (h : a ≠ b) (ha : w.heap[a]? = some (.cells ca ta (0, 0))) (hb : w.heap[b]? = some (.cells cb tb (0, 0))) :
    (binOp .neq 75 (.pointer (some ⟨a, 0, none⟩)) (.pointer (some ⟨b, 0, none⟩))).run Try.prog w = .ok (.bool true) w := by
  obtain ⟨j, hj, hs⟩ := info95
  have hne : (⟨a, 0, none⟩ : Addr) ≠ ⟨b, 0, none⟩ := fun e => h (congrArg Addr.block e)
  have h : ∀ d : Nat, (Op.equalIn (d + 1) 75 (.pointer (some ⟨a, 0, none⟩)) (.pointer (some ⟨b, 0, none⟩))).run Try.prog w = .ok false w := fun d => by
    simp [Op.equalIn, run_underlying Try.underlying75, sizeOf, typeInfo, hj, hs, run_sameAddr_other w hne ha hb]
  simp only [binOp]
  simp [Op.equal, Op.maxDepth, h 9999]
theorem neq75_eq (a : Nat) (w : World) : (binOp .neq 75 (.pointer (some ⟨a, 0, none⟩)) (.pointer (some ⟨a, 0, none⟩))).run Try.prog w = .ok (.bool false) w := by
  obtain ⟨j, hj, hs⟩ := info95
  have h : ∀ d : Nat, (Op.equalIn (d + 1) 75 (.pointer (some ⟨a, 0, none⟩)) (.pointer (some ⟨a, 0, none⟩))).run Try.prog w = .ok true w := fun d => by
    simp [Op.equalIn, run_underlying Try.underlying75, sizeOf, typeInfo, hj, run_sameAddr_same]
  simp only [binOp]
  simp [Op.equal, Op.maxDepth, h 9999]
theorem neq75_nil (a : Addr) (w : World) : (binOp .neq 75 (.pointer (some a)) (.pointer none)).run Try.prog w = .ok (.bool true) w := by kernel_rfl
theorem neq75_none (w : World) : (binOp .neq 75 (.pointer none) (.pointer none)).run Try.prog w = .ok (.bool false) w := by kernel_rfl
theorem eq75_nil (a : Addr) (w : World) : (binOp .eql 75 (.pointer (some a)) (.pointer none)).run Try.prog w = .ok (.bool false) w := by kernel_rfl
theorem eq75_none (w : World) : (binOp .eql 75 (.pointer none) (.pointer none)).run Try.prog w = .ok (.bool true) w := by kernel_rfl

set_option maxHeartbeats 400000 in
theorem stats_any (G : Nat → Prop) (c p nb : Nat) (C : Ca) (m r : Nat) (ls : List Nat) (nd : Nat → Node) (w : World) (h : CaAt w G c p nb C m r ls nd) :
    Calls Try.prog 16 #[.pointer (some ⟨c, 0, none⟩)] w fun e w' => e = .returned (.tuple #[.int .i64 (C.hits : Int), .int .i64 (C.misses : Int), .int .i64 (C.evicted : Int)]) ∧ ∃ q, w' = w.drewN q := by
  have c4 := h.c4
  have c5 := h.c5
  have c6 := h.c6
  clear h
  go_enter Try.func16, Try.ntmps16
  go_wp2_with fail
  go_quiet (fail)
  go_wp2
  go_ret3
  exact ⟨rfl, _, rfl⟩

/-- The first of a list, else z. -/
def hdN (bs : List Nat) (z : Nat) : Nat := bs.headD z
theorem chain_head {nd : Nat → Node} {a z : Nat} {bs : List Nat} (h : Chain nd a bs z) : (nd a).x = hdN bs z := by
  cases bs with
  | nil => exact h.1
  | cons b bs => exact h.1

set_option maxHeartbeats 800000 in
theorem eldest_any (G : Nat → Prop) (c p nb : Nat) (C : Ca) (m r : Nat) (ls : List Nat) (nd : Nat → Node) (w : World) (h : CaAt w G c p nb C m r ls nd) :
    Calls Try.prog 85 #[.pointer (some ⟨c, 0, none⟩)] w fun e w' => w' = w ∧ ((∃ xs a ys, ls = xs ++ a :: ys ∧ (∀ b ∈ xs, (nd b).k ≠ 0) ∧ (nd a).k = 0 ∧ e = .returned (.pointer (some ⟨a, 0, none⟩))) ∨ ((∀ b ∈ ls, (nd b).k ≠ 0) ∧ e = .returned (.pointer none))) := by
  have c3 := h.c3
  have r4 := (h.nodes r (by simp)).c4
  rw [chain_head h.chain] at r4
  have HH : Hid (CaAt w G c p nb C m r ls nd) := h
  clear h
  go_enter Try.func85, Try.ntmps85
  go_wp2_with fail
  go_loopg [3] (ls.length) (fun gg x wr => ∃ xs ys, x = .pointer (some ⟨hdN ys r, 0, none⟩) ∧ wr = w ∧ ys.length ≤ gg ∧ Hid (ls = xs ++ ys ∧ ∀ b ∈ xs, (nd b).k ≠ 0))
  case atStart => exact ⟨[], ls, rfl, rfl, Nat.le_refl _, rfl, by simp⟩
  case round =>
    obtain ⟨xs, ys, rfl, rfl, hg, HX⟩ := hrel
    clear r4
    cases ys with
    | nil =>
      have hq := neq75_eq r
      rw [show hdN [] r = r from rfl]
      go_wp2
      go_ret
      refine ⟨rfl, .inr ⟨?_, rfl⟩⟩
      rw [HX.out.1, List.append_nil]
      exact HX.out.2
    | cons a ys =>
      have hal : a ∈ ls := by rw [HX.out.1]; simp
      have hne : a ≠ r := fun e => (List.nodup_cons.1 HH.out.nodup).1 (e ▸ hal)
      have hq := neq75_ne hne (HH.out.nodes a (List.mem_cons_of_mem _ hal)) (HH.out.nodes r (by simp))
      have hN := HH.out.nodes a (List.mem_cons_of_mem _ hal)
      have a3 := hN.c3
      have a4 := hN.c4
      have hx : (nd a).x = hdN ys r := by
        have := HH.out.chain
        rw [HX.out.1] at this
        exact chain_head (chain_split.1 this).2
      rw [hx] at a4
      rw [show hdN (a :: ys) r = a from rfl]
      clear hN hx hal hne
      by_cases hk : (nd a).k = 0
      · have k1 : (((nd a).k : Nat) : Int) = 0 := by omega
        have HK : Hid ((nd a).k = 0) := hk
        rw [k1] at a3
        clear hk k1
        go_wp2
        go_ret
        exact ⟨rfl, .inl ⟨xs, a, ys, HX.out.1, HX.out.2, HK.out, rfl⟩⟩
      · have k1 : ((((nd a).k : Nat) : Int) == 0) = false := by simp; omega
        have HK : Hid ((nd a).k ≠ 0) := hk
        generalize (((nd a).k : Nat) : Int) = kk at *
        clear hk
        go_wp2
        go_roundg (ys.length)
        case measure => simp at hg; omega
        case rel =>
          refine ⟨xs ++ [a], ys, rfl, rfl, Nat.le_refl _, (show Hid _ from ?_)⟩
          refine ⟨by rw [HX.out.1]; simp, fun b hb => ?_⟩
          rcases List.mem_append.1 hb with h1 | h1
          · exact HX.out.2 b h1
          · simp at h1; subst h1; exact HK.out
end Go.Proofs.Ytioloobeakjbeaa

namespace Go.Proofs.Ytioloobeakjbeaa
open Go.RowKit Go.Maps

/-- The world behind Drop. -/
def dropW (w : World) (c : Nat) : World :=
  (((w.setCell ⟨c, 2, none⟩ (.map (some w.heap.size))).setCell ⟨c, 3, none⟩ (.pointer (some ⟨w.heap.size + 1, 0, none⟩))).alloc (.map #[] 0)).alloc
    (.cells #[.int .i64 0, .slice none 0 0, .bool false, .int .i64 0, .pointer (some ⟨w.heap.size + 1, 0, none⟩), .pointer (some ⟨w.heap.size + 1, 0, none⟩)] 95)
set_option maxHeartbeats 1600000 in
set_option maxRecDepth 100000 in
theorem drop_low (c : Nat) (w : World) (cs : Array Value) (hb : w.heap[c]? = some (.cells cs 77 (0, 0))) (h2 : ∃ v, w.cell? ⟨c, 2, none⟩ = some v) (h3 : ∃ v, w.cell? ⟨c, 3, none⟩ = some v) :
    Calls Try.prog 30 #[.pointer (some ⟨c, 0, none⟩)] w fun e w' => e = .returned (.tuple #[]) ∧ w' = (dropW w c).drew := by
  obtain ⟨v2, h2⟩ := h2
  obtain ⟨v3, h3⟩ := h3
  have hlt : c < w.heap.size := (Array.getElem?_eq_some_iff.1 hb).1
  have f2 : w.frozen? ⟨c, 2, none⟩ = false := by simp [World.frozen?, hb]
  have f3 : w.frozen? ⟨c, 3, none⟩ = false := by simp [World.frozen?, hb]
  have hmm := @run_makeMap Try.prog
  clear hb
  go_enter Try.func30, Try.ntmps30
  go_wp2_with fail
  go_region
  all_goals
    go_end0
    exact ⟨rfl, rfl⟩

/-- A node of nothing. -/
def noNode (r : Nat) : Nat → Node := fun _ => ⟨0, .slice none 0 0, [], false, 0, r, r⟩
theorem drop_facts {w : World} {c p nb : Nat} {C : Ca} {mv rv : Value} (G : Nat → Prop) (hwf : C.Wf nb) (hnb : nb ≤ 16384)
    (hb : w.heap[c]? = some (.cells #[.pointer (some ⟨p, 0, none⟩), .int .i64 (C.size : Int), mv, rv, .int .i64 (C.hits : Int), .int .i64 (C.misses : Int), .int .i64 (C.evicted : Int)] 77 (0, 0)))
    (hG : G c) (hl : ∀ b, G b → b < w.heap.size) :
    CaAt (dropW w c).drew (fun b => G b ∨ b = w.heap.size ∨ b = w.heap.size + 1) c p nb C.drop w.heap.size (w.heap.size + 1) [] (noNode (w.heap.size + 1)) ∧ Chg (fun b => b = c) w (dropW w c).drew := by
  have hlt : c < w.heap.size := (Array.getElem?_eq_some_iff.1 hb).1
  have hb1 := heap_setCell_same w c 2 _ _ (.map (some w.heap.size)) hb
  have hb2 := heap_setCell_same _ c 3 _ _ (.pointer (some ⟨w.heap.size + 1, 0, none⟩)) hb1
  simp at hb2
  obtain ⟨W, hW⟩ : ∃ W, (w.setCell ⟨c, 2, none⟩ (.map (some w.heap.size))).setCell ⟨c, 3, none⟩ (.pointer (some ⟨w.heap.size + 1, 0, none⟩)) = W := ⟨_, rfl⟩
  have hsz : W.heap.size = w.heap.size := by rw [← hW]; simp
  have c1 : Chg (fun b => b = c) w W := by rw [← hW]; exact (Chg.setCell (S := fun b => b = c) w _ _ rfl).trans (Chg.setCell (S := fun b => b = c) _ _ _ rfl) (fun _ _ h => h)
  rw [hW] at hb2
  have hD : (dropW w c).drew = ((W.alloc (.map #[] 0)).alloc (.cells #[.int .i64 0, .slice none 0 0, .bool false, .int .i64 0, .pointer (some ⟨w.heap.size + 1, 0, none⟩), .pointer (some ⟨w.heap.size + 1, 0, none⟩)] 95)).drew := by rw [← hW]; rfl
  rw [hD]
  have c2 : Chg (fun _ => False) W ((W.alloc (.map #[] 0)).alloc (.cells #[.int .i64 0, .slice none 0 0, .bool false, .int .i64 0, .pointer (some ⟨w.heap.size + 1, 0, none⟩), .pointer (some ⟨w.heap.size + 1, 0, none⟩)] 95)).drew :=
    ((Chg.alloc (fun _ => False) W _).trans (Chg.alloc (fun _ => False) _ _) (fun _ _ h => h)).trans (Chg.drew _ _) (fun _ _ h => h)
  refine ⟨⟨Ca.drop_wf hwf, hnb, ?_, ?_, ?_, by simp, ⟨rfl, rfl⟩, rfl, fun a ha => (List.not_mem_nil ha).elim, fun a ha => (List.not_mem_nil ha).elim, .inl hG, .inr (.inl rfl), ?_, fun a ha => (List.not_mem_nil ha).elim, ?_⟩, c1.trans c2 (fun _ _ h => h.elim)⟩
  · exact (c2.block c (by rw [hsz]; exact hlt) (fun h => h)).trans hb2
  · have hm := (Mp.new W nb (noNode (w.heap.size + 1))).kept (w' := ((W.alloc (.map #[] 0)).alloc (.cells #[.int .i64 0, .slice none 0 0, .bool false, .int .i64 0, .pointer (some ⟨w.heap.size + 1, 0, none⟩), .pointer (some ⟨w.heap.size + 1, 0, none⟩)] 95)).drew) (Below.heap_alloc _ _ _ (by simp))
    rw [hsz] at hm
    exact hm
  · intro a ha
    simp at ha
    subst ha
    have := heap_alloc_new (W.alloc (.map #[] 0)) (.cells #[.int .i64 0, .slice none 0 0, .bool false, .int .i64 0, .pointer (some ⟨w.heap.size + 1, 0, none⟩), .pointer (some ⟨w.heap.size + 1, 0, none⟩)] 95)
    rw [World.size_alloc, hsz] at this
    exact this
  · intro a ha
    simp at ha
    exact .inr (.inr ha)
  · intro b hb
    show b < ((W.alloc (.map #[] 0)).alloc _).heap.size
    rw [World.size_alloc, World.size_alloc, hsz]
    rcases hb with h | h | h
    · have := hl b h; omega
    · omega
    · omega

set_option maxHeartbeats 400000 in
theorem drop_any (G : Nat → Prop) (c p nb : Nat) (C : Ca) (m r : Nat) (ls : List Nat) (nd : Nat → Node) (w : World) (h : CaAt w G c p nb C m r ls nd) :
    Calls Try.prog 30 #[.pointer (some ⟨c, 0, none⟩)] w fun e w' => e = .returned (.tuple #[]) ∧ ∃ G' m' r' nd', CaAt w' G' c p nb C.drop m' r' [] nd' ∧ Chg (fun b => G b) w w' ∧ ∀ b, G' b → G b ∨ w.heap.size ≤ b := by
  refine (drop_low c w _ h.blk ⟨_, h.c2⟩ ⟨_, h.c3⟩).mono ?_
  rintro e w' ⟨rfl, rfl⟩
  obtain ⟨h1, h2⟩ := drop_facts G h.wf h.nbt h.blk h.fc h.lt
  refine ⟨rfl, _, _, _, _, h1, h2.mono (fun b _ e => by rw [e]; exact h.fc), fun b hb => ?_⟩
  rcases hb with h | h | h
  · exact .inl h
  · exact .inr (by omega)
  · exact .inr (by omega)

set_option maxHeartbeats 800000 in
theorem cnew_bad (p : Nat) (n : Int) (w : World) (h : n < 1 ∨ 1024 < n) : Calls Try.prog 13 #[.pointer (some ⟨p, 0, none⟩), .int .i64 n] w fun e w' => e = .returned (.tuple #[.pointer none, .int .i64 1]) ∧ w' = w := by
  by_cases h1 : n < 1
  · have k1 : decide (n < 1) = true := by simpa using h1
    go_enter Try.func13, Try.ntmps13
    go_wp2
    go_ret2
    exact ⟨rfl, rfl⟩
  · have k1 : decide (n < 1) = false := by simpa using h1
    have k2 : decide (1024 < n) = true := by simp; omega
    clear h h1
    go_enter Try.func13, Try.ntmps13
    go_wp2
    go_ret2
    exact ⟨rfl, rfl⟩

set_option maxHeartbeats 800000 in
theorem cnew_ok (p size nb : Nat) (w : World) (h0 : 0 < size) (h1 : size ≤ 1024) (hnb : nb ≤ 16384) : Calls Try.prog 13 #[.pointer (some ⟨p, 0, none⟩), .int .i64 (size : Int)] w fun e w' =>
    ∃ c G m r nd, e = .returned (.tuple #[.pointer (some ⟨c, 0, none⟩), .int .i64 0]) ∧ CaAt w' G c p nb (Ca.new size) m r [] nd ∧ Chg (fun _ => False) w w' ∧ ∀ b, G b → w.heap.size ≤ b := by
  have k1 : ¬ ((size : Int) < 1) := by omega
  have k2 : ¬ ((1024 : Int) < (size : Int)) := by omega
  have HB : Hid ((w.alloc (.cells #[.pointer (some ⟨p, 0, none⟩), .int .i64 (size : Int), .map none, .pointer none, .int .i64 0, .int .i64 0, .int .i64 0] 77)).heap[w.heap.size]? = some (.cells #[.pointer (some ⟨p, 0, none⟩), .int .i64 ((Ca.new size).size : Int), .map none, .pointer none, .int .i64 ((Ca.new size).hits : Int), .int .i64 ((Ca.new size).misses : Int), .int .i64 ((Ca.new size).evicted : Int)] 77 (0, 0))) := heap_alloc_new w _
  have HW : Hid ((Ca.new size).Wf nb) := Ca.new_wf h0 h1
  clear h0 h1
  go_enter Try.func13, Try.ntmps13
  go_wp2_with fail
  refine (drop_low w.heap.size _ _ HB.out ⟨_, by rw [cell_of_row _ _ 2 _ _ _ HB.out]; rfl⟩ ⟨_, by rw [cell_of_row _ _ 3 _ _ _ HB.out]; rfl⟩).mono ?_
  rintro e w1 ⟨rfl, hw1⟩
  obtain ⟨f1, f2⟩ := drop_facts (fun b => b = w.heap.size) HW.out hnb HB.out rfl (fun b e => by rw [e]; simp)
  rw [← hw1] at f1 f2
  have HF : Hid (CaAt w1 (fun b => b = w.heap.size ∨ b = (w.alloc (.cells #[.pointer (some ⟨p, 0, none⟩), .int .i64 (size : Int), .map none, .pointer none, .int .i64 0, .int .i64 0, .int .i64 0] 77)).heap.size ∨ b = (w.alloc (.cells #[.pointer (some ⟨p, 0, none⟩), .int .i64 (size : Int), .map none, .pointer none, .int .i64 0, .int .i64 0, .int .i64 0] 77)).heap.size + 1) w.heap.size p nb (Ca.new size) _ _ [] _) := f1
  have HC : Hid (Chg (fun _ => False) w w1) := ⟨f2.os, f2.tape, f2.output, Nat.le_trans (by simp) f2.size, fun k hk _ => (f2.block k (by simp; omega) (by omega)).trans (Below.heap_alloc w _ k hk)⟩
  clear f1 f2 hw1 HB HW
  go_wp2
  go_ret2
  refine ⟨_, _, _, _, _, rfl, HF.out, HC.out, fun b hb => ?_⟩
  rcases hb with h | h | h
  · omega
  · rw [h]; simp
  · rw [h]; simp; omega
end Go.Proofs.Ytioloobeakjbeaa

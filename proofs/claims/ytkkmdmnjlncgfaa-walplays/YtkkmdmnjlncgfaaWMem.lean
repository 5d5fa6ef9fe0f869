/-
  A log of package wal and its transaction in memory, and the contracts of the small methods.
-/
import Derived.Test.YtkkmdmnjlncgfaaHead
import Derived.Test.YtkkmdmnjlncgfaaHelp
import Derived.Test.YtkkmdmnjlncgfaaMapsB
namespace Go.Proofs.Ytkkmdmnjlncgfaa
open Go.RowKit Go.Maps

/-- What a map of blocks holds. -/
def vf (f : Nat → Option (List Int)) (V : Nat → Value) (n : Nat) : Option Value := if (f n).isSome then some (V n) else none
theorem vf_none {f : Nat → Option (List Int)} {V : Nat → Value} {n : Nat} (h : f n = none) : vf f V n = none := by simp [vf, h]
theorem vf_some {f : Nat → Option (List Int)} {V : Nat → Value} {n : Nat} {b : List Int} (h : f n = some b) : vf f V n = some (V n) := by simp [vf, h]
theorem vf_upd (f : Nat → Option (List Int)) (V : Nat → Value) (n : Nat) (b : List Int) (v : Value) : vf (upd f n (some b)) (upd V n v) = upd (vf f V) n (some v) := by
  funext k
  by_cases e : k = n
  · subst e; simp [vf, upd_same]
  · simp [vf, upd_other _ _ e]
theorem vf_del (f : Nat → Option (List Int)) (V : Nat → Value) (n : Nat) : vf (upd f n none) V = upd (vf f V) n none := by
  funext k
  by_cases e : k = n
  · subst e; simp [vf, upd_same]
  · simp [vf, upd_other _ _ e]

/-- The map m of the blocks f; their bytes lie in blocks of G. -/
structure Mb (w : World) (G : Nat → Prop) (K m : Nat) (f : Nat → Option (List Int)) (V : Nat → Value) : Prop where
  map : MapIs w m K (vf f V)
  row : ∀ n b, f n = some b → n < K ∧ b.length = 512 ∧ ∃ g c, V n = .slice (some ⟨g, 0, none⟩) 512 c ∧ w.ownsRow 0 5 1 (V n) 512 (bcells b) ∧ G g
  fm : G m
theorem Mb.kept {w w' : World} {G E : Nat → Prop} {K m : Nat} {f : Nat → Option (List Int)} {V : Nat → Value} (h : Mb w G K m f V) (hc : Chg E w w') (hm : ¬ E m) (hr : ∀ g, G g → (∃ cur, w.heap[g]? = some (.cells cur 5 (0, 0))) → ¬ E g) : Mb w' G K m f V := by
  refine ⟨h.map.kept (hc.block m h.map.lt hm), fun n b hb => ?_, h.fm⟩
  obtain ⟨h1, h2, g, c, e, ho, hg⟩ := h.row n b hb
  rw [e] at ho ⊢
  exact ⟨h1, h2, g, c, rfl, own_same ho (fun g' hg' => by cases hg'; exact hc.block g (ho.lt g rfl).2 (hr g hg (own_obj ho rfl))), hg⟩
theorem Mb.mono {w : World} {G G' : Nat → Prop} {K m : Nat} {f : Nat → Option (List Int)} {V : Nat → Value} (h : Mb w G K m f V) (hG : ∀ b, G b → G' b) : Mb w G' K m f V :=
  ⟨h.map, fun n b hb => by obtain ⟨h1, h2, g, c, e, ho, hg⟩ := h.row n b hb; exact ⟨h1, h2, g, c, e, ho, hG g hg⟩, hG _ h.fm⟩
theorem Mb.bs {w : World} {G : Nat → Prop} {K m n : Nat} {f : Nat → Option (List Int)} {V : Nat → Value} {b : List Int} (h : Mb w G K m f V) (hb : f n = some b) : Bs w (V n) b := by
  obtain ⟨h1, h2, g, c, e, ho, hg⟩ := h.row n b hb
  exact Bs.ofOwns (by rw [← h2] at ho; exact ho)

/-- The log at pl, over the disk at pd. -/
structure LgAt (w : World) (G : Nat → Prop) (pd pl K : Nat) (com : Nat → Option (List Int)) (pend : Nat) (ov : Value) (m : Nat) (V : Nat → Value) : Prop where
  blk : w.heap[pl]? = some (.cells #[.pointer (some ⟨pd, 0, none⟩), .map (some m), .int .i64 (pend : Int), ov] 76 (0, 0))
  mb : Mb w G K m com V
  fp : G pl
  lt : ∀ b, G b → b < w.heap.size
/-- A transaction of the log at pl. -/
structure TxAt (w : World) (G : Nat → Prop) (pl q K : Nat) (own : Nat → Option (List Int)) (wrote m : Nat) (V : Nat → Value) : Prop where
  blk : w.heap[q]? = some (.cells #[.pointer (some ⟨pl, 0, none⟩), .map (some m), .int .i64 (wrote : Int)] 78 (0, 0))
  mb : Mb w G K m own V
  fp : G q
  lt : ∀ b, G b → b < w.heap.size
section
variable {w w' : World} {G E : Nat → Prop} {pd pl q K : Nat} {com own : Nat → Option (List Int)} {pend wrote : Nat} {ov : Value} {m : Nat} {V : Nat → Value}
theorem LgAt.c0 (h : LgAt w G pd pl K com pend ov m V) : w.cell? ⟨pl, 0, none⟩ = some (.pointer (some ⟨pd, 0, none⟩)) := by rw [cell_of_row w pl 0 _ _ _ h.blk]; rfl
theorem LgAt.c1 (h : LgAt w G pd pl K com pend ov m V) : w.cell? ⟨pl, 1, none⟩ = some (.map (some m)) := by rw [cell_of_row w pl 1 _ _ _ h.blk]; rfl
theorem LgAt.c2 (h : LgAt w G pd pl K com pend ov m V) : w.cell? ⟨pl, 2, none⟩ = some (.int .i64 (pend : Int)) := by rw [cell_of_row w pl 2 _ _ _ h.blk]; rfl
theorem LgAt.c3 (h : LgAt w G pd pl K com pend ov m V) : w.cell? ⟨pl, 3, none⟩ = some ov := by rw [cell_of_row w pl 3 _ _ _ h.blk]; rfl
theorem LgAt.fr (h : LgAt w G pd pl K com pend ov m V) (i : Nat) : w.frozen? ⟨pl, i, none⟩ = false := by simp [World.frozen?, h.blk]
theorem LgAt.pl_lt (h : LgAt w G pd pl K com pend ov m V) : pl < w.heap.size := h.lt _ h.fp
theorem TxAt.c0 (h : TxAt w G pl q K own wrote m V) : w.cell? ⟨q, 0, none⟩ = some (.pointer (some ⟨pl, 0, none⟩)) := by rw [cell_of_row w q 0 _ _ _ h.blk]; rfl
theorem TxAt.c1 (h : TxAt w G pl q K own wrote m V) : w.cell? ⟨q, 1, none⟩ = some (.map (some m)) := by rw [cell_of_row w q 1 _ _ _ h.blk]; rfl
theorem TxAt.c2 (h : TxAt w G pl q K own wrote m V) : w.cell? ⟨q, 2, none⟩ = some (.int .i64 (wrote : Int)) := by rw [cell_of_row w q 2 _ _ _ h.blk]; rfl
theorem TxAt.fr (h : TxAt w G pl q K own wrote m V) (i : Nat) : w.frozen? ⟨q, i, none⟩ = false := by simp [World.frozen?, h.blk]
theorem LgAt.kept (h : LgAt w G pd pl K com pend ov m V) (hc : Chg E w w') (hE : ∀ b, G b → ¬ E b) : LgAt w' G pd pl K com pend ov m V :=
  ⟨(hc.block pl h.pl_lt (hE pl h.fp)).trans h.blk, h.mb.kept hc (hE m h.mb.fm) (fun g hg _ => hE g hg), h.fp, fun b hb => Nat.lt_of_lt_of_le (h.lt b hb) hc.size⟩
theorem TxAt.kept (h : TxAt w G pl q K own wrote m V) (hc : Chg E w w') (hE : ∀ b, G b → ¬ E b) : TxAt w' G pl q K own wrote m V :=
  ⟨(hc.block q (h.lt q h.fp) (hE q h.fp)).trans h.blk, h.mb.kept hc (hE m h.mb.fm) (fun g hg _ => hE g hg), h.fp, fun b hb => Nat.lt_of_lt_of_le (h.lt b hb) hc.size⟩
theorem LgAt.mono (h : LgAt w G pd pl K com pend ov m V) {G' : Nat → Prop} (hG : ∀ b, G b → G' b) (hl : ∀ b, G' b → b < w.heap.size) : LgAt w G' pd pl K com pend ov m V := ⟨h.blk, h.mb.mono hG, hG _ h.fp, hl⟩
theorem TxAt.mono (h : TxAt w G pl q K own wrote m V) {G' : Nat → Prop} (hG : ∀ b, G b → G' b) (hl : ∀ b, G' b → b < w.heap.size) : TxAt w G' pl q K own wrote m V := ⟨h.blk, h.mb.mono hG, hG _ h.fp, hl⟩
/-- Only the struct and the map of the log have changed: the transaction stays. -/
theorem TxAt.beside {mt : Nat} {Vt : Nat → Value} (h : TxAt w G pl q K own wrote mt Vt) (hl : LgAt w G pd pl K com pend ov m V) (hmm : mt ≠ m) (hc : Chg (fun b => b = pl ∨ b = m) w w') : TxAt w' G pl q K own wrote mt Vt := by
  have hql : q ≠ pl := fun e => by subst e; have := hl.blk; rw [h.blk] at this; simp at this
  obtain ⟨es, cl, hom⟩ := hl.mb.map.obj
  have hqm : q ≠ m := fun e => by subst e; rw [h.blk] at hom; simp at hom
  obtain ⟨et, ct, homt⟩ := h.mb.map.obj
  have hmp : mt ≠ pl := fun e => by subst e; rw [hl.blk] at homt; simp at homt
  refine ⟨(hc.block q (h.lt q h.fp) (fun e => by rcases e with e | e; exact hql e; exact hqm e)).trans h.blk, h.mb.kept hc (fun e => by rcases e with e | e; exact hmp e; exact hmm e) (fun g hg ⟨cur, ho⟩ e => ?_), h.fp, fun b hb => Nat.lt_of_lt_of_le (h.lt b hb) hc.size⟩
  rcases e with e | e
  · subst e; rw [hl.blk] at ho; simp at ho
  · subst e; rw [hom] at ho; simp at ho
end
end Go.Proofs.Ytkkmdmnjlncgfaa

/-
  Contracts of the reader of package codec: what NewReader, fail, take, number, U8, U16, U32, Fixed, Bytes and End answer and leave.
-/
import Derived.Test.YtbhfmceapffhnaaDoorFixed
import Derived.BigQuiet
import Derived.Deep.QuietTactic
namespace Go.Proofs.YtbhfmceapffhnaaDoor
open Go.RowKit

/-- A reader: its struct lies in block p; the slice v of what is left reads xs; its fault is f; behind a fault nothing is left. -/
structure Rd (N : Nat) (w : World) (p : Nat) (v : Value) (xs : List Int) (f : Int) : Prop where
  le : N ≤ p
  blk : w.heap[p]? = some (.cells #[v, .int .i64 f] 112 (0, 0))
  bs : Bs w v xs
  ne : ∀ a n c, v = .slice (some a) n c → 0 < n → a.block < p
  nil : f ≠ 0 → v = .slice none 0 0 ∧ xs = []

/-- From w to w' the reader at p alone has changed. -/
structure RdTo (N p : Nat) (w w' : World) (v' : Value) (xs' : List Int) (f' : Int) : Prop where
  rd : Rd N w' p v' xs' f'
  chg : Chg (fun k => k = p) w w'

theorem Rd.lt {N p : Nat} {w : World} {v : Value} {xs : List Int} {f : Int} (h : Rd N w p v xs f) : p < w.heap.size := (Array.getElem?_eq_some_iff.1 h.blk).1
theorem Rd.cell0 {N p : Nat} {w : World} {v : Value} {xs : List Int} {f : Int} (h : Rd N w p v xs f) : w.cell? ⟨p, 0, none⟩ = some v := by
  rw [cell_of_row w p 0 _ _ _ h.blk]; rfl
theorem Rd.cell1 {N p : Nat} {w : World} {v : Value} {xs : List Int} {f : Int} (h : Rd N w p v xs f) : w.cell? ⟨p, 1, none⟩ = some (.int .i64 f) := by
  rw [cell_of_row w p 1 _ _ _ h.blk]; rfl
theorem Rd.fr {N p : Nat} {w : World} {v : Value} {xs : List Int} {f : Int} (h : Rd N w p v xs f) (j : Nat) : w.frozen? ⟨p, j, none⟩ = false := by
  simp [World.frozen?, h.blk]
theorem Rd.slice {N p : Nat} {w : World} {v : Value} {xs : List Int} {f : Int} (h : Rd N w p v xs f) : ∃ a c, v = .slice a xs.length c ∧ xs.length ≤ c := by
  rcases h.bs with ⟨rfl, rfl⟩ | ⟨a, c, rfl, hl, _⟩
  · exact ⟨none, 0, rfl, Nat.le_refl _⟩
  · exact ⟨_, _, rfl, hl⟩
theorem RdTo.refl {N p : Nat} {w : World} {v : Value} {xs : List Int} {f : Int} (h : Rd N w p v xs f) : RdTo N p w w v xs f := ⟨h, Chg.refl _ _⟩
theorem RdTo.trans {N p : Nat} {w w1 w2 : World} {v1 v2 : Value} {x1 x2 : List Int} {f1 f2 : Int} (a : RdTo N p w w1 v1 x1 f1) (b : RdTo N p w1 w2 v2 x2 f2) : RdTo N p w w2 v2 x2 f2 :=
  ⟨b.rd, a.chg.trans b.chg (fun _ _ h => h)⟩
/-- Into a world in which nothing of the reader's has changed. -/
theorem Rd.kept {S : Nat → Prop} {N p : Nat} {w w' : World} {v : Value} {xs : List Int} {f : Int} (h : Rd N w p v xs f) (hc : Chg S w w') (hp : ¬ S p) (hv : ∀ a n c, v = .slice (some a) n c → 0 < n → ¬ S a.block) : Rd N w' p v xs f :=
  ⟨h.le, (hc.block p h.lt hp).trans h.blk, h.bs.kept hc hv, h.ne, h.nil⟩

set_option maxHeartbeats 800000 in
theorem fail_not (N p : Nat) (v : Value) (xs : List Int) (f e : Int) (w : World) (hr : Rd N w p v xs f) (hf : f ≠ 0) :
    Calls Tryd.prog 82 #[.pointer (some ⟨p, 0, none⟩), .int .i64 e] w fun r w' => r = .returned (.tuple #[]) ∧ w' = w := by
  have h0 := hr.cell0
  have h1 := hr.cell1
  have hb : (f == 0) = false := by simpa using hf
  go_enter Tryd.func82, Tryd.ntmps82
  go_wp2
  go_end0
  exact ⟨rfl, rfl⟩

set_option maxHeartbeats 800000 in
theorem fail_first (N p : Nat) (v : Value) (xs : List Int) (e : Int) (w : World) (hr : Rd N w p v xs 0) :
    Calls Tryd.prog 82 #[.pointer (some ⟨p, 0, none⟩), .int .i64 e] w fun r w' => r = .returned (.tuple #[]) ∧ RdTo N p w w' (.slice none 0 0) [] e := by
  have h0 := hr.cell0
  have h1 := hr.cell1
  have f0 := hr.fr 0
  have f1 := hr.fr 1
  obtain ⟨a, c, rfl, _⟩ := hr.slice
  go_enter Tryd.func82, Tryd.ntmps82
  go_wp2
  go_end0
  refine ⟨rfl, ⟨hr.le, ?_, .inl ⟨rfl, rfl⟩, (fun a n c e => by cases e), fun _ => ⟨rfl, rfl⟩⟩, ?_⟩
  · have g1 := heap_setCell_same w p 1 _ 112 (.int .i64 e) hr.blk
    have g2 := heap_setCell_same _ p 0 _ 112 (.slice none 0 0) g1
    simpa using g2
  · exact (Chg.setCell (S := fun k => k = p) w ⟨p, 1, none⟩ _ rfl).trans (Chg.setCell (S := fun k => k = p) _ ⟨p, 0, none⟩ _ rfl) (fun _ _ h => h)

set_option maxHeartbeats 800000 in
theorem take_fault (N p : Nat) (v : Value) (xs : List Int) (f n : Int) (w : World) (hr : Rd N w p v xs f) (hf : f ≠ 0) :
    Calls Tryd.prog 81 #[.pointer (some ⟨p, 0, none⟩), .int .i64 n] w fun r w' => r = .returned (.slice none 0 0) ∧ w' = w := by
  have h0 := hr.cell0
  have h1 := hr.cell1
  have hb : (f == 0) = false := by simpa using hf
  obtain ⟨rfl, rfl⟩ := hr.nil hf
  by_cases hn : 0 < n
  · go_enter Tryd.func81, Tryd.ntmps81
    go_wp2_with fail
    refine (fail_not N p _ _ f 2 _ hr hf).mono ?_
    rintro e w' ⟨rfl, rfl⟩
    go_wp2
    go_ret
    exact ⟨rfl, rfl⟩
  · go_enter Tryd.func81, Tryd.ntmps81
    go_wp2
    go_ret
    exact ⟨rfl, rfl⟩

set_option maxHeartbeats 800000 in
theorem take_short (N p : Nat) (v : Value) (xs : List Int) (n : Int) (w : World) (hr : Rd N w p v xs 0) (hn : (xs.length : Int) < n) :
    Calls Tryd.prog 81 #[.pointer (some ⟨p, 0, none⟩), .int .i64 n] w fun r w' => r = .returned (.slice none 0 0) ∧ RdTo N p w w' (.slice none 0 0) [] 2 := by
  have h0 := hr.cell0
  have h1 := hr.cell1
  obtain ⟨a, c, rfl, _⟩ := hr.slice
  go_enter Tryd.func81, Tryd.ntmps81
  go_wp2_with fail
  refine (fail_first N p _ _ 2 _ hr).mono ?_
  rintro e w' ⟨rfl, ht⟩
  have k0 := ht.rd.cell0
  have k1 := ht.rd.cell1
  go_wp2
  go_ret
  exact ⟨rfl, ht⟩

theorem add_add (a : Addr) (n j : Nat) : (a.add n).add j = a.add (n + j) := by
  unfold Addr.add
  by_cases h : n = 0
  · subst h; simp
  · by_cases k : j = 0
    · subst k; simp
    · have e : ¬ (n + j = 0) := by omega
      simp [h, k, Nat.add_assoc]
theorem add_block (a : Addr) (n : Nat) : (a.add n).block = a.block := by unfold Addr.add; split <;> rfl

/-- The rest of a slice of bytes. -/
theorem Bs.rest {w : World} {a : Option Addr} {c n : Nat} {xs : List Int} (h : Bs w (.slice a xs.length c) xs) (hn : n ≤ xs.length) (hc : ¬ c = n) : Bs w (.slice (Option.map (fun x => x.add n) a) (xs.length - n) (c - n)) (xs.drop n) := by
  rcases h with ⟨e, rfl⟩ | ⟨a, c', e, hl, hm, hcell⟩
  · cases e; simp at hn; omega
  · cases e
    have hlen : (xs.drop n).length = xs.length - n := by simp
    refine .inr ⟨a.add n, c - n, by rw [hlen]; rfl, by omega, by omega, fun j hj => ?_⟩
    rw [hlen] at hj
    rw [add_add, hcell (n + j) (by omega)]
    simp [List.getD, List.getElem?_drop]
theorem Bs.rest0 {w : World} {a : Option Addr} {n : Nat} {xs : List Int} (h : Bs w (.slice a xs.length n) xs) (hn : n ≤ xs.length) : Bs w (.slice a (xs.length - n) 0) (xs.drop n) := by
  rcases h with ⟨e, rfl⟩ | ⟨a, c', e, hl, hm, hcell⟩
  · cases e; exact .inl ⟨rfl, by simp⟩
  · cases e
    have hlen : (xs.drop n).length = xs.length - n := by simp
    refine .inr ⟨a, 0, by rw [hlen], by omega, by omega, fun j hj => ?_⟩
    omega

theorem Rd.took {N p : Nat} {w : World} {a a' : Option Addr} {n' c c' n : Nat} {xs : List Int} (hr : Rd N w p (.slice a xs.length c) xs 0) (hn : n ≤ xs.length) (hn' : n' = xs.length - n) (hb : Bs w (.slice a' n' c') (xs.drop n)) (ha : ∀ x, a' = some x → 0 < n' → ∃ y, a = some y ∧ x.block = y.block) :
    (∃ x, RdTo N p w (w.setCell ⟨p, 0, none⟩ (.slice a' n' c')) x (xs.drop n) 0) ∧ Bs (w.setCell ⟨p, 0, none⟩ (.slice a' n' c')) (.slice a n n) (xs.take n) ∧
      ∀ (b : Addr) (m k : Nat), Value.slice a n n = .slice (some b) m k → 0 < m → ¬ b.block = p ∧ b.block < w.heap.size := by
  have hch : Chg (fun k => k = p) w (w.setCell ⟨p, 0, none⟩ (.slice a' n' c')) := Chg.setCell (S := fun k => k = p) w ⟨p, 0, none⟩ _ rfl
  refine ⟨⟨.slice a' n' c', ⟨hr.le, ?_, ?_, ?_, fun h => absurd rfl h⟩, hch⟩, ?_, ?_⟩
  · have g1 := heap_setCell_same w p 0 _ 112 (.slice a' n' c') hr.blk
    simpa using g1
  · refine hb.kept hch (fun b m k e h0 => ?_)
    cases e
    obtain ⟨y, rfl, e2⟩ := ha b rfl h0
    rw [e2]
    exact Nat.ne_of_lt (hr.ne y _ _ rfl (by omega))
  · intro b m k e h0
    cases e
    obtain ⟨y, rfl, e2⟩ := ha b rfl h0
    rw [e2]
    exact hr.ne y _ _ rfl (by omega)
  · refine (Bs.front hr.bs hn).kept hch (fun b m k e h0 => ?_)
    cases e
    exact Nat.ne_of_lt (hr.ne b _ _ rfl (by omega))
  · intro b m k e h0
    cases e
    refine ⟨Nat.ne_of_lt (hr.ne b _ _ rfl (by omega)), ?_⟩
    rcases hr.bs with ⟨e, _⟩ | ⟨a2, c2, e, hl, hm, hcell⟩
    · cases e
    · cases e
      have := World.block_lt_of_cell? w _ (hcell 0 (by omega))
      rw [add_block] at this
      exact this

set_option maxHeartbeats 800000 in
theorem take_some (N p : Nat) (v : Value) (xs : List Int) (n : Nat) (w : World) (hr : Rd N w p v xs 0) (hn : n ≤ xs.length) :
    Calls Tryd.prog 81 #[.pointer (some ⟨p, 0, none⟩), .int .i64 n] w fun r w' => ∃ u v', r = .returned u ∧ RdTo N p w w' v' (xs.drop n) 0 ∧ Bs w' u (xs.take n) ∧ (∀ a m c, u = .slice (some a) m c → 0 < m → a.block ≠ p ∧ a.block < w.heap.size) := by
  have h0 := hr.cell0
  have h1 := hr.cell1
  have f0 := hr.fr 0
  have f1 := hr.fr 1
  obtain ⟨a, c, rfl, hc⟩ := hr.slice
  have hn' : ¬ ((xs.length : Int) < (n : Int)) := by omega
  have hn1 : (n : Int) ≤ (xs.length : Int) := by omega
  have hn2 : (n : Int) ≤ (c : Int) := by omega
  go_enter Tryd.func81, Tryd.ntmps81
  go_wp2
  · have hcn : c = n := by assumption
    subst hcn
    have H := hr.took hn rfl (Bs.rest0 hr.bs hn) (fun x e _ => ⟨x, e, rfl⟩)
    go_ret
    exact ⟨_, rfl, H.1, H.2.1, H.2.2⟩
  · have hcn : ¬ c = n := by assumption
    have H := hr.took hn rfl (Bs.rest hr.bs hn hcn) (fun x e _ => by cases a with | none => cases e | some y => cases e; exact ⟨y, rfl, add_block _ _⟩)
    go_ret
    exact ⟨_, rfl, H.1, H.2.1, H.2.2⟩
end Go.Proofs.YtbhfmceapffhnaaDoor

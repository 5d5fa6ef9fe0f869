/-
  Bytes, lines and splitters in memory.
-/
import Derived.Test.YtfbildadidfolaaLPure
import Derived.Test.YtfbildadidfolaaChecked
import Derived.WalkMore
import Derived.OwnWalk
import Derived.Deep.DeepMust
import Derived.BigQuiet
import Derived.BigRegion
import Derived.Deep.QuietTactic
import Derived.Lib.MinMax
namespace Go.Proofs.Ytfbildadidfolaa
open Go.RowKit

theorem info_parts {o : Option TypeInfo} {z : Value} {s b : Nat} (h : o.map (fun i => (i.zero, i.size, i.bytes)) = some (some z, s, b)) : ∃ i : TypeInfo, o = some i ∧ i.zero = some z ∧ i.size = s ∧ i.bytes = b := by
  cases ho : o with
  | none => rw [ho] at h; cases h
  | some i =>
    rw [ho] at h
    injection h with h
    injection h with h1 h
    injection h with h2 h3
    exact ⟨i, rfl, h1, h2, h3⟩
theorem info5 : ∃ i : TypeInfo, Try.prog.info? 5 = some i ∧ i.zero = some (.int .u8 0) ∧ i.size = 1 ∧ i.bytes = 1 := info_parts (by kernel_rfl)
theorem Chg.ofBelowC {w w' : World} (h : Below w.heap.size w w') : Chg (fun _ => False) w w' := ⟨h.os, h.tape, h.output, h.size, fun k hk _ => h.block k hk⟩
theorem Chg.toBelow {w w' : World} (h : Chg (fun _ => False) w w') : Below w.heap.size w w' := ⟨h.os, h.tape, h.output, h.size, fun k hk => h.block k hk (fun h => h)⟩
theorem below_drN {N : Nat} {w w' : World} (h : Below N w w') (n : Nat) : Below N w (w'.drewN n) := ⟨h.os, h.tape, h.output, h.size, h.block⟩
theorem own_sl {w : World} {N T k n : Nat} {v : Value} {xs : List Value} (h : w.ownsRow N T k v n xs) : ∃ a cap, v = .slice a n cap := by
  rcases h.2 with ⟨rfl, h0⟩ | ⟨g, cap, cur, rfl, _⟩
  · have := h.1
    rw [h0] at this
    exact ⟨none, 0, by simp_all⟩
  · exact ⟨_, _, rfl⟩
theorem own_ge {w : World} {N T k n b : Nat} {v : Value} {xs : List Value} (h : w.ownsRow N T k v n xs) (hb : v.ownBlock = some b) : N ≤ b ∧ b < w.heap.size := by
  rcases h.2 with ⟨rfl, h0⟩ | ⟨g, cap, cur, rfl, hg, hb2, _⟩
  · cases hb
  · have : g = b := by simpa [Value.ownBlock] using hb
    subst this
    exact ⟨hg, lt_of_block hb2⟩
theorem own_kept {S : Nat → Prop} {w w' : World} {N T k n : Nat} {v : Value} {xs : List Value} (h : w.ownsRow N T k v n xs) (hc : Chg S w w') (hS : ∀ b, v.ownBlock = some b → ¬ S b) : w'.ownsRow N T k v n xs := by
  refine ⟨h.1, ?_⟩
  rcases h.2 with h2 | ⟨g, cap, cur, rfl, h2, h3, h4⟩
  · exact .inl h2
  · exact .inr ⟨g, cap, cur, rfl, h2, (hc.block g (lt_of_block h3) (hS g rfl)).trans h3, h4⟩
theorem own_mono {w : World} {N N' T k n : Nat} {v : Value} {xs : List Value} (h : w.ownsRow N' T k v n xs) (hN : N ≤ N') : w.ownsRow N T k v n xs := by
  refine ⟨h.1, ?_⟩
  rcases h.2 with h2 | ⟨g, cap, cur, e, hb, r⟩
  · exact .inl h2
  · exact .inr ⟨g, cap, cur, e, by omega, r⟩

/-- Where a slice lies, if it holds a thing. -/
def In (P : Nat → Prop) (u : Value) : Prop := ∀ a n c, u = .slice (some a) n c → 0 < n → P a.block
theorem In.mono {P Q : Nat → Prop} {u : Value} (h : In P u) (hq : ∀ k, P k → Q k) : In Q u := fun a n c e h0 => hq _ (h a n c e h0)
theorem In.own {u : Value} {P : Nat → Prop} {w : World} {N T k n : Nat} {xs : List Value} (h : w.ownsRow N T k u n xs) (hP : ∀ b, u.ownBlock = some b → P b) : In P u := by
  intro a n c e h0
  rcases h.2 with ⟨rfl, _⟩ | ⟨g, cap, cur, rfl, _⟩
  · cases e
  · injection e with e1 e2 e3
    injection e1 with e1
    subst e1
    exact hP _ rfl
theorem Bs.stays {S : Nat → Prop} {w w' : World} {u : Value} {bs : List Int} {P : Nat → Prop} (h : Bs w u bs) (hi : In P u) (hc : Chg S w w') (hP : ∀ k, P k → ¬ S k) : Bs w' u bs :=
  h.kept hc fun a n c e h0 => hP _ (hi a n c e h0)
theorem Bs.form {w : World} {v : Value} {xs : List Int} (h : Bs w v xs) : ∃ a c, v = .slice a xs.length c ∧ xs.length ≤ c ∧ c ≤ maxLen := by
  rcases h with ⟨rfl, rfl⟩ | ⟨a, c, rfl, h, h2, _⟩
  · exact ⟨none, 0, rfl, Nat.le_refl _, Nat.zero_le _⟩
  · exact ⟨_, _, rfl, h, h2⟩
theorem Bs.lt {w : World} {a : Addr} {n c : Nat} {xs : List Int} (h : Bs w (.slice (some a) n c) xs) (h0 : 0 < n) : a.block < w.heap.size := by
  rcases h with ⟨e, _⟩ | ⟨a', c', e, _, _, hc⟩
  · cases e
  · injection e with e1 e2 e3
    injection e1 with e1
    subst e1; subst e2
    have := World.block_lt_of_cell? w _ (hc 0 h0)
    have e : (a.add 0).block = a.block := by unfold Addr.add; split <;> rfl
    rwa [e] at this
theorem Bs.top {w : World} {a : Option Addr} {n c hi : Nat} {bs : List Int} (h : Bs w (.slice a n c) bs) (h2 : hi ≤ n) : Bs w (.slice a hi c) (bs.take hi) := by
  rcases h with ⟨e, rfl⟩ | ⟨a', c', e, hl, hm, hcell⟩
  · injection e with e1 e2 e3
    subst e1; subst e2; subst e3
    obtain rfl : hi = 0 := by omega
    exact .inl ⟨rfl, rfl⟩
  · injection e with e1 e2 e3
    subst e1; subst e2; subst e3
    have hlen : (bs.take hi).length = hi := by simp; omega
    refine .inr ⟨a', c, by rw [hlen], by omega, by omega, fun j hj => ?_⟩
    rw [hlen] at hj
    rw [hcell j (by omega)]
    simp [List.getD, hj]
/-- The rest of a slice of bytes, however its address is said. -/
theorem Bs.rest {w : World} {a : Option Addr} {n c lo : Nat} {bs : List Int} (h : Bs w (.slice a n c) bs) (h1 : lo ≤ n) : Bs w (.slice (if c = lo then a else a.map fun x => x.add lo) (n - lo) (c - lo)) (bs.drop lo) := by
  have hb : bs.length = n := by
    rcases h with ⟨e, rfl⟩ | ⟨a', c', e, _⟩
    · injection e with e1 e2 e3; simpa using e2.symm
    · injection e with e1 e2 e3; exact e2.symm
  rcases h with ⟨e, rfl⟩ | ⟨a', c', e, hl, hm, hcell⟩
  · injection e with e1 e2 e3
    subst e1; subst e2; subst e3
    obtain rfl : lo = 0 := by omega
    exact .inl ⟨rfl, rfl⟩
  · injection e with e1 e2 e3
    subst e1; subst e2; subst e3
    have hlen : (bs.drop lo).length = bs.length - lo := by simp
    by_cases hcl : c = lo
    · rw [if_pos hcl]
      refine .inr ⟨a', c - lo, by rw [hlen], by rw [hlen]; omega, by omega, fun j hj => ?_⟩
      rw [hlen] at hj
      omega
    · rw [if_neg hcl]
      refine .inr ⟨a'.add lo, c - lo, by rw [hlen]; rfl, by rw [hlen]; omega, by omega, fun j hj => ?_⟩
      rw [hlen] at hj
      have ea : (a'.add lo).add j = a'.add (lo + j) := by
        unfold Addr.add
        by_cases h : lo = 0
        · subst h; simp
        · by_cases k : j = 0
          · subst k; simp
          · have e : ¬ (lo + j = 0) := by omega
            simp [h, k, Nat.add_assoc]
      rw [ea, hcell (lo + j) (by omega)]
      simp [List.getD, List.getElem?_drop]
theorem In.rest {P : Nat → Prop} {a : Option Addr} {n c lo : Nat} (h : In P (.slice a n c)) (h1 : lo ≤ n) (h2 : n ≤ c) : In P (.slice (if c = lo then a else a.map fun x => x.add lo) (n - lo) (c - lo)) := by
  intro b m d e h0
  injection e with e1 e2 e3
  by_cases hc : c = lo
  · omega
  · rw [if_neg hc] at e1
    cases a with
    | none => cases e1
    | some a =>
      injection e1 with e1
      subst e1
      have ea : (a.add lo).block = a.block := by unfold Addr.add; split <;> rfl
      rw [ea]
      exact h a n c rfl (by omega)
theorem In.top {P : Nat → Prop} {a : Option Addr} {n c hi : Nat} (h : In P (.slice a n c)) (h2 : hi ≤ n) : In P (.slice a hi c) := by
  intro b m d e h0
  injection e with e1 e2 e3
  subst e1
  exact h b n c rfl (by omega)
theorem Bs.lit (w : World) (xs : List Int) (fr : Nat × Nat) (hx : xs.length ≤ 1099511627776) : Bs (w.alloc (.cells (bcells xs).toArray 5 fr)) (.slice (some ⟨w.heap.size, 0, none⟩) xs.length xs.length) xs := by
  refine .inr ⟨⟨w.heap.size, 0, none⟩, xs.length, rfl, Nat.le_refl _, by unfold maxLen; omega, fun j hj => ?_⟩
  have e : (⟨w.heap.size, 0, none⟩ : Addr).add j = ⟨w.heap.size, j, none⟩ := by unfold Addr.add; split <;> simp_all
  rw [e, cell_of_row _ _ _ _ _ _ (heap_alloc_new w _)]
  simp [bcells, List.getD, hj]
theorem run_strC {w : World} {u : Value} {xs : List Int} (h : Bs w u xs) : (convert 31 9 u).run Try.prog w = .ok (.string (strC xs)) w := by
  rcases h with ⟨rfl, rfl⟩ | ⟨a, c, rfl, hl, hm, hcell⟩
  · rw [run_convert_bytes_string w 31 9 5 _ _ _ Try.underlying31 Try.underlying5 Try.underlying9]
    rfl
  · rw [run_convert_bytes_string w 31 9 5 _ _ _ Try.underlying31 Try.underlying5 Try.underlying9]
    refine run_bytesToString w a xs.length c xs ?_
    have h1 := run_loadCells_list (P := Try.prog) w a (bcells xs) (fun j u hu => by obtain ⟨hj, rfl⟩ := bcells_get hu; exact hcell j hj)
    simpa [bcells] using h1

/-- A splitter of package line in block p: its bound, state, what it holds (the slice v), whether the line is too long. -/
structure Ls (N p : Nat) (w : World) (v : Value) (m : Nat) (st : Int) (H : List Int) (l : Bool) : Prop where
  le : N ≤ p
  blk : w.heap[p]? = some (.cells #[.int .i64 m, .int .i64 st, v, .bool l] 53 (0, 0))
  own : w.ownsRow N 5 1 v H.length (bcells H)
  ne : v.ownBlock ≠ some p
/-- From w to w' the splitter at p and what it holds have changed, and nothing else. -/
structure To (p : Nat) (w : World) (v : Value) (w' : World) (v' : Value) : Prop where
  chg : Chg (fun k => k = p ∨ v.ownBlock = some k) w w'
  new : ∀ k, v'.ownBlock = some k → v.ownBlock = some k ∨ w.heap.size ≤ k
theorem To.refl (p : Nat) (w : World) (v : Value) : To p w v w v := ⟨Chg.refl _ _, fun _ h => .inl h⟩
theorem To.trans {p : Nat} {w w1 w2 : World} {v v1 v2 : Value} (a : To p w v w1 v1) (b : To p w1 v1 w2 v2) : To p w v w2 v2 :=
  ⟨a.chg.trans b.chg fun i hi h => h.imp id fun h => (a.new i h).resolve_right (by omega),
   fun k hk => (b.new k hk).elim (a.new k) fun h => .inr (Nat.le_trans a.chg.size h)⟩
theorem To.more {p : Nat} {w w1 w2 : World} {v v1 : Value} (a : To p w v w1 v1) (b : Chg (fun _ => False) w1 w2) : To p w v w2 v1 := a.trans ⟨b.mono (fun _ _ h => h.elim), fun _ h => .inl h⟩
theorem To.after {p : Nat} {w w1 w2 : World} {v v1 : Value} (a : Chg (fun _ => False) w w1) (b : To p w1 v w2 v1) : To p w v w2 v1 := (To.trans ⟨a.mono (fun _ _ h => h.elim), fun _ h => .inl h⟩ b)
theorem Ls.lt {N p : Nat} {w : World} {v : Value} {m : Nat} {st : Int} {H : List Int} {l : Bool} (h : Ls N p w v m st H l) : p < w.heap.size := lt_of_block h.blk
theorem Ls.N {N p : Nat} {w : World} {v : Value} {m : Nat} {st : Int} {H : List Int} {l : Bool} (h : Ls N p w v m st H l) : N ≤ w.heap.size := Nat.le_of_lt (Nat.lt_of_le_of_lt h.le h.lt)
theorem Ls.c0 {N p : Nat} {w : World} {v : Value} {m : Nat} {st : Int} {H : List Int} {l : Bool} (h : Ls N p w v m st H l) : w.cell? ⟨p, 0, none⟩ = some (.int .i64 m) := by rw [cell_of_row w p 0 _ _ _ h.blk]; rfl
theorem Ls.c1 {N p : Nat} {w : World} {v : Value} {m : Nat} {st : Int} {H : List Int} {l : Bool} (h : Ls N p w v m st H l) : w.cell? ⟨p, 1, none⟩ = some (.int .i64 st) := by rw [cell_of_row w p 1 _ _ _ h.blk]; rfl
theorem Ls.c2 {N p : Nat} {w : World} {v : Value} {m : Nat} {st : Int} {H : List Int} {l : Bool} (h : Ls N p w v m st H l) : w.cell? ⟨p, 2, none⟩ = some v := by rw [cell_of_row w p 2 _ _ _ h.blk]; rfl
theorem Ls.c3 {N p : Nat} {w : World} {v : Value} {m : Nat} {st : Int} {H : List Int} {l : Bool} (h : Ls N p w v m st H l) : w.cell? ⟨p, 3, none⟩ = some (.bool l) := by rw [cell_of_row w p 3 _ _ _ h.blk]; rfl
theorem Ls.fr {N p : Nat} {w : World} {v : Value} {m : Nat} {st : Int} {H : List Int} {l : Bool} (h : Ls N p w v m st H l) (j : Nat) : w.frozen? ⟨p, j, none⟩ = false := by simp [World.frozen?, h.blk]
theorem Ls.kept {S : Nat → Prop} {N p : Nat} {w w' : World} {v : Value} {m : Nat} {st : Int} {H : List Int} {l : Bool} (h : Ls N p w v m st H l) (hc : Chg S w w') (hp : ¬ S p) (hv : ∀ k, v.ownBlock = some k → ¬ S k) : Ls N p w' v m st H l :=
  ⟨h.le, (hc.block p h.lt hp).trans h.blk, own_kept h.own hc hv, h.ne⟩
theorem Ls.more {N p : Nat} {w w' : World} {v : Value} {m : Nat} {st : Int} {H : List Int} {l : Bool} (h : Ls N p w v m st H l) (hc : Chg (fun _ => False) w w') : Ls N p w' v m st H l := h.kept hc (fun h => h) (fun _ _ h => h)
theorem Ls.belowN {N p : Nat} {w w' : World} {v v' : Value} {m : Nat} {st : Int} {H : List Int} {l : Bool} (h : Ls N p w v m st H l) (ht : To p w v w' v') : Below N w w' :=
  ht.chg.below h.N fun _ hk => hk.elim (fun e => e ▸ h.le) fun e => (own_ge h.own e).1
/-- What another thing asks to stay. -/
theorem Ls.stays {P : Nat → Prop} {p : Nat} {w w' : World} {v v' : Value} (ht : To p w v w' v') (h : ∀ k, P k → k < w.heap.size ∧ k ≠ p ∧ v.ownBlock ≠ some k) : ∀ k, P k → k < w'.heap.size ∧ k ≠ p ∧ v'.ownBlock ≠ some k :=
  fun k hk => ⟨Nat.lt_of_lt_of_le (h k hk).1 ht.chg.size, (h k hk).2.1, fun e => (ht.new k e).elim (h k hk).2.2 (by have := (h k hk).1; omega)⟩
/-- One cell of it stored. -/
theorem Ls.setM {N p : Nat} {w : World} {v : Value} {m : Nat} {st : Int} {H : List Int} {l : Bool} (h : Ls N p w v m st H l) (m' : Nat) : Ls N p (w.setCell ⟨p, 0, none⟩ (.int .i64 m')) v m' st H l :=
  ⟨h.le, heap_setCell_same w p 0 _ _ _ h.blk, own_kept h.own (Chg.setCell (S := fun k => k = p) w ⟨p, 0, none⟩ _ rfl) (fun _ e hk => h.ne (hk ▸ e)), h.ne⟩
theorem Ls.setS {N p : Nat} {w : World} {v : Value} {m : Nat} {st : Int} {H : List Int} {l : Bool} (h : Ls N p w v m st H l) (st' : Int) : Ls N p (w.setCell ⟨p, 1, none⟩ (.int .i64 st')) v m st' H l :=
  ⟨h.le, heap_setCell_same w p 1 _ _ _ h.blk, own_kept h.own (Chg.setCell (S := fun k => k = p) w ⟨p, 1, none⟩ _ rfl) (fun _ e hk => h.ne (hk ▸ e)), h.ne⟩
theorem Ls.setL {N p : Nat} {w : World} {v : Value} {m : Nat} {st : Int} {H : List Int} {l : Bool} (h : Ls N p w v m st H l) (l' : Bool) : Ls N p (w.setCell ⟨p, 3, none⟩ (.bool l')) v m st H l' :=
  ⟨h.le, heap_setCell_same w p 3 _ _ _ h.blk, own_kept h.own (Chg.setCell (S := fun k => k = p) w ⟨p, 3, none⟩ _ rfl) (fun _ e hk => h.ne (hk ▸ e)), h.ne⟩
/-- What it holds is another row, that was made out of it. -/
theorem Ls.setH {N p : Nat} {w w1 : World} {v v1 : Value} {m : Nat} {st : Int} {H H1 : List Int} {l : Bool} (h : Ls N p w v m st H l) (hc : Chg (fun k => v.ownBlock = some k) w w1) (ho : w1.ownsRow N 5 1 v1 H1.length (bcells H1)) (hn : v1.ownBlock ≠ some p) :
    Ls N p (w1.setCell ⟨p, 2, none⟩ v1) v1 m st H1 l :=
  ⟨h.le, heap_setCell_same w1 p 2 _ _ _ ((hc.block p h.lt h.ne).trans h.blk), own_kept ho (Chg.setCell (S := fun k => k = p) w1 ⟨p, 2, none⟩ _ rfl) (fun _ e hk => hn (hk ▸ e)), hn⟩
theorem To.cell (p j : Nat) (w : World) (v x : Value) : To p w v (w.setCell ⟨p, j, none⟩ x) v := ⟨Chg.setCell w ⟨p, j, none⟩ x (.inl rfl), fun _ h => .inl h⟩
end Go.Proofs.Ytfbildadidfolaa

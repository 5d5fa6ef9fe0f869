/-
  The splitter of the document: Reset, Held, Set, add.
-/
import Derived.Test.YtfbildadidfolaaLNext
namespace Go.Proofs.Ytfbildadidfolaa
open Go.RowKit

/-- The document's splitter in block p; what it holds is the slice v. -/
structure Rf (N p : Nat) (w : World) (v : Value) (S : Sp) : Prop where
  le : N ≤ p
  blk : w.heap[p]? = some (.cells #[.int .i64 S.most, v, .int .i64 S.n, .bool S.cr] 33 (0, 0))
  own : w.ownsRow N 5 1 v S.held.length (bcells S.held)
  ne : v.ownBlock ≠ some p
/-- From w to w' the block p alone has changed, and there is new memory. -/
structure RT (p : Nat) (w : World) (v : Value) (w' : World) (v' : Value) : Prop where
  chg : Chg (fun k => k = p) w w'
  new : ∀ k, v'.ownBlock = some k → v.ownBlock = some k ∨ w.heap.size ≤ k
theorem RT.refl (p : Nat) (w : World) (v : Value) : RT p w v w v := ⟨Chg.refl _ _, fun _ h => .inl h⟩
theorem RT.trans {p : Nat} {w w1 w2 : World} {v v1 v2 : Value} (a : RT p w v w1 v1) (b : RT p w1 v1 w2 v2) : RT p w v w2 v2 :=
  ⟨a.chg.trans b.chg fun _ _ h => h, fun k hk => (b.new k hk).elim (a.new k) fun h => .inr (Nat.le_trans a.chg.size h)⟩
theorem RT.more {p : Nat} {w w1 w2 : World} {v v1 : Value} (a : RT p w v w1 v1) (b : Chg (fun _ => False) w1 w2) : RT p w v w2 v1 := a.trans ⟨b.mono (fun _ _ h => h.elim), fun _ h => .inl h⟩
theorem RT.after {p : Nat} {w w1 w2 : World} {v v1 : Value} (a : Chg (fun _ => False) w w1) (b : RT p w1 v w2 v1) : RT p w v w2 v1 := (RT.trans ⟨a.mono (fun _ _ h => h.elim), fun _ h => .inl h⟩ b)
theorem RT.fresh {p D : Nat} {w w1 w2 : World} {v v1 : Value} (a : RT p w v w1 v1) (b : Chg (fun k => k = D) w1 w2) (hD : w.heap.size ≤ D) : RT p w v w2 v1 :=
  ⟨a.chg.trans b fun _ hi h => by omega, a.new⟩
theorem RT.freshS {S : Nat → Prop} {p : Nat} {w w1 w2 : World} {v v1 : Value} (a : RT p w v w1 v1) (b : Chg S w1 w2) (hS : ∀ k, S k → w.heap.size ≤ k) : RT p w v w2 v1 :=
  ⟨a.chg.trans b fun k hi h => by have := hS k h; omega, a.new⟩
theorem RT.cell (p j : Nat) (w : World) (v x : Value) : RT p w v (w.setCell ⟨p, j, none⟩ x) v := ⟨Chg.setCell w ⟨p, j, none⟩ x rfl, fun _ h => .inl h⟩
theorem Rf.lt {N p : Nat} {w : World} {v : Value} {S : Sp} (h : Rf N p w v S) : p < w.heap.size := lt_of_block h.blk
theorem Rf.N {N p : Nat} {w : World} {v : Value} {S : Sp} (h : Rf N p w v S) : N ≤ w.heap.size := Nat.le_of_lt (Nat.lt_of_le_of_lt h.le h.lt)
theorem Rf.c {N p : Nat} {w : World} {v : Value} {S : Sp} (h : Rf N p w v S) : w.cell? ⟨p, 0, none⟩ = some (.int .i64 S.most) ∧ w.cell? ⟨p, 1, none⟩ = some v ∧ w.cell? ⟨p, 2, none⟩ = some (.int .i64 S.n) ∧ w.cell? ⟨p, 3, none⟩ = some (.bool S.cr) := by
  refine ⟨?_, ?_, ?_, ?_⟩ <;> (rw [cell_of_row w p _ _ _ _ h.blk]; rfl)
theorem Rf.fr {N p : Nat} {w : World} {v : Value} {S : Sp} (h : Rf N p w v S) (j : Nat) : w.frozen? ⟨p, j, none⟩ = false := by simp [World.frozen?, h.blk]
theorem Rf.kept {Q : Nat → Prop} {N p : Nat} {w w' : World} {v : Value} {S : Sp} (h : Rf N p w v S) (hc : Chg Q w w') (hp : ¬ Q p) (hv : ∀ k, v.ownBlock = some k → ¬ Q k) : Rf N p w' v S :=
  ⟨h.le, (hc.block p h.lt hp).trans h.blk, own_kept h.own hc hv, h.ne⟩
theorem Rf.more {N p : Nat} {w w' : World} {v : Value} {S : Sp} (h : Rf N p w v S) (hc : Chg (fun _ => False) w w') : Rf N p w' v S := h.kept hc (fun h => h) (fun _ _ h => h)
theorem Rf.setM {N p : Nat} {w : World} {v : Value} {S : Sp} (h : Rf N p w v S) (m : Nat) : Rf N p (w.setCell ⟨p, 0, none⟩ (.int .i64 m)) v ⟨m, S.held, S.n, S.cr⟩ :=
  ⟨h.le, heap_setCell_same w p 0 _ _ _ h.blk, own_kept h.own (Chg.setCell (S := fun k => k = p) w ⟨p, 0, none⟩ _ rfl) (fun _ e hk => h.ne (hk ▸ e)), h.ne⟩
theorem Rf.setN {N p : Nat} {w : World} {v : Value} {S : Sp} (h : Rf N p w v S) (n : Nat) : Rf N p (w.setCell ⟨p, 2, none⟩ (.int .i64 n)) v ⟨S.most, S.held, n, S.cr⟩ :=
  ⟨h.le, heap_setCell_same w p 2 _ _ _ h.blk, own_kept h.own (Chg.setCell (S := fun k => k = p) w ⟨p, 2, none⟩ _ rfl) (fun _ e hk => h.ne (hk ▸ e)), h.ne⟩
theorem Rf.setC {N p : Nat} {w : World} {v : Value} {S : Sp} (h : Rf N p w v S) (b : Bool) : Rf N p (w.setCell ⟨p, 3, none⟩ (.bool b)) v (S.wait b) :=
  ⟨h.le, heap_setCell_same w p 3 _ _ _ h.blk, own_kept h.own (Chg.setCell (S := fun k => k = p) w ⟨p, 3, none⟩ _ rfl) (fun _ e hk => h.ne (hk ▸ e)), h.ne⟩
theorem Rf.setH {N p : Nat} {w w1 : World} {v v1 : Value} {S : Sp} {H1 : List Int} (h : Rf N p w v S) (hc : Chg (fun _ => False) w w1) (ho : w1.ownsRow N 5 1 v1 H1.length (bcells H1)) (hn : v1.ownBlock ≠ some p) :
    Rf N p (w1.setCell ⟨p, 1, none⟩ v1) v1 ⟨S.most, H1, S.n, S.cr⟩ :=
  ⟨h.le, heap_setCell_same w1 p 1 _ _ _ ((hc.block p h.lt (fun h => h)).trans h.blk), own_kept ho (Chg.setCell (S := fun k => k = p) w1 ⟨p, 1, none⟩ _ rfl) (fun _ e hk => hn (hk ▸ e)), hn⟩

set_option maxHeartbeats 800000 in
theorem rreset_any (N p : Nat) (w : World) (v : Value) (S : Sp) (h : Rf N p w v S) :
    Calls Try.prog 17 #[.pointer (some ⟨p, 0, none⟩)] w fun e w' => e = .returned (.tuple #[]) ∧ Rf N p w' (.slice none 0 0) S.reset ∧ RT p w v w' (.slice none 0 0) := by
  obtain ⟨h0, h1, h2, h3⟩ := h.c
  have f1 := h.fr 1
  have f2 := h.fr 2
  have f3 := h.fr 3
  obtain ⟨va, vc, rfl⟩ := own_sl h.own
  go_enter Try.func17, Try.ntmps17
  go_wp2_with fail
  go_end0
  have L := ((h.setH (Chg.refl _ _) (World.ownsRow_nil _ _ _ _) (v1 := .slice none 0 0) (H1 := []) (by simp [Value.ownBlock])).setN 0).setC false
  have T := (((show RT p w (.slice va S.held.length vc) (w.setCell ⟨p, 1, none⟩ (.slice none 0 0)) (.slice none 0 0) from ⟨Chg.setCell w ⟨p, 1, none⟩ _ rfl, fun _ h => by cases h⟩)).trans (RT.cell p 2 _ _ (.int .i64 0))).trans (RT.cell p 3 _ _ (.bool false))
  exact ⟨rfl, L, T⟩

set_option maxHeartbeats 800000 in
theorem rheld_any (N p : Nat) (w : World) (v : Value) (S : Sp) (h : Rf N p w v S) (hS : S.Wf) :
    Calls Try.prog 20 #[.pointer (some ⟨p, 0, none⟩)] w fun e w' => e = .returned (.int .i64 (S.hold : Int)) ∧ w' = w := by
  have hl : S.held.length ≤ 65536 := by have := hS.len; have := hS.hi; omega
  obtain ⟨h0, h1, h2, h3⟩ := h.c
  obtain ⟨va, vc, rfl⟩ := own_sl h.own
  cases hc : S.cr with
  | true =>
    rw [hc] at h3
    have hh : S.hold = S.held.length + 1 := by unfold Sp.hold; rw [if_pos hc]
    rw [hh]
    clear hh hS
    go_enter Try.func20, Try.ntmps20
    go_wp2_with fail
    go_ret
    exact ⟨by simp, rfl⟩
  | false =>
    rw [hc] at h3
    have hh : S.hold = S.held.length := by unfold Sp.hold; rw [if_neg (by simp [hc])]; rfl
    rw [hh]
    clear hh hS
    go_enter Try.func20, Try.ntmps20
    go_wp2_with fail
    go_ret
    exact ⟨by simp, rfl⟩

set_option maxHeartbeats 800000 in
theorem radd_any (N p : Nat) (w : World) (v : Value) (S : Sp) (c : Int) (h : Rf N p w v S) (hS : S.Wf) (hn : S.n ≤ 1099511627776) :
    Calls Try.prog 26 #[.pointer (some ⟨p, 0, none⟩), .int .u8 c] w fun e w' => e = .returned (.tuple #[]) ∧ ∃ v', Rf N p w' v' (S.add [c]) ∧ RT p w v w' v' := by
  obtain ⟨i5, hi5, hz5, hs5, hb5⟩ := info5
  have hl : S.held.length ≤ 65536 := by have := hS.len; have := hS.hi; omega
  have hm := hS.hi
  have hm2 := hS.lo
  obtain ⟨va, vc, rfl⟩ := own_sl h.own
  obtain ⟨h0, h1, h2, h3⟩ := h.c
  have f2 := h.fr 2
  have L1 := h.setN (S.n + 1)
  rw [show ((S.n + 1 : Nat) : Int) = (S.n : Int) + 1 from by omega] at L1
  have T1 : RT p w (.slice va S.held.length vc) (w.setCell ⟨p, 2, none⟩ (.int .i64 ((S.n : Int) + 1))) (.slice va S.held.length vc) := RT.cell p 2 w _ _
  obtain ⟨W, hW⟩ : ∃ W, Hid (w.setCell ⟨p, 2, none⟩ (.int .i64 ((S.n : Int) + 1)) = W) := ⟨_, rfl⟩
  rw [hW.out] at L1 T1
  obtain ⟨g0, g1, g2, g3⟩ := L1.c
  have HL : Hid (Rf N p W (.slice va S.held.length vc) ⟨S.most, S.held, S.n + 1, S.cr⟩) := L1
  have HT : Hid (RT p w (.slice va S.held.length vc) W (.slice va S.held.length vc)) := T1
  clear L1 T1
  by_cases hr : S.held.length < S.most - 2
  · have q1 : (S.held.length : Int) < (S.most : Int) - 2 := by omega
    go_enter Try.func26, Try.ntmps26
    have ha : S.add [c] = ⟨S.most, S.held ++ [c], S.n + 1, S.cr⟩ := by
      unfold Sp.add
      rw [List.take_of_length_le (show [c].length ≤ S.room by unfold Sp.room; simp; omega)]
      rfl
    have HA : Hid (S.add [c] = ⟨S.most, S.held ++ [c], S.n + 1, S.cr⟩) := ha
    clear ha hS
    go_upto_region 1 with fail
    rw [hW.out]
    go_quiet (fail)
    have LD := HL.out.more (Chg.drewN (fun _ => False) W nq)
    have TD := HT.out.more (Chg.drewN (fun _ => False) W nq)
    obtain ⟨X, hX⟩ : ∃ X, W.drewN nq = X := ⟨_, rfl⟩
    rw [hX] at LD TD ⊢
    clear hX g0 g1 g2 g3 HL HT h0 h1 h2 h3 f2
    obtain ⟨g0, g1, g2, g3⟩ := LD.c
    have f1 := LD.fr 1
    have HL : Hid (Rf N p X (.slice va S.held.length vc) ⟨S.most, S.held, S.n + 1, S.cr⟩) := LD
    have HT : Hid (RT p w (.slice va S.held.length vc) X (.slice va S.held.length vc)) := TD
    have C1 : Chg (fun _ => False) X (X.alloc (.cells #[] 5)) := Chg.alloc (fun _ => False) X _
    have k1 := (LD.more C1).c.2.1
    have U1 : Bs (X.alloc (.cells #[] 5)) (.slice va S.held.length vc) S.held := Bs.ofOwns (LD.more C1).own
    have O1 : (X.alloc (.cells #[] 5)).ownsRow X.heap.size 5 1 (.slice (some ⟨X.heap.size, 0, none⟩) 0 0) 0 (bcells []) := World.ownsRow_lit (base := X.heap.size) (e := 5) (size := 1) X #[] 0 (Nat.le_refl _) (by simp [maxLen]) rfl
    have hb1 : ([] : List Int).length + S.held.length ≤ 1099511627776 := by simp; omega
    have hb2 : S.held.length + 1 ≤ 1099511627776 := by omega
    clear LD TD C1
    go_wp2_with (first
      | (at_builtin
         refine wpList_app rfl (.tmp 23) (.tmp 27) 31 rfl X.heap.size i5 Try.underlying31 hi5 hz5 hs5 hb5 _ _ 0 [] S.held rfl O1 rfl U1 hb1 (by simp) ?_
         intro v3 w3 ho3 hg3 hn3
         clear O1 U1
         have C3 : Chg (fun _ => False) X w3 := ⟨hg3.os, hg3.tape, hg3.output, Nat.le_trans (by simp) hg3.size, fun k hk _ => (hg3.block k (by simp; omega) (by
           intro e
           have : k = X.heap.size := by simpa [Value.ownBlock, Act.eval] using e
           omega)).trans (Below.heap_alloc X _ k hk)⟩
         have O3 : (w3.alloc (.cells #[.int .u8 c] 5)).ownsRow X.heap.size 5 1 v3 S.held.length (bcells S.held) := by
           simp only [Nat.zero_add, List.nil_append] at ho3
           exact own_kept ho3 (Chg.alloc (fun _ => False) w3 _) (fun _ _ h => h)
         have C4 : Chg (fun _ => False) X (w3.alloc (.cells #[.int .u8 c] 5)) := C3.trans (Chg.alloc (fun _ => False) w3 _) (fun _ _ h => h)
         have k1 := (HL.out.more C4).c.2.1
         have f4 := (HL.out.more C4).fr 1
         clear C3 ho3 hg3 hn3)
      | (at_builtin
         go_must (refine wpList_app rfl (.tmp 28) (.tmp 30) 31 rfl X.heap.size i5 Try.underlying31 hi5 hz5 hs5 hb5 _ _ S.held.length S.held [c] rfl O3 rfl (Bs.lit w3 [c] (0, 0) (by simp)) hb2 C4.size ?_; intro v5 w5 ho5 hg5 hn5
                  have C5 : Chg (fun _ => False) X w5 := ⟨hg5.os.trans C4.os, hg5.tape.trans C4.tape, hg5.output.trans C4.output, Nat.le_trans C4.size hg5.size, fun k hk _ => (hg5.block k (Nat.lt_of_lt_of_le hk C4.size) (fun e => by have := (own_ge O3 e.symm).1; omega)).trans (C4.block k hk (fun h => h))⟩
                  have k5 := (HL.out.more C5).c.2.1
                  have f5 := (HL.out.more C5).fr 1
                  have m5 : v5.ownBlock ≠ some p := fun e => by have := (own_ge ho5 e).1; have := HL.out.lt; omega
                  have H5 : Hid (Rf N p (w5.setCell ⟨p, 1, none⟩ v5) v5 (S.add [c]) ∧ RT p w (.slice va S.held.length vc) (w5.setCell ⟨p, 1, none⟩ v5) v5) := by
                    refine ⟨?_, (show RT p w (.slice va S.held.length vc) w5 v5 from ⟨(HT.out.more C5).chg, fun k hk => .inr ?_⟩).trans (RT.cell p 1 w5 v5 v5)⟩
                    · rw [HA.out]
                      exact HL.out.setH C5 (H1 := S.held ++ [c]) (by rw [List.length_append]; exact own_mono ho5 HL.out.N) m5
                    · have := (own_ge ho5 hk).1
                      exact Nat.le_trans HT.out.chg.size this
                  obtain ⟨va5, vc5, rfl⟩ := own_sl ho5
                  clear C4 C5 O3 ho5 hg5 hn5 m5 k1 f4)))
    go_end0
    exact ⟨rfl, _, H5.out⟩
  · have q1 : ¬ (S.held.length : Int) < (S.most : Int) - 2 := by omega
    have HA : Hid (S.add [c] = ⟨S.most, S.held, S.n + 1, S.cr⟩) := by
      show _ = _
      unfold Sp.add
      rw [show S.room = 0 from by unfold Sp.room; omega, List.take_zero, List.append_nil]
      rfl
    clear hS
    go_enter Try.func26, Try.ntmps26
    go_upto_region 1 with fail
    rw [hW.out]
    go_quiet (fail)
    go_wp2_with fail
    go_end0
    exact ⟨rfl, _, by rw [HA.out]; exact HL.out.more (Chg.drewN _ W nq), HT.out.more (Chg.drewN _ W nq)⟩
end Go.Proofs.Ytfbildadidfolaa

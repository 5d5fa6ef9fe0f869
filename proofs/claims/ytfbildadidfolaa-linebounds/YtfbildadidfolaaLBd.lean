/-
  LineBounds: a splitter, a row of one byte, cells that stay.
-/
import Derived.Test.YtfbildadidfolaaLApp
namespace Go.Proofs.Ytfbildadidfolaa
open Go.RowKit

/-- A splitter in state S, the slice bv of n bytes c, and cells L that nothing touches. -/
structure Bd (N p : Nat) (w0 w : World) (S : Sp) (c : Int) (bv : Value) (n : Nat) (L : List (Addr × Value)) (v : Value) : Prop where
  ls : LsS N p w v S
  bp : ∀ k, bv.ownBlock = some k → k ≠ p ∧ v.ownBlock ≠ some k
  bel : Below N w0 w
  own : w.ownsRow N 5 1 bv n (bcells (List.replicate n c))
  kp : ∀ q ∈ L, w.cell? q.1 = some q.2 ∧ q.1.block ≠ p ∧ v.ownBlock ≠ some q.1.block ∧ bv.ownBlock ≠ some q.1.block
variable {N p n m : Nat} {w0 w w1 w' : World} {S : Sp} {c : Int} {bv v u : Value} {L : List (Addr × Value)} {bs : List Int}
theorem Bd.more (h : Bd N p w0 w S c bv n L v) (hc : Chg (fun _ => False) w w') : Bd N p w0 w' S c bv n L v :=
  ⟨h.ls.more hc, h.bp, h.bel.trans (hc.toBelow.mono h.ls.N), own_kept h.own hc (fun _ _ h => h), fun q hq => ⟨hc.cell (h.kp q hq).1 (fun h => h), (h.kp q hq).2⟩⟩
theorem Bd.weak (h : Bd N p w0 w S c bv n L v) (L' : List (Addr × Value)) (hl : ∀ q ∈ L', q ∈ L) : Bd N p w0 w S c bv n L' v := ⟨h.ls, h.bp, h.bel, h.own, fun q hq => h.kp q (hl q hq)⟩
theorem rep_snoc (n : Nat) (c : Int) : List.replicate n c ++ [c] = List.replicate (n + 1) c := by rw [List.replicate_succ']
/-- One byte more. -/
theorem Bd.push (h : Bd N p w0 w S c bv n L v) {v3 : Value} {w3 : World} (ho : w3.ownsRow N 5 1 v3 (n + 1) (bcells (List.replicate n c ++ [c]))) (hg : w.grownBy w3 bv.ownBlock) (hn : v3.ownBlock = bv.ownBlock ∨ v3.ownBlock = some w.heap.size) : Bd N p w0 w3 S c v3 (n + 1) L v := by
  have hc : Chg (fun k => bv.ownBlock = some k) w w3 := Chg.ofGrown hg
  have h3 : ∀ k, v3.ownBlock = some k → bv.ownBlock = some k ∨ w.heap.size ≤ k := own_new hn
  refine ⟨h.ls.kept hc (fun e => (h.bp p e).1 rfl) (fun k hk e => (h.bp k e).2 hk), fun k hk => ?_, h.bel.trans (hc.below h.ls.N fun k hk => (own_ge h.own hk).1), by rw [← rep_snoc]; exact ho, fun q hq => ?_⟩
  · rcases h3 k hk with e | e
    · exact h.bp k e
    · exact ⟨fun e2 => by have := h.ls.lt; omega, fun e2 => by have := (own_ge h.ls.own e2).2; omega⟩
  · have hq1 := h.kp q hq
    refine ⟨hc.cell hq1.1 hq1.2.2.2, hq1.2.1, hq1.2.2.1, fun e => ?_⟩
    rcases h3 _ e with e | e
    · exact hq1.2.2.2 e
    · have := World.block_lt_of_cell? w _ hq1.1
      omega
/-- Fed with bytes that lie apart from the splitter. -/
theorem Bd.feed (h : Bd N p w0 w S c bv n L v) (hS : S.Wf) (P : Nat → Prop) (hu : Bs w u bs) (hi : In P u) (hP : ∀ k, P k → k < w.heap.size ∧ k ≠ p ∧ v.ownBlock ≠ some k) (hb : bs.length ≤ 4294967296) :
    Calls Try.prog 18 #[.pointer (some ⟨p, 0, none⟩), u] w fun e w' => ∃ v' a cc, e = .returned (.slice a (S.feed bs).2.length cc) ∧ Bd N p w0 w' (S.feed bs).1 c bv n L v' ∧
      (0 < (S.feed bs).2.length → ∃ b off, a = some ⟨b, off, none⟩ ∧ Bd N p w0 w' (S.feed bs).1 c bv n ((⟨b, off, none⟩, .string ((S.feed bs).2.getD 0 Ln.zero).t) :: (⟨b, off + 1, none⟩, .bool ((S.feed bs).2.getD 0 Ln.zero).long) :: L) v') := by
  refine (feed_any N p w v u S bs P hS h.ls hu hi hP hb).mono fun e w' h9 => ?_
  obtain ⟨v', o, he, h1, h2, h3, h4⟩ := h9
  have hx := Lns.ofOwns h3
  obtain ⟨a, cc, rfl⟩ := hx.form
  have hB : Bd N p w0 w' (S.feed bs).1 c bv n L v' := by
    refine ⟨h1, fun k hk => ⟨(h.bp k hk).1, fun e => (h2.new k e).elim (h.bp k hk).2 (by have := (own_ge h.own hk).2; omega)⟩, h.bel.trans (h.ls.belowN h2), own_kept h.own h2.chg (fun k hk e => e.elim (h.bp k hk).1 (h.bp k hk).2), fun q hq => ?_⟩
    have hq1 := h.kp q hq
    exact ⟨h2.chg.cell hq1.1 (fun e => e.elim hq1.2.1 hq1.2.2.1), hq1.2.1, fun e => (h2.new _ e).elim hq1.2.2.1 (by have := World.block_lt_of_cell? w _ hq1.1; omega), hq1.2.2.2⟩
  refine ⟨v', a, cc, he, hB, fun h0 => ?_⟩
  obtain ⟨b, off, rfl, hc⟩ := hx.nth h0
  obtain ⟨x0, x1⟩ := hc 0 h0
  refine ⟨b, off, rfl, hB.ls, hB.bp, hB.bel, hB.own, fun q hq => ?_⟩
  have hbo : (Value.slice (some ⟨b, off, none⟩) (S.feed bs).2.length cc).ownBlock = some b := rfl
  have hnew : bv.ownBlock ≠ some b := fun e => by
    have h5 := (own_ge h.own e).2
    have h6 := (own_ge h3 hbo).1
    omega
  rcases List.mem_cons.1 hq with rfl | hq
  · exact ⟨by simpa using x0, (h4 b hbo).1, (h4 b hbo).2, hnew⟩
  · rcases List.mem_cons.1 hq with rfl | hq
    · exact ⟨by simpa using x1, (h4 b hbo).1, (h4 b hbo).2, hnew⟩
    · exact hB.kp q hq
theorem Bd.held (h : Bd N p w0 w S c bv n L v) (hS : S.Wf) : Calls Try.prog 19 #[.pointer (some ⟨p, 0, none⟩)] w fun e w' => e = .returned (.int .i64 (S.hold : Int)) ∧ w' = w := by
  have h2 := S.hold
  have := held_any N p w v S.most S.st S.held S.long h.ls (by have := hS.len; have := hS.hi; omega)
  have e : (S.held.length + if S.st = 2 then 1 else 0) = S.hold := by
    unfold Sp.hold
    congr 1
    by_cases h : S.cr = true
    · rw [if_pos h, if_pos (st_two h)]
    · rw [if_neg h, if_neg (by unfold Sp.st; rw [if_neg h]; split <;> decide)]
  rw [e] at this
  exact this
theorem Bd.most (h : Bd N p w0 w S c bv n L v) (hS : S.Wf) (m : Int) : Calls Try.prog 14 #[.pointer (some ⟨p, 0, none⟩), .int .i64 m] w fun e w' => e = .returned (.bool (mayB m && (S.st == 0))) ∧ Bd N p w0 w' (S.bound m) c bv n L v := by
  refine (most_any N p w v S m hS h.ls).mono fun e w' h9 => ⟨h9.1, h9.2.1, h.bp, h.bel.trans (h.ls.belowN h9.2.2), own_kept h.own h9.2.2.chg (fun k hk e => e.elim (h.bp k hk).1 (h.bp k hk).2), fun q hq => ?_⟩
  have hq1 := h.kp q hq
  exact ⟨h9.2.2.chg.cell hq1.1 (fun e => e.elim hq1.2.1 hq1.2.2.1), hq1.2⟩
/-- The row itself is fed. -/
theorem Bd.self (h : Bd N p w0 w S c bv n L v) : ∀ k, bv.ownBlock = some k → k < w.heap.size ∧ k ≠ p ∧ v.ownBlock ≠ some k := fun k hk => ⟨(own_ge h.own hk).2, h.bp k hk⟩
/-- The row with one byte more and a line's end behind it: the row stays. -/
theorem Bd.line (h : Bd N p w0 w S c bv n L v) (h0 : 0 < n) (hn : n ≤ 100000) (ty ty2 : TypeId) :
    ∃ v1 w1 v2 w2, (Builtin.append_ #[31, 31] ty #[bv, .slice (some ⟨w.heap.size, 0, none⟩) 1 1]).run Try.prog (w.alloc (.cells #[.int .u8 c] 5)) = .ok v1 w1 ∧
      (Builtin.append_ #[31, 9] ty2 #[v1, .string ⟨#[13, 10]⟩]).run Try.prog w1 = .ok v2 w2 ∧ Bd N p w0 w2 S c bv n L v ∧ w2.ownsRow N 5 1 v2 (n + 3) (bcells (List.replicate (n + 1) c ++ [13, 10])) ∧ ∀ k, v2.ownBlock = some k → k < w2.heap.size ∧ k ≠ p ∧ v.ownBlock ≠ some k := by
  have hA := h.more (Chg.alloc (fun _ => False) w (.cells #[.int .u8 c] 5))
  have hN := hA.ls.N
  have hfr : Fr bv n bv n := by
    rcases h.own.2 with ⟨_, e⟩ | ⟨g, cap, cur, rfl, _⟩
    · have := h.own.1
      rw [e] at this
      simp at this
      omega
    · exact .inl ⟨g, cap, rfl, rfl, Nat.le_refl _⟩
  obtain ⟨v1, w1, hr1, o1, g1, n1, k1, f1⟩ := app_slice ty hA.own hA.own hfr (Bs.lit w [c] (0, 0) (by simp)) (by simp) (by simp; omega) hN
  have hne : v1 ≠ .slice none 0 0 := by
    intro e
    rw [e] at o1
    rcases o1.2 with ⟨_, e2⟩ | ⟨g, cap, cur, e2, _⟩
    · simp at e2
    · cases e2
  have c1 : Chg (fun k => bv.ownBlock = some k) _ w1 := Chg.ofGrown g1
  have hN1 : N ≤ w1.heap.size := Nat.le_trans hN c1.size
  obtain ⟨v2, w2, hr2, o2, g2, n2, k2, f2⟩ := app_text ty2 ⟨#[13, 10]⟩ k1 o1 f1 (by have : (⟨#[13, 10]⟩ : ByteArray).size = 2 := rfl; simp; omega) hN1 hne
  have c2 : Chg (fun k => v1.ownBlock = some k) w1 w2 := Chg.ofGrown g2
  refine ⟨v1, w1, v2, w2, hr1, hr2, ?_, ?_, ?_⟩
  · have h1 := own_new n1
    have c12 : Chg (fun k => bv.ownBlock = some k) (w.alloc (.cells #[.int .u8 c] 5)) w2 := c1.trans c2 fun i hi e => (h1 i e).resolve_right (by omega)
    refine ⟨hA.ls.kept c12 (fun e => (h.bp p e).1 rfl) (fun k hk e => (h.bp k e).2 hk), h.bp, hA.bel.trans (c12.below hN fun k hk => (own_ge h.own hk).1), k2, fun q hq => ?_⟩
    have hq1 := hA.kp q hq
    exact ⟨c12.cell hq1.1 hq1.2.2.2, hq1.2⟩
  · rw [rep_snoc] at o2
    exact o2
  · intro k hk
    refine ⟨(own_ge o2 hk).2, ?_⟩
    have hsz := c1.size
    have hlt := hA.ls.lt
    have hb : bv.ownBlock = some k ∨ (w.alloc (.cells #[.int .u8 c] 5)).heap.size ≤ k := by
      rcases own_new n2 k hk with e | e
      · exact own_new n1 k e
      · exact .inr (by omega)
    rcases hb with e | e
    · exact h.bp k e
    · exact ⟨by omega, fun e2 => by have := (own_ge hA.ls.own e2).2; omega⟩
end Go.Proofs.Ytfbildadidfolaa

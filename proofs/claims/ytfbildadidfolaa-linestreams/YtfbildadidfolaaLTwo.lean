/-
  A landed splitter and the document's, side by side.
-/
import Derived.Test.YtfbildadidfolaaLFew
namespace Go.Proofs.Ytfbildadidfolaa
open Go.RowKit

/-- Both splitters, apart from each other, in the same state. -/
structure Two (N p q : Nat) (w : World) (v r : Value) (S : Sp) : Prop where
  ls : LsS N p w v S
  rf : Rf N q w r S
  wf : S.Wf
  pq : p ≠ q
  vq : v.ownBlock ≠ some q
  rp : r.ownBlock ≠ some p
  vr : ∀ k, v.ownBlock = some k → r.ownBlock ≠ some k
theorem Two.more {N p q : Nat} {w w' : World} {v r : Value} {S : Sp} (h : Two N p q w v r S) (hc : Chg (fun _ => False) w w') : Two N p q w' v r S := ⟨h.ls.more hc, h.rf.more hc, h.wf, h.pq, h.vq, h.rp, h.vr⟩
/-- The landed one has gone on. -/
theorem Two.left {N p q : Nat} {w w' : World} {v v' r : Value} {S S' : Sp} (h : Two N p q w v r S) (_hl : LsS N p w' v' S') (ht : To p w v w' v') : Rf N q w' r S ∧ v'.ownBlock ≠ some q ∧ ∀ k, v'.ownBlock = some k → r.ownBlock ≠ some k :=
  ⟨h.rf.kept ht.chg (fun e => e.elim (fun e => h.pq e.symm) h.vq) (fun k hk e => e.elim (fun e => h.rp (e ▸ hk)) (fun e => h.vr k e hk)),
   fun e => (ht.new q e).elim h.vq (by have := h.rf.lt; omega),
   fun k hk e => (ht.new k hk).elim (fun h1 => h.vr k h1 e) (by have := (own_ge h.rf.own e).2; omega)⟩
/-- The document's one has gone on. -/
theorem Two.right {N p q : Nat} {w w' : World} {v r r' : Value} {S' : Sp} (hl : LsS N p w v S') (pq : p ≠ q) (vq : v.ownBlock ≠ some q) (rp : r.ownBlock ≠ some p) (vr : ∀ k, v.ownBlock = some k → r.ownBlock ≠ some k) (hr : Rf N q w' r' S') (ht : RT q w r w' r') (hw : S'.Wf) : Two N p q w' v r' S' :=
  ⟨hl.kept ht.chg (fun e => pq e) (fun k hk e => vq (e ▸ hk)), hr, hw, pq, vq,
   fun e => (ht.new p e).elim rp (by have := hl.lt; omega),
   fun k hk e => (ht.new k e).elim (vr k hk) (by have := (own_ge hl.own hk).2; omega)⟩
theorem Two.foreign {N p q : Nat} {w : World} {v r : Value} {S : Sp} (h : Two N p q w v r S) : ∀ k, k < N → k < w.heap.size ∧ k ≠ p ∧ v.ownBlock ≠ some k := fun k hk =>
  ⟨Nat.lt_of_lt_of_le hk h.ls.N, (by have := h.ls.le; omega), fun e => by have := (own_ge h.ls.own e).1; omega⟩
theorem hold_eq (S : Sp) : (S.held.length + if S.st = 2 then 1 else 0) = S.hold := by
  unfold Sp.hold
  congr 1
  by_cases h : S.cr = true
  · rw [if_pos h, if_pos (st_two h)]
  · rw [if_neg h, if_neg (by unfold Sp.st; rw [if_neg h]; split <;> decide)]
theorem Two.held {N p q : Nat} {w : World} {v r : Value} {S : Sp} (h : Two N p q w v r S) : Calls Try.prog 19 #[.pointer (some ⟨p, 0, none⟩)] w fun e w' => e = .returned (.int .i64 (S.hold : Int)) ∧ w' = w := by
  have := held_any N p w v S.most S.st S.held S.long h.ls (by have := h.wf.len; have := h.wf.hi; omega)
  rw [hold_eq] at this
  exact this
theorem Rf.below {N q : Nat} {w w' : World} {r r' : Value} {S : Sp} (h : Rf N q w r S) (ht : RT q w r w' r') : Below N w w' := ht.chg.below h.N fun _k hk => hk ▸ h.le

/-- Feed of both, and their lines held against each other. -/
theorem Two.feed {N p q : Nat} {w w1 : World} {v r v1 o1 u : Value} {S : Sp} {bs : List Int} (h : Two N p q w v r S) (hu : Bs w u bs) (hi : In (fun k => k < N) u) (hn : S.n ≤ 4294967296) (hb : bs.length ≤ 4294967296) (hf : FeedR N p w v S bs v1 o1 w1) :
    Calls Try.prog 13 #[.pointer (some ⟨q, 0, none⟩), u] w1 fun e w2 => ∃ r2 o2, e = .returned o2 ∧ Two N p q w2 v1 r2 (S.feed bs).1 ∧ Below N w w2 ∧ Lns w2 o1 (S.feed bs).2 ∧ Lns w2 o2 (S.feed bs).2 := by
  obtain ⟨f1, f2, f3, f4⟩ := hf
  obtain ⟨g1, g2, g3⟩ := h.left f1 f2
  have hbel := h.ls.belowN f2
  have hu1 : Bs w1 u bs := hu.stays hi f2.chg fun k hk e => e.elim (h.foreign k hk).2.1 (h.foreign k hk).2.2
  refine (rfeed_any N q w1 r u S bs h.wf g1 hu1 (hi.mono fun k hk e => by have := h.rf.le; omega) hn hb).mono fun e w2 h2 => ?_
  obtain ⟨r2, o2, he, d1, d2, d3, d4⟩ := h2
  refine ⟨r2, o2, he, Two.right (w' := w2) f1 h.pq g2 h.rp g3 d1 d2 (h.wf.feed bs), hbel.trans (g1.below d2), ?_, Lns.ofOwns d3⟩
  exact (Lns.ofOwns f3).stays (P := fun k => o1.ownBlock = some k) (In.own f3 (fun _ h => h)) d2.chg fun k hk e => by
    have h5 := (own_ge f3 hk).1
    have h6 := h.rf.lt
    omega
end Go.Proofs.Ytfbildadidfolaa

/-
  A stream in pieces: the state between two of them.
-/
import Derived.Test.YtfbildadidfolaaLKnown
namespace Go.Proofs.Ytfbildadidfolaa
open Go.RowKit

theorem toHidC {p : Prop} (h : p) : Hid p := h
theorem addr_addC (b o k : Nat) : (⟨b, o, none⟩ : Addr).add k = ⟨b, o + k, none⟩ := by unfold Addr.add; split <;> simp_all
/-- v reads as the numbers xs. -/
def Iz (w : World) (v : Value) (xs : List Int) : Prop :=
  ∃ a c, v = .slice a xs.length c ∧ (0 < xs.length → ∃ b off, a = some ⟨b, off, none⟩ ∧ ∀ j, j < xs.length → w.cell? ⟨b, off + j, none⟩ = some (.int .i64 (xs.getD j 0)))
theorem Iz.form {w : World} {v : Value} {xs : List Int} (h : Iz w v xs) : ∃ a c, v = .slice a xs.length c := by
  obtain ⟨a, c, e, _⟩ := h
  exact ⟨a, c, e⟩
theorem Iz.nth {w : World} {a : Option Addr} {n c k : Nat} {xs : List Int} (h : Iz w (.slice a n c) xs) (hk : k < xs.length) : ∃ b off, a = some ⟨b, off, none⟩ ∧ w.cell? ⟨b, off + k, none⟩ = some (.int .i64 (xs.getD k 0)) ∧ b < w.heap.size := by
  obtain ⟨a', c', e, hx⟩ := h
  injection e with e1 e2 e3
  subst e1
  obtain ⟨b, off, e4, h4⟩ := hx (by omega)
  exact ⟨b, off, e4, h4 k hk, World.block_lt_of_cell? w _ (h4 k hk)⟩
/-- A cut. -/
theorem cut_le (z : Int) (n : Nat) : (Int.tmod z ((n : Int) + 1)).natAbs ≤ n := by
  have h := Int.natAbs_tmod z ((n : Int) + 1)
  rw [h]
  have : ((n : Int) + 1).natAbs = n + 1 := by omega
  rw [this]
  have := Nat.mod_lt z.natAbs (show 0 < n + 1 by omega)
  omega
/-- A round's state. -/
structure Cu (N p : Nat) (K : Nat → Prop) (W wr : World) (m : Nat) (bs : List Int) (rv gv : Value) (rs : List Int) (v : Value) (S : Sp) (gs : List Ln) : Prop where
  rb : Bs wr rv rs
  ri : In (fun k => k < N) rv
  wf : S.Wf
  mo : S.most = m
  eq : (Sp.new m).feed bs = ((S.feed rs).1, gs ++ (S.feed rs).2)
  ls : LsS N p wr v S
  ch : Chg (fun k => ¬ K k ∧ N ≤ k) W wr
  go : wr.ownsRow N 47 2 gv gs.length (lcells gs)
  gp : ∀ k, gv.ownBlock = some k → k ≠ p ∧ v.ownBlock ≠ some k ∧ ¬ K k
  kp : ¬ K p
  kv : ∀ k, v.ownBlock = some k → ¬ K k
  kw : ∀ k, K k → k < W.heap.size
  le : gs.length + rs.length ≤ bs.length
variable {N p m : Nat} {K : Nat → Prop} {W wr w3 : World} {bs rs : List Int} {gv v ra : Value} {S : Sp} {gs : List Ln}
/-- A piece is fed; its lines go behind those that are there. -/
theorem Cu.feed {a : Option Addr} {c : Nat} (h : Cu N p K W wr m bs (.slice a rs.length c) gv rs v S gs) (n : Nat) (hn : n ≤ rs.length) (hb : bs.length ≤ 4096) :
    Calls Try.prog 18 #[.pointer (some ⟨p, 0, none⟩), .slice a n c] wr fun e w9 => ∃ L o v9, e = .returned o ∧ w9.ownsRow N 47 2 gv gs.length (lcells gs) ∧ Lns w9 o L ∧ gs.length + L.length ≤ 4096 ∧ N ≤ w9.heap.size ∧
      ∀ g3 w3, w3.ownsRow N 47 2 g3 (gs.length + L.length) (lcells (gs ++ L)) → w9.grownBy w3 gv.ownBlock → (g3.ownBlock = gv.ownBlock ∨ g3.ownBlock = some w9.heap.size) →
        Cu N p K W w3 m bs (.slice (if c = n then a else a.map fun x => x.add n) (rs.length - n) (c - n)) g3 (rs.drop n) v9 (S.feed (rs.take n)).1 (gs ++ L) := by
  have hf : ∀ k, k < N → k < wr.heap.size ∧ k ≠ p ∧ v.ownBlock ≠ some k := fun k hk => ⟨Nat.lt_of_lt_of_le hk h.ls.N, (by have := h.ls.le; omega), fun e => by have := (own_ge h.ls.own e).1; omega⟩
  have hle := h.le
  refine (feed_any N p wr v _ S (rs.take n) (fun k => k < N) h.wf h.ls (h.rb.top hn) (h.ri.top hn) hf (by simp; omega)).mono fun e w9 h9 => ?_
  obtain ⟨v9, o, he, h1, h2, h3, h4⟩ := h9
  have hl := S.feed_len (rs.take n)
  have hl2 : (rs.take n).length = n := by simp; omega
  refine ⟨(S.feed (rs.take n)).2, o, v9, he, own_kept h.go h2.chg (fun k hk e => e.elim (h.gp k hk).1 (h.gp k hk).2.1), Lns.ofOwns h3, by omega, Nat.le_trans h.ls.N h2.chg.size, fun g3 w3 ho hg hn3 => ?_⟩
  have c3 : Chg (fun k => gv.ownBlock = some k) w9 w3 := Chg.ofGrown hg
  have n3 := own_new hn3
  have c2 : Chg (fun k => ¬ K k ∧ N ≤ k) wr w9 := h2.chg.mono fun k _ e => e.elim (fun e => e ▸ ⟨h.kp, h.ls.le⟩) fun e => ⟨h.kv k e, (own_ge h.ls.own e).1⟩
  have c4 : Chg (fun k => ¬ K k ∧ N ≤ k) w9 w3 := c3.mono fun k _ e => ⟨(h.gp k e).2.2, (own_ge h.go e).1⟩
  have c5 := c2.trans c4 (fun _ _ h => h)
  have hge : ∀ k, gv.ownBlock = some k → v9.ownBlock ≠ some k := fun k hk e => (h2.new k e).elim (h.gp k hk).2.1 (by have := (own_ge h.go hk).2; omega)
  have kbig : ∀ k, K k → k < wr.heap.size := fun k hk => Nat.lt_of_lt_of_le (h.kw k hk) h.ch.size
  have hcap : rs.length ≤ c := by
    obtain ⟨a', c', e, h5, _⟩ := h.rb.form
    injection e with e1 e2 e3
    omega
  refine ⟨?_, h.ri.rest hn hcap, h.wf.feed _, by rw [Sp.feed_most]; exact h.mo, ?_, h1.kept c3 (fun e => (h.gp p e).1 rfl) (fun k hk e => hge k e hk), h.ch.trans c5 (fun _ _ h => h), by rw [List.length_append]; exact ho, fun k hk => ?_, h.kp, fun k hk => ?_, h.kw, by simp; omega⟩
  · have r1 := h.rb.rest hn
    have r2 := h.ri.rest hn hcap
    exact r1.stays r2 c5 fun k hk e => by omega
  · rw [h.eq]
    conv => lhs; rw [← List.take_append_drop n rs]
    rw [Sp.feed_app, List.append_assoc]
  · rcases n3 k hk with e | e
    · exact ⟨(h.gp k e).1, hge k e, (h.gp k e).2.2⟩
    · have hs9 := h2.chg.size
      refine ⟨fun e2 => by have := h.ls.lt; omega, fun e2 => by have := (own_ge h1.own e2).2; omega, fun e2 => by have := kbig k e2; omega⟩
  · exact (h2.new k hk).elim (h.kv k) fun e e2 => by have := kbig k e2; omega
theorem Cu.held (h : Cu N p K W wr m bs ra gv rs v S gs) : Calls Try.prog 19 #[.pointer (some ⟨p, 0, none⟩)] wr fun e w' => e = .returned (.int .i64 (S.hold : Int)) ∧ w' = wr := by
  have := held_any N p wr v S.most S.st S.held S.long h.ls (by have := h.wf.len; have := h.wf.hi; omega)
  have e : (S.held.length + if S.st = 2 then 1 else 0) = S.hold := by
    unfold Sp.hold
    congr 1
    by_cases h : S.cr = true
    · rw [if_pos h, if_pos (st_two h)]
    · rw [if_neg h, if_neg (by unfold Sp.st; rw [if_neg h]; split <;> decide)]
  rw [e] at this
  exact this
end Go.Proofs.Ytfbildadidfolaa

/-
  The play of AllocPlays: what each act makes of the pool and of the document's own.
-/
import Derived.Test.YtdcmcgdalanjjaaGreatAPlays1
namespace Go.Proofs.YtdcmcgdalanjjaaGreat
open Go.RowKit Go.Maps

structure PsAt (X : Nat → Prop) (w1 w : World) (pd pl q : Nat) (f : Nat → List Int) (com : Nat → Option (List Int)) (pend N B M F n pr g c h : Nat) (T T0 : Nat → Bool) : Prop where
  pq : Pq X w1 w pd pl q 35 f com pend N B M F n T
  b0 : Bt (ovr f com) M n T0
  rp : Rp w pr M F n g c T
  was : Bw w h n T0
  xs : X pr ∧ X g ∧ X h
  ge : w1.heap.size ≤ pr ∧ w1.heap.size ≤ g ∧ w1.heap.size ≤ h
  ne : B ≠ pr ∧ B ≠ g ∧ pr ≠ h ∧ g ≠ h
/-- The play behind k acts. -/
def Ps (w1 w : World) (pd pl B M F n pr q h k : Nat) (T T0 : Nat → Bool) : Prop :=
  ∃ X f com pend N g c, PsAt X w1 w pd pl q f com pend N B M F n pr g c h T T0 ∧ pend ≤ k ∧ N ≤ 37 + 128 * k
section
variable {X : Nat → Prop} {w1 w w' : World} {pd pl q B M F n pr g c h k : Nat} {f : Nat → List Int} {com : Nat → Option (List Int)} {pend N : Nat} {T T0 U : Nat → Bool}
theorem PsAt.more (a : PsAt X w1 w pd pl q f com pend N B M F n pr g c h T T0) (hc : Chg (fun _ => False) w w') : PsAt X w1 w' pd pl q f com pend N B M F n pr g c h T T0 :=
  ⟨a.pq.more hc, a.b0, a.rp.kept hc (fun h => h) (fun h => h), a.was.kept hc (fun h => h), a.xs, a.ge, a.ne⟩
theorem Ps.more (a : Ps w1 w pd pl B M F n pr q h k T T0) (hc : Chg (fun _ => False) w w') : Ps w1 w' pd pl B M F n pr q h k T T0 := by
  obtain ⟨X, f, com, pend, N, g, c, a, hk⟩ := a
  exact ⟨X, f, com, pend, N, g, c, a.more hc, hk⟩
theorem Ps.up (a : Ps w1 w pd pl B M F n pr q h k T T0) {k' : Nat} (hk : k ≤ k') : Ps w1 w pd pl B M F n pr q h k' T T0 := by
  obtain ⟨X, f, com, pend, N, g, c, a, h1, h2⟩ := a
  exact ⟨X, f, com, pend, N, g, c, a, by omega, by omega⟩
theorem Ps.at (a : Ps w1 w pd pl B M F n pr q h k T T0) : PAt w B M F n := by
  obtain ⟨X, f, com, pend, N, g, c, a, h1, h2⟩ := a
  exact a.pq.at
theorem Ps.chg (a : Ps w1 w pd pl B M F n pr q h k T T0) : Chg (fun _ => False) w1 w := by
  obtain ⟨X, f, com, pend, N, g, c, a, h1, h2⟩ := a
  exact a.pq.chg
theorem Ps.pr' (a : Ps w1 w pd pl B M F n pr q h k T T0) : Pr M F n 35 := by
  obtain ⟨X, f, com, pend, N, g, c, ⟨⟨V, _, _, _, _, p⟩, _⟩, _⟩ := a
  exact p
/-- The pool has moved to U, the document's not yet. -/
theorem PsAt.half (a : PsAt X w1 w pd pl q f com pend N B M F n pr g c h T T0) (_p : Pq X w1 w' pd pl q 35 f com pend N B M F n U) (hs : Sm X w w') : Rp w' pr M F n g c T ∧ Bw w' h n T0 :=
  ⟨a.rp.sm hs a.xs.1 a.xs.2.1, a.was.sm hs a.xs.2.2⟩
/-- .. and then the document's. -/
theorem PsAt.whole {w2 w3 : World} (a : PsAt X w1 w pd pl q f com pend N B M F n pr g c h T T0) (p : Pq X w1 w2 pd pl q 35 f com pend N B M F n U) (b : Bw w2 h n T0) (r : Rp w3 pr M F n g c U) (hc : Chg (fun b => b = g) w2 w3) : PsAt X w1 w3 pd pl q f com pend N B M F n pr g c h U T0 :=
  ⟨p.put a.xs.2.1 a.ge.2.1 a.ne.2.1 hc, a.b0, r, b.kept hc (fun e => a.ne.2.2.2 e.symm), a.xs, a.ge, a.ne⟩

theorem ps_take (j : Nat) (a : Ps w1 w pd pl B M F n pr q h k T T0) (hj : j < n) (hT : T j = false) (hall : ∀ i, i < j → T i = true) :
    Calls Tryz.prog 12 #[PV M F n, .pointer (some ⟨q, 0, none⟩)] w fun e w2 => e = .returned (.tuple #[.int .i64 ((F + j : Nat) : Int), .int .i64 0]) ∧
      Hid (Calls Tryz.prog 20 #[.pointer (some ⟨pr, 0, none⟩)] w2 fun e w3 => e = .returned (.tuple #[.int .i64 ((F + j : Nat) : Int), .int .i64 0]) ∧ Hid (Ps w1 w3 pd pl B M F n pr q h k (upd T j true) T0)) := by
  obtain ⟨X, f, com, pend, N, g, c, a, hk⟩ := a
  refine (pq_take j a.pq hj hT hall).mono ?_
  rintro e w2 ⟨rfl, p2, s2⟩
  have hh := a.half p2 s2
  refine ⟨rfl, (rtake_ok j hh.1 hj hT hall).mono ?_⟩
  rintro e w3 ⟨rfl, r3, c3⟩
  exact ⟨rfl, X, f, com, pend, N, g, c, a.whole p2 hh.2 r3 c3, hk⟩
theorem ps_full (a : Ps w1 w pd pl B M F n pr q h k T T0) (hall : ∀ i, i < n → T i = true) :
    Calls Tryz.prog 12 #[PV M F n, .pointer (some ⟨q, 0, none⟩)] w fun e w2 => e = .returned (.tuple #[.int .i64 0, .int .i64 7]) ∧
      Hid (Calls Tryz.prog 20 #[.pointer (some ⟨pr, 0, none⟩)] w2 fun e w3 => e = .returned (.tuple #[.int .i64 0, .int .i64 7]) ∧ Hid (Ps w1 w3 pd pl B M F n pr q h k T T0)) := by
  obtain ⟨X, f, com, pend, N, g, c, a, hk⟩ := a
  refine (pq_full a.pq hall).mono ?_
  rintro e w2 ⟨rfl, c2⟩
  have a2 := a.more c2
  refine ⟨rfl, (rtake_full a2.rp hall).mono ?_⟩
  rintro e w3 ⟨rfl, rfl⟩
  exact ⟨rfl, X, f, com, pend, N, g, c, a2, hk⟩
/-- Give of both: some answer, and the play goes on. -/
theorem ps_give (x : Int) (a : Ps w1 w pd pl B M F n pr q h k T T0) (hw : x ≤ 9223372036854775807) : ∃ E U,
    Calls Tryz.prog 16 #[PV M F n, .pointer (some ⟨q, 0, none⟩), .int .i64 x] w fun e w2 => e = .returned (.int .i64 E) ∧ PAt w2 B M F n ∧ Chg (fun _ => False) w1 w2 ∧
      Hid (Calls Tryz.prog 21 #[.pointer (some ⟨pr, 0, none⟩), .int .i64 x] w2 fun e w3 => e = .returned (.int .i64 E) ∧ PAt w3 B M F n ∧ Chg (fun _ => False) w1 w3 ∧ Hid (Ps w1 w3 pd pl B M F n pr q h k U T0)) := by
  have hp := a.pr'
  have hF := hp.f
  obtain ⟨X, f, com, pend, N, g, c, a, hk⟩ := a
  by_cases hx : x < (F : Int) ∨ ((F : Int) ≤ x ∧ (n : Int) ≤ x - (F : Int))
  · refine ⟨1, T, (give_out M F n _ x w hx (by omega)).mono ?_⟩
    rintro e w2 ⟨rfl, c2⟩
    have a2 := a.more c2
    refine ⟨rfl, a2.pq.at, a2.pq.chg, (rgive_out x a2.rp hw hx).mono ?_⟩
    rintro e w3 ⟨rfl, j, rfl⟩
    have c3 := Chg.drewN (fun _ => False) w2 j
    exact ⟨rfl, (a2.more c3).pq.at, (a2.more c3).pq.chg, X, f, com, pend, N, g, c, a2.more c3, hk⟩
  · obtain ⟨i, rfl⟩ : ∃ i : Nat, x = ((F + i : Nat) : Int) := ⟨(x - (F : Int)).toNat, by omega⟩
    have hi : i < n := by omega
    cases hT : T i with
    | false =>
      refine ⟨1, T, (pq_give_free i a.pq hi hT).mono ?_⟩
      rintro e w2 ⟨rfl, c2⟩
      have a2 := a.more c2
      refine ⟨rfl, a2.pq.at, a2.pq.chg, (rgive_free _ i a2.rp hi rfl hT).mono ?_⟩
      rintro e w3 ⟨rfl, j, rfl⟩
      have c3 := Chg.drewN (fun _ => False) w2 j
      exact ⟨rfl, (a2.more c3).pq.at, (a2.more c3).pq.chg, X, f, com, pend, N, g, c, a2.more c3, hk⟩
    | true =>
      refine ⟨0, upd T i false, (pq_give i a.pq hi hT).mono ?_⟩
      rintro e w2 ⟨rfl, p2, s2⟩
      have hh := a.half p2 s2
      refine ⟨rfl, p2.at, p2.chg, (rgive_ok _ i hh.1 hi rfl hT).mono ?_⟩
      rintro e w3 ⟨rfl, r3, c3⟩
      have a3 := a.whole p2 hh.2 r3 c3
      exact ⟨rfl, a3.pq.at, a3.pq.chg, X, f, com, pend, N, g, c, a3, hk⟩
/-- Has, then Is: not of the pool. -/
theorem ps_has_out (x : Int) (a : Ps w1 w pd pl B M F n pr q h k T T0) (hw : x ≤ 9223372036854775807) (hx : x < (F : Int) ∨ ((F : Int) ≤ x ∧ (n : Int) ≤ x - (F : Int))) :
    Calls Tryz.prog 14 #[PV M F n, .pointer (some ⟨q, 0, none⟩), .int .i64 x] w fun e w2 => e = .returned (.tuple #[.bool false, .int .i64 1]) ∧ PAt w2 B M F n ∧ Chg (fun _ => False) w1 w2 ∧
      Hid (Calls Tryz.prog 22 #[.pointer (some ⟨pr, 0, none⟩), .int .i64 x] w2 fun e w3 => e = .returned (.bool false) ∧ Hid (Ps w1 w3 pd pl B M F n pr q h k T T0)) := by
  have hF := a.pr'.f
  obtain ⟨X, f, com, pend, N, g, c, a, hk⟩ := a
  refine (has_out' M F n _ x w hx (by omega)).mono ?_
  rintro e w2 ⟨rfl, c2⟩
  have a2 := a.more c2
  refine ⟨rfl, a2.pq.at, a2.pq.chg, (ris_no x a2.rp hw hx).mono ?_⟩
  rintro e w3 ⟨rfl, j, rfl⟩
  exact ⟨rfl, X, f, com, pend, N, g, c, a2.more (Chg.drewN (fun _ => False) w2 j), hk⟩
theorem ps_has_in (i : Nat) (a : Ps w1 w pd pl B M F n pr q h k T T0) (hi : i < n) :
    Calls Tryz.prog 14 #[PV M F n, .pointer (some ⟨q, 0, none⟩), .int .i64 ((F + i : Nat) : Int)] w fun e w2 => e = .returned (.tuple #[.bool (T i), .int .i64 0]) ∧ PAt w2 B M F n ∧ Chg (fun _ => False) w1 w2 ∧
      Hid (Calls Tryz.prog 22 #[.pointer (some ⟨pr, 0, none⟩), .int .i64 ((F + i : Nat) : Int)] w2 fun e w3 => e = .returned (.bool true) ∧ Chg (fun _ => False) w1 w3 ∧ (∃ g c, n ≤ c ∧ RAt w3 pr M F n (.slice (some ⟨g, 0, none⟩) n c) ∧ w3.cell? ⟨g, i, none⟩ = some (.bool (T i))) ∧ Hid (Ps w1 w3 pd pl B M F n pr q h k T T0)) := by
  obtain ⟨X, f, com, pend, N, g, c, a, hk⟩ := a
  obtain ⟨V, t, b, ha, hx, hp⟩ := a.pq
  refine (has_ok M F n i t hp b hi).mono ?_
  rintro e w2 ⟨rfl, c2⟩
  have a2 := a.more c2
  refine ⟨rfl, a2.pq.at, a2.pq.chg, (ris_yes _ a2.rp i hi rfl).mono ?_⟩
  rintro e w3 ⟨rfl, j, rfl⟩
  have a3 := a2.more (Chg.drewN (fun _ => False) w2 j)
  exact ⟨rfl, a3.pq.chg, ⟨g, c, a3.rp.cap, a3.rp.at', (a3.rp.row.cell hi).1⟩, X, f, com, pend, N, g, c, a3, hk⟩
theorem ps_clear (a : Ps w1 w pd pl B M F n pr q h k T T0) :
    Calls Tryz.prog 15 #[PV M F n, .pointer (some ⟨q, 0, none⟩)] w fun e w2 => e = .returned (.int .i64 0) ∧
      Hid (Calls Tryz.prog 19 #[.pointer (some ⟨pr, 0, none⟩)] w2 fun e w3 => e = .returned (.tuple #[]) ∧ Hid (Ps w1 w3 pd pl B M F n pr q h k (fun _ => false) T0)) := by
  have hp := a.pr'
  obtain ⟨X, f, com, pend, N, g, c, a, hk⟩ := a
  obtain ⟨V, t, b, ha, hx, _⟩ := a.pq
  refine (tv_clear t ha hx hp).mono ?_
  rintro e w2 ⟨rfl, p2, s2⟩
  have hh := a.half p2 s2
  have hl := p2.chg.size
  have hB := p2.xB
  have hhl := hh.2.lt
  have hpl := hh.1.at'.lt
  refine ⟨rfl, (rclear_any hh.1.at' hp.top hp.f).mono ?_⟩
  rintro e w3 ⟨rfl, r3, c3⟩
  have hz := r3.row.lt
  have p3 := p2.ref c3 (fun b _ e => by subst e; exact ⟨a.xs.1, a.ge.1⟩) a.ne.1
  exact ⟨rfl, _, f, com, pend, N, _, _, ⟨p3, a.b0, r3, hh.2.kept c3 (fun e => a.ne.2.2.1 e.symm), ⟨.inl a.xs.1, .inr ⟨Nat.le_refl _, hz⟩, .inl a.xs.2.2⟩, ⟨a.ge.1, hl, a.ge.2.2⟩, ⟨a.ne.1, by omega, a.ne.2.2.1, by omega⟩⟩, hk⟩
/-- Commit, Begin; then the row is copied. -/
theorem ps_commit (a : Ps w1 w pd pl B M F n pr q h k T T0) (hk : k ≤ 1000) :
    Calls Tryz.prog 17 #[.pointer (some ⟨q, 0, none⟩)] w fun e w2 => e = .returned (.int .i64 0) ∧
      Hid (Calls Tryz.prog 18 #[.pointer (some ⟨pl, 0, none⟩)] w2 fun e w3 => ∃ q2, e = .returned (.tuple #[.pointer (some ⟨q2, 0, none⟩), .int .i64 0]) ∧ ∃ g c g' c' w4, (w3.alloc (.cells #[] 4)).cell? ⟨pr, 3, none⟩ = some (.slice (some ⟨g, 0, none⟩) n c) ∧
        (Builtin.append_ #[31, 31] 31 #[.slice (some ⟨w3.heap.size, 0, none⟩) 0 0, .slice (some ⟨g, 0, none⟩) n c]).run Tryz.prog (w3.alloc (.cells #[] 4)) = .ok (.slice (some ⟨g', 0, none⟩) n c') w4 ∧ Hid (Ps w1 w4 pd pl B M F n pr q2 g' (k + 1) T T)) := by
  have hp := a.pr'
  obtain ⟨X, f, com, pend, N, g, c, a, hk1, hk2⟩ := a
  obtain ⟨V, t, b, ha, hx, _⟩ := a.pq
  refine (tv_commit t (by omega)).mono ?_
  rintro e w2 ⟨rfl, f2, com2, pend2, l2, s2, v2, hp2, _⟩
  refine ⟨rfl, (tv_begin l2 (by omega) (by decide)).mono ?_⟩
  rintro e w3 ⟨q2, rfl, t3, s3⟩
  have b2 : Bt (ovr f2 com2) M n T := b.same (fun i _ => v2 _)
  have r3 := (a.rp.sm s2 a.xs.1 a.xs.2.1).sm s3 a.xs.1 a.xs.2.1
  have p3 : Pq X w1 w3 pd pl q2 35 f2 com2 pend2 (N + 128) B M F n T := ⟨_, t3, b2, (ha.sm s2 hx).sm s3 hx, hx, hp⟩
  obtain ⟨g', c', w4, hr, hc', hrow, hch, hg'⟩ := copyB (c := c) r3.row hp.one hp.top
  have hB := p3.xB
  have hgl := r3.row.lt
  have hpl := r3.at'.lt
  have hl := p3.chg.size
  have hg4 := hrow.lt
  refine ⟨q2, rfl, g, c, g', c', w4, (r3.at'.kept (Chg.alloc (fun _ => False) w3 _) (fun h => h)).c3, hr, _, f2, com2, pend2, N + 128, g, c, ⟨p3.add hch, b2, r3.kept hch (fun h => h) (fun h => h), hrow, ⟨.inl a.xs.1, .inl a.xs.2.1, .inr ⟨hg', hg4⟩⟩, ⟨a.ge.1, a.ge.2.1, by omega⟩, ⟨a.ne.1, a.ne.2.1, by omega, by omega⟩⟩, by omega, by omega⟩
/-- Abort, Begin; then what was is copied. -/
theorem ps_abort {d : Nat} (a : Ps w1 w pd pl B M F n pr q h k T T0) (hk : k ≤ 1000) :
    Calls Tryz.prog 23 #[.pointer (some ⟨q, 0, none⟩)] w fun e w2 => e = .returned (.tuple #[]) ∧
      Hid (Calls Tryz.prog 18 #[.pointer (some ⟨pl, 0, none⟩)] w2 fun e w3 => ∃ q2, e = .returned (.tuple #[.pointer (some ⟨q2, 0, none⟩), .int .i64 0]) ∧ ∃ g' c' w4,
        (Builtin.append_ #[31, 31] 31 #[.slice (some ⟨w3.heap.size, 0, none⟩) 0 0, .slice (some ⟨h, 0, none⟩) n d]).run Tryz.prog (w3.alloc (.cells #[] 4)) = .ok (.slice (some ⟨g', 0, none⟩) n c') w4 ∧ (∃ tv, w4.cell? ⟨pr, 3, none⟩ = some tv) ∧ w4.frozen? ⟨pr, 3, none⟩ = false ∧ Hid (Ps w1 (w4.setCell ⟨pr, 3, none⟩ (.slice (some ⟨g', 0, none⟩) n c')) pd pl B M F n pr q2 h (k + 1) T0 T0)) := by
  have hp := a.pr'
  obtain ⟨X, f, com, pend, N, g, c, a, hk1, hk2⟩ := a
  obtain ⟨V, t, b, ha, hx, _⟩ := a.pq
  refine (tv_abort t).mono ?_
  rintro e w2 ⟨rfl, l2, s2⟩
  refine ⟨rfl, (tv_begin l2 (by omega) (by decide)).mono ?_⟩
  rintro e w3 ⟨q2, rfl, t3, s3⟩
  have r3 := (a.rp.sm s2 a.xs.1 a.xs.2.1).sm s3 a.xs.1 a.xs.2.1
  have h3 := (a.was.sm s2 a.xs.2.2).sm s3 a.xs.2.2
  have p3 : Pq X w1 w3 pd pl q2 35 f com pend N B M F n T0 := ⟨_, t3, a.b0, (ha.sm s2 hx).sm s3 hx, hx, hp⟩
  obtain ⟨g', c', w4, hr, hc', hrow, hch, hg'⟩ := copyB (c := d) h3 hp.one hp.top
  have hB := p3.xB
  have hhl := h3.lt
  have hpl := r3.at'.lt
  have hl := p3.chg.size
  have hg4 := hrow.lt
  have r4 := r3.at'.kept hch (fun h => h)
  have p4 := p3.add hch
  have hcs : Chg (fun b => b = pr) w4 (w4.setCell ⟨pr, 3, none⟩ (.slice (some ⟨g', 0, none⟩) n c')) := Chg.setCell (S := fun b => b = pr) w4 ⟨pr, 3, none⟩ _ rfl
  have hne : ¬ g' = pr := by omega
  refine ⟨q2, rfl, g', c', w4, hr, ⟨_, r4.c3⟩, r4.fr 3, _, f, com, pend, N, g', c', ⟨p4.put (.inl a.xs.1) a.ge.1 a.ne.1 hcs, a.b0, ⟨r4.set _, hrow.kept hcs hne, hc', fun e => hne e.symm, hp.top, hp.f⟩, (h3.kept hch (fun h => h)).kept hcs (fun e => a.ne.2.2.1 e.symm), ⟨.inl a.xs.1, .inr ⟨hg', hg4⟩, .inl a.xs.2.2⟩, ⟨a.ge.1, by omega, a.ge.2.2⟩, ⟨a.ne.1, by omega, a.ne.2.2.1, by omega⟩⟩, by omega, by omega⟩
/-- Free of both. -/
theorem ps_free (a : Ps w1 w pd pl B M F n pr q h k T T0) : ∃ R : Int,
    Calls Tryz.prog 13 #[PV M F n, .pointer (some ⟨q, 0, none⟩)] w fun e w2 => e = .returned (.tuple #[.int .i64 R, .int .i64 0]) ∧
      Hid (Calls Tryz.prog 24 #[.pointer (some ⟨pr, 0, none⟩)] w2 fun e w3 => e = .returned (.int .i64 R) ∧ Hid (Ps w1 w3 pd pl B M F n pr q h k T T0)) := by
  obtain ⟨X, f, com, pend, N, g, c, a, hk⟩ := a
  refine ⟨((n - cntT T n : Nat) : Int), (pq_free a.pq).mono ?_⟩
  rintro e w2 ⟨rfl, c2⟩
  have a2 := a.more c2
  refine ⟨rfl, (rfree_any a2.rp).mono ?_⟩
  rintro e w3 ⟨rfl, rfl⟩
  exact ⟨rfl, X, f, com, pend, N, g, c, a2, hk⟩
end
end Go.Proofs.YtdcmcgdalanjjaaGreat

namespace Go.Proofs.YtdcmcgdalanjjaaGreat
open Go.RowKit Go.Maps

section
variable {X : Nat → Prop} {w0 w1 w w' : World} {pd pl q K B pr : Nat} {f : Nat → List Int} {com : Nat → Option (List Int)} {pend N : Nat} {V : Nat → List Int}
theorem tv_blocks (h : Tv X w0 w pd pl q K f com pend N V) : Calls Tryz.prog 8 #[.pointer (some ⟨pl, 0, none⟩)] w fun e w' => e = .returned (.int .i64 (K : Int)) ∧ w' = w := by
  obtain ⟨own, wrote, ⟨F, G, S, m, V, mt, Vt, h1, _⟩, _⟩ := h
  exact lblocks_any w h1.lk
/-- Maps of both are the same. -/
theorem maps_both (M F n : Int) (hw : n ≤ 9223372036854775807) : ∃ m : Int, (∀ w : World, Calls Tryz.prog 10 #[PV M F n] w fun e w' => e = .returned (.int .i64 m) ∧ w' = w.alloc (PO M F n)) ∧
    ∀ (pr : Nat) (tv : Value) (w : World), RAt w pr M F n tv → Calls Tryz.prog 11 #[.pointer (some ⟨pr, 0, none⟩)] w fun e w' => e = .returned (.int .i64 m) ∧ w' = w := by
  by_cases h : n < 1
  · exact ⟨0, fun w => maps_no M F n w h, fun pr tv w hr => rmaps_no pr M F n tv w hr h⟩
  · obtain ⟨n, rfl⟩ : ∃ n' : Nat, n = (n' : Int) := ⟨n.toNat, by omega⟩
    exact ⟨_, fun w => maps_big M F n w (by omega) (by omega), fun pr tv w hr => rmaps_yes pr M F n tv w hr (by omega) (by omega)⟩
/-- Whether there may be such a pool in a log of 35 blocks. -/
def Fits (M F n : Int) : Prop := 0 ≤ M ∧ 0 ≤ F ∧ F ≤ 1073741824 ∧ 1 ≤ n ∧ n ≤ 16384 ∧ M + (mapsN n.toNat : Int) ≤ ((35 : Nat) : Int)
theorem Fits.nat {M F n : Int} (h : Fits M F n) : ∃ M' F' n' : Nat, M = (M' : Int) ∧ F = (F' : Int) ∧ n = (n' : Int) ∧ Pr M' F' n' 35 := by
  obtain ⟨h1, h2, h3, h4, h5, h6⟩ := h
  refine ⟨M.toNat, F.toNat, n.toNat, by omega, by omega, by omega, by omega, by omega, by omega, by omega⟩
/-- The long question: Right of both, Maps of both. -/
theorem ask_both (M F n : Int) (tv : Value) (b : Bool) (hb : (b = true ∧ Fits M F n) ∨ (b = false ∧ ¬ Fits M F n)) (hM : M ≤ 9223372036854775807) (hn : n ≤ 9223372036854775807) (h : Tv X w1 w pd pl q 35 f com pend N V) (hr : RAt w pr M F n tv) (ha : PAt w B M F n) : ∃ m : Int,
    Calls Tryz.prog 8 #[.pointer (some ⟨pl, 0, none⟩)] w fun e w2 => e = .returned (.int .i64 35) ∧ PAt w2 B M F n ∧ Hid (Calls Tryz.prog 7 #[PV M F n, .int .i64 35] w2 fun e w3 => e = .returned (.bool b) ∧ PAt w3 B M F n ∧
      Hid (Calls Tryz.prog 8 #[.pointer (some ⟨pl, 0, none⟩)] w3 fun e w4 => e = .returned (.int .i64 35) ∧ PAt w4 B M F n ∧ Hid (Calls Tryz.prog 9 #[.pointer (some ⟨pr, 0, none⟩), .int .i64 35] w4 fun e w5 => e = .returned (.bool b) ∧ PAt w5 B M F n ∧
        Hid (Calls Tryz.prog 10 #[PV M F n] w5 fun e w6 => e = .returned (.int .i64 m) ∧ PAt w6 B M F n ∧ Hid (Calls Tryz.prog 11 #[.pointer (some ⟨pr, 0, none⟩)] w6 fun e w7 => e = .returned (.int .i64 m) ∧ PAt w7 B M F n ∧
          Hid (Calls Tryz.prog 8 #[.pointer (some ⟨pl, 0, none⟩)] w7 fun e w8 => e = .returned (.int .i64 35) ∧ PAt w8 B M F n ∧ Hid (Calls Tryz.prog 9 #[.pointer (some ⟨pr, 0, none⟩), .int .i64 35] w8 fun e w9 => e = .returned (.bool b) ∧ PAt w9 B M F n ∧ Hid (Chg (fun _ => False) w w9)))))))) := by
  obtain ⟨m, mp, mr⟩ := maps_both M F n hn
  have RP : ∀ w : World, Calls Tryz.prog 7 #[PV M F n, .int .i64 35] w fun e w' => e = .returned (.bool b) ∧ Chg (fun _ => False) w w' := fun w => by
    rcases hb with ⟨rfl, hf⟩ | ⟨rfl, hf⟩
    · obtain ⟨M', F', n', rfl, rfl, rfl, hp⟩ := hf.nat
      exact right_yes M' F' n' 35 w hp.f hp.one hp.top hp.in' (by decide)
    · exact right_no M F n 35 w hM (by decide) (by decide) hf
  have RR : ∀ w : World, RAt w pr M F n tv → Calls Tryz.prog 9 #[.pointer (some ⟨pr, 0, none⟩), .int .i64 35] w fun e w' => e = .returned (.bool b) ∧ ∃ n, w' = w.drewN n := fun w hr => by
    rcases hb with ⟨rfl, hf⟩ | ⟨rfl, hf⟩
    · obtain ⟨M', F', n', rfl, rfl, rfl, hp⟩ := hf.nat
      exact rright_yes pr M' F' n' 35 tv w hr hp.f hp.one hp.top hp.in' (by decide)
    · exact rright_no pr M F n 35 tv w hr hM (by decide) (by decide) hf
  refine ⟨m, (tv_blocks h).mono ?_⟩
  rintro e w2 ⟨rfl, rfl⟩
  refine ⟨rfl, ha, (RP w2).mono ?_⟩
  rintro e w3 ⟨rfl, c3⟩
  have a3 := ha.kept c3 (fun h => h)
  refine ⟨rfl, a3, (tv_blocks (h.more c3)).mono ?_⟩
  rintro e w4 ⟨rfl, rfl⟩
  have r4 := hr.kept c3 (fun h => h)
  refine ⟨rfl, a3, (RR w4 r4).mono ?_⟩
  rintro e w5 ⟨rfl, j, rfl⟩
  have c5 := c3.trans (Chg.drewN (fun _ => False) w4 j) (fun _ _ h => h)
  refine ⟨rfl, ha.kept c5 (fun h => h), (mp _).mono ?_⟩
  rintro e w6 ⟨rfl, hw6⟩
  have c6 : Chg (fun _ => False) w2 w6 := c5.trans (hw6 ▸ Chg.alloc (fun _ => False) _ _) (fun _ _ h => h)
  have r6 := hr.kept c6 (fun h => h)
  refine ⟨rfl, ha.kept c6 (fun h => h), (mr pr tv w6 r6).mono ?_⟩
  rintro e w7 ⟨rfl, rfl⟩
  refine ⟨rfl, ha.kept c6 (fun h => h), (tv_blocks (h.more c6)).mono ?_⟩
  rintro e w8 ⟨rfl, rfl⟩
  refine ⟨rfl, ha.kept c6 (fun h => h), (RR _ r6).mono ?_⟩
  rintro e w9 ⟨rfl, i, rfl⟩
  have c9 := c6.trans (Chg.drewN (fun _ => False) w8 i) (fun _ _ h => h)
  exact ⟨rfl, ha.kept c9 (fun h => h), c9⟩
/-- What a pool that is not right answers. -/
theorem not_right (M F n : Int) (hM : M ≤ 9223372036854775807) (hf : ¬ Fits M F n) (h : Tv X w1 w pd pl q 35 f com pend N V) (ha : PAt w B M F n) :
    Calls Tryz.prog 12 #[PV M F n, .pointer (some ⟨q, 0, none⟩)] w fun e w2 => e = .returned (.tuple #[.int .i64 0, .int .i64 1]) ∧ PAt w2 B M F n ∧ Hid (Calls Tryz.prog 13 #[PV M F n, .pointer (some ⟨q, 0, none⟩)] w2 fun e w3 => e = .returned (.tuple #[.int .i64 0, .int .i64 1]) ∧ PAt w3 B M F n ∧
      Hid (Calls Tryz.prog 14 #[PV M F n, .pointer (some ⟨q, 0, none⟩), .int .i64 F] w3 fun e w4 => e = .returned (.tuple #[.bool false, .int .i64 1]) ∧ PAt w4 B M F n ∧ Hid (Calls Tryz.prog 15 #[PV M F n, .pointer (some ⟨q, 0, none⟩)] w4 fun e w5 => e = .returned (.int .i64 1) ∧ PAt w5 B M F n ∧
        Hid (Calls Tryz.prog 16 #[PV M F n, .pointer (some ⟨q, 0, none⟩), .int .i64 F] w5 fun e w6 => e = .returned (.int .i64 1) ∧ Hid (Chg (fun _ => False) w w6))))) := by
  have PO' : ∀ w' : World, Tv X w1 w' pd pl q 35 f com pend N V → Calls Tryz.prog 41 #[PV M F n, .pointer (some ⟨q, 0, none⟩), .int .i64 F] w' fun e w'' => e = .returned (.tuple #[.slice none 0 0, .int .i64 1]) ∧ Chg (fun _ => False) w' w'' := fun w' h' => by
    by_cases hn : 0 < n
    · exact partOf_no M F n w' h' hM hn hf
    · exact partOf_out M F n _ F w' (.inr ⟨Int.le_refl _, by omega⟩) (by omega)
  refine (take_no M F n h hM hf).mono ?_
  rintro e w2 ⟨rfl, c2⟩
  have h2 := h.more c2
  refine ⟨rfl, ha.kept c2 (fun h => h), (free_no M F n h2 hM hf).mono ?_⟩
  rintro e w3 ⟨rfl, c3⟩
  have h3 := h2.more c3
  have c03 := c2.trans c3 (fun _ _ h => h)
  refine ⟨rfl, ha.kept c03 (fun h => h), (has_err M F n _ F w3 (PO' _ (h3.more (Chg.alloc (fun _ => False) w3 _)))).mono ?_⟩
  rintro e w4 ⟨rfl, c4⟩
  have h4 := h3.more c4
  have c04 := c03.trans c4 (fun _ _ h => h)
  refine ⟨rfl, ha.kept c04 (fun h => h), (pclear_no M F n h4 hM hf).mono ?_⟩
  rintro e w5 ⟨rfl, c5⟩
  have h5 := h4.more c5
  have c05 := c04.trans c5 (fun _ _ h => h)
  refine ⟨rfl, ha.kept c05 (fun h => h), (give_err M F n _ F w5 (PO' _ (h5.more (Chg.alloc (fun _ => False) w5 _)))).mono ?_⟩
  rintro e w6 ⟨rfl, c6⟩
  exact ⟨rfl, c05.trans c6 (fun _ _ h => h)⟩
end
section
variable {X : Nat → Prop} {w1 w w' : World} {pd pl q B M F n pr : Nat} {tv : Value}
/-- Clear, Commit, Begin, Clear, a copy: the play begins. -/
theorem ps_begin (t : Tv X w1 w pd pl q 35 (fun _ => zeros 512) (fun _ => none) 0 37 (fun _ => zeros 512)) (ha : PAt w B M F n) (hx : X B) (hp : Pr M F n 35) (r : RAt w pr M F n tv) (xr : X pr) (gr : w1.heap.size ≤ pr) (nB : B ≠ pr) :
    Calls Tryz.prog 15 #[PV M F n, .pointer (some ⟨q, 0, none⟩)] w fun e w2 => e = .returned (.int .i64 0) ∧ Hid (Calls Tryz.prog 17 #[.pointer (some ⟨q, 0, none⟩)] w2 fun e w3 => e = .returned (.int .i64 0) ∧
      Hid (Calls Tryz.prog 18 #[.pointer (some ⟨pl, 0, none⟩)] w3 fun e w4 => ∃ q2, e = .returned (.tuple #[.pointer (some ⟨q2, 0, none⟩), .int .i64 0]) ∧
        Hid (Calls Tryz.prog 19 #[.pointer (some ⟨pr, 0, none⟩)] w4 fun e w5 => e = .returned (.tuple #[]) ∧ ∃ g c g' c' w6, (w5.alloc (.cells #[] 4)).cell? ⟨pr, 3, none⟩ = some (.slice (some ⟨g, 0, none⟩) n c) ∧
          (Builtin.append_ #[31, 31] 31 #[.slice (some ⟨w5.heap.size, 0, none⟩) 0 0, .slice (some ⟨g, 0, none⟩) n c]).run Tryz.prog (w5.alloc (.cells #[] 4)) = .ok (.slice (some ⟨g', 0, none⟩) n c') w6 ∧ Hid (Ps w1 w6 pd pl B M F n pr q2 g' 1 (fun _ => false) (fun _ => false))))) := by
  refine (tv_clear t ha hx hp).mono ?_
  rintro e w2 ⟨rfl, ⟨V2, t2, b2, a2, _, _⟩, s2⟩
  refine ⟨rfl, (tv_commit t2 (by decide)).mono ?_⟩
  rintro e w3 ⟨rfl, f3, com3, pend3, l3, s3, v3, hp3, _⟩
  refine ⟨rfl, (tv_begin l3 (by decide) (by decide)).mono ?_⟩
  rintro e w4 ⟨q2, rfl, t4, s4⟩
  have r4 := ((r.sm s2 xr).sm s3 xr).sm s4 xr
  have a4 := (a2.sm s3 hx).sm s4 hx
  have b4 : Bt (ovr f3 com3) M n (fun _ => false) := b2.same (fun i _ => v3 _)
  have p4 : Pq X w1 w4 pd pl q2 35 f3 com3 pend3 165 B M F n (fun _ => false) := ⟨_, t4, b4, a4, hx, hp⟩
  refine ⟨q2, rfl, (rclear_any r4 hp.top hp.f).mono ?_⟩
  rintro e w5 ⟨rfl, r5, c5⟩
  have p5 := p4.ref c5 (fun b _ e => by subst e; exact ⟨xr, gr⟩) nB
  have hz5 := r5.row.lt
  have hl := p4.chg.size
  have hB := p4.xB
  have hpl := r5.at'.lt
  have hpl4 := r4.lt
  obtain ⟨g', c', w6, hr, hc', hrow, hch, hg'⟩ := copyB (c := n) r5.row hp.one hp.top
  have hg6 := hrow.lt
  have hB5 := p5.xB
  have hz6 := hch.size
  refine ⟨rfl, _, _, g', c', w6, (r5.at'.kept (Chg.alloc (fun _ => False) w5 _) (fun h => h)).c3, hr, _, f3, com3, pend3, 165, _, _, ⟨p5.add hch, b4, r5.kept hch (fun h => h) (fun h => h), hrow, ⟨.inl (.inl xr), .inl (.inr ⟨Nat.le_refl _, hz5⟩), .inr ⟨hg', hg6⟩⟩, ⟨gr, hl, by omega⟩, ⟨nB, by omega, by omega, by omega⟩⟩, by omega, by omega⟩
end
end Go.Proofs.YtdcmcgdalanjjaaGreat

namespace Go.Proofs.YtdcmcgdalanjjaaGreat
open Go.RowKit Go.Maps

set_option maxHeartbeats 25600000 in
set_option maxRecDepth 100000 in
theorem law_aplays_no (M F n : Int) (v : Value) (l : List PAct) (w : World) (hv : PActs w v l) (hM : M ≤ 9223372036854775807) (hn : n ≤ 9223372036854775807) (hf : ¬ Fits M F n) :
    Calls Tryz.prog 3 #[.agg #[.int .i64 M, .int .i64 F, .int .i64 n], v] w fun e w' => e = .returned (.bool true) ∧ Chg (fun _ => False) w w' := by
  obtain ⟨va, vc, rfl⟩ := hv.form
  have HI : Hid (PActs w (.slice va l.length vc) l) := hv
  clear hv
  by_cases g5 : 200 < l.length
  · have k5 : decide ((200 : Int) < (l.length : Int)) = true := by simp; omega
    have KN : Hid (Calls Tryz.prog 5 #[] (w.alloc (PO M F n)) fun e w' => e = .returned (.bool true) ∧ Hid (Chg (fun _ => False) w w')) := (known_any _).mono (by rintro e w' ⟨rfl, h⟩; exact ⟨rfl, (Chg.alloc (fun _ => False) w _).trans h (fun _ _ h => h)⟩)
    unfold PO at KN
    go_enter Tryz.func3, Tryz.ntmps3
    go_wp2_with fail
    refine KN.out.mono ?_
    rintro e w1 ⟨rfl, HC⟩
    go_wp2
    go_ret
    exact ⟨rfl, HC.out⟩
  have k5 : decide ((200 : Int) < (l.length : Int)) = false := by simp; omega
  have l1 : l.length ≤ 200 := by omega
  clear g5
  have KN : Hid (Calls Tryz.prog 5 #[] (w.alloc (PO M F n)) fun e w1 => e = .returned (.bool true) ∧ Hid (Chg (fun _ => False) w w1 ∧ PAt w1 w.heap.size M F n ∧ w.heap.size < w1.heap.size) ∧
      Hid (Calls Tryz.prog 6 #[.int .i64 100] w1 fun e w' => ∃ pd pl q, e = .returned (.tuple #[.pointer (some ⟨pl, 0, none⟩), .pointer (some ⟨q, 0, none⟩)]) ∧ PAt w' w.heap.size M F n ∧ Hid (TxUp (fun b => b < w1.heap.size) w1 w' pd pl q 35 (fun _ => zeros 512) (fun _ => none) 0 true (fun _ => none) 0 37))) := (known_any _).mono (by
    rintro e w1 ⟨rfl, h⟩
    have a1 := (PAt.box w M F n).kept h (fun h => h)
    refine ⟨rfl, ⟨(Chg.alloc (fun _ => False) w _).trans h (fun _ _ h => h), a1, by have := h.size; simp at this; omega⟩, (made_any 35 w1 (by decide) (by decide)).mono ?_⟩
    rintro e w' ⟨pd, pl, q, rfl, ht⟩
    exact ⟨pd, pl, q, rfl, a1.kept ht.chg (fun h => h), ht⟩)
  have HF' : Hid (¬ Fits M F n) := hf
  clear hf
  unfold PO at KN
  go_enter Tryz.func3, Tryz.ntmps3
  go_wp2_with fail
  refine KN.out.mono ?_
  clear KN
  rintro e w1 ⟨rfl, HC, MD⟩
  go_wp2_with fail
  refine MD.out.mono ?_
  clear MD
  rintro e w2 ⟨pd, pl, q, rfl, a2, HT⟩
  have hq := eqT_some ⟨q, 0, none⟩
  have hql := eqL_some ⟨pl, 0, none⟩
  obtain ⟨B, hB⟩ : ∃ B, w.heap.size = B := ⟨_, rfl⟩
  rw [hB] at HC a2 ⊢
  have p0 := a2.c0
  have p1 := a2.c1
  have p2 := a2.c2
  -- the document's pool is laid
  have cR := Chg.alloc (fun _ => False) w2 (.cells #[.int .i64 M, .int .i64 F, .int .i64 n, .slice none 0 0] 33)
  have rR : RAt (w2.alloc (.cells #[.int .i64 M, .int .i64 F, .int .i64 n, .slice none 0 0] 33)) w2.heap.size M F n (.slice none 0 0) := ⟨heap_alloc_new _ _⟩
  have tR := (Tv.start HT.out (by decide) (by decide)).add cR
  have xR := box_in (fun b => b < w1.heap.size) w2 (.cells #[.int .i64 M, .int .i64 F, .int .i64 n, .slice none 0 0] 33)
  have xB : addX (fun b => b < w1.heap.size) w2.heap.size (w2.alloc (.cells #[.int .i64 M, .int .i64 F, .int .i64 n, .slice none 0 0] 33)).heap.size B := .inl HC.out.2.2
  have aR := a2.kept cR (fun h => h)
  have gR : w1.heap.size ≤ w2.heap.size := HT.out.chg.size
  obtain ⟨X, hX⟩ : ∃ X, addX (fun b => b < w1.heap.size) w2.heap.size (w2.alloc (.cells #[.int .i64 M, .int .i64 F, .int .i64 n, .slice none 0 0] 33)).heap.size = X := ⟨_, rfl⟩
  rw [hX] at tR xR xB
  obtain ⟨w3, hw3⟩ : ∃ w3, w2.alloc (.cells #[.int .i64 M, .int .i64 F, .int .i64 n, .slice none 0 0] 33) = w3 := ⟨_, rfl⟩
  rw [hw3] at rR tR aR
  obtain ⟨pr, hpr⟩ : ∃ pr, w2.heap.size = pr := ⟨_, rfl⟩
  rw [hpr] at rR xR gR
  have HB : Hid (X B ∧ X pr ∧ w1.heap.size ≤ pr ∧ B ≠ pr) := ⟨xB, xR, gR, by have := HC.out.2.2; omega⟩
  have HW3 : Hid (w2.alloc (.cells #[.int .i64 M, .int .i64 F, .int .i64 n, .slice none 0 0] 33) = w3) := hw3
  have HPR : Hid (w2.heap.size = pr) := hpr
  have HD : Hid (Tv X w1 w3 pd pl q 35 (fun _ => zeros 512) (fun _ => none) 0 37 (fun _ => zeros 512) ∧ RAt w3 pr M F n (.slice none 0 0) ∧ PAt w3 B M F n) := ⟨tR, rR, aR⟩
  have kd := Chg.drew (fun _ => False) w3
  obtain ⟨mm, ASK⟩ := ask_both M F n _ false (.inr ⟨rfl, HF'.out⟩) hM hn (tR.more kd) (rR.kept kd (fun h => h)) (aR.kept kd (fun h => h))
  have HASK : Hid _ := ASK
  have b0 := aR.c0
  have b1 := aR.c1
  have b2 := aR.c2
  clear HT cR rR tR xR xB aR gR hX hw3 hpr kd ASK a2 hB
  go_wp2_with fail
  rw [HW3.out, HPR.out]
  unfold PV at HASK
  go_region_held (fun w' => w'.cell? ⟨B, 0, none⟩ = some (.int .i64 M) ∧ w'.cell? ⟨B, 1, none⟩ = some (.int .i64 F) ∧ w'.cell? ⟨B, 2, none⟩ = some (.int .i64 n))
    (first | assumption | exact ⟨b0, b1, b2⟩ | exact ⟨a9.c0, a9.c1, a9.c2⟩ | exact ⟨a8.c0, a8.c1, a8.c2⟩ | exact ⟨a7.c0, a7.c1, a7.c2⟩ | exact ⟨a6.c0, a6.c1, a6.c2⟩ | exact ⟨a5.c0, a5.c1, a5.c2⟩ | exact ⟨a4.c0, a4.c1, a4.c2⟩)
    (first | (go_at_call 8; first | (refine (show Calls _ _ _ _ _ from HASK.out).mono ?_; clear HASK; rintro e w4 ⟨rfl, a4, RP⟩) | (refine BL.out.mono ?_; clear BL; rintro e w6 ⟨rfl, a6, RR⟩)) | (go_at_call 7; refine RP.out.mono ?_; clear RP; rintro e w5 ⟨rfl, a5, BL⟩) | (go_at_call 9; refine RR.out.mono ?_; clear RR; rintro e w7 ⟨rfl, a7, MP⟩) | (go_at_call 10; refine MP.out.mono ?_; clear MP; rintro e w8 ⟨rfl, a8, RM⟩) | (go_at_call 11; refine RM.out.mono ?_; clear RM; rintro e w9 ⟨rfl, a9, BL2⟩))
  clear a4 a5 a6 a7 a8
  go_wp2_with fail
  refine BL2.out.mono ?_
  clear BL2 a9
  rintro e w10 ⟨rfl, a10, RR2⟩
  go_wp2_with fail
  refine RR2.out.mono ?_
  clear RR2 a10
  rintro e w11 ⟨rfl, a11, HC11⟩
  have c0 := a11.c0
  have c1 := a11.c1
  have c2 := a11.c2
  have HCW : Hid (Chg (fun _ => False) w3 w11) := (Chg.drew (fun _ => False) w3).trans HC11.out (fun _ _ h => h)
  clear HC11 b0 b1 b2
  have NR : Hid _ := not_right M F n hM HF'.out (HD.out.1.more HCW.out) (HD.out.2.2.kept HCW.out (fun h => h))
  clear a11
  unfold PV at NR
  go_wp2_with fail
  refine (show Calls _ _ _ _ _ from NR.out).mono ?_
  clear NR c0 c1 c2
  rintro e w12 ⟨rfl, a12, FR⟩
  have d0 := a12.c0
  have d1 := a12.c1
  have d2 := a12.c2
  go_wp2_with fail
  refine FR.out.mono ?_
  clear FR a12 d0 d1 d2
  rintro e w13 ⟨rfl, a13, HS⟩
  have d0 := a13.c0
  have d1 := a13.c1
  have d2 := a13.c2
  go_wp2_with fail
  refine HS.out.mono ?_
  clear HS a13 d0 d1 d2
  rintro e w14 ⟨rfl, a14, CL⟩
  have d0 := a14.c0
  have d1 := a14.c1
  have d2 := a14.c2
  go_wp2_with fail
  refine CL.out.mono ?_
  clear CL a14 d0 d1 d2
  rintro e w15 ⟨rfl, a15, GV⟩
  have d0 := a15.c0
  have d1 := a15.c1
  have d2 := a15.c2
  go_wp2_with fail
  refine GV.out.mono ?_
  clear GV a15 d0 d1 d2
  rintro e w16 ⟨rfl, HZ⟩
  have HY : Hid (Chg (fun _ => False) w w16) := ((HC.out.1.trans HD.out.1.chg (fun _ _ h => h)).trans HCW.out (fun _ _ h => h)).trans HZ.out (fun _ _ h => h)
  clear HZ
  go_wp2
  go_ret
  exact ⟨rfl, HY.out⟩
end Go.Proofs.YtdcmcgdalanjjaaGreat

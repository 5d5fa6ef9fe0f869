/-
  The function that does an act on both caches: its contract.
-/
import Derived.Test.YtioloobeakjbeaaRC8
import Derived.Test.YtioloobeakjbeaaImage
namespace Go.Proofs.Ytioloobeakjbeaa
open Go.RowKit Go.Maps
attribute [local go_sem ↓] Go.wp_at_zero Go.wp_at_succ

/-- A disk and a cache over it, and the reference's, apart from one another and from a block k. -/
structure Pr (w w' : World) (c p r q : Nat) (F G G2 H2 : Nat → Prop) (S T : St) (C D : Ca) (lv : Value) (k : Nat) : Prop where
  cc : Cc w' F G c p S C
  rc : RCk w' G2 H2 r q T D lv
  no : ∀ b, F b ∨ G b → ¬ (G2 b ∨ H2 b)
  n1 : ∀ b, F b ∨ G b → w.heap.size ≤ b
  n2 : ∀ b, G2 b ∨ H2 b → w.heap.size ≤ b
  chg : Chg (fun _ => False) w w'
  k1 : ¬ (F k ∨ G k)
  k2 : ¬ (G2 k ∨ H2 k)
  kl : k < w'.heap.size
section
variable {w w1 w2 : World} {c p r q : Nat} {F G G2 H2 : Nat → Prop} {S T : St} {C D : Ca} {lv : Value} {k : Nat}
theorem RCk.lt {w : World} {G H : Nat → Prop} {c q : Nat} {S : St} {C : Ca} {lv : Value} (h : RCk w G H c q S C lv) : ∀ b, G b ∨ H b → b < w.heap.size := fun b e => by
  rcases e with e | e
  · exact h.rk.lt b e
  · exact h.rc.lt b e
theorem Pr.more (h : Pr w w1 c p r q F G G2 H2 S T C D lv k) (e : Chg (fun _ => False) w1 w2) : Pr w w2 c p r q F G G2 H2 S T C D lv k :=
  ⟨h.cc.kept e (fun _ _ h => h), h.rc.kept e (fun _ _ h => h), h.no, h.n1, h.n2, h.chg.trans e (fun _ _ h => h), h.k1, h.k2, Nat.lt_of_lt_of_le h.kl e.size⟩
theorem Pr.left {F' G' : Nat → Prop} {S' : St} {C' : Ca} (h : Pr w w1 c p r q F G G2 H2 S T C D lv k) (h1 : Cc w2 F' G' c p S' C') (h2 : Gr F G w1 w2 F' G') : Pr w w2 c p r q F' G' G2 H2 S' T C' D lv k := by
  have hn : ∀ b, F' b ∨ G' b → (F b ∨ G b) ∨ w1.heap.size ≤ b := fun b hb => by
    rcases hb with e | e
    · rcases h2.f b e with e | e
      · exact .inl (.inl e)
      · exact .inr e
    · rcases h2.g b e with e | e
      · exact .inl (.inr e)
      · exact .inr e
  refine ⟨h1, h.rc.kept h2.chg (fun b hb hf => h.no b hf hb), fun b hb hg => ?_, fun b hb => ?_, h.n2, h.chg.trans h2.chg (fun i hi e => by have := h.n1 i e; omega), fun hk => ?_, h.k2, Nat.lt_of_lt_of_le h.kl h2.chg.size⟩
  · rcases hn b hb with e | e
    · exact h.no b e hg
    · have := h.rc.lt b hg; omega
  · rcases hn b hb with e | e
    · exact h.n1 b e
    · have := h.chg.size; omega
  · rcases hn k hk with e | e
    · exact h.k1 e
    · have := h.kl; omega
theorem Pr.right {T' : St} {D' : Ca} (h : Pr w w1 c p r q F G G2 H2 S T C D lv k) (ht : EvTo G2 H2 r q w1 w2 T' D') : ∃ G' H' lv', Pr w w2 c p r q F G G' H' S T' C D' lv' k ∧ Chg (fun b => G2 b ∨ H2 b) w1 w2 := by
  obtain ⟨G', H', lv', h1, h2, h3, h4⟩ := ht
  have hn : ∀ b, G' b ∨ H' b → (G2 b ∨ H2 b) ∨ w1.heap.size ≤ b := fun b hb => by
    rcases hb with e | e
    · rcases h3 b e with e | e
      · exact .inl (.inl e)
      · exact .inr e
    · rcases h4 b e with e | e
      · exact .inl (.inr e)
      · exact .inr e
  refine ⟨G', H', lv', ⟨h.cc.kept h2 (fun b hb hf => h.no b hb hf), h1, fun b hb hg => ?_, h.n1, fun b hb => ?_, h.chg.trans h2 (fun i hi e => by have := h.n2 i e; omega), h.k1, fun hk => ?_, Nat.lt_of_lt_of_le h.kl h2.size⟩, h2⟩
  · rcases hn b hg with e | e
    · exact h.no b hb e
    · have := h.cc.lt b hb; omega
  · rcases hn b hb with e | e
    · exact h.n2 b e
    · have := h.chg.size; omega
  · rcases hn k hk with e | e
    · exact h.k2 e
    · have := h.kl; omega
end
/-- The disk under the cache has changed. -/
theorem Cc.disk {w w' : World} {F G : Nat → Prop} {c p : Nat} {S S' : St} {C : Ca} (h : Cc w F G c p S C) (ht : To F p w w' S') (hnb : S'.nb = S.nb) : ∃ F', Cc w' F' G c p S' C ∧ Gr F G w w' F' G := by
  obtain ⟨m, r, ls, nd, h⟩ := h
  obtain ⟨F', d', c', f'⟩ := ht
  refine ⟨F', ⟨m, r, ls, nd, d', by rw [hnb]; exact h.ca.kept c' (fun b hg hf => h.no b hf hg), fun b hb hg => ?_⟩, Gr.ofTo c' f'⟩
  rcases f' b hb with e | e
  · exact h.no b e hg
  · have := h.ca.lt b hg; omega
theorem RCk.evDisk {w w' : World} {G H : Nat → Prop} {c q : Nat} {S S' : St} {C : Ca} {lv : Value} (h : RCk w G H c q S C lv) (ht : RTo G q w w' S') : EvTo G H c q w w' S' C := by
  obtain ⟨G', h1, h2, h3⟩ := h.disk ht
  exact ⟨G', H, lv, h1, h2.mono (fun _ _ h => .inl h), h3, fun _ h => .inl h⟩
theorem RCk.evCache {w w' : World} {G H : Nat → Prop} {c q : Nat} {S : St} {C C' : Ca} {lv : Value} (h : RCk w G H c q S C lv) (ht : RcTo H c q w w' C') : EvTo G H c q w w' S C' := by
  obtain ⟨H', lv', h1, h2, h3⟩ := h.cache ht
  exact ⟨G, H', lv', h1, h2.mono (fun _ _ h => .inr h), fun _ h => .inl h, h3⟩

/-- An act in a box. -/
structure BoxAt (w : World) (k : Nat) (d : ActD) : Prop where
  op : w.cell? ⟨k, 0, none⟩ = some (.int .i64 d.op)
  n : w.cell? ⟨k, 1, none⟩ = some (.int .i64 d.n)
  bc : w.cell? ⟨k, 2, none⟩ = some d.bv
  pc : w.cell? ⟨k, 3, none⟩ = some d.pv
theorem BoxAt.kept {w w' : World} {k : Nat} {d : ActD} {E : Nat → Prop} (h : BoxAt w k d) (c : Chg E w w') (hk : ¬ E k) : BoxAt w' k d := ⟨c.cell h.op hk, c.cell h.n hk, c.cell h.bc hk, c.cell h.pc hk⟩

/-- What a step leaves. -/
def Stepped (w : World) (c p r q : Nat) (S : St) (C : Ca) (w' : World) : Prop := ∃ F G G2 H2 lv, Cc w' F G c p S C ∧ RCk w' G2 H2 r q S C lv ∧ (∀ b, F b ∨ G b → ¬ (G2 b ∨ H2 b)) ∧ (∀ b, F b ∨ G b → w.heap.size ≤ b) ∧ (∀ b, G2 b ∨ H2 b → w.heap.size ≤ b) ∧ Chg (fun _ => False) w w'
theorem Pr.stepped {w w' : World} {c p r q : Nat} {F G G2 H2 : Nat → Prop} {S : St} {C : Ca} {lv : Value} {k : Nat} (h : Pr w w' c p r q F G G2 H2 S S C C lv k) : Stepped w c p r q S C w' := ⟨F, G, G2, H2, lv, h.cc, h.rc, h.no, h.n1, h.n2, h.chg⟩
theorem Stepped.more {w w' w'' : World} {c p r q : Nat} {S : St} {C : Ca} (h : Stepped w c p r q S C w') (e : Chg (fun _ => False) w' w'') : Stepped w c p r q S C w'' := by
  obtain ⟨F, G, G2, H2, lv, h1, h2, h3, h4, h5, h6⟩ := h
  exact ⟨F, G, G2, H2, lv, h1.kept e (fun _ _ h => h), h2.kept e (fun _ _ h => h), h3, h4, h5, h6.trans e (fun _ _ h => h)⟩

/-- What a step begins with, behind its box. -/
theorem step_start {w wr : World} {c p r q : Nat} {S : St} {C : Ca} {d : ActD} (h : Stepped w c p r q S C wr) :
    ∃ F G G2 H2 lv, Pr w (wr.alloc (.cells #[.int .i64 d.op, .int .i64 d.n, d.bv, d.pv] 42)) c p r q F G G2 H2 S S C C lv wr.heap.size ∧ BoxAt (wr.alloc (.cells #[.int .i64 d.op, .int .i64 d.n, d.bv, d.pv] 42)) wr.heap.size d := by
  obtain ⟨F, G, G2, H2, lv, h1, h2, h3, h4, h5, h6⟩ := h
  have ca := Chg.alloc (fun _ => False) wr (.cells #[.int .i64 d.op, .int .i64 d.n, d.bv, d.pv] 42)
  refine ⟨F, G, G2, H2, lv, ⟨h1.kept ca (fun _ _ h => h), h2.kept ca (fun _ _ h => h), h3, h4, h5, h6.trans ca (fun _ _ h => h), fun hf => by have := h1.lt _ hf; omega, fun hf => by have := h2.lt _ hf; omega, by simp⟩, ?_⟩
  refine ⟨?_, ?_, ?_, ?_⟩ <;> (rw [World.cell?_alloc_at _ _ _ _ rfl]; rfl)
theorem Is.argOff {w : World} {v : Value} {ps : List Int} {F : Nat → Prop} (h : Is w v ps) (hF : ∀ b, F b → w.heap.size ≤ b) : ps ≠ [] → ∀ g, v.ownBlock = some g → ¬ F g := fun hne g hg hf => by
  have h1 := hF g hf
  have hpl : 0 < ps.length := List.length_pos_iff.2 hne
  rcases h with ⟨e, e2⟩ | ⟨a, c, e, _, _, h3⟩
  · exact hne e2
  · rw [e] at hg
    have h4 := World.block_lt_of_cell? w _ (h3 0 hpl)
    have e5 : (a.add 0).block = a.block := by unfold Addr.add; split <;> rfl
    rw [e5] at h4
    have : a.block = g := by simpa [Value.ownBlock] using hg
    omega

/-- No number is out of its bounds. -/
structure Bd (S : St) (C : Ca) : Prop where
  nb : S.nb ≤ 16384
  writes : S.writes + 16384 < 1099511627776
  uses : C.hits + C.misses < 1099511627776
  ev : C.evicted < 1099511627776
theorem Bd.w {S : St} {C : Ca} (h : Bd S C) : S.writes < 1099511627776 := by have := h.writes; omega

set_option maxHeartbeats 1600000 in
set_option maxRecDepth 100000 in
theorem step_get {w wr : World} {c p r q : Nat} {S : St} {C : Ca} {b o : Nat} {d : ActD} (h0 : Stepped w c p r q S C wr) (_ha : ActAt w b o d) (_hl : d.bs.length ≤ 512 ∧ d.ps.length ≤ 50) (hx : Bd S C) (hop : d.op = 1) :
    Calls Try.prog 15 #[.pointer (some ⟨p, 0, none⟩), .pointer (some ⟨c, 0, none⟩), .pointer (some ⟨q, 0, none⟩), .pointer (some ⟨r, 0, none⟩), .agg #[.int .i64 d.op, .int .i64 d.n, d.bv, d.pv]] wr fun e w' => e = .returned (.bool true) ∧ Stepped w c p r q (get S C d.n).S (get S C d.n).C w' := by
  obtain ⟨F, G, G2, H2, lv, P0, B0⟩ := step_start (d := d) h0
  obtain ⟨x, hdo⟩ : ∃ x, Obj.cells #[.int .i64 d.op, .int .i64 d.n, d.bv, d.pv] 42 = x := ⟨_, rfl⟩
  rw [hdo] at P0 B0
  have q0 := B0.op
  have q1 := B0.n
  have q2 := B0.bc
  have q3 := B0.pc
  have hwf := P0.cc.wf.2
  have HC : Hid (Calls Try.prog 26 #[.pointer (some ⟨c, 0, none⟩), .int .i64 d.n] (wr.alloc x) fun e w1 => ∃ u, e = .returned (.tuple #[u, .int .i64 (get S C d.n).e]) ∧ w1.cell? ⟨wr.heap.size, 1, none⟩ = some (.int .i64 d.n) ∧ Hid (Calls Try.prog 32 #[.pointer (some ⟨r, 0, none⟩), .int .i64 d.n] w1 fun e w2 => e = .returned (.tuple #[.string (strOf (getB S C d.n)), .int .i64 (get S C d.n).e]) ∧ (convert 39 9 u).run Try.prog w2 = .ok (.string (strOf (getB S C d.n))) w2 ∧ Hid (Stepped w c p r q (get S C d.n).S (get S C d.n).C w2))) := by
    refine (get_any F G c p S C d.n _ P0.cc hx.w hx.uses hx.ev).mono ?_
    rintro e w1 ⟨u, F1, G1, rfl, h1, h2, h3, h4⟩
    have P1 := P0.left h1 h2
    refine ⟨u, rfl, (B0.kept h2.chg P0.k1).n, ?_⟩
    refine (rget_any G2 H2 r q S C lv d.n w1 P1.rc hwf hx.w hx.uses hx.ev).mono ?_
    rintro e w2 ⟨rfl, ht⟩
    obtain ⟨G3, H3, lv3, P2, c2⟩ := P1.right ht
    refine ⟨rfl, run_str (h3.kept c2 (fun a n cc e hn hb => ?_)), P2.stepped⟩
    have hg := h4 a.block (by rw [e]; rfl)
    have e5 := P0.rc.lt _ hb
    omega
  obtain ⟨E, hE⟩ : ∃ E, (get S C d.n).e = E := ⟨_, rfl⟩
  obtain ⟨t, ht⟩ : ∃ t, strOf (getB S C d.n) = t := ⟨_, rfl⟩
  rw [hE, ht] at HC
  generalize (get S C d.n).S = S' at *
  generalize (get S C d.n).C = C' at *
  clear P0 B0 h0 _ha _hl hE ht hwf hx
  generalize d.n = dn at *
  generalize d.bv = dv at *
  generalize d.pv = dp at *
  generalize d.op = dop at *
  subst hop
  go_enter Try.func15, Try.ntmps15
  go_wp2_with fail
  refine HC.out.mono ?_
  rintro e w1 ⟨u, rfl, x1, HD⟩
  go_wp2_with fail
  refine HD.out.mono ?_
  rintro e w2 ⟨rfl, x2, HE⟩
  go_wp2
  go_ret
  exact ⟨rfl, HE.out⟩

set_option maxHeartbeats 1600000 in
set_option maxRecDepth 100000 in
theorem step_flush {w wr : World} {c p r q : Nat} {S : St} {C : Ca} {b o : Nat} {d : ActD} (h0 : Stepped w c p r q S C wr) (_ha : ActAt w b o d) (_hl : d.bs.length ≤ 512 ∧ d.ps.length ≤ 50) (hx : Bd S C) (hop : d.op = 5) :
    Calls Try.prog 15 #[.pointer (some ⟨p, 0, none⟩), .pointer (some ⟨c, 0, none⟩), .pointer (some ⟨q, 0, none⟩), .pointer (some ⟨r, 0, none⟩), .agg #[.int .i64 d.op, .int .i64 d.n, d.bv, d.pv]] wr fun e w' => e = .returned (.bool true) ∧ Stepped w c p r q (flush S C).S (flush S C).C w' := by
  obtain ⟨F, G, G2, H2, lv, P0, B0⟩ := step_start (d := d) h0
  obtain ⟨x, hdo⟩ : ∃ x, Obj.cells #[.int .i64 d.op, .int .i64 d.n, d.bv, d.pv] 42 = x := ⟨_, rfl⟩
  rw [hdo] at P0 B0
  have q0 := B0.op
  have q1 := B0.n
  have q2 := B0.bc
  have q3 := B0.pc
  have hwf := P0.cc.wf.2
  have HC : Hid (Calls Try.prog 27 #[.pointer (some ⟨c, 0, none⟩)] (wr.alloc x) fun e w1 => e = .returned (.int .i64 (flush S C).e) ∧ Hid (Calls Try.prog 37 #[.pointer (some ⟨r, 0, none⟩)] w1 fun e w2 => e = .returned (.int .i64 (flush S C).e) ∧ Hid (Stepped w c p r q (flush S C).S (flush S C).C w2))) := by
    refine (flush_any F G c p S C _ P0.cc hx.writes).mono ?_
    rintro e w1 ⟨rfl, F1, G1, h1, h2⟩
    have P1 := P0.left h1 h2
    refine ⟨rfl, ?_⟩
    refine (rflush_any G2 H2 r q S C lv w1 P1.rc hwf hx.nb hx.writes).mono ?_
    rintro e w2 ⟨rfl, ht⟩
    obtain ⟨G3, H3, lv3, P2, c2⟩ := P1.right ht
    exact ⟨rfl, P2.stepped⟩
  obtain ⟨E, hE⟩ : ∃ E, (flush S C).e = E := ⟨_, rfl⟩
  rw [hE] at HC
  generalize (flush S C).S = S' at *
  generalize (flush S C).C = C' at *
  clear P0 B0 h0 _ha _hl hE hwf hx
  generalize d.n = dn at *
  generalize d.bv = dv at *
  generalize d.pv = dp at *
  generalize d.op = dop at *
  subst hop
  go_enter Try.func15, Try.ntmps15
  go_wp2_with fail
  refine HC.out.mono ?_
  rintro e w1 ⟨rfl, HD⟩
  go_wp2_with fail
  refine HD.out.mono ?_
  rintro e w2 ⟨rfl, HE⟩
  go_wp2
  go_ret
  exact ⟨rfl, HE.out⟩

set_option maxHeartbeats 1600000 in
set_option maxRecDepth 100000 in
theorem step_drop {w wr : World} {c p r q : Nat} {S : St} {C : Ca} {b o : Nat} {d : ActD} (h0 : Stepped w c p r q S C wr) (_ha : ActAt w b o d) (_hl : d.bs.length ≤ 512 ∧ d.ps.length ≤ 50) (_hx : Bd S C) (hop : d.op = 6) :
    Calls Try.prog 15 #[.pointer (some ⟨p, 0, none⟩), .pointer (some ⟨c, 0, none⟩), .pointer (some ⟨q, 0, none⟩), .pointer (some ⟨r, 0, none⟩), .agg #[.int .i64 d.op, .int .i64 d.n, d.bv, d.pv]] wr fun e w' => e = .returned (.bool true) ∧ Stepped w c p r q S C.drop w' := by
  obtain ⟨F, G, G2, H2, lv, P0, B0⟩ := step_start (d := d) h0
  obtain ⟨x, hdo⟩ : ∃ x, Obj.cells #[.int .i64 d.op, .int .i64 d.n, d.bv, d.pv] 42 = x := ⟨_, rfl⟩
  rw [hdo] at P0 B0
  have q0 := B0.op
  have q1 := B0.n
  have q2 := B0.bc
  have q3 := B0.pc
  have hwf := P0.cc.wf.2
  have HC : Hid (Calls Try.prog 30 #[.pointer (some ⟨c, 0, none⟩)] (wr.alloc x) fun e w1 => e = .returned (.tuple #[]) ∧ Hid (Calls Try.prog 38 #[.pointer (some ⟨r, 0, none⟩)] w1 fun e w2 => e = .returned (.tuple #[]) ∧ Hid (Stepped w c p r q S C.drop w2))) := by
    obtain ⟨m, rr, ls, nd, hk⟩ := P0.cc
    refine (drop_any G c p S.nb C m rr ls nd _ hk.ca).mono ?_
    rintro e w1 ⟨rfl, G1, m1, r1, nd1, h1, h2, h3⟩
    have P1 := P0.left (F' := F) (G' := G1) (S' := S) (C' := C.drop) ⟨m1, r1, [], nd1, hk.dk.kept h2 (fun b hf hg => hk.no b hf hg), h1, fun b hf hg => by
      rcases h3 b hg with e | e
      · exact hk.no b hf e
      · have := hk.dk.lt b hf; omega⟩ ⟨h2.mono (fun _ _ h => .inr h), fun _ h => .inl h, h3⟩
    refine ⟨rfl, ?_⟩
    refine (rdrop_any H2 r q C lv w1 P1.rc.rc).mono ?_
    rintro e w2 ⟨rfl, h4, h5⟩
    obtain ⟨G3, H3, lv3, P2, c2⟩ := P1.right (P1.rc.evCache ⟨H2, _, h4, h5, fun _ h => .inl h⟩)
    exact ⟨rfl, P2.stepped⟩
  generalize C.drop = C' at *
  clear P0 B0 h0 _ha _hl hwf _hx
  generalize d.n = dn at *
  generalize d.bv = dv at *
  generalize d.pv = dp at *
  generalize d.op = dop at *
  subst hop
  go_enter Try.func15, Try.ntmps15
  go_wp2_with fail
  refine HC.out.mono ?_
  rintro e w1 ⟨rfl, HD⟩
  go_wp2_with fail
  refine HD.out.mono ?_
  rintro e w2 ⟨rfl, HE⟩
  go_wp2
  go_ret
  exact ⟨rfl, HE.out⟩

set_option maxHeartbeats 1600000 in
set_option maxRecDepth 100000 in
theorem step_cut {w wr : World} {c p r q : Nat} {S : St} {C : Ca} {b o : Nat} {d : ActD} (h0 : Stepped w c p r q S C wr) (ha : ActAt w b o d) (_hl : d.bs.length ≤ 512 ∧ d.ps.length ≤ 50) (hx : Bd S C) (hop : d.op = 7) :
    Calls Try.prog 15 #[.pointer (some ⟨p, 0, none⟩), .pointer (some ⟨c, 0, none⟩), .pointer (some ⟨q, 0, none⟩), .pointer (some ⟨r, 0, none⟩), .agg #[.int .i64 d.op, .int .i64 d.n, d.bv, d.pv]] wr fun e w' => e = .returned (.bool true) ∧ Stepped w c p r q (S.cut d.ps) C w' := by
  obtain ⟨F, G, G2, H2, lv, P0, B0⟩ := step_start (d := d) h0
  obtain ⟨x, hdo⟩ : ∃ x, Obj.cells #[.int .i64 d.op, .int .i64 d.n, d.bv, d.pv] 42 = x := ⟨_, rfl⟩
  rw [hdo] at P0 B0
  have q0 := B0.op
  have q1 := B0.n
  have q2 := B0.bc
  have q3 := B0.pc
  have hwf := P0.cc.wf.2
  have HC : Hid (Calls Try.prog 39 #[.pointer (some ⟨p, 0, none⟩), d.pv] (wr.alloc x) fun e w1 => e = .returned (.tuple #[]) ∧ w1.cell? ⟨wr.heap.size, 3, none⟩ = some d.pv ∧ Hid (Calls Try.prog 40 #[.pointer (some ⟨q, 0, none⟩), d.pv] w1 fun e w2 => e = .returned (.tuple #[]) ∧ Hid (Stepped w c p r q (S.cut d.ps) C w2))) := by
    refine (cut_arg F p S d.pv d.ps _ P0.cc.dk (ha.ps.kept P0.chg (fun _ _ h => h)) (ha.ps.argOff (fun b hb => P0.n1 b (.inl hb))) hx.w).mono ?_
    rintro e w1 ⟨rfl, ht⟩
    obtain ⟨F1, h1, h2⟩ := P0.cc.disk ht (St.cut_nb _ _)
    have P1 := P0.left h1 h2
    refine ⟨rfl, (B0.kept h2.chg P0.k1).pc, ?_⟩
    refine (rcut_arg G2 q S d.pv d.ps w1 P1.rc.rk (ha.ps.kept P1.chg (fun _ _ h => h)) (ha.ps.argOff (fun b hb => P1.n2 b (.inl hb))) hx.w).mono ?_
    rintro e w2 ⟨rfl, ht2⟩
    obtain ⟨G3, H3, lv3, P2, c2⟩ := P1.right (P1.rc.evDisk ht2)
    exact ⟨rfl, P2.stepped⟩
  generalize S.cut d.ps = S' at *
  clear P0 B0 h0 ha _hl hwf hx
  generalize d.n = dn at *
  generalize d.bv = dv at *
  generalize d.pv = dp at *
  generalize d.op = dop at *
  subst hop
  go_enter Try.func15, Try.ntmps15
  go_wp2_with fail
  refine HC.out.mono ?_
  rintro e w1 ⟨rfl, x3, HD⟩
  go_wp2_with fail
  refine HD.out.mono ?_
  rintro e w2 ⟨rfl, HE⟩
  go_wp2
  go_ret
  exact ⟨rfl, HE.out⟩

set_option maxHeartbeats 1600000 in
set_option maxRecDepth 100000 in
theorem step_on {w wr : World} {c p r q : Nat} {S : St} {C : Ca} {b o : Nat} {d : ActD} (h0 : Stepped w c p r q S C wr) (_ha : ActAt w b o d) (_hl : d.bs.length ≤ 512 ∧ d.ps.length ≤ 50) (_hx : Bd S C) (hop : d.op = 8) :
    Calls Try.prog 15 #[.pointer (some ⟨p, 0, none⟩), .pointer (some ⟨c, 0, none⟩), .pointer (some ⟨q, 0, none⟩), .pointer (some ⟨r, 0, none⟩), .agg #[.int .i64 d.op, .int .i64 d.n, d.bv, d.pv]] wr fun e w' => e = .returned (.bool true) ∧ Stepped w c p r q S.on C w' := by
  obtain ⟨F, G, G2, H2, lv, P0, B0⟩ := step_start (d := d) h0
  obtain ⟨x, hdo⟩ : ∃ x, Obj.cells #[.int .i64 d.op, .int .i64 d.n, d.bv, d.pv] 42 = x := ⟨_, rfl⟩
  rw [hdo] at P0 B0
  have q0 := B0.op
  have q1 := B0.n
  have q2 := B0.bc
  have q3 := B0.pc
  have hwf := P0.cc.wf.2
  have HC : Hid (Calls Try.prog 41 #[.pointer (some ⟨p, 0, none⟩)] (wr.alloc x) fun e w1 => e = .returned (.tuple #[]) ∧ Hid (Calls Try.prog 42 #[.pointer (some ⟨q, 0, none⟩)] w1 fun e w2 => e = .returned (.tuple #[]) ∧ Hid (Stepped w c p r q S.on C w2))) := by
    refine (on_any F p S _ P0.cc.dk).mono ?_
    rintro e w1 ⟨rfl, d1, k1⟩
    obtain ⟨F1, h1, h2⟩ := P0.cc.disk (To.own P0.cc.dk.fp d1 k1) rfl
    have P1 := P0.left h1 h2
    refine ⟨rfl, ?_⟩
    refine (ron_any G2 q S w1 P1.rc.rk).mono ?_
    rintro e w2 ⟨rfl, ht2⟩
    obtain ⟨G3, H3, lv3, P2, c2⟩ := P1.right (P1.rc.evDisk ht2)
    exact ⟨rfl, P2.stepped⟩
  generalize S.on = S' at *
  clear P0 B0 h0 _ha _hl hwf _hx
  generalize d.n = dn at *
  generalize d.bv = dv at *
  generalize d.pv = dp at *
  generalize d.op = dop at *
  subst hop
  go_enter Try.func15, Try.ntmps15
  go_wp2_with fail
  refine HC.out.mono ?_
  rintro e w1 ⟨rfl, HD⟩
  go_wp2_with fail
  refine HD.out.mono ?_
  rintro e w2 ⟨rfl, HE⟩
  go_wp2
  go_ret
  exact ⟨rfl, HE.out⟩

set_option maxHeartbeats 1600000 in
set_option maxRecDepth 100000 in
theorem step_arm {w wr : World} {c p r q : Nat} {S : St} {C : Ca} {b o : Nat} {d : ActD} (h0 : Stepped w c p r q S C wr) (ha : ActAt w b o d) (hl : d.bs.length ≤ 512 ∧ d.ps.length ≤ 50) (_hx : Bd S C) (hop : d.op = 9) :
    Calls Try.prog 15 #[.pointer (some ⟨p, 0, none⟩), .pointer (some ⟨c, 0, none⟩), .pointer (some ⟨q, 0, none⟩), .pointer (some ⟨r, 0, none⟩), .agg #[.int .i64 d.op, .int .i64 d.n, d.bv, d.pv]] wr fun e w' => e = .returned (.bool true) ∧ Stepped w c p r q (S.armed d.n d.ps) C w' := by
  obtain ⟨F, G, G2, H2, lv, P0, B0⟩ := step_start (d := d) h0
  obtain ⟨x, hdo⟩ : ∃ x, Obj.cells #[.int .i64 d.op, .int .i64 d.n, d.bv, d.pv] 42 = x := ⟨_, rfl⟩
  rw [hdo] at P0 B0
  have q0 := B0.op
  have q1 := B0.n
  have q2 := B0.bc
  have q3 := B0.pc
  have hwf := P0.cc.wf.2
  have HC : Hid (Calls Try.prog 43 #[.pointer (some ⟨p, 0, none⟩), .int .i64 d.n, d.pv] (wr.alloc x) fun e w1 => e = .returned (.tuple #[]) ∧ w1.cell? ⟨wr.heap.size, 1, none⟩ = some (.int .i64 d.n) ∧ w1.cell? ⟨wr.heap.size, 3, none⟩ = some d.pv ∧ Hid (Calls Try.prog 44 #[.pointer (some ⟨q, 0, none⟩), .int .i64 d.n, d.pv] w1 fun e w2 => e = .returned (.tuple #[]) ∧ Hid (Stepped w c p r q (S.armed d.n d.ps) C w2))) := by
    refine (arm_any F p S d.n d.pv d.ps _ P0.cc.dk (ha.ps.kept P0.chg (fun _ _ h => h)) (by omega) ha.n0 ha.n1).mono ?_
    rintro e w1 ⟨rfl, ht⟩
    obtain ⟨F1, h1, h2⟩ := P0.cc.disk ht rfl
    have P1 := P0.left h1 h2
    have B1 := B0.kept h2.chg P0.k1
    refine ⟨rfl, B1.n, B1.pc, ?_⟩
    refine (rarm_any G2 q S d.n d.pv d.ps w1 P1.rc.rk (ha.ps.kept P1.chg (fun _ _ h => h)) (ha.ps.argOff (fun b hb => P1.n2 b (.inl hb))) (by omega) ha.n0 ha.n1).mono ?_
    rintro e w2 ⟨rfl, ht2⟩
    obtain ⟨G3, H3, lv3, P2, c2⟩ := P1.right (P1.rc.evDisk ht2)
    exact ⟨rfl, P2.stepped⟩
  generalize S.armed d.n d.ps = S' at *
  clear P0 B0 h0 ha hl hwf _hx
  generalize d.n = dn at *
  generalize d.bv = dv at *
  generalize d.pv = dp at *
  generalize d.op = dop at *
  subst hop
  go_enter Try.func15, Try.ntmps15
  go_wp2_with fail
  refine HC.out.mono ?_
  rintro e w1 ⟨rfl, x1, x3, HD⟩
  go_wp2_with fail
  refine HD.out.mono ?_
  rintro e w2 ⟨rfl, HE⟩
  go_wp2
  go_ret
  exact ⟨rfl, HE.out⟩

set_option maxHeartbeats 1600000 in
set_option maxRecDepth 100000 in
theorem step_pin {w wr : World} {c p r q : Nat} {S : St} {C : Ca} {b o : Nat} {d : ActD} (h0 : Stepped w c p r q S C wr) (_ha : ActAt w b o d) (_hl : d.bs.length ≤ 512 ∧ d.ps.length ≤ 50) (hx : Bd S C) (hop : d.op = 3) :
    Calls Try.prog 15 #[.pointer (some ⟨p, 0, none⟩), .pointer (some ⟨c, 0, none⟩), .pointer (some ⟨q, 0, none⟩), .pointer (some ⟨r, 0, none⟩), .agg #[.int .i64 d.op, .int .i64 d.n, d.bv, d.pv]] wr fun e w' => e = .returned (.bool true) ∧ Stepped w c p r q (pin S C d.n).S (pin S C d.n).C w' := by
  obtain ⟨F, G, G2, H2, lv, P0, B0⟩ := step_start (d := d) h0
  obtain ⟨x, hdo⟩ : ∃ x, Obj.cells #[.int .i64 d.op, .int .i64 d.n, d.bv, d.pv] 42 = x := ⟨_, rfl⟩
  rw [hdo] at P0 B0
  have q0 := B0.op
  have q1 := B0.n
  have q2 := B0.bc
  have q3 := B0.pc
  have hwf := P0.cc.wf.2
  have P0 := P0.more (Chg.drew (fun _ => False) _)
  have B0 := B0.kept (Chg.drew (fun _ => False) _) (fun h => h)
  have HC : Hid (Calls Try.prog 29 #[.pointer (some ⟨c, 0, none⟩), .int .i64 d.n] (wr.alloc x).drew fun e w1 => e = .returned (.int .i64 (pin S C d.n).e) ∧ w1.cell? ⟨wr.heap.size, 1, none⟩ = some (.int .i64 d.n) ∧ Hid (Calls Try.prog 34 #[.pointer (some ⟨r, 0, none⟩), .int .i64 d.n] w1 fun e w2 => e = .returned (.int .i64 (pin S C d.n).e) ∧ w2.cell? ⟨wr.heap.size, 1, none⟩ = some (.int .i64 d.n) ∧ Hid (Stepped w c p r q (pin S C d.n).S (pin S C d.n).C w2))) := by
    refine (pin_any F G c p S C d.n _ P0.cc hx.w hx.uses hx.ev).mono ?_
    rintro e w1 ⟨rfl, F1, G1, h1, h2⟩
    have P1 := P0.left h1 h2
    have B1 := B0.kept h2.chg P0.k1
    refine ⟨rfl, B1.n, ?_⟩
    refine (rpin_any G2 H2 r q S C lv d.n w1 P1.rc hwf hx.w hx.uses hx.ev).mono ?_
    rintro e w2 ⟨rfl, ht⟩
    obtain ⟨G3, H3, lv3, P2, c2⟩ := P1.right ht
    have B2 := B1.kept c2 P1.k2
    exact ⟨rfl, B2.n, P2.stepped⟩
  generalize (pin S C d.n).e = E at *
  generalize (pin S C d.n).S = S' at *
  generalize (pin S C d.n).C = C' at *
  clear P0 B0 h0 _ha _hl hwf hx
  generalize d.n = dn at *
  generalize d.bv = dv at *
  generalize d.pv = dp at *
  generalize d.op = dop at *
  subst hop
  go_enter Try.func15, Try.ntmps15
  go_wp2_with fail
  go_region_held (fun w' => w'.cell? ⟨wr.heap.size, 1, none⟩ = some (.int .i64 dn))
    (first | exact q1 | exact x1 | exact y1)
    (first
      | (go_at_call 29; refine HC.out.mono ?_; clear HC; rintro e w7 ⟨rfl, x1, HM⟩)
      | (go_at_call 34; refine HM.out.mono ?_; clear HM; rintro e w8 ⟨rfl, y1, HE⟩))
  all_goals
    go_wp2
    go_ret
    exact ⟨rfl, HE.out⟩

set_option maxHeartbeats 1600000 in
set_option maxRecDepth 100000 in
theorem step_unpin {w wr : World} {c p r q : Nat} {S : St} {C : Ca} {b o : Nat} {d : ActD} (h0 : Stepped w c p r q S C wr) (ha : ActAt w b o d) (_hl : d.bs.length ≤ 512 ∧ d.ps.length ≤ 50) (hx : Bd S C) (hop : d.op = 4) :
    Calls Try.prog 15 #[.pointer (some ⟨p, 0, none⟩), .pointer (some ⟨c, 0, none⟩), .pointer (some ⟨q, 0, none⟩), .pointer (some ⟨r, 0, none⟩), .agg #[.int .i64 d.op, .int .i64 d.n, d.bv, d.pv]] wr fun e w' => e = .returned (.bool true) ∧ Stepped w c p r q S (unpin C d.n) w' := by
  obtain ⟨F, G, G2, H2, lv, P0, B0⟩ := step_start (d := d) h0
  obtain ⟨x, hdo⟩ : ∃ x, Obj.cells #[.int .i64 d.op, .int .i64 d.n, d.bv, d.pv] 42 = x := ⟨_, rfl⟩
  rw [hdo] at P0 B0
  have q0 := B0.op
  have q1 := B0.n
  have q2 := B0.bc
  have q3 := B0.pc
  have hwf := P0.cc.wf.2
  have P0 := P0.more (Chg.drew (fun _ => False) _)
  have B0 := B0.kept (Chg.drew (fun _ => False) _) (fun h => h)
  have HC : Hid (Calls Try.prog 35 #[.pointer (some ⟨c, 0, none⟩), .int .i64 d.n] (wr.alloc x).drew fun e w1 => e = .returned (.bool (unpins C d.n)) ∧ w1.cell? ⟨wr.heap.size, 1, none⟩ = some (.int .i64 d.n) ∧ Hid (Calls Try.prog 36 #[.pointer (some ⟨r, 0, none⟩), .int .i64 d.n] w1 fun e w2 => e = .returned (.bool (unpins C d.n)) ∧ w2.cell? ⟨wr.heap.size, 1, none⟩ = some (.int .i64 d.n) ∧ Hid (Stepped w c p r q S (unpin C d.n) w2))) := by
    obtain ⟨m, rr, ls, nd, hk⟩ := P0.cc
    refine (unpin_any G c p S.nb C m rr ls nd d.n _ hk.ca ha.n0 ha.n1 hx.uses).mono ?_
    rintro e w1 ⟨rfl, nd1, h1, h3⟩
    have h2 : Gr F G (wr.alloc x).drew w1 F G := Gr.chgG h3
    have h1 : Cc w1 F G c p S (unpin C d.n) := ⟨m, rr, ls, nd1, hk.dk.kept h3 (fun b hf hg => hk.no b hf hg), h1, hk.no⟩
    have P1 := P0.left h1 h2
    have B1 := B0.kept h2.chg P0.k1
    refine ⟨rfl, B1.n, ?_⟩
    refine (runpin_any H2 r q S.nb C lv d.n w1 P1.rc.rc hwf hx.uses).mono ?_
    rintro e w2 ⟨rfl, ht⟩
    obtain ⟨G3, H3, lv3, P2, c2⟩ := P1.right (P1.rc.evCache ht)
    have B2 := B1.kept c2 P1.k2
    exact ⟨rfl, B2.n, P2.stepped⟩
  generalize unpins C d.n = E at *
  generalize unpin C d.n = C' at *
  clear P0 B0 h0 ha _hl hwf hx
  generalize d.n = dn at *
  generalize d.bv = dv at *
  generalize d.pv = dp at *
  generalize d.op = dop at *
  subst hop
  go_enter Try.func15, Try.ntmps15
  go_wp2_with fail
  go_region_held (fun w' => w'.cell? ⟨wr.heap.size, 1, none⟩ = some (.int .i64 dn))
    (first | exact q1 | exact x1 | exact y1)
    (first
      | (go_at_call 35; refine HC.out.mono ?_; clear HC; rintro e w7 ⟨rfl, x1, HM⟩)
      | (go_at_call 36; refine HM.out.mono ?_; clear HM; rintro e w8 ⟨rfl, y1, HE⟩))
  all_goals
    go_wp2
    go_ret
    exact ⟨rfl, HE.out⟩

set_option maxHeartbeats 1600000 in
set_option maxRecDepth 100000 in
theorem step_put {w wr : World} {c p r q : Nat} {S : St} {C : Ca} {b o : Nat} {d : ActD} (h0 : Stepped w c p r q S C wr) (ha : ActAt w b o d) (hl : d.bs.length ≤ 512 ∧ d.ps.length ≤ 50) (hx : Bd S C) (hop : d.op = 2) :
    Calls Try.prog 15 #[.pointer (some ⟨p, 0, none⟩), .pointer (some ⟨c, 0, none⟩), .pointer (some ⟨q, 0, none⟩), .pointer (some ⟨r, 0, none⟩), .agg #[.int .i64 d.op, .int .i64 d.n, d.bv, d.pv]] wr fun e w' => e = .returned (.bool true) ∧ Stepped w c p r q (put S C d.n (full d.bs)).S (put S C d.n (full d.bs)).C w' := by
  obtain ⟨F, G, G2, H2, lv, P0, B0⟩ := step_start (d := d) h0
  obtain ⟨x, hdo⟩ : ∃ x, Obj.cells #[.int .i64 d.op, .int .i64 d.n, d.bv, d.pv] 42 = x := ⟨_, rfl⟩
  rw [hdo] at P0 B0
  have q0 := B0.op
  have q1 := B0.n
  have q2 := B0.bc
  have q3 := B0.pc
  have hwf := P0.cc.wf.2
  have P1 := P0.more (Chg.drew (fun _ => False) _)
  have B1 := B0.kept (Chg.drew (fun _ => False) _) (fun h => h)
  have HF : Hid (Calls Try.prog 24 #[d.bv] (wr.alloc x).drew fun e w1 => ∃ ub ud, e = .returned (.slice ub 512 ud) ∧ w1.cell? ⟨wr.heap.size, 1, none⟩ = some (.int .i64 d.n) ∧ w1.cell? ⟨wr.heap.size, 2, none⟩ = some d.bv ∧
      Hid (Calls Try.prog 25 #[.pointer (some ⟨c, 0, none⟩), .int .i64 d.n, .slice ub 512 ud] w1 fun e w2 => e = .returned (.int .i64 (put S C d.n (full d.bs)).e) ∧ w2.cell? ⟨wr.heap.size, 1, none⟩ = some (.int .i64 d.n) ∧ w2.cell? ⟨wr.heap.size, 2, none⟩ = some d.bv ∧
        Hid (Calls Try.prog 24 #[d.bv] w2 fun e w3 => ∃ u, e = .returned u ∧ w3.cell? ⟨wr.heap.size, 1, none⟩ = some (.int .i64 d.n) ∧ w3.cell? ⟨wr.heap.size, 2, none⟩ = some d.bv ∧ (convert 39 9 u).run Try.prog w3 = .ok (.string (strOf (full d.bs))) w3 ∧
          Hid (Calls Try.prog 33 #[.pointer (some ⟨r, 0, none⟩), .int .i64 d.n, .string (strOf (full d.bs))] w3 fun e w4 => e = .returned (.int .i64 (put S C d.n (full d.bs)).e) ∧ w4.cell? ⟨wr.heap.size, 1, none⟩ = some (.int .i64 d.n) ∧ w4.cell? ⟨wr.heap.size, 2, none⟩ = some d.bv ∧
            Hid (Stepped w c p r q (put S C d.n (full d.bs)).S (put S C d.n (full d.bs)).C w4))))) := by
    refine (full_any d.bv d.bs (wr.alloc x).drew (ha.bs.kept P1.chg (fun _ _ _ _ _ h => h)) (by omega)).mono ?_
    rintro e w1 ⟨u, rfl, fr⟩
    obtain ⟨ub, ud, rfl, hu⟩ := fr.form
    have P2 := P1.more fr.chg
    have B2 := B1.kept fr.chg (fun h => h)
    refine ⟨ub, ud, rfl, B2.n, B2.bc, ?_⟩
    refine (put_any F G c p S C d.n _ (full d.bs) w1 P2.cc fr.bs (fun g hg => by
      have := fr.new g hg
      exact ⟨fun e => by have := P1.cc.lt g (.inl e); omega, fun e => by have := P1.cc.lt g (.inr e); omega⟩) hx.w hx.uses hx.ev).mono ?_
    rintro e w2 ⟨rfl, F3, G3, h1, h2⟩
    have P3 := P2.left h1 h2
    have B3 := B2.kept h2.chg P2.k1
    refine ⟨rfl, B3.n, B3.bc, ?_⟩
    refine (full_any d.bv d.bs w2 (ha.bs.kept P3.chg (fun _ _ _ _ _ h => h)) (by omega)).mono ?_
    rintro e w3 ⟨u3, rfl, fr3⟩
    have P4 := P3.more fr3.chg
    have B4 := B3.kept fr3.chg (fun h => h)
    refine ⟨u3, rfl, B4.n, B4.bc, run_str fr3.bs, ?_⟩
    refine (rput_any G2 H2 r q S C lv d.n (full d.bs) w3 P4.rc hwf hx.w hx.uses hx.ev).mono ?_
    rintro e w4 ⟨rfl, ht⟩
    obtain ⟨G5, H5, lv5, P5, c5⟩ := P4.right ht
    have B5 := B4.kept c5 P4.k2
    exact ⟨rfl, B5.n, B5.bc, P5.stepped⟩
  generalize (put S C d.n (full d.bs)).e = E at *
  generalize (put S C d.n (full d.bs)).S = S' at *
  generalize (put S C d.n (full d.bs)).C = C' at *
  generalize strOf (full d.bs) = t at *
  clear P0 B0 P1 B1 h0 ha hl hwf hx
  generalize d.n = dn at *
  generalize d.bv = dv at *
  generalize d.pv = dp at *
  generalize d.op = dop at *
  subst hop
  go_enter Try.func15, Try.ntmps15
  go_wp2_with fail
  go_region_held (fun w' => w'.cell? ⟨wr.heap.size, 1, none⟩ = some (.int .i64 dn) ∧ w'.cell? ⟨wr.heap.size, 2, none⟩ = some dv)
    (first | exact ⟨q1, q2⟩ | exact ⟨x1, x2⟩ | exact ⟨y1, y2⟩ | exact ⟨z1, z2⟩ | exact ⟨t1, t2⟩)
    (first
      | (go_at_call 24; refine HF.out.mono ?_; clear HF; rintro e w7 ⟨ub, ud, rfl, x1, x2, HM⟩)
      | (go_at_call 25; refine HM.out.mono ?_; clear HM; rintro e w8 ⟨rfl, y1, y2, HN⟩)
      | (go_at_call 24; refine HN.out.mono ?_; clear HN; rintro e w9 ⟨u9, rfl, z1, z2, z3, HO⟩)
      | (go_at_call 33; refine HO.out.mono ?_; clear HO; rintro e w10 ⟨rfl, t1, t2, HE⟩))
  all_goals
    go_wp2
    go_ret
    exact ⟨rfl, HE.out⟩

set_option maxHeartbeats 1600000 in
set_option maxRecDepth 100000 in
theorem step_no {w wr : World} {c p r q : Nat} {S : St} {C : Ca} {b o : Nat} {d : ActD} (h0 : Stepped w c p r q S C wr) (_ha : ActAt w b o d) (_hl : d.bs.length ≤ 512 ∧ d.ps.length ≤ 50) (_hx : Bd S C) (h1 : d.op ≠ 1) (h2 : d.op ≠ 2) (h3 : d.op ≠ 3) (h4 : d.op ≠ 4) (h5 : d.op ≠ 5) (h6 : d.op ≠ 6) (h7 : d.op ≠ 7) (h8 : d.op ≠ 8) (h9 : d.op ≠ 9) :
    Calls Try.prog 15 #[.pointer (some ⟨p, 0, none⟩), .pointer (some ⟨c, 0, none⟩), .pointer (some ⟨q, 0, none⟩), .pointer (some ⟨r, 0, none⟩), .agg #[.int .i64 d.op, .int .i64 d.n, d.bv, d.pv]] wr fun e w' => e = .returned (.bool true) ∧ Stepped w c p r q S C w' := by
  obtain ⟨F, G, G2, H2, lv, P0, B0⟩ := step_start (d := d) h0
  obtain ⟨x, hdo⟩ : ∃ x, Obj.cells #[.int .i64 d.op, .int .i64 d.n, d.bv, d.pv] 42 = x := ⟨_, rfl⟩
  rw [hdo] at P0 B0
  have q0 := B0.op
  have q1 := B0.n
  have q2 := B0.bc
  have q3 := B0.pc
  have hwf := P0.cc.wf.2
  have HE : Hid (Stepped w c p r q S C (wr.alloc x)) := P0.stepped
  clear P0 B0 h0 _ha _hl hwf _hx
  generalize d.n = dn at *
  generalize d.bv = dv at *
  generalize d.pv = dp at *
  generalize d.op = dop at *
  go_enter Try.func15, Try.ntmps15
  go_wp2
  go_ret
  exact ⟨rfl, HE.out⟩

/-- What an act makes of a disk and a cache. -/
def stpR (S : St) (C : Ca) (d : ActD) : St × Ca :=
  if d.op = 1 then ((get S C d.n).S, (get S C d.n).C) else if d.op = 2 then ((put S C d.n (full d.bs)).S, (put S C d.n (full d.bs)).C) else if d.op = 3 then ((pin S C d.n).S, (pin S C d.n).C) else if d.op = 4 then (S, (unpin C d.n)) else if d.op = 5 then ((flush S C).S, (flush S C).C) else if d.op = 6 then (S, C.drop) else if d.op = 7 then ((S.cut d.ps), C) else if d.op = 8 then (S.on, C) else if d.op = 9 then ((S.armed d.n d.ps), C) else (S, C)

set_option maxRecDepth 100000 in
theorem step_any {w wr : World} {c p r q : Nat} {S : St} {C : Ca} {b o : Nat} {d : ActD} (h0 : Stepped w c p r q S C wr) (ha : ActAt w b o d) (hl : d.bs.length ≤ 512 ∧ d.ps.length ≤ 50) (hx : Bd S C) :
    Calls Try.prog 15 #[.pointer (some ⟨p, 0, none⟩), .pointer (some ⟨c, 0, none⟩), .pointer (some ⟨q, 0, none⟩), .pointer (some ⟨r, 0, none⟩), .agg #[.int .i64 d.op, .int .i64 d.n, d.bv, d.pv]] wr fun e w' => e = .returned (.bool true) ∧ Stepped w c p r q (stpR S C d).1 (stpR S C d).2 w' := by
  unfold stpR
  by_cases h1 : d.op = 1
  · rw [if_pos h1]; exact step_get h0 ha hl hx h1
  rw [if_neg h1]
  by_cases h2 : d.op = 2
  · rw [if_pos h2]; exact step_put h0 ha hl hx h2
  rw [if_neg h2]
  by_cases h3 : d.op = 3
  · rw [if_pos h3]; exact step_pin h0 ha hl hx h3
  rw [if_neg h3]
  by_cases h4 : d.op = 4
  · rw [if_pos h4]; exact step_unpin h0 ha hl hx h4
  rw [if_neg h4]
  by_cases h5 : d.op = 5
  · rw [if_pos h5]; exact step_flush h0 ha hl hx h5
  rw [if_neg h5]
  by_cases h6 : d.op = 6
  · rw [if_pos h6]; exact step_drop h0 ha hl hx h6
  rw [if_neg h6]
  by_cases h7 : d.op = 7
  · rw [if_pos h7]; exact step_cut h0 ha hl hx h7
  rw [if_neg h7]
  by_cases h8 : d.op = 8
  · rw [if_pos h8]; exact step_on h0 ha hl hx h8
  rw [if_neg h8]
  by_cases h9 : d.op = 9
  · rw [if_pos h9]; exact step_arm h0 ha hl hx h9
  rw [if_neg h9]
  exact step_no h0 ha hl hx h1 h2 h3 h4 h5 h6 h7 h8 h9
end Go.Proofs.Ytioloobeakjbeaa

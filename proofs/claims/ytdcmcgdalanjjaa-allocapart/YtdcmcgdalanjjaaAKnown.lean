/-
  A log with a transaction and a pool in it, as the laws have them; made and known of the laws.
-/
import Derived.Test.YtdcmcgdalanjjaaAEach
namespace Go.Proofs.Ytdcmcgdalanjjaa
open Go.RowKit Go.Maps

theorem eqL_some (a : Addr) (w : World) : (binOp .eql 24 (.pointer (some a)) (.pointer none)).run Try.prog w = .ok (.bool false) w := by kernel_rfl
theorem eqT_some (a : Addr) (w : World) : (binOp .eql 25 (.pointer (some a)) (.pointer none)).run Try.prog w = .ok (.bool false) w := by kernel_rfl
theorem Nw.ofNew {w w' : World} {F : Nat → Prop} (hc : Chg (fun _ => False) w w') (hF : ∀ b, F b → w.heap.size ≤ b) : Nw (fun b => b < w.heap.size) w w' F (fun _ => False) :=
  ⟨hc, hF, fun _ h => h.elim, fun b hb => ⟨by have := hc.size; omega, fun hf => by have := hF b hf; omega, fun h => h⟩⟩

set_option maxHeartbeats 1600000 in
/-- made: a log of K blocks, and its transaction. -/
theorem made_any (K : Nat) (w : World) (h1 : 1 ≤ K) (h2 : K ≤ 62) : Calls Try.prog 6 #[.int .i64 ((K + 65 : Nat) : Int)] w fun e w' => ∃ pd pl q, e = .returned (.tuple #[.pointer (some ⟨pl, 0, none⟩), .pointer (some ⟨q, 0, none⟩)]) ∧ TxUp (fun b => b < w.heap.size) w w' pd pl q K (fun _ => zeros 512) (fun _ => none) 0 true (fun _ => none) 0 (K + 2) := by
  have hn : K + 65 ≤ 127 := by omega
  obtain ⟨nb, hnb⟩ : ∃ nb, K + 65 = nb := ⟨_, rfl⟩
  rw [hnb]
  have HNB : Hid (K + 65 = nb) := hnb
  rw [hnb] at hn
  have h3 : 1 ≤ nb := by omega
  clear hnb
  go_enter Try.func6, Try.ntmps6
  go_wp2_with fail
  refine (new_ok nb w h3 (by omega)).mono ?_
  rintro e w1 ⟨F, p, rfl, hd, hc1, hF⟩
  have H1 : Hid (Dk w1 F p (St.new nb) ∧ Nw (fun b => b < w.heap.size) w w1 F (fun _ => False)) := ⟨hd, Nw.ofNew hc1 hF⟩
  clear hd hc1 hF
  go_wp2_with fail
  refine (format_up (N := K + 2) (K := K) F (St.new nb) H1.out.1 H1.out.2 (fun _ => rfl) HNB.out.symm h1 rfl (by show (0 : Int) < 1; decide) (by show 0 + K + 2 ≤ K + 2; omega) (by omega)).mono ?_
  rintro e w2 ⟨pl, rfl, h2', _⟩
  have H2 : Hid (LogUp (fun b => b < w.heap.size) w w2 p pl K (fun _ => zeros 512) (fun _ => none) 0 (K + 2)) := h2'
  clear h2' H1
  have hq := eqL_some ⟨pl, 0, none⟩
  go_wp2_with fail
  refine (begin_up H2.out).mono ?_
  rintro e w3 ⟨q, rfl, h3', _⟩
  have H3 : Hid (TxUp (fun b => b < w.heap.size) w w3 p pl q K (fun _ => zeros 512) (fun _ => none) 0 true (fun _ => none) 0 (K + 2)) := h3'
  clear h3' H2
  go_wp2
  go_ret2
  exact ⟨p, pl, q, rfl, H3.out⟩

/-- A pool that lies at B, and which of its numbers are taken. -/
def Pq (X : Nat → Prop) (w0 w : World) (pd pl q K : Nat) (f : Nat → List Int) (com : Nat → Option (List Int)) (pend N B M F n : Nat) (T : Nat → Bool) : Prop :=
  ∃ V, Tv X w0 w pd pl q K f com pend N V ∧ Bt V M n T ∧ PAt w B M F n ∧ X B ∧ Pr M F n K
section
variable {X : Nat → Prop} {w0 w w' : World} {pd pl q K B M F n : Nat} {f : Nat → List Int} {com : Nat → Option (List Int)} {pend N : Nat} {T : Nat → Bool}
theorem Pq.more (h : Pq X w0 w pd pl q K f com pend N B M F n T) (hc : Chg (fun _ => False) w w') : Pq X w0 w' pd pl q K f com pend N B M F n T := by
  obtain ⟨V, h1, h2, h3, h4⟩ := h
  exact ⟨V, h1.more hc, h2, h3.kept hc (fun h => h), h4⟩
theorem Pq.chg (h : Pq X w0 w pd pl q K f com pend N B M F n T) : Chg (fun _ => False) w0 w := by
  obtain ⟨V, h1, _⟩ := h
  exact h1.chg
theorem Pq.at (h : Pq X w0 w pd pl q K f com pend N B M F n T) : PAt w B M F n := by
  obtain ⟨V, _, _, h3, _⟩ := h
  exact h3
theorem Pq.ext (h : Pq X w0 w pd pl q K f com pend N B M F n T) {U : Nat → Bool} (e : ∀ k, k < n → T k = U k) : Pq X w0 w pd pl q K f com pend N B M F n U := by
  obtain ⟨V, h1, h2, h3⟩ := h
  exact ⟨V, h1, h2.ext e, h3⟩
theorem PTo.pq {V : Nat → List Int} (h : PTo X w0 w pd pl q K f com pend N V M n T w') (ha : PAt w B M F n) (hx : X B) (hp : Pr M F n K) : Pq X w0 w' pd pl q K f com pend N B M F n T ∧ Sm X w w' := by
  obtain ⟨V', h1, h2, _, h4⟩ := h
  exact ⟨⟨V', h1, h2, ha.sm h4 hx, hx, hp⟩, h4⟩
theorem pq_take (k : Nat) (h : Pq X w0 w pd pl q K f com pend N B M F n T) (hk : k < n) (hT : T k = false) (hall : ∀ j, j < k → T j = true) :
    Calls Try.prog 8 #[PV M F n, .pointer (some ⟨q, 0, none⟩)] w fun e w' => e = .returned (.tuple #[.int .i64 ((F + k : Nat) : Int), .int .i64 0]) ∧ Pq X w0 w' pd pl q K f com pend N B M F n (upd T k true) ∧ Sm X w w' := by
  obtain ⟨V, h1, h2, h3, h4, h5⟩ := h
  refine (take_ok M F n k h1 h5 h2 hk hT hall).mono ?_
  rintro e w' ⟨rfl, ht⟩
  exact ⟨rfl, ht.pq h3 h4 h5⟩
theorem pq_full (h : Pq X w0 w pd pl q K f com pend N B M F n T) (hall : ∀ j, j < n → T j = true) :
    Calls Try.prog 8 #[PV M F n, .pointer (some ⟨q, 0, none⟩)] w fun e w' => e = .returned (.tuple #[.int .i64 0, .int .i64 7]) ∧ Chg (fun _ => False) w w' := by
  obtain ⟨V, h1, h2, h3, h4, h5⟩ := h
  exact take_full M F n h1 h5 h2 hall
theorem pq_give (k : Nat) (h : Pq X w0 w pd pl q K f com pend N B M F n T) (hk : k < n) (hT : T k = true) :
    Calls Try.prog 9 #[PV M F n, .pointer (some ⟨q, 0, none⟩), .int .i64 ((F + k : Nat) : Int)] w fun e w' => e = .returned (.int .i64 0) ∧ Pq X w0 w' pd pl q K f com pend N B M F n (upd T k false) ∧ Sm X w w' := by
  obtain ⟨V, h1, h2, h3, h4, h5⟩ := h
  refine (give_ok M F n k h1 h5 h2 hk hT).mono ?_
  rintro e w' ⟨rfl, ht⟩
  exact ⟨rfl, ht.pq h3 h4 h5⟩
theorem pq_give_free (k : Nat) (h : Pq X w0 w pd pl q K f com pend N B M F n T) (hk : k < n) (hT : T k = false) :
    Calls Try.prog 9 #[PV M F n, .pointer (some ⟨q, 0, none⟩), .int .i64 ((F + k : Nat) : Int)] w fun e w' => e = .returned (.int .i64 1) ∧ Chg (fun _ => False) w w' := by
  obtain ⟨V, h1, h2, h3, h4, h5⟩ := h
  exact give_free M F n k h1 h5 h2 hk hT
theorem pq_free (h : Pq X w0 w pd pl q K f com pend N B M F n T) :
    Calls Try.prog 10 #[PV M F n, .pointer (some ⟨q, 0, none⟩)] w fun e w' => e = .returned (.tuple #[.int .i64 ((n - cntT T n : Nat) : Int), .int .i64 0]) ∧ Chg (fun _ => False) w w' := by
  obtain ⟨V, h1, h2, h3, h4, h5⟩ := h
  exact free_ok M F n h1 h5 h2
/-- Clear of a pool that was laid: whatever the blocks were. -/
theorem tv_clear {V : Nat → List Int} (h : Tv X w0 w pd pl q K f com pend N V) (ha : PAt w B M F n) (hx : X B) (hp : Pr M F n K) :
    Calls Try.prog 7 #[PV M F n, .pointer (some ⟨q, 0, none⟩)] w fun e w' => e = .returned (.int .i64 0) ∧ Pq X w0 w' pd pl q K f com pend N B M F n (fun _ => false) ∧ Sm X w w' := by
  refine (pclear_ok M F n h hp).mono ?_
  rintro e w' ⟨rfl, ht⟩
  exact ⟨rfl, ht.pq ha hx hp⟩
end

set_option maxHeartbeats 3200000 in
set_option maxRecDepth 100000 in
theorem known_any (w : World) : Calls Try.prog 5 #[] w fun e w' => e = .returned (.bool true) ∧ Chg (fun _ => False) w w' := by
  have MD : Hid (Calls Try.prog 6 #[.int .i64 80] w fun e w' => ∃ pd pl q, e = .returned (.tuple #[.pointer (some ⟨pl, 0, none⟩), .pointer (some ⟨q, 0, none⟩)]) ∧ TxUp (fun b => b < w.heap.size) w w' pd pl q 15 (fun _ => zeros 512) (fun _ => none) 0 true (fun _ => none) 0 17) := made_any 15 w (by decide) (by decide)
  go_enter Try.func5, Try.ntmps5
  go_wp2_with fail
  refine MD.out.mono ?_
  clear MD
  rintro e w1 ⟨pd, pl, q, rfl, h1⟩
  have hv := (Tv.start h1 (by decide) (by decide)).add (Chg.alloc (fun _ => False) w1 (PO 2 5 9))
  have hbx := PAt.box w1 2 5 9
  have CL : Hid (Calls Try.prog 7 #[PV 2 5 9, .pointer (some ⟨q, 0, none⟩)] (w1.alloc (PO 2 5 9)) fun e w' => e = .returned (.int .i64 0) ∧ Pq _ w w' pd pl q 15 _ _ 0 17 w1.heap.size 2 5 9 (fun _ => false) ∧ Sm _ _ w') := tv_clear hv hbx (box_in _ _ _) ⟨by decide, by decide, by decide, by decide⟩
  obtain ⟨X, hX⟩ : ∃ X, addX (fun b => b < w.heap.size) w1.heap.size (w1.alloc (PO 2 5 9)).heap.size = X := ⟨_, rfl⟩
  rw [hX] at CL
  have p0 := hbx.c0
  have p1 := hbx.c1
  have p2 := hbx.c2
  clear hv h1 hX hbx
  unfold PV PO at *
  have hq := eqT_some ⟨q, 0, none⟩
  go_wp2_with fail
  refine CL.out.mono ?_
  clear CL
  rintro e w2 ⟨rfl, h2, _⟩
  have H2 : Hid (Pq X w w2 pd pl q 15 (fun _ => zeros 512) (fun _ => none) 0 17 w1.heap.size 2 5 9 (fun _ => false)) := h2
  have hb2 : PAt w2 w1.heap.size 2 5 9 := H2.out.at
  have a2 := hb2.c0
  have b2 := hb2.c1
  have c2 := hb2.c2
  clear hb2 h2 p0 p1 p2
  have TK : Hid (Calls Try.prog 8 #[.agg #[.int .i64 2, .int .i64 5, .int .i64 9], .pointer (some ⟨q, 0, none⟩)] w2 fun e w' => e = .returned (.tuple #[.int .i64 5, .int .i64 0]) ∧ Pq X w w' pd pl q 15 (fun _ => zeros 512) (fun _ => none) 0 17 w1.heap.size 2 5 9 (upd (fun _ => false) 0 true) ∧ Sm X w2 w') := pq_take 0 H2.out (by decide) rfl (fun j hj => by omega)
  go_wp2_with fail
  refine TK.out.mono ?_
  clear TK
  rintro e w3 ⟨rfl, h3, _⟩
  have H3 : Hid (Pq X w w3 pd pl q 15 (fun _ => zeros 512) (fun _ => none) 0 17 w1.heap.size 2 5 9 (upd (fun _ => false) 0 true)) := h3
  have hb3 : PAt w3 w1.heap.size 2 5 9 := H3.out.at
  have a3 := hb3.c0
  have b3 := hb3.c1
  have c3 := hb3.c2
  clear hb3 h3 H2 a2 b2 c2
  have TK : Hid (Calls Try.prog 8 #[.agg #[.int .i64 2, .int .i64 5, .int .i64 9], .pointer (some ⟨q, 0, none⟩)] w3 fun e w' => e = .returned (.tuple #[.int .i64 6, .int .i64 0]) ∧ Pq X w w' pd pl q 15 (fun _ => zeros 512) (fun _ => none) 0 17 w1.heap.size 2 5 9 (upd (upd (fun _ => false) 0 true) 1 true) ∧ Sm X w3 w') := pq_take 1 H3.out (by decide) rfl (fun j hj => by rw [show j = 0 by omega]; rfl)
  go_wp2_with fail
  refine TK.out.mono ?_
  clear TK
  rintro e w4 ⟨rfl, h4, _⟩
  have H4 : Hid (Pq X w w4 pd pl q 15 (fun _ => zeros 512) (fun _ => none) 0 17 w1.heap.size 2 5 9 (upd (upd (fun _ => false) 0 true) 1 true)) := h4
  have hb4 : PAt w4 w1.heap.size 2 5 9 := H4.out.at
  have a4 := hb4.c0
  have b4 := hb4.c1
  have c4 := hb4.c2
  clear hb4 h4 H3 a3 b3 c3
  have GV : Hid (Calls Try.prog 9 #[.agg #[.int .i64 2, .int .i64 5, .int .i64 9], .pointer (some ⟨q, 0, none⟩), .int .i64 5] w4 fun e w' => e = .returned (.int .i64 0) ∧ Pq X w w' pd pl q 15 (fun _ => zeros 512) (fun _ => none) 0 17 w1.heap.size 2 5 9 (upd (upd (upd (fun _ => false) 0 true) 1 true) 0 false) ∧ Sm X w4 w') := pq_give 0 H4.out (by decide) rfl
  go_wp2_with fail
  refine GV.out.mono ?_
  clear GV
  rintro e w5 ⟨rfl, h5, _⟩
  have H5 : Hid (Pq X w w5 pd pl q 15 (fun _ => zeros 512) (fun _ => none) 0 17 w1.heap.size 2 5 9 (upd (upd (upd (fun _ => false) 0 true) 1 true) 0 false)) := h5
  have hb5 : PAt w5 w1.heap.size 2 5 9 := H5.out.at
  have a5 := hb5.c0
  have b5 := hb5.c1
  have c5 := hb5.c2
  clear hb5 h5 H4 a4 b4 c4
  have FR : Hid (Calls Try.prog 10 #[.agg #[.int .i64 2, .int .i64 5, .int .i64 9], .pointer (some ⟨q, 0, none⟩)] w5 fun e w' => e = .returned (.tuple #[.int .i64 8, .int .i64 0]) ∧ Chg (fun _ => False) w5 w') := pq_free H5.out
  go_wp2_with fail
  refine FR.out.mono ?_
  clear FR
  rintro e w6 ⟨rfl, hc6⟩
  have H6 : Hid (Pq X w w6 pd pl q 15 (fun _ => zeros 512) (fun _ => none) 0 17 w1.heap.size 2 5 9 (upd (upd (upd (fun _ => false) 0 true) 1 true) 0 false)) := H5.out.more hc6
  have hb6 : PAt w6 w1.heap.size 2 5 9 := H6.out.at
  have a6 := hb6.c0
  have b6 := hb6.c1
  have c6 := hb6.c2
  clear hb6 hc6 H5 a5 b5 c5
  have MP : Hid (Calls Try.prog 11 #[.agg #[.int .i64 2, .int .i64 5, .int .i64 9]] w6 fun e w' => e = .returned (.int .i64 1) ∧ w' = w6.alloc (PO 2 5 9)) := maps_yes 2 5 9 w6 (by decide) (by decide)
  have HZ : Hid (Chg (fun _ => False) w (w6.alloc (PO 2 5 9))) := H6.out.chg.trans (Chg.alloc (fun _ => False) _ _) (fun _ _ h => h)
  clear H6
  go_wp2_with fail
  refine MP.out.mono ?_
  clear MP
  rintro e w7 ⟨rfl, rfl⟩
  go_wp2
  go_ret
  exact ⟨rfl, HZ.out⟩
end Go.Proofs.Ytdcmcgdalanjjaa

namespace Go.Proofs.Ytdcmcgdalanjjaa
open Go.RowKit Go.Maps

/-- v is a slice of bools that reads ts. -/
def Bo (w : World) (v : Value) (ts : List Bool) : Prop :=
  (v = .slice none 0 0 ∧ ts = []) ∨
  ∃ a c, v = .slice (some a) ts.length c ∧ ts.length ≤ c ∧ c ≤ maxLen ∧ ∀ j, j < ts.length → w.cell? (a.add j) = some (.bool (ts.getD j false))
theorem Bo.kept {w w' : World} {v : Value} {ts : List Bool} (h : Bo w v ts) (hc : Chg (fun _ => False) w w') : Bo w' v ts := by
  rcases h with h | ⟨a, c, rfl, h1, h2, h3⟩
  · exact .inl h
  · exact .inr ⟨a, c, rfl, h1, h2, fun j hj => hc.cell (h3 j hj) (fun h => h)⟩
theorem Bo.form {w : World} {v : Value} {ts : List Bool} (h : Bo w v ts) : ∃ a c, v = .slice a ts.length c ∧ ts.length ≤ c := by
  rcases h with ⟨rfl, rfl⟩ | ⟨a, c, rfl, h1, _⟩
  · exact ⟨none, 0, rfl, Nat.le_refl _⟩
  · exact ⟨some a, c, rfl, h1⟩
theorem Bo.nth {w : World} {va : Option Addr} {ts : List Bool} {c j : Nat} (h : Bo w (.slice va ts.length c) ts) (hj : j < ts.length) : ∃ b off, va = some ⟨b, off, none⟩ ∧ ∀ i, i < ts.length → w.cell? ⟨b, off + i, none⟩ = some (.bool (ts.getD i false)) := by
  rcases h with ⟨_, rfl⟩ | ⟨x, c', e, _, _, hcell⟩
  · simp at hj
  · simp at e
    obtain ⟨rfl, _⟩ := e
    obtain ⟨b, off, spot⟩ := x
    have h0 := hcell 0 (by omega)
    have hspot : spot = none := by simpa [Addr.add] using World.cell?_spot h0
    subst hspot
    refine ⟨b, off, rfl, fun k hk => ?_⟩
    have := hcell k hk
    unfold Addr.add at this
    split at this
    · rename_i e; subst e; simpa using this
    · exact this

/-- Two pools side by side, a of the one, b of the other being taken. -/
def Ap (X : Nat → Prop) (w0 w : World) (pd pl q B1 B2 n m a b : Nat) : Prop :=
  ∃ V, Tv X w0 w pd pl q 35 (fun _ => zeros 512) (fun _ => none) 0 37 V ∧ Bt V 0 n (fun k => decide (k < a)) ∧ Bt V 1 m (fun k => decide (k < b)) ∧ PAt w B1 0 10 n ∧ PAt w B2 1 ((10 + n : Nat) : Int) m ∧ X B1 ∧ X B2 ∧ a ≤ n ∧ b ≤ m
section
variable {X : Nat → Prop} {w0 w w' : World} {pd pl q B1 B2 n m a b : Nat}
theorem upd_lt (a : Nat) (k : Nat) : upd (fun k => decide (k < a)) a true k = decide (k < a + 1) := by
  by_cases e : k = a
  · subst e; rw [upd_same]; simp
  · rw [upd_other _ _ e]; simp; omega
theorem cntT_lt (a n : Nat) (h : a ≤ n) : cntT (fun k => decide (k < a)) n = a := by
  obtain ⟨d, rfl⟩ : ∃ d, n = a + d := ⟨n - a, by omega⟩
  rw [cntT_add, cntT_all (fun k hk => by simpa using hk), cntT_none (fun k _ => by simp)]
  rfl
theorem pr1 (h1 : 1 ≤ n) (h2 : n ≤ 60) : Pr 0 10 n 35 := ⟨by decide, h1, by omega, by unfold mapsN; omega⟩
theorem pr2 (h2 : n ≤ 60) (h3 : 1 ≤ m) (h4 : m ≤ 60) : Pr 1 (10 + n) m 35 := ⟨by omega, h3, by omega, by unfold mapsN; omega⟩
theorem Ap.more (h : Ap X w0 w pd pl q B1 B2 n m a b) (hc : Chg (fun _ => False) w w') : Ap X w0 w' pd pl q B1 B2 n m a b := by
  obtain ⟨V, h1, h2, h3, h4, h5, h6⟩ := h
  exact ⟨V, h1.more hc, h2, h3, h4.kept hc (fun h => h), h5.kept hc (fun h => h), h6⟩
theorem Ap.chg (h : Ap X w0 w pd pl q B1 B2 n m a b) : Chg (fun _ => False) w0 w := by
  obtain ⟨V, h1, _⟩ := h
  exact h1.chg
theorem ap_take1 (h : Ap X w0 w pd pl q B1 B2 n m a b) (h1 : 1 ≤ n) (h2 : n ≤ 60) (_h4 : m ≤ 60) (ha : a < n) :
    Calls Try.prog 8 #[PV 0 10 n, .pointer (some ⟨q, 0, none⟩)] w fun e w' => e = .returned (.tuple #[.int .i64 (10 + (a : Int)), .int .i64 0]) ∧ Ap X w0 w' pd pl q B1 B2 n m (a + 1) b := by
  obtain ⟨V, t, b1, b2, p1, p2, x1, x2, la, lb⟩ := h
  rw [show 10 + (a : Int) = ((10 + a : Nat) : Int) by omega]
  refine (take_ok 0 10 n a t (pr1 h1 h2) b1 ha (by simp) (fun j hj => by simpa using hj)).mono ?_
  rintro e w' ⟨rfl, V', t', b1', he, hs⟩
  exact ⟨rfl, V', t', b1'.ext (fun k _ => upd_lt a k), b2.same (fun i _ => he _ (.inr (by unfold mapsN; omega))), p1.sm hs x1, p2.sm hs x2, x1, x2, ha, lb⟩
theorem ap_take2 (h : Ap X w0 w pd pl q B1 B2 n m a b) (h1 : 1 ≤ n) (h2 : n ≤ 60) (h3 : 1 ≤ m) (h4 : m ≤ 60) (hb : b < m) :
    Calls Try.prog 8 #[PV 1 ((10 + n : Nat) : Int) m, .pointer (some ⟨q, 0, none⟩)] w fun e w' => e = .returned (.tuple #[.int .i64 (10 + (n : Int) + (b : Int)), .int .i64 0]) ∧ Ap X w0 w' pd pl q B1 B2 n m a (b + 1) := by
  obtain ⟨V, t, b1, b2, p1, p2, x1, x2, la, lb⟩ := h
  rw [show 10 + (n : Int) + (b : Int) = ((10 + n + b : Nat) : Int) by omega]
  refine (take_ok 1 (10 + n) m b t (pr2 h2 h3 h4) b2 hb (by simp) (fun j hj => by simpa using hj)).mono ?_
  rintro e w' ⟨rfl, V', t', b2', he, hs⟩
  exact ⟨rfl, V', t', b1.same (fun i hi => he _ (.inl (by unfold mapsN at hi; omega))), b2'.ext (fun k _ => upd_lt b k), p1.sm hs x1, p2.sm hs x2, x1, x2, la, hb⟩
theorem ap_full1 (h : Ap X w0 w pd pl q B1 B2 n m a b) (h1 : 1 ≤ n) (h2 : n ≤ 60) (ha : ¬ a < n) :
    Calls Try.prog 8 #[PV 0 10 n, .pointer (some ⟨q, 0, none⟩)] w fun e w' => e = .returned (.tuple #[.int .i64 0, .int .i64 7]) ∧ Ap X w0 w' pd pl q B1 B2 n m a b := by
  have h' := h
  obtain ⟨V, t, b1, b2, p1, p2, x1, x2, la, lb⟩ := h
  refine (take_full 0 10 n t (pr1 h1 h2) b1 (fun j hj => by simp; omega)).mono ?_
  rintro e w' ⟨rfl, hc⟩
  exact ⟨rfl, h'.more hc⟩
theorem ap_full2 (h : Ap X w0 w pd pl q B1 B2 n m a b) (h2 : n ≤ 60) (h3 : 1 ≤ m) (h4 : m ≤ 60) (hb : ¬ b < m) :
    Calls Try.prog 8 #[PV 1 ((10 + n : Nat) : Int) m, .pointer (some ⟨q, 0, none⟩)] w fun e w' => e = .returned (.tuple #[.int .i64 0, .int .i64 7]) ∧ Ap X w0 w' pd pl q B1 B2 n m a b := by
  have h' := h
  obtain ⟨V, t, b1, b2, p1, p2, x1, x2, la, lb⟩ := h
  refine (take_full 1 (10 + n) m t (pr2 h2 h3 h4) b2 (fun j hj => by simp; omega)).mono ?_
  rintro e w' ⟨rfl, hc⟩
  exact ⟨rfl, h'.more hc⟩
theorem ap_free1 (h : Ap X w0 w pd pl q B1 B2 n m a b) (h1 : 1 ≤ n) (h2 : n ≤ 60) :
    Calls Try.prog 10 #[PV 0 10 n, .pointer (some ⟨q, 0, none⟩)] w fun e w' => e = .returned (.tuple #[.int .i64 ((n : Int) - (a : Int)), .int .i64 0]) ∧ Ap X w0 w' pd pl q B1 B2 n m a b := by
  have h' := h
  obtain ⟨V, t, b1, b2, p1, p2, x1, x2, la, lb⟩ := h
  have := free_ok 0 10 n t (pr1 h1 h2) b1
  rw [cntT_lt a n la] at this
  rw [show (n : Int) - (a : Int) = ((n - a : Nat) : Int) by omega]
  refine this.mono ?_
  rintro e w' ⟨rfl, hc⟩
  exact ⟨rfl, h'.more hc⟩
theorem ap_free2 (h : Ap X w0 w pd pl q B1 B2 n m a b) (h2 : n ≤ 60) (h3 : 1 ≤ m) (h4 : m ≤ 60) :
    Calls Try.prog 10 #[PV 1 ((10 + n : Nat) : Int) m, .pointer (some ⟨q, 0, none⟩)] w fun e w' => e = .returned (.tuple #[.int .i64 ((m : Int) - (b : Int)), .int .i64 0]) ∧ Ap X w0 w' pd pl q B1 B2 n m a b := by
  have h' := h
  obtain ⟨V, t, b1, b2, p1, p2, x1, x2, la, lb⟩ := h
  have := free_ok 1 (10 + n) m t (pr2 h2 h3 h4) b2
  rw [cntT_lt b m lb] at this
  rw [show (m : Int) - (b : Int) = ((m - b : Nat) : Int) by omega]
  refine this.mono ?_
  rintro e w' ⟨rfl, hc⟩
  exact ⟨rfl, h'.more hc⟩
theorem Ap.at1 (h : Ap X w0 w pd pl q B1 B2 n m a b) : PAt w B1 0 10 n := by obtain ⟨V, t, b1, b2, p1, p2, _⟩ := h; exact p1
theorem Ap.at2 (h : Ap X w0 w pd pl q B1 B2 n m a b) : PAt w B2 1 ((10 + n : Nat) : Int) m := by obtain ⟨V, t, b1, b2, p1, p2, _⟩ := h; exact p2
theorem Ap.le (h : Ap X w0 w pd pl q B1 B2 n m a b) : a ≤ n ∧ b ≤ m := by obtain ⟨V, t, b1, b2, p1, p2, x1, x2, la, lb⟩ := h; exact ⟨la, lb⟩
/-- Clear of both: the beginning. -/
theorem ap_start (h : Tv X w0 w pd pl q 35 (fun _ => zeros 512) (fun _ => none) 0 37 (fun _ => zeros 512)) (p1 : PAt w B1 0 10 n) (p2 : PAt w B2 1 ((10 + n : Nat) : Int) m) (x1 : X B1) (x2 : X B2) (h1 : 1 ≤ n) (h2 : n ≤ 60) (h3 : 1 ≤ m) (h4 : m ≤ 60) :
    Calls Try.prog 7 #[PV 0 10 n, .pointer (some ⟨q, 0, none⟩)] w fun e w1 => e = .returned (.int .i64 0) ∧ PAt w1 B2 1 ((10 + n : Nat) : Int) m ∧ Hid (Calls Try.prog 7 #[PV 1 ((10 + n : Nat) : Int) m, .pointer (some ⟨q, 0, none⟩)] w1 fun e w2 => e = .returned (.int .i64 0) ∧ Hid (Ap X w0 w2 pd pl q B1 B2 n m 0 0)) := by
  refine (pclear_ok 0 10 n h (pr1 h1 h2)).mono ?_
  rintro e w1 ⟨rfl, V1, t1, b1, e1, s1⟩
  refine ⟨rfl, p2.sm s1 x2, (pclear_ok 1 (10 + n) m t1 (pr2 h2 h3 h4)).mono ?_⟩
  rintro e w2 ⟨rfl, V2, t2, b2, e2, s2⟩
  exact ⟨rfl, V2, t2, (b1.same (fun i hi => e2 _ (.inl (by unfold mapsN at hi; omega)))).ext (fun k _ => by simp), b2.ext (fun k _ => by simp), (p1.sm s1 x1).sm s2 x1, (p2.sm s1 x2).sm s2 x2, x1, x2, Nat.zero_le _, Nat.zero_le _⟩
end

set_option maxHeartbeats 6400000 in
set_option maxRecDepth 100000 in
theorem law_apart (n m : Int) (v : Value) (ts : List Bool) (w : World) (hv : Bo w v ts) :
    Calls Try.prog 4 #[.int .i64 n, .int .i64 m, v] w fun e w' => e = .returned (.bool true) ∧ Chg (fun _ => False) w w' := by
  obtain ⟨va, vc, rfl, hvc⟩ := hv.form
  have HI : Hid (Bo w (.slice va ts.length vc) ts) := hv
  clear hv hvc
  by_cases hr : n < 1 ∨ 60 < n ∨ m < 1 ∨ 60 < m ∨ 100 < ts.length
  · have KN : Hid (Calls Try.prog 5 #[] w fun e w' => e = .returned (.bool true) ∧ Hid (Chg (fun _ => False) w w')) := (known_any w).mono (by rintro e w' ⟨rfl, h⟩; exact ⟨rfl, h⟩)
    have k5 : decide ((100 : Int) < (ts.length : Int)) = decide (100 < ts.length) := by congr 1; apply propext; omega
    by_cases g1 : n < 1
    · have k1 : decide (n < 1) = true := by simpa using g1
      clear hr k5
      go_enter Try.func4, Try.ntmps4
      go_wp2_with fail
      refine KN.out.mono ?_
      rintro e w1 ⟨rfl, HC⟩
      go_wp2
      go_ret
      exact ⟨rfl, HC.out⟩
    have k1 : decide (n < 1) = false := by simpa using g1
    by_cases g2 : 60 < n
    · have k2 : decide (60 < n) = true := by simpa using g2
      clear hr k5
      go_enter Try.func4, Try.ntmps4
      go_wp2_with fail
      refine KN.out.mono ?_
      rintro e w1 ⟨rfl, HC⟩
      go_wp2
      go_ret
      exact ⟨rfl, HC.out⟩
    have k2 : decide (60 < n) = false := by simpa using g2
    by_cases g3 : m < 1
    · have k3 : decide (m < 1) = true := by simpa using g3
      clear hr k5
      go_enter Try.func4, Try.ntmps4
      go_wp2_with fail
      refine KN.out.mono ?_
      rintro e w1 ⟨rfl, HC⟩
      go_wp2
      go_ret
      exact ⟨rfl, HC.out⟩
    have k3 : decide (m < 1) = false := by simpa using g3
    by_cases g4 : 60 < m
    · have k4 : decide (60 < m) = true := by simpa using g4
      clear hr k5
      go_enter Try.func4, Try.ntmps4
      go_wp2_with fail
      refine KN.out.mono ?_
      rintro e w1 ⟨rfl, HC⟩
      go_wp2
      go_ret
      exact ⟨rfl, HC.out⟩
    have k4 : decide (60 < m) = false := by simpa using g4
    have g5 : 100 < ts.length := by omega
    have k6 : decide ((100 : Int) < (ts.length : Int)) = true := by simp; omega
    clear hr k5
    go_enter Try.func4, Try.ntmps4
    go_wp2_with fail
    refine KN.out.mono ?_
    rintro e w1 ⟨rfl, HC⟩
    go_wp2
    go_ret
    exact ⟨rfl, HC.out⟩
  obtain ⟨n, rfl⟩ : ∃ n' : Nat, n = (n' : Int) := ⟨n.toNat, by omega⟩
  obtain ⟨m, rfl⟩ : ∃ m' : Nat, m = (m' : Int) := ⟨m.toNat, by omega⟩
  have n1 : 1 ≤ n := by omega
  have n2 : n ≤ 60 := by omega
  have m1 : 1 ≤ m := by omega
  have m2 : m ≤ 60 := by omega
  have l1 : ts.length ≤ 100 := by omega
  have k1 : decide ((n : Int) < 1) = false := by simp; omega
  have k2 : decide (60 < (n : Int)) = false := by simp; omega
  have k3 : decide ((m : Int) < 1) = false := by simp; omega
  have k4 : decide (60 < (m : Int)) = false := by simp; omega
  have k5 : decide ((100 : Int) < (ts.length : Int)) = false := by simp; omega
  clear hr
  have KN : Hid (Calls Try.prog 5 #[] w fun e w1 => e = .returned (.bool true) ∧ Hid (Chg (fun _ => False) w w1) ∧
      Hid (Calls Try.prog 6 #[.int .i64 100] w1 fun e w' => ∃ pd pl q, e = .returned (.tuple #[.pointer (some ⟨pl, 0, none⟩), .pointer (some ⟨q, 0, none⟩)]) ∧ Hid (TxUp (fun b => b < w1.heap.size) w1 w' pd pl q 35 (fun _ => zeros 512) (fun _ => none) 0 true (fun _ => none) 0 37))) := (known_any w).mono (by
    rintro e w1 ⟨rfl, h⟩
    exact ⟨rfl, h, made_any 35 w1 (by decide) (by decide)⟩)
  go_enter Try.func4, Try.ntmps4
  go_wp2_with fail
  refine KN.out.mono ?_
  clear KN
  rintro e w1 ⟨rfl, HC, MD⟩
  go_wp2_with fail
  refine MD.out.mono ?_
  clear MD
  rintro e w2 ⟨pd, pl, q, rfl, HT⟩
  have hq := eqT_some ⟨q, 0, none⟩
  have c2 : Chg (fun _ => False) w2 ((w2.alloc (PO 0 10 n)).alloc (PO 1 ((10 + n : Nat) : Int) m)) := (Chg.alloc (fun _ => False) _ _).trans (Chg.alloc (fun _ => False) _ _) (fun _ _ h => h)
  have tv := (Tv.start HT.out (by decide) (by decide)).add c2
  have b1 : PAt ((w2.alloc (PO 0 10 n)).alloc (PO 1 ((10 + n : Nat) : Int) m)) w2.heap.size 0 10 n := (PAt.box w2 0 10 n).kept (Chg.alloc (fun _ => False) _ _) (fun h => h)
  have b2 : PAt ((w2.alloc (PO 0 10 n)).alloc (PO 1 ((10 + n : Nat) : Int) m)) (w2.heap.size + 1) 1 ((10 + n : Nat) : Int) m := by
    have := PAt.box (w2.alloc (PO 0 10 n)) 1 ((10 + n : Nat) : Int) m
    simpa using this
  have x1 : addX (fun b => b < w1.heap.size) w2.heap.size ((w2.alloc (PO 0 10 n)).alloc (PO 1 ((10 + n : Nat) : Int) m)).heap.size w2.heap.size := .inr ⟨Nat.le_refl _, by simp; omega⟩
  have x2 : addX (fun b => b < w1.heap.size) w2.heap.size ((w2.alloc (PO 0 10 n)).alloc (PO 1 ((10 + n : Nat) : Int) m)).heap.size (w2.heap.size + 1) := .inr ⟨by omega, by simp⟩
  have CL : Hid _ := ap_start tv b1 b2 x1 x2 n1 n2 m1 m2
  obtain ⟨X, hX⟩ : ∃ X, addX (fun b => b < w1.heap.size) w2.heap.size ((w2.alloc (PO 0 10 n)).alloc (PO 1 ((10 + n : Nat) : Int) m)).heap.size = X := ⟨_, rfl⟩
  rw [hX] at CL
  have e10 : (10 : Int) + (n : Int) = ((10 + n : Nat) : Int) := by omega
  obtain ⟨fn, hfn⟩ : ∃ fn, 10 + n = fn := ⟨_, rfl⟩
  have HFN : Hid (10 + n = fn) := hfn
  rw [hfn] at CL b1 b2 e10
  have p0 := b1.c0
  have p1 := b1.c1
  have p2 := b1.c2
  have r0 := b2.c0
  have r1 := b2.c1
  have r2 := b2.c2
  clear HT c2 tv x1 x2 hX b1 b2 hfn
  unfold PV PO at *
  go_wp2_with fail
  refine (show Calls _ _ _ _ _ from CL.out).mono ?_
  clear CL p0 p1 p2 r0 r1 r2
  rintro e w3 ⟨rfl, b3, CM⟩
  have r0 := b3.c0
  have r1 := b3.c1
  have r2 := b3.c2
  clear b3
  go_wp2_with fail
  refine CM.out.mono ?_
  clear CM r0 r1 r2
  rintro e w4 ⟨rfl, H4⟩
  have HFP : Hid (w2.heap.size + 1 = w2.heap.size + 1) := rfl
  obtain ⟨B1, hB1⟩ : ∃ B1, w2.heap.size = B1 := ⟨_, rfl⟩
  rw [hB1] at H4 ⊢
  obtain ⟨B2, hB2⟩ : ∃ B2, B1 + 1 = B2 := ⟨_, rfl⟩
  rw [hB2] at H4 ⊢
  clear hB1 hB2 HFP
  go_wp2
  go_loopw [13, 11, 12] (fun x xa xb wr => ∃ i a b, i ≤ ts.length ∧ x = .int .i64 ((i : Nat) : Int) ∧ xa = .int .i64 ((a : Nat) : Int) ∧ xb = .int .i64 ((b : Nat) : Int) ∧ Hid (Ap X w1 wr pd pl q B1 B2 n m a b)) (fun x _ _ _ => ts.length - (intOf x).toNat)
  case atStart => exact ⟨0, 0, 0, by omega, rfl, rfl, rfl, H4⟩
  case round =>
    obtain ⟨i, a, b, hi, rfl, rfl, rfl, HR⟩ := hrel
    clear H4
    have lab := HR.out.le
    have ba := HR.out.at1
    have bb := HR.out.at2
    rw [HFN.out] at bb
    have p0 := ba.c0
    have p1 := ba.c1
    have p2 := ba.c2
    have r0 := bb.c0
    have r1 := bb.c1
    have r2 := bb.c2
    clear ba bb
    by_cases hil : i < ts.length
    · have kil : (i : Int) < (ts.length : Int) := by omega
      have hls : Bo wr (.slice va ts.length vc) ts := HI.out.kept (HC.out.trans HR.out.chg (fun _ _ h => h))
      obtain ⟨bk, off, hva, hcs⟩ := hls.nth hil
      have hc := hcs i hil
      have HV : Hid (va = some ⟨bk, off, none⟩) := hva
      subst hva
      clear hls hcs
      cases hb : ts.getD i false with
      | true =>
        rw [hb] at hc
        by_cases han : a < n
        · have kan : (a : Int) < (n : Int) := by omega
          have TK : Hid (Calls Try.prog 8 #[PV 0 10 n, .pointer (some ⟨q, 0, none⟩)] wr fun e w' => e = .returned (.tuple #[.int .i64 (10 + (a : Int)), .int .i64 0]) ∧ Hid (Ap X w1 w' pd pl q B1 B2 n m (a + 1) b)) := (ap_take1 HR.out n1 n2 m2 han).mono (by rintro e w' ⟨rfl, h⟩; exact ⟨rfl, h⟩)
          clear HR
          unfold PV at TK
          go_wp2_with fail
          refine TK.out.mono ?_
          clear TK
          rintro e w5 ⟨rfl, H5⟩
          go_wp2
          go_roundw
          case rel => exact ⟨i + 1, a + 1, b, by omega, by go_num, by go_num, rfl, H5⟩
          case measure => simp [intOf]; omega
        · have kan : ¬ ((a : Int) < (n : Int)) := by omega
          have TK : Hid (Calls Try.prog 8 #[PV 0 10 n, .pointer (some ⟨q, 0, none⟩)] wr fun e w' => e = .returned (.tuple #[.int .i64 0, .int .i64 7]) ∧ Hid (Ap X w1 w' pd pl q B1 B2 n m a b)) := (ap_full1 HR.out n1 n2 han).mono (by rintro e w' ⟨rfl, h⟩; exact ⟨rfl, h⟩)
          clear HR
          unfold PV at TK
          go_wp2_with fail
          refine TK.out.mono ?_
          clear TK
          rintro e w5 ⟨rfl, H5⟩
          go_wp2
          go_roundw
          case rel => exact ⟨i + 1, a, b, by omega, by go_num, rfl, rfl, H5⟩
          case measure => simp [intOf]; omega
      | false =>
        rw [hb] at hc
        by_cases hbm : b < m
        · have kbm : (b : Int) < (m : Int) := by omega
          have TK : Hid (Calls Try.prog 8 #[PV 1 (fn : Int) m, .pointer (some ⟨q, 0, none⟩)] wr fun e w' => e = .returned (.tuple #[.int .i64 ((fn : Int) + (b : Int)), .int .i64 0]) ∧ Hid (Ap X w1 w' pd pl q B1 B2 n m a (b + 1))) := by
            have h := ap_take2 HR.out n1 n2 m1 m2 hbm
            rw [e10, HFN.out] at h
            exact h.mono (by rintro e w' ⟨rfl, h⟩; exact ⟨rfl, h⟩)
          clear HR
          unfold PV at TK
          go_wp2_with fail
          refine TK.out.mono ?_
          clear TK
          rintro e w5 ⟨rfl, H5⟩
          go_wp2
          go_roundw
          case rel => exact ⟨i + 1, a, b + 1, by omega, by go_num, rfl, by go_num, H5⟩
          case measure => simp [intOf]; omega
        · have kbm : ¬ ((b : Int) < (m : Int)) := by omega
          have TK : Hid (Calls Try.prog 8 #[PV 1 (fn : Int) m, .pointer (some ⟨q, 0, none⟩)] wr fun e w' => e = .returned (.tuple #[.int .i64 0, .int .i64 7]) ∧ Hid (Ap X w1 w' pd pl q B1 B2 n m a b)) := by
            have h := ap_full2 HR.out n2 m1 m2 hbm
            rw [HFN.out] at h
            exact h.mono (by rintro e w' ⟨rfl, h⟩; exact ⟨rfl, h⟩)
          clear HR
          unfold PV at TK
          go_wp2_with fail
          refine TK.out.mono ?_
          clear TK
          rintro e w5 ⟨rfl, H5⟩
          go_wp2
          go_roundw
          case rel => exact ⟨i + 1, a, b, by omega, by go_num, rfl, rfl, H5⟩
          case measure => simp [intOf]; omega
    · have kil : ¬ ((i : Int) < (ts.length : Int)) := by omega
      have FR : Hid (Calls Try.prog 10 #[PV 0 10 n, .pointer (some ⟨q, 0, none⟩)] wr fun e w' => e = .returned (.tuple #[.int .i64 ((n : Int) - (a : Int)), .int .i64 0]) ∧ Hid (Ap X w1 w' pd pl q B1 B2 n m a b)) := (ap_free1 HR.out n1 n2).mono (by rintro e w' ⟨rfl, h⟩; exact ⟨rfl, h⟩)
      clear HR
      unfold PV at FR
      go_wp2_with fail
      refine FR.out.mono ?_
      clear FR p0 p1 p2 r0 r1 r2
      rintro e w5 ⟨rfl, H5⟩
      have FR : Hid (Calls Try.prog 10 #[PV 1 (fn : Int) m, .pointer (some ⟨q, 0, none⟩)] w5 fun e w' => e = .returned (.tuple #[.int .i64 ((m : Int) - (b : Int)), .int .i64 0]) ∧ Hid (Ap X w1 w' pd pl q B1 B2 n m a b)) := by
        have h := ap_free2 H5.out n2 m1 m2
        rw [HFN.out] at h
        exact h.mono (by rintro e w' ⟨rfl, h⟩; exact ⟨rfl, h⟩)
      have bb := H5.out.at2
      rw [HFN.out] at bb
      have r0 := bb.c0
      have r1 := bb.c1
      have r2 := bb.c2
      clear bb H5
      unfold PV at FR
      go_wp2_with fail
      refine FR.out.mono ?_
      clear FR r0 r1 r2
      rintro e w6 ⟨rfl, H6⟩
      have ba := H6.out.at1
      have p0 := ba.c0
      have p1 := ba.c1
      have p2 := ba.c2
      clear ba
      have GV : Hid (Calls Try.prog 9 #[PV 0 10 n, .pointer (some ⟨q, 0, none⟩), .int .i64 (fn : Int)] w6 fun e w' => e = .returned (.int .i64 1) ∧ Hid (Ap X w1 w' pd pl q B1 B2 n m a b)) := (give_out 0 10 n _ (fn : Int) w6 (by have := HFN.out; omega) (by have := HFN.out; omega)).mono (by rintro e w' ⟨rfl, h⟩; exact ⟨rfl, H6.out.more h⟩)
      clear H6
      unfold PV at GV
      go_wp2_with fail
      refine GV.out.mono ?_
      clear GV p0 p1 p2
      rintro e w7 ⟨rfl, H7⟩
      have bb := H7.out.at2
      rw [HFN.out] at bb
      have r0 := bb.c0
      have r1 := bb.c1
      have r2 := bb.c2
      clear bb
      have GV : Hid (Calls Try.prog 9 #[PV 1 (fn : Int) m, .pointer (some ⟨q, 0, none⟩), .int .i64 (9 + (n : Int))] w7 fun e w' => e = .returned (.int .i64 1) ∧ Hid (Chg (fun _ => False) w w')) := (give_out 1 (fn : Int) m _ (9 + (n : Int)) w7 (by have := HFN.out; omega) (by have := HFN.out; omega)).mono (by rintro e w' ⟨rfl, h⟩; exact ⟨rfl, (HC.out.trans H7.out.chg (fun _ _ h => h)).trans h (fun _ _ h => h)⟩)
      clear H7
      unfold PV at GV
      go_wp2_with fail
      refine GV.out.mono ?_
      clear GV
      rintro e w8 ⟨rfl, HZ⟩
      go_wp2
      go_ret
      exact ⟨rfl, HZ.out⟩
end Go.Proofs.Ytdcmcgdalanjjaa

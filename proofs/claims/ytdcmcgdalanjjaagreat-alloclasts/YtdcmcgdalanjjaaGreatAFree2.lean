/-
  What Free of a pool that is right does.
-/
import Derived.Test.YtdcmcgdalanjjaaGreatAGive
namespace Go.Proofs.YtdcmcgdalanjjaaGreat
open Go.RowKit Go.Maps

section
variable {X Y : Nat → Prop} {w0 w w1 ws : World} {pd pl q K : Nat} {f : Nat → List Int} {com : Nat → Option (List Int)} {pend N : Nat} {V : Nat → List Int} {T : Nat → Bool}
/-- A number in a box. -/
def IntAt (w : World) (E : Nat) (x : Int) : Prop := w.heap[E]? = some (.cells #[.int .i64 x] 3 (0, 0))
set_option maxHeartbeats 3200000 in
theorem free1_any (M F n i B D E : Nat) (x y : Int) (h : Tv X w0 w pd pl q K f com pend N V) (hc : Cap w B D M F n q) (he : IntAt w E x) (_hBE : B ≠ E) (_hDE : D ≠ E) (hb : Bt V M n T) (hp : Pr M F n K) (hi : i < mapsN n) (hx : 0 ≤ x ∧ x ≤ 16384) (hy : x - (cnt (V (M + i)) 0 (sizeN n i) : Int) = y) :
    Calls Tryz.prog 39 #[.int .i64 (i : Int), .pointer (some ⟨B, 0, none⟩), .pointer (some ⟨D, 0, none⟩), .pointer (some ⟨E, 0, none⟩)] w fun e w' => e = .returned (.int .i64 0) ∧ Chg (fun b => b = E) w w' ∧ IntAt w' E y := by
  have hin := hp.in'
  have hElt : E < w.heap.size := lt_of_block he
  have PT : Hid (Calls Tryz.prog 33 #[PV M F n, .pointer (some ⟨q, 0, none⟩), .int .i64 (i : Int)] w fun e w2 => ∃ u, e = .returned (.tuple #[u, .int .i64 0]) ∧ Chg (fun _ => False) w w2 ∧ Hid (Bs w2 u (V (M + i)))) := by
    refine (part_any M i F n h (by omega)).mono ?_
    rintro e w2 ⟨u, g, rfl, hu⟩
    exact ⟨u, rfl, hu.chg, hu.mp.bs⟩
  have SZ : Hid (∀ w : World, Calls Tryz.prog 35 #[PV M F n, .int .i64 (i : Int)] w fun e w' => e = .returned (.int .i64 (sizeN n i : Int)) ∧ w' = w.alloc (PO M F n)) := fun w => size_any M F n i w hp.one hp.top hi
  have hxs := hb.by' i hi
  have CT : Hid (∀ (u : Value) (w : World), Bs w u (V (M + i)) → Calls Tryz.prog 40 #[u, .int .i64 0, .int .i64 (sizeN n i : Int)] w fun e w' => e = .returned (.int .i64 (cnt (V (M + i)) 0 (sizeN n i) : Int)) ∧ ∃ n, w' = w.drewN n) := fun u w hu => by
    have := count_any u (V (M + i)) 0 (sizeN n i : Int) w hu hxs.1 (by rw [hxs.2]; omega) (by omega)
    unfold cntI at this
    rw [hiB_size hxs.2, show loB 0 = 0 from rfl, Nat.sub_zero] at this
    exact this
  have hcl := cnt_le (V (M + i)) 0 (sizeN n i)
  have hsl := sizeN_le n i
  generalize cnt (V (M + i)) 0 (sizeN n i) = c at *
  generalize sizeN n i = z at *
  have wr : IntKind.i64.wrap (x - (c : Int)) = y := by rw [IntKind.wrap_i64]; omega
  have wr2 : IntKind.i64.wrap y = y := by rw [IntKind.wrap_i64]; omega
  have p0 := hc.p.c0
  have p1 := hc.p.c1
  have p2 := hc.p.c2
  have p3 := hc.t
  have HCAP : Hid (Cap w B D M F n q) := hc
  have HEE : Hid (IntAt w E x) := he
  clear h hc he hb hp hin hi hxs hcl hsl
  unfold PV PO at *
  go_enter Tryz.func39, Tryz.ntmps39
  go_wp2_with fail
  refine PT.out.mono ?_
  clear PT
  rintro e w2 ⟨u, rfl, c2, HB⟩
  have k2 := HCAP.out.kept c2 (fun h => h) (fun h => h)
  have e2 : IntAt w2 E x := (c2.block E hElt (fun h => h)).trans HEE.out
  have HC2 : Hid (Chg (fun _ => False) w w2) := c2
  have hE2 : E < w2.heap.size := lt_of_block e2
  have ka := fun o => k2.kept (Chg.alloc (fun _ => False) w2 o) (fun h => h) (fun h => h)
  have ea : ∀ o, IntAt (w2.alloc o) E x := fun o => ((Chg.alloc (fun _ => False) w2 o).block E hE2 (fun h => h)).trans e2
  have q0 := k2.p.c0
  have q1 := k2.p.c1
  have q2 := k2.p.c2
  have x0 := cell_of_one e2
  have x1 := fun o => cell_of_one (ea o)
  have x2 := fun o => free_of_one (ea o)
  have EA : Hid (∀ o, IntAt (w2.alloc o) E x) := ea
  clear p0 p1 p2 p3 c2 k2 ka ea e2
  have CTT : Hid (∀ w', (∃ k o, w' = (w2.alloc o).drewN k) → Calls Tryz.prog 40 #[u, .int .i64 0, .int .i64 (z : Int)] w' fun e w'' => e = .returned (.int .i64 (c : Int)) ∧ ∃ k o, w'' = (w2.alloc o).drewN k) := fun w' hw' => by
    obtain ⟨k, o, rfl⟩ := hw'
    refine (CT.out u _ ((HB.out.kept (Chg.alloc (fun _ => False) w2 o) (fun _ _ _ _ _ h => h)).drewN k)).mono ?_
    rintro e w'' ⟨rfl, k', rfl⟩
    exact ⟨rfl, k + k', o, by rw [World.drewN_drewN]⟩
  go_wp2_with fail
  go_region_with (first | (go_at_call 35; refine (SZ.out _).mono ?_; rintro e w3 ⟨rfl, rfl⟩) | (go_at_call 40; refine (CTT.out _ ⟨1, _, rfl⟩).mono ?_; rintro e w3 ⟨rfl, k, o, rfl⟩))
  all_goals
    go_wp2
    go_ret
    exact ⟨rfl, ((HC2.out.mono (fun _ _ h => h.elim)).trans (Chg.alloc (fun b => b = E) w2 o) (fun _ _ h => h)).trans ((Chg.drewN (fun b => b = E) _ k).trans (Chg.setCell (S := fun b => b = E) _ ⟨E, 0, none⟩ _ rfl) (fun _ _ h => h)) (fun _ _ h => h), one_setCell (EA.out o)⟩
set_option maxHeartbeats 1600000 in
theorem free_ok (M F n : Nat) (h : Tv X w0 w pd pl q K f com pend N V) (hp : Pr M F n K) (hb : Bt V M n T) :
    Calls Tryz.prog 13 #[PV M F n, .pointer (some ⟨q, 0, none⟩)] w fun e w' => e = .returned (.tuple #[.int .i64 ((n - cntT T n : Nat) : Int), .int .i64 0]) ∧ Chg (fun _ => False) w w' := by
  have hmf : ∀ (fn : Fn) (first cap : Array Value) (w : World), (Instr.makeFunc fn first cap).run Tryz.prog w = .ok (.func fn first cap) w := fun _ _ _ _ => rfl
  have cb := boxes_chg w M F n q
  have h1 := h.more cb
  have c1 := Cap.box w M F n q
  have ST : Hid (Calls Tryz.prog 32 #[PV M F n, .pointer (some ⟨q, 0, none⟩)] ((w.alloc (PO M F n)).alloc (TO q)) fun e w2 => e = .returned (.int .i64 0) ∧ Chg (fun _ => False) ((w.alloc (PO M F n)).alloc (TO q)) w2) := stands_ok M F n h1 hp.f hp.one hp.top hp.in'
  have EA : Hid (∀ w3 : World, ∀ E, w.heap.size + 2 ≤ E → Chg (fun _ => False) w w3 → Cap w3 w.heap.size (w.heap.size + 1) M F n q → IntAt w3 E n →
      Calls Tryz.prog 38 #[PV M F n, .func (.func 39) #[] #[.pointer (some ⟨w.heap.size, 0, none⟩), .pointer (some ⟨w.heap.size + 1, 0, none⟩), .pointer (some ⟨E, 0, none⟩)]] w3 fun e w' => e = .returned (.int .i64 0) ∧ w'.cell? ⟨E, 0, none⟩ = some (.int .i64 ((n - cntT T n : Nat) : Int)) ∧ Hid (Chg (fun _ => False) w w')) := fun w3 E hE c3 k3 i3 => by
    have hn := hp.top
    have hone := hp.one
    have hElt : E < w3.heap.size := lt_of_block i3
    refine (each_free M F n w.heap.size (w.heap.size + 1) E (fun i w' => Chg (fun b => b = E) w3 w' ∧ IntAt w' E ((n : Int) - (cntT T (min n (i * 4096)) : Int))) w3 hone hn ⟨Chg.refl _ _, ?_⟩ (fun w' hc => ⟨hc.mono (fun _ _ h => h.elim), ?_⟩) ?_).mono ?_
    · simpa [cntT] using i3
    · have e : IntAt w' E n := (hc.block E hElt (fun h => h)).trans i3
      simpa [cntT] using e
    · rintro i w' hi ⟨hc, hx⟩
      have hcw : Chg (fun _ => False) w w' := c3.trans hc (fun b hb e => by omega)
      have hstep := hb.cnt hi hone
      have hle := cntT_le T (min n (i * 4096))
      have hle2 := cntT_le T (min n ((i + 1) * 4096))
      have m1 : min n (i * 4096) ≤ n := Nat.min_le_left _ _
      refine (free1_any M F n i _ _ E _ ((n : Int) - (cntT T (min n ((i + 1) * 4096)) : Int)) (h.more hcw) (k3.kept hc (by omega) (by omega)) hx (by omega) (by omega) hb hp hi (by omega) (by omega)).mono ?_
      rintro e w'' ⟨rfl, hc2, hx2⟩
      exact ⟨rfl, hc.trans hc2 (fun _ _ h => h), hx2⟩
    · rintro e w' ⟨rfl, hc, hx⟩
      have e1 : min n (mapsN n * 4096) = n := by unfold mapsN; omega
      rw [e1] at hx
      have hle := cntT_le T n
      have e2 : ((n - cntT T n : Nat) : Int) = (n : Int) - (cntT T n : Int) := by omega
      rw [e2]
      exact ⟨rfl, cell_of_one hx, c3.trans hc (fun b hb e => by omega)⟩
  have p0 := c1.p.c0
  have p1 := c1.p.c1
  have p2 := c1.p.c2
  have p3 := c1.t
  have CB : Hid (Chg (fun _ => False) w ((w.alloc (PO M F n)).alloc (TO q))) := cb
  generalize n - cntT T n = res at *
  clear h h1 hp cb hb
  have hsz : ((w.alloc (PO M F n)).alloc (TO q)).heap.size = w.heap.size + 2 := by simp
  unfold PV PO TO at *
  go_enter Tryz.func13, Tryz.ntmps13
  go_wp2_with fail
  refine ST.out.mono ?_
  clear ST
  rintro e w2 ⟨rfl, hc2⟩
  have c2 := c1.kept hc2 (fun h => h) (fun h => h)
  have q0 := c2.p.c0
  have q1 := c2.p.c1
  have q2 := c2.p.c2
  have q3 := c2.t
  have hs2 : w.heap.size + 2 ≤ w2.heap.size := by have := hc2.size; omega
  have HC2 : Hid (Chg (fun _ => False) w w2) := CB.out.trans hc2 (fun _ _ h => h)
  have K2 : Hid (Cap w2 w.heap.size (w.heap.size + 1) M F n q) := c2
  have ka := fun o => c2.kept (Chg.alloc (fun _ => False) w2 o) (fun h => h) (fun h => h)
  have r0 := fun o => (ka o).p.c0
  have r1 := fun o => (ka o).p.c1
  have r2 := fun o => (ka o).p.c2
  have EB : Hid _ := EA.out (w2.alloc (.cells #[.int .i64 (n : Int)] 3)) w2.heap.size hs2 (HC2.out.trans (Chg.alloc (fun _ => False) w2 _) (fun _ _ h => h)) (ka _) (heap_alloc_new _ _)
  clear hc2 c1 c2 p0 p1 p2 p3 CB hsz ka EA
  go_wp2_with fail
  refine (show Calls _ _ _ _ _ from EB.out).mono ?_
  clear EB
  rintro e w4 ⟨rfl, hx4, HC4⟩
  go_wp2
  go_ret2
  exact ⟨rfl, HC4.out⟩
end
end Go.Proofs.YtdcmcgdalanjjaaGreat

namespace Go.Proofs.YtdcmcgdalanjjaaGreat
open Go.RowKit Go.Maps

theorem eqL_some (a : Addr) (w : World) : (binOp .eql 26 (.pointer (some a)) (.pointer none)).run Tryz.prog w = .ok (.bool false) w := by kernel_rfl
theorem eqT_some (a : Addr) (w : World) : (binOp .eql 27 (.pointer (some a)) (.pointer none)).run Tryz.prog w = .ok (.bool false) w := by kernel_rfl
theorem Nw.ofNew {w w' : World} {F : Nat → Prop} (hc : Chg (fun _ => False) w w') (hF : ∀ b, F b → w.heap.size ≤ b) : Nw (fun b => b < w.heap.size) w w' F (fun _ => False) :=
  ⟨hc, hF, fun _ h => h.elim, fun b hb => ⟨by have := hc.size; omega, fun hf => by have := hF b hf; omega, fun h => h⟩⟩

set_option maxHeartbeats 1600000 in
/-- made: a log of K blocks, and its transaction. -/
theorem made_any (K : Nat) (w : World) (h1 : 1 ≤ K) (h2 : K ≤ 62) : Calls Tryz.prog 6 #[.int .i64 ((K + 65 : Nat) : Int)] w fun e w' => ∃ pd pl q, e = .returned (.tuple #[.pointer (some ⟨pl, 0, none⟩), .pointer (some ⟨q, 0, none⟩)]) ∧ TxUp (fun b => b < w.heap.size) w w' pd pl q K (fun _ => zeros 512) (fun _ => none) 0 true (fun _ => none) 0 (K + 2) := by
  have hn : K + 65 ≤ 127 := by omega
  obtain ⟨nb, hnb⟩ : ∃ nb, K + 65 = nb := ⟨_, rfl⟩
  rw [hnb]
  have HNB : Hid (K + 65 = nb) := hnb
  rw [hnb] at hn
  have h3 : 1 ≤ nb := by omega
  clear hnb
  go_enter Tryz.func6, Tryz.ntmps6
  go_wp2_with fail
  refine (new_ok nb w h3 (by omega)).mono ?_
  rintro e w1 ⟨F, p, rfl, hd, hc1, hF⟩
  have H1 : Hid (Dk w1 F p (St.new nb) ∧ Nw (fun b => b < w.heap.size) w w1 F (fun _ => False)) := ⟨hd, Nw.ofNew hc1 hF⟩
  clear hd hc1 hF
  go_wp2_with fail
  refine (format_up (N := K + 2) (K := K) F (St.new nb) H1.out.1 H1.out.2 (fun _ => rfl) HNB.out.symm h1 rfl (by show (0 : Int) < 1; decide) (by show 0 + K + 2 ≤ K + 2; omega) (by omega)).mono ?_
  rintro e w2 ⟨pl, rfl, h2', _⟩
  have H2 : Hid (LogUp (fun b => b < w.heap.size) w w2 p pl K (fun _ => zeros 512) (fun _ => none) 0 (K + 2)) := h2'
  clear h2' H1
  have hq := eqL_some ⟨pl, 0, none⟩
  go_wp2_with fail
  refine (begin_up H2.out).mono ?_
  rintro e w3 ⟨q, rfl, h3', _⟩
  have H3 : Hid (TxUp (fun b => b < w.heap.size) w w3 p pl q K (fun _ => zeros 512) (fun _ => none) 0 true (fun _ => none) 0 (K + 2)) := h3'
  clear h3' H2
  go_wp2
  go_ret2
  exact ⟨p, pl, q, rfl, H3.out⟩

/-- A pool that lies at B, and which of its numbers are taken. -/
def Pq (X : Nat → Prop) (w0 w : World) (pd pl q K : Nat) (f : Nat → List Int) (com : Nat → Option (List Int)) (pend N B M F n : Nat) (T : Nat → Bool) : Prop :=
  ∃ V, Tv X w0 w pd pl q K f com pend N V ∧ Bt V M n T ∧ PAt w B M F n ∧ X B ∧ Pr M F n K
section
variable {X : Nat → Prop} {w0 w w' : World} {pd pl q K B M F n : Nat} {f : Nat → List Int} {com : Nat → Option (List Int)} {pend N : Nat} {T : Nat → Bool}
theorem Pq.more (h : Pq X w0 w pd pl q K f com pend N B M F n T) (hc : Chg (fun _ => False) w w') : Pq X w0 w' pd pl q K f com pend N B M F n T := by
  obtain ⟨V, h1, h2, h3, h4⟩ := h
  exact ⟨V, h1.more hc, h2, h3.kept hc (fun h => h), h4⟩
theorem Pq.chg (h : Pq X w0 w pd pl q K f com pend N B M F n T) : Chg (fun _ => False) w0 w := by
  obtain ⟨V, h1, _⟩ := h
  exact h1.chg
theorem Pq.at (h : Pq X w0 w pd pl q K f com pend N B M F n T) : PAt w B M F n := by
  obtain ⟨V, _, _, h3, _⟩ := h
  exact h3
theorem Pq.ext (h : Pq X w0 w pd pl q K f com pend N B M F n T) {U : Nat → Bool} (e : ∀ k, k < n → T k = U k) : Pq X w0 w pd pl q K f com pend N B M F n U := by
  obtain ⟨V, h1, h2, h3⟩ := h
  exact ⟨V, h1, h2.ext e, h3⟩
theorem PTo.pq {V : Nat → List Int} (h : PTo X w0 w pd pl q K f com pend N V M n T w') (ha : PAt w B M F n) (hx : X B) (hp : Pr M F n K) : Pq X w0 w' pd pl q K f com pend N B M F n T ∧ Sm X w w' := by
  obtain ⟨V', h1, h2, _, h4⟩ := h
  exact ⟨⟨V', h1, h2, ha.sm h4 hx, hx, hp⟩, h4⟩
theorem pq_take (k : Nat) (h : Pq X w0 w pd pl q K f com pend N B M F n T) (hk : k < n) (hT : T k = false) (hall : ∀ j, j < k → T j = true) :
    Calls Tryz.prog 12 #[PV M F n, .pointer (some ⟨q, 0, none⟩)] w fun e w' => e = .returned (.tuple #[.int .i64 ((F + k : Nat) : Int), .int .i64 0]) ∧ Pq X w0 w' pd pl q K f com pend N B M F n (upd T k true) ∧ Sm X w w' := by
  obtain ⟨V, h1, h2, h3, h4, h5⟩ := h
  refine (take_ok M F n k h1 h5 h2 hk hT hall).mono ?_
  rintro e w' ⟨rfl, ht⟩
  exact ⟨rfl, ht.pq h3 h4 h5⟩
theorem pq_full (h : Pq X w0 w pd pl q K f com pend N B M F n T) (hall : ∀ j, j < n → T j = true) :
    Calls Tryz.prog 12 #[PV M F n, .pointer (some ⟨q, 0, none⟩)] w fun e w' => e = .returned (.tuple #[.int .i64 0, .int .i64 7]) ∧ Chg (fun _ => False) w w' := by
  obtain ⟨V, h1, h2, h3, h4, h5⟩ := h
  exact take_full M F n h1 h5 h2 hall
theorem pq_give (k : Nat) (h : Pq X w0 w pd pl q K f com pend N B M F n T) (hk : k < n) (hT : T k = true) :
    Calls Tryz.prog 16 #[PV M F n, .pointer (some ⟨q, 0, none⟩), .int .i64 ((F + k : Nat) : Int)] w fun e w' => e = .returned (.int .i64 0) ∧ Pq X w0 w' pd pl q K f com pend N B M F n (upd T k false) ∧ Sm X w w' := by
  obtain ⟨V, h1, h2, h3, h4, h5⟩ := h
  refine (give_ok M F n k h1 h5 h2 hk hT).mono ?_
  rintro e w' ⟨rfl, ht⟩
  exact ⟨rfl, ht.pq h3 h4 h5⟩
theorem pq_give_free (k : Nat) (h : Pq X w0 w pd pl q K f com pend N B M F n T) (hk : k < n) (hT : T k = false) :
    Calls Tryz.prog 16 #[PV M F n, .pointer (some ⟨q, 0, none⟩), .int .i64 ((F + k : Nat) : Int)] w fun e w' => e = .returned (.int .i64 1) ∧ Chg (fun _ => False) w w' := by
  obtain ⟨V, h1, h2, h3, h4, h5⟩ := h
  exact give_free M F n k h1 h5 h2 hk hT
theorem pq_free (h : Pq X w0 w pd pl q K f com pend N B M F n T) :
    Calls Tryz.prog 13 #[PV M F n, .pointer (some ⟨q, 0, none⟩)] w fun e w' => e = .returned (.tuple #[.int .i64 ((n - cntT T n : Nat) : Int), .int .i64 0]) ∧ Chg (fun _ => False) w w' := by
  obtain ⟨V, h1, h2, h3, h4, h5⟩ := h
  exact free_ok M F n h1 h5 h2
/-- Clear of a pool that was laid: whatever the blocks were. -/
theorem tv_clear {V : Nat → List Int} (h : Tv X w0 w pd pl q K f com pend N V) (ha : PAt w B M F n) (hx : X B) (hp : Pr M F n K) :
    Calls Tryz.prog 15 #[PV M F n, .pointer (some ⟨q, 0, none⟩)] w fun e w' => e = .returned (.int .i64 0) ∧ Pq X w0 w' pd pl q K f com pend N B M F n (fun _ => false) ∧ Sm X w w' := by
  refine (pclear_ok M F n h hp).mono ?_
  rintro e w' ⟨rfl, ht⟩
  exact ⟨rfl, ht.pq ha hx hp⟩
end

set_option maxHeartbeats 3200000 in
set_option maxRecDepth 100000 in
theorem known_any (w : World) : Calls Tryz.prog 5 #[] w fun e w' => e = .returned (.bool true) ∧ Chg (fun _ => False) w w' := by
  have MD : Hid (Calls Tryz.prog 6 #[.int .i64 80] w fun e w' => ∃ pd pl q, e = .returned (.tuple #[.pointer (some ⟨pl, 0, none⟩), .pointer (some ⟨q, 0, none⟩)]) ∧ TxUp (fun b => b < w.heap.size) w w' pd pl q 15 (fun _ => zeros 512) (fun _ => none) 0 true (fun _ => none) 0 17) := made_any 15 w (by decide) (by decide)
  go_enter Tryz.func5, Tryz.ntmps5
  go_wp2_with fail
  refine MD.out.mono ?_
  clear MD
  rintro e w1 ⟨pd, pl, q, rfl, h1⟩
  have hv := (Tv.start h1 (by decide) (by decide)).add (Chg.alloc (fun _ => False) w1 (PO 2 5 9))
  have hbx := PAt.box w1 2 5 9
  have CL : Hid (Calls Tryz.prog 15 #[PV 2 5 9, .pointer (some ⟨q, 0, none⟩)] (w1.alloc (PO 2 5 9)) fun e w' => e = .returned (.int .i64 0) ∧ Pq _ w w' pd pl q 15 _ _ 0 17 w1.heap.size 2 5 9 (fun _ => false) ∧ Sm _ _ w') := tv_clear hv hbx (box_in _ _ _) ⟨by decide, by decide, by decide, by decide⟩
  obtain ⟨X, hX⟩ : ∃ X, addX (fun b => b < w.heap.size) w1.heap.size (w1.alloc (PO 2 5 9)).heap.size = X := ⟨_, rfl⟩
  rw [hX] at CL
  have p0 := hbx.c0
  have p1 := hbx.c1
  have p2 := hbx.c2
  clear hv h1 hX hbx
  unfold PV PO at *
  have hq := eqT_some ⟨q, 0, none⟩
  go_wp2_with fail
  refine CL.out.mono ?_
  clear CL
  rintro e w2 ⟨rfl, h2, _⟩
  have H2 : Hid (Pq X w w2 pd pl q 15 (fun _ => zeros 512) (fun _ => none) 0 17 w1.heap.size 2 5 9 (fun _ => false)) := h2
  have hb2 : PAt w2 w1.heap.size 2 5 9 := H2.out.at
  have a2 := hb2.c0
  have b2 := hb2.c1
  have c2 := hb2.c2
  clear hb2 h2 p0 p1 p2
  have TK : Hid (Calls Tryz.prog 12 #[.agg #[.int .i64 2, .int .i64 5, .int .i64 9], .pointer (some ⟨q, 0, none⟩)] w2 fun e w' => e = .returned (.tuple #[.int .i64 5, .int .i64 0]) ∧ Pq X w w' pd pl q 15 (fun _ => zeros 512) (fun _ => none) 0 17 w1.heap.size 2 5 9 (upd (fun _ => false) 0 true) ∧ Sm X w2 w') := pq_take 0 H2.out (by decide) rfl (fun j hj => by omega)
  go_wp2_with fail
  refine TK.out.mono ?_
  clear TK
  rintro e w3 ⟨rfl, h3, _⟩
  have H3 : Hid (Pq X w w3 pd pl q 15 (fun _ => zeros 512) (fun _ => none) 0 17 w1.heap.size 2 5 9 (upd (fun _ => false) 0 true)) := h3
  have hb3 : PAt w3 w1.heap.size 2 5 9 := H3.out.at
  have a3 := hb3.c0
  have b3 := hb3.c1
  have c3 := hb3.c2
  clear hb3 h3 H2 a2 b2 c2
  have TK : Hid (Calls Tryz.prog 12 #[.agg #[.int .i64 2, .int .i64 5, .int .i64 9], .pointer (some ⟨q, 0, none⟩)] w3 fun e w' => e = .returned (.tuple #[.int .i64 6, .int .i64 0]) ∧ Pq X w w' pd pl q 15 (fun _ => zeros 512) (fun _ => none) 0 17 w1.heap.size 2 5 9 (upd (upd (fun _ => false) 0 true) 1 true) ∧ Sm X w3 w') := pq_take 1 H3.out (by decide) rfl (fun j hj => by rw [show j = 0 by omega]; rfl)
  go_wp2_with fail
  refine TK.out.mono ?_
  clear TK
  rintro e w4 ⟨rfl, h4, _⟩
  have H4 : Hid (Pq X w w4 pd pl q 15 (fun _ => zeros 512) (fun _ => none) 0 17 w1.heap.size 2 5 9 (upd (upd (fun _ => false) 0 true) 1 true)) := h4
  have hb4 : PAt w4 w1.heap.size 2 5 9 := H4.out.at
  have a4 := hb4.c0
  have b4 := hb4.c1
  have c4 := hb4.c2
  clear hb4 h4 H3 a3 b3 c3
  have GV : Hid (Calls Tryz.prog 16 #[.agg #[.int .i64 2, .int .i64 5, .int .i64 9], .pointer (some ⟨q, 0, none⟩), .int .i64 5] w4 fun e w' => e = .returned (.int .i64 0) ∧ Pq X w w' pd pl q 15 (fun _ => zeros 512) (fun _ => none) 0 17 w1.heap.size 2 5 9 (upd (upd (upd (fun _ => false) 0 true) 1 true) 0 false) ∧ Sm X w4 w') := pq_give 0 H4.out (by decide) rfl
  go_wp2_with fail
  refine GV.out.mono ?_
  clear GV
  rintro e w5 ⟨rfl, h5, _⟩
  have H5 : Hid (Pq X w w5 pd pl q 15 (fun _ => zeros 512) (fun _ => none) 0 17 w1.heap.size 2 5 9 (upd (upd (upd (fun _ => false) 0 true) 1 true) 0 false)) := h5
  have hb5 : PAt w5 w1.heap.size 2 5 9 := H5.out.at
  have a5 := hb5.c0
  have b5 := hb5.c1
  have c5 := hb5.c2
  clear hb5 h5 H4 a4 b4 c4
  have FR : Hid (Calls Tryz.prog 13 #[.agg #[.int .i64 2, .int .i64 5, .int .i64 9], .pointer (some ⟨q, 0, none⟩)] w5 fun e w' => e = .returned (.tuple #[.int .i64 8, .int .i64 0]) ∧ Chg (fun _ => False) w5 w') := pq_free H5.out
  go_wp2_with fail
  refine FR.out.mono ?_
  clear FR
  rintro e w6 ⟨rfl, hc6⟩
  have H6 : Hid (Pq X w w6 pd pl q 15 (fun _ => zeros 512) (fun _ => none) 0 17 w1.heap.size 2 5 9 (upd (upd (upd (fun _ => false) 0 true) 1 true) 0 false)) := H5.out.more hc6
  have hb6 : PAt w6 w1.heap.size 2 5 9 := H6.out.at
  have a6 := hb6.c0
  have b6 := hb6.c1
  have c6 := hb6.c2
  clear hb6 hc6 H5 a5 b5 c5
  have MP : Hid (Calls Tryz.prog 10 #[.agg #[.int .i64 2, .int .i64 5, .int .i64 9]] w6 fun e w' => e = .returned (.int .i64 1) ∧ w' = w6.alloc (PO 2 5 9)) := maps_yes 2 5 9 w6 (by decide) (by decide)
  have HZ : Hid (Chg (fun _ => False) w (w6.alloc (PO 2 5 9))) := H6.out.chg.trans (Chg.alloc (fun _ => False) _ _) (fun _ _ h => h)
  clear H6
  go_wp2_with fail
  refine MP.out.mono ?_
  clear MP
  rintro e w7 ⟨rfl, rfl⟩
  go_wp2
  go_ret
  exact ⟨rfl, HZ.out⟩
end Go.Proofs.YtdcmcgdalanjjaaGreat

namespace Go.Proofs.YtdcmcgdalanjjaaGreat
open Go.RowKit Go.Maps

/-- v is a slice of bools that reads ts. -/
def Bo (w : World) (v : Value) (ts : List Bool) : Prop :=
  (v = .slice none 0 0 ∧ ts = []) ∨
  ∃ a c, v = .slice (some a) ts.length c ∧ ts.length ≤ c ∧ c ≤ maxLen ∧ ∀ j, j < ts.length → w.cell? (a.add j) = some (.bool (ts.getD j false))
theorem Bo.kept {w w' : World} {v : Value} {ts : List Bool} (h : Bo w v ts) (hc : Chg (fun _ => False) w w') : Bo w' v ts := by
  rcases h with h | ⟨a, c, rfl, h1, h2, h3⟩
  · exact .inl h
  · exact .inr ⟨a, c, rfl, h1, h2, fun j hj => hc.cell (h3 j hj) (fun h => h)⟩
theorem Bo.form {w : World} {v : Value} {ts : List Bool} (h : Bo w v ts) : ∃ a c, v = .slice a ts.length c ∧ ts.length ≤ c := by
  rcases h with ⟨rfl, rfl⟩ | ⟨a, c, rfl, h1, _⟩
  · exact ⟨none, 0, rfl, Nat.le_refl _⟩
  · exact ⟨some a, c, rfl, h1⟩
theorem Bo.nth {w : World} {va : Option Addr} {ts : List Bool} {c j : Nat} (h : Bo w (.slice va ts.length c) ts) (hj : j < ts.length) : ∃ b off, va = some ⟨b, off, none⟩ ∧ ∀ i, i < ts.length → w.cell? ⟨b, off + i, none⟩ = some (.bool (ts.getD i false)) := by
  rcases h with ⟨_, rfl⟩ | ⟨x, c', e, _, _, hcell⟩
  · simp at hj
  · simp at e
    obtain ⟨rfl, _⟩ := e
    obtain ⟨b, off, spot⟩ := x
    have h0 := hcell 0 (by omega)
    have hspot : spot = none := by simpa [Addr.add] using World.cell?_spot h0
    subst hspot
    refine ⟨b, off, rfl, fun k hk => ?_⟩
    have := hcell k hk
    unfold Addr.add at this
    split at this
    · rename_i e; subst e; simpa using this
    · exact this

/-- Two pools side by side, a of the one, b of the other being taken. -/
def Ap (X : Nat → Prop) (w0 w : World) (pd pl q B1 B2 n m a b : Nat) : Prop :=
  ∃ V, Tv X w0 w pd pl q 35 (fun _ => zeros 512) (fun _ => none) 0 37 V ∧ Bt V 0 n (fun k => decide (k < a)) ∧ Bt V 1 m (fun k => decide (k < b)) ∧ PAt w B1 0 10 n ∧ PAt w B2 1 ((10 + n : Nat) : Int) m ∧ X B1 ∧ X B2 ∧ a ≤ n ∧ b ≤ m
section
variable {X : Nat → Prop} {w0 w w' : World} {pd pl q B1 B2 n m a b : Nat}
theorem upd_lt (a : Nat) (k : Nat) : upd (fun k => decide (k < a)) a true k = decide (k < a + 1) := by
  by_cases e : k = a
  · subst e; rw [upd_same]; simp
  · rw [upd_other _ _ e]; simp; omega
theorem cntT_lt (a n : Nat) (h : a ≤ n) : cntT (fun k => decide (k < a)) n = a := by
  obtain ⟨d, rfl⟩ : ∃ d, n = a + d := ⟨n - a, by omega⟩
  rw [cntT_add, cntT_all (fun k hk => by simpa using hk), cntT_none (fun k _ => by simp)]
  rfl
theorem pr1 (h1 : 1 ≤ n) (h2 : n ≤ 60) : Pr 0 10 n 35 := ⟨by decide, h1, by omega, by unfold mapsN; omega⟩
theorem pr2 (h2 : n ≤ 60) (h3 : 1 ≤ m) (h4 : m ≤ 60) : Pr 1 (10 + n) m 35 := ⟨by omega, h3, by omega, by unfold mapsN; omega⟩
theorem Ap.more (h : Ap X w0 w pd pl q B1 B2 n m a b) (hc : Chg (fun _ => False) w w') : Ap X w0 w' pd pl q B1 B2 n m a b := by
  obtain ⟨V, h1, h2, h3, h4, h5, h6⟩ := h
  exact ⟨V, h1.more hc, h2, h3, h4.kept hc (fun h => h), h5.kept hc (fun h => h), h6⟩
theorem Ap.chg (h : Ap X w0 w pd pl q B1 B2 n m a b) : Chg (fun _ => False) w0 w := by
  obtain ⟨V, h1, _⟩ := h
  exact h1.chg
theorem ap_take1 (h : Ap X w0 w pd pl q B1 B2 n m a b) (h1 : 1 ≤ n) (h2 : n ≤ 60) (_h4 : m ≤ 60) (ha : a < n) :
    Calls Tryz.prog 12 #[PV 0 10 n, .pointer (some ⟨q, 0, none⟩)] w fun e w' => e = .returned (.tuple #[.int .i64 (10 + (a : Int)), .int .i64 0]) ∧ Ap X w0 w' pd pl q B1 B2 n m (a + 1) b := by
  obtain ⟨V, t, b1, b2, p1, p2, x1, x2, la, lb⟩ := h
  rw [show 10 + (a : Int) = ((10 + a : Nat) : Int) by omega]
  refine (take_ok 0 10 n a t (pr1 h1 h2) b1 ha (by simp) (fun j hj => by simpa using hj)).mono ?_
  rintro e w' ⟨rfl, V', t', b1', he, hs⟩
  exact ⟨rfl, V', t', b1'.ext (fun k _ => upd_lt a k), b2.same (fun i _ => he _ (.inr (by unfold mapsN; omega))), p1.sm hs x1, p2.sm hs x2, x1, x2, ha, lb⟩
theorem ap_take2 (h : Ap X w0 w pd pl q B1 B2 n m a b) (h1 : 1 ≤ n) (h2 : n ≤ 60) (h3 : 1 ≤ m) (h4 : m ≤ 60) (hb : b < m) :
    Calls Tryz.prog 12 #[PV 1 ((10 + n : Nat) : Int) m, .pointer (some ⟨q, 0, none⟩)] w fun e w' => e = .returned (.tuple #[.int .i64 (10 + (n : Int) + (b : Int)), .int .i64 0]) ∧ Ap X w0 w' pd pl q B1 B2 n m a (b + 1) := by
  obtain ⟨V, t, b1, b2, p1, p2, x1, x2, la, lb⟩ := h
  rw [show 10 + (n : Int) + (b : Int) = ((10 + n + b : Nat) : Int) by omega]
  refine (take_ok 1 (10 + n) m b t (pr2 h2 h3 h4) b2 hb (by simp) (fun j hj => by simpa using hj)).mono ?_
  rintro e w' ⟨rfl, V', t', b2', he, hs⟩
  exact ⟨rfl, V', t', b1.same (fun i hi => he _ (.inl (by unfold mapsN at hi; omega))), b2'.ext (fun k _ => upd_lt b k), p1.sm hs x1, p2.sm hs x2, x1, x2, la, hb⟩
theorem ap_full1 (h : Ap X w0 w pd pl q B1 B2 n m a b) (h1 : 1 ≤ n) (h2 : n ≤ 60) (ha : ¬ a < n) :
    Calls Tryz.prog 12 #[PV 0 10 n, .pointer (some ⟨q, 0, none⟩)] w fun e w' => e = .returned (.tuple #[.int .i64 0, .int .i64 7]) ∧ Ap X w0 w' pd pl q B1 B2 n m a b := by
  have h' := h
  obtain ⟨V, t, b1, b2, p1, p2, x1, x2, la, lb⟩ := h
  refine (take_full 0 10 n t (pr1 h1 h2) b1 (fun j hj => by simp; omega)).mono ?_
  rintro e w' ⟨rfl, hc⟩
  exact ⟨rfl, h'.more hc⟩
theorem ap_full2 (h : Ap X w0 w pd pl q B1 B2 n m a b) (h2 : n ≤ 60) (h3 : 1 ≤ m) (h4 : m ≤ 60) (hb : ¬ b < m) :
    Calls Tryz.prog 12 #[PV 1 ((10 + n : Nat) : Int) m, .pointer (some ⟨q, 0, none⟩)] w fun e w' => e = .returned (.tuple #[.int .i64 0, .int .i64 7]) ∧ Ap X w0 w' pd pl q B1 B2 n m a b := by
  have h' := h
  obtain ⟨V, t, b1, b2, p1, p2, x1, x2, la, lb⟩ := h
  refine (take_full 1 (10 + n) m t (pr2 h2 h3 h4) b2 (fun j hj => by simp; omega)).mono ?_
  rintro e w' ⟨rfl, hc⟩
  exact ⟨rfl, h'.more hc⟩
theorem ap_free1 (h : Ap X w0 w pd pl q B1 B2 n m a b) (h1 : 1 ≤ n) (h2 : n ≤ 60) :
    Calls Tryz.prog 13 #[PV 0 10 n, .pointer (some ⟨q, 0, none⟩)] w fun e w' => e = .returned (.tuple #[.int .i64 ((n : Int) - (a : Int)), .int .i64 0]) ∧ Ap X w0 w' pd pl q B1 B2 n m a b := by
  have h' := h
  obtain ⟨V, t, b1, b2, p1, p2, x1, x2, la, lb⟩ := h
  have := free_ok 0 10 n t (pr1 h1 h2) b1
  rw [cntT_lt a n la] at this
  rw [show (n : Int) - (a : Int) = ((n - a : Nat) : Int) by omega]
  refine this.mono ?_
  rintro e w' ⟨rfl, hc⟩
  exact ⟨rfl, h'.more hc⟩
theorem ap_free2 (h : Ap X w0 w pd pl q B1 B2 n m a b) (h2 : n ≤ 60) (h3 : 1 ≤ m) (h4 : m ≤ 60) :
    Calls Tryz.prog 13 #[PV 1 ((10 + n : Nat) : Int) m, .pointer (some ⟨q, 0, none⟩)] w fun e w' => e = .returned (.tuple #[.int .i64 ((m : Int) - (b : Int)), .int .i64 0]) ∧ Ap X w0 w' pd pl q B1 B2 n m a b := by
  have h' := h
  obtain ⟨V, t, b1, b2, p1, p2, x1, x2, la, lb⟩ := h
  have := free_ok 1 (10 + n) m t (pr2 h2 h3 h4) b2
  rw [cntT_lt b m lb] at this
  rw [show (m : Int) - (b : Int) = ((m - b : Nat) : Int) by omega]
  refine this.mono ?_
  rintro e w' ⟨rfl, hc⟩
  exact ⟨rfl, h'.more hc⟩
theorem Ap.at1 (h : Ap X w0 w pd pl q B1 B2 n m a b) : PAt w B1 0 10 n := by obtain ⟨V, t, b1, b2, p1, p2, _⟩ := h; exact p1
theorem Ap.at2 (h : Ap X w0 w pd pl q B1 B2 n m a b) : PAt w B2 1 ((10 + n : Nat) : Int) m := by obtain ⟨V, t, b1, b2, p1, p2, _⟩ := h; exact p2
theorem Ap.le (h : Ap X w0 w pd pl q B1 B2 n m a b) : a ≤ n ∧ b ≤ m := by obtain ⟨V, t, b1, b2, p1, p2, x1, x2, la, lb⟩ := h; exact ⟨la, lb⟩
/-- Clear of both: the beginning. -/
theorem ap_start (h : Tv X w0 w pd pl q 35 (fun _ => zeros 512) (fun _ => none) 0 37 (fun _ => zeros 512)) (p1 : PAt w B1 0 10 n) (p2 : PAt w B2 1 ((10 + n : Nat) : Int) m) (x1 : X B1) (x2 : X B2) (h1 : 1 ≤ n) (h2 : n ≤ 60) (h3 : 1 ≤ m) (h4 : m ≤ 60) :
    Calls Tryz.prog 15 #[PV 0 10 n, .pointer (some ⟨q, 0, none⟩)] w fun e w1 => e = .returned (.int .i64 0) ∧ PAt w1 B2 1 ((10 + n : Nat) : Int) m ∧ Hid (Calls Tryz.prog 15 #[PV 1 ((10 + n : Nat) : Int) m, .pointer (some ⟨q, 0, none⟩)] w1 fun e w2 => e = .returned (.int .i64 0) ∧ Hid (Ap X w0 w2 pd pl q B1 B2 n m 0 0)) := by
  refine (pclear_ok 0 10 n h (pr1 h1 h2)).mono ?_
  rintro e w1 ⟨rfl, V1, t1, b1, e1, s1⟩
  refine ⟨rfl, p2.sm s1 x2, (pclear_ok 1 (10 + n) m t1 (pr2 h2 h3 h4)).mono ?_⟩
  rintro e w2 ⟨rfl, V2, t2, b2, e2, s2⟩
  exact ⟨rfl, V2, t2, (b1.same (fun i hi => e2 _ (.inl (by unfold mapsN at hi; omega)))).ext (fun k _ => by simp), b2.ext (fun k _ => by simp), (p1.sm s1 x1).sm s2 x1, (p2.sm s1 x2).sm s2 x2, x1, x2, Nat.zero_le _, Nat.zero_le _⟩
end

end Go.Proofs.YtdcmcgdalanjjaaGreat

/-
  What Free of a pool that is right does.
-/
import Derived.Test.YtdcmcgdalanjjaaGreatAGive
namespace Go.Proofs.YtdcmcgdalanjjaaGreat
open Go.RowKit Go.Maps

section
variable {X Y : Nat → Prop} {w0 w w1 ws : World} {pd pl q K : Nat} {f : Nat → List Int} {com : Nat → Option (List Int)} {pend N : Nat} {V : Nat → List Int} {T : Nat → Bool}
/-- A number in a box. -/
def IntAt (w : World) (E : Nat) (x : Int) : Prop := w.heap[E]? = some (.cells #[.int .i64 x] 3 (0, 0))
set_option maxHeartbeats 3200000 in
theorem free1_any (M F n i B D E : Nat) (x y : Int) (h : Tv X w0 w pd pl q K f com pend N V) (hc : Cap w B D M F n q) (he : IntAt w E x) (_hBE : B ≠ E) (_hDE : D ≠ E) (hb : Bt V M n T) (hp : Pr M F n K) (hi : i < mapsN n) (hx : 0 ≤ x ∧ x ≤ 16384) (hy : x - (cnt (V (M + i)) 0 (sizeN n i) : Int) = y) :
    Calls Tryz.prog 39 #[.int .i64 (i : Int), .pointer (some ⟨B, 0, none⟩), .pointer (some ⟨D, 0, none⟩), .pointer (some ⟨E, 0, none⟩)] w fun e w' => e = .returned (.int .i64 0) ∧ Chg (fun b => b = E) w w' ∧ IntAt w' E y := by
  have hin := hp.in'
  have hElt : E < w.heap.size := lt_of_block he
  have PT : Hid (Calls Tryz.prog 33 #[PV M F n, .pointer (some ⟨q, 0, none⟩), .int .i64 (i : Int)] w fun e w2 => ∃ u, e = .returned (.tuple #[u, .int .i64 0]) ∧ Chg (fun _ => False) w w2 ∧ Hid (Bs w2 u (V (M + i)))) := by
    refine (part_any M i F n h (by omega)).mono ?_
    rintro e w2 ⟨u, g, rfl, hu⟩
    exact ⟨u, rfl, hu.chg, hu.mp.bs⟩
  have SZ : Hid (∀ w : World, Calls Tryz.prog 35 #[PV M F n, .int .i64 (i : Int)] w fun e w' => e = .returned (.int .i64 (sizeN n i : Int)) ∧ w' = w.alloc (PO M F n)) := fun w => size_any M F n i w hp.one hp.top hi
  have hxs := hb.by' i hi
  have CT : Hid (∀ (u : Value) (w : World), Bs w u (V (M + i)) → Calls Tryz.prog 40 #[u, .int .i64 0, .int .i64 (sizeN n i : Int)] w fun e w' => e = .returned (.int .i64 (cnt (V (M + i)) 0 (sizeN n i) : Int)) ∧ ∃ n, w' = w.drewN n) := fun u w hu => by
    have := count_any u (V (M + i)) 0 (sizeN n i : Int) w hu hxs.1 (by rw [hxs.2]; omega) (by omega)
    unfold cntI at this
    rw [hiB_size hxs.2, show loB 0 = 0 from rfl, Nat.sub_zero] at this
    exact this
  have hcl := cnt_le (V (M + i)) 0 (sizeN n i)
  have hsl := sizeN_le n i
  generalize cnt (V (M + i)) 0 (sizeN n i) = c at *
  generalize sizeN n i = z at *
  have wr : IntKind.i64.wrap (x - (c : Int)) = y := by rw [IntKind.wrap_i64]; omega
  have wr2 : IntKind.i64.wrap y = y := by rw [IntKind.wrap_i64]; omega
  have p0 := hc.p.c0
  have p1 := hc.p.c1
  have p2 := hc.p.c2
  have p3 := hc.t
  have HCAP : Hid (Cap w B D M F n q) := hc
  have HEE : Hid (IntAt w E x) := he
  clear h hc he hb hp hin hi hxs hcl hsl
  unfold PV PO at *
  go_enter Tryz.func39, Tryz.ntmps39
  go_wp2_with fail
  refine PT.out.mono ?_
  clear PT
  rintro e w2 ⟨u, rfl, c2, HB⟩
  have k2 := HCAP.out.kept c2 (fun h => h) (fun h => h)
  have e2 : IntAt w2 E x := (c2.block E hElt (fun h => h)).trans HEE.out
  have HC2 : Hid (Chg (fun _ => False) w w2) := c2
  have hE2 : E < w2.heap.size := lt_of_block e2
  have ka := fun o => k2.kept (Chg.alloc (fun _ => False) w2 o) (fun h => h) (fun h => h)
  have ea : ∀ o, IntAt (w2.alloc o) E x := fun o => ((Chg.alloc (fun _ => False) w2 o).block E hE2 (fun h => h)).trans e2
  have q0 := k2.p.c0
  have q1 := k2.p.c1
  have q2 := k2.p.c2
  have x0 := cell_of_one e2
  have x1 := fun o => cell_of_one (ea o)
  have x2 := fun o => free_of_one (ea o)
  have EA : Hid (∀ o, IntAt (w2.alloc o) E x) := ea
  clear p0 p1 p2 p3 c2 k2 ka ea e2
  have CTT : Hid (∀ w', (∃ k o, w' = (w2.alloc o).drewN k) → Calls Tryz.prog 40 #[u, .int .i64 0, .int .i64 (z : Int)] w' fun e w'' => e = .returned (.int .i64 (c : Int)) ∧ ∃ k o, w'' = (w2.alloc o).drewN k) := fun w' hw' => by
    obtain ⟨k, o, rfl⟩ := hw'
    refine (CT.out u _ ((HB.out.kept (Chg.alloc (fun _ => False) w2 o) (fun _ _ _ _ _ h => h)).drewN k)).mono ?_
    rintro e w'' ⟨rfl, k', rfl⟩
    exact ⟨rfl, k + k', o, by rw [World.drewN_drewN]⟩
  go_wp2_with fail
  go_region_with (first | (go_at_call 35; refine (SZ.out _).mono ?_; rintro e w3 ⟨rfl, rfl⟩) | (go_at_call 40; refine (CTT.out _ ⟨1, _, rfl⟩).mono ?_; rintro e w3 ⟨rfl, k, o, rfl⟩))
  all_goals
    go_wp2
    go_ret
    exact ⟨rfl, ((HC2.out.mono (fun _ _ h => h.elim)).trans (Chg.alloc (fun b => b = E) w2 o) (fun _ _ h => h)).trans ((Chg.drewN (fun b => b = E) _ k).trans (Chg.setCell (S := fun b => b = E) _ ⟨E, 0, none⟩ _ rfl) (fun _ _ h => h)) (fun _ _ h => h), one_setCell (EA.out o)⟩
set_option maxHeartbeats 1600000 in
theorem free_ok (M F n : Nat) (h : Tv X w0 w pd pl q K f com pend N V) (hp : Pr M F n K) (hb : Bt V M n T) :
    Calls Tryz.prog 13 #[PV M F n, .pointer (some ⟨q, 0, none⟩)] w fun e w' => e = .returned (.tuple #[.int .i64 ((n - cntT T n : Nat) : Int), .int .i64 0]) ∧ Chg (fun _ => False) w w' := by
  have hmf : ∀ (fn : Fn) (first cap : Array Value) (w : World), (Instr.makeFunc fn first cap).run Tryz.prog w = .ok (.func fn first cap) w := fun _ _ _ _ => rfl
  have cb := boxes_chg w M F n q
  have h1 := h.more cb
  have c1 := Cap.box w M F n q
  have ST : Hid (Calls Tryz.prog 32 #[PV M F n, .pointer (some ⟨q, 0, none⟩)] ((w.alloc (PO M F n)).alloc (TO q)) fun e w2 => e = .returned (.int .i64 0) ∧ Chg (fun _ => False) ((w.alloc (PO M F n)).alloc (TO q)) w2) := stands_ok M F n h1 hp.f hp.one hp.top hp.in'
  have EA : Hid (∀ w3 : World, ∀ E, w.heap.size + 2 ≤ E → Chg (fun _ => False) w w3 → Cap w3 w.heap.size (w.heap.size + 1) M F n q → IntAt w3 E n →
      Calls Tryz.prog 38 #[PV M F n, .func (.func 39) #[] #[.pointer (some ⟨w.heap.size, 0, none⟩), .pointer (some ⟨w.heap.size + 1, 0, none⟩), .pointer (some ⟨E, 0, none⟩)]] w3 fun e w' => e = .returned (.int .i64 0) ∧ w'.cell? ⟨E, 0, none⟩ = some (.int .i64 ((n - cntT T n : Nat) : Int)) ∧ Hid (Chg (fun _ => False) w w')) := fun w3 E hE c3 k3 i3 => by
    have hn := hp.top
    have hone := hp.one
    have hElt : E < w3.heap.size := lt_of_block i3
    refine (each_free M F n w.heap.size (w.heap.size + 1) E (fun i w' => Chg (fun b => b = E) w3 w' ∧ IntAt w' E ((n : Int) - (cntT T (min n (i * 4096)) : Int))) w3 hone hn ⟨Chg.refl _ _, ?_⟩ (fun w' hc => ⟨hc.mono (fun _ _ h => h.elim), ?_⟩) ?_).mono ?_
    · simpa [cntT] using i3
    · have e : IntAt w' E n := (hc.block E hElt (fun h => h)).trans i3
      simpa [cntT] using e
    · rintro i w' hi ⟨hc, hx⟩
      have hcw : Chg (fun _ => False) w w' := c3.trans hc (fun b hb e => by omega)
      have hstep := hb.cnt hi hone
      have hle := cntT_le T (min n (i * 4096))
      have hle2 := cntT_le T (min n ((i + 1) * 4096))
      have m1 : min n (i * 4096) ≤ n := Nat.min_le_left _ _
      refine (free1_any M F n i _ _ E _ ((n : Int) - (cntT T (min n ((i + 1) * 4096)) : Int)) (h.more hcw) (k3.kept hc (by omega) (by omega)) hx (by omega) (by omega) hb hp hi (by omega) (by omega)).mono ?_
      rintro e w'' ⟨rfl, hc2, hx2⟩
      exact ⟨rfl, hc.trans hc2 (fun _ _ h => h), hx2⟩
    · rintro e w' ⟨rfl, hc, hx⟩
      have e1 : min n (mapsN n * 4096) = n := by unfold mapsN; omega
      rw [e1] at hx
      have hle := cntT_le T n
      have e2 : ((n - cntT T n : Nat) : Int) = (n : Int) - (cntT T n : Int) := by omega
      rw [e2]
      exact ⟨rfl, cell_of_one hx, c3.trans hc (fun b hb e => by omega)⟩
  have p0 := c1.p.c0
  have p1 := c1.p.c1
  have p2 := c1.p.c2
  have p3 := c1.t
  have CB : Hid (Chg (fun _ => False) w ((w.alloc (PO M F n)).alloc (TO q))) := cb
  generalize n - cntT T n = res at *
  clear h h1 hp cb hb
  have hsz : ((w.alloc (PO M F n)).alloc (TO q)).heap.size = w.heap.size + 2 := by simp
  unfold PV PO TO at *
  go_enter Tryz.func13, Tryz.ntmps13
  go_wp2_with fail
  refine ST.out.mono ?_
  clear ST
  rintro e w2 ⟨rfl, hc2⟩
  have c2 := c1.kept hc2 (fun h => h) (fun h => h)
  have q0 := c2.p.c0
  have q1 := c2.p.c1
  have q2 := c2.p.c2
  have q3 := c2.t
  have hs2 : w.heap.size + 2 ≤ w2.heap.size := by have := hc2.size; omega
  have HC2 : Hid (Chg (fun _ => False) w w2) := CB.out.trans hc2 (fun _ _ h => h)
  have K2 : Hid (Cap w2 w.heap.size (w.heap.size + 1) M F n q) := c2
  have ka := fun o => c2.kept (Chg.alloc (fun _ => False) w2 o) (fun h => h) (fun h => h)
  have r0 := fun o => (ka o).p.c0
  have r1 := fun o => (ka o).p.c1
  have r2 := fun o => (ka o).p.c2
  have EB : Hid _ := EA.out (w2.alloc (.cells #[.int .i64 (n : Int)] 3)) w2.heap.size hs2 (HC2.out.trans (Chg.alloc (fun _ => False) w2 _) (fun _ _ h => h)) (ka _) (heap_alloc_new _ _)
  clear hc2 c1 c2 p0 p1 p2 p3 CB hsz ka EA
  go_wp2_with fail
  refine (show Calls _ _ _ _ _ from EB.out).mono ?_
  clear EB
  rintro e w4 ⟨rfl, hx4, HC4⟩
  go_wp2
  go_ret2
  exact ⟨rfl, HC4.out⟩
end
end Go.Proofs.YtdcmcgdalanjjaaGreat

namespace Go.Proofs.YtdcmcgdalanjjaaGreat
open Go.RowKit Go.Maps

theorem eqL_some (a : Addr) (w : World) : (binOp .eql 26 (.pointer (some a)) (.pointer none)).run Tryz.prog w = .ok (.bool false) w := by kernel_rfl
theorem eqT_some (a : Addr) (w : World) : (binOp .eql 27 (.pointer (some a)) (.pointer none)).run Tryz.prog w = .ok (.bool false) w := by kernel_rfl
theorem Nw.ofNew {w w' : World} {F : Nat → Prop} (hc : Chg (fun _ => False) w w') (hF : ∀ b, F b → w.heap.size ≤ b) : Nw (fun b => b < w.heap.size) w w' F (fun _ => False) :=
  ⟨hc, hF, fun _ h => h.elim, fun b hb => ⟨by have := hc.size; omega, fun hf => by have := hF b hf; omega, fun h => h⟩⟩

set_option maxHeartbeats 1600000 in
/-- made: a log of K blocks, and its transaction. -/
theorem made_any (K : Nat) (w : World) (h1 : 1 ≤ K) (h2 : K ≤ 62) : Calls Tryz.prog 6 #[.int .i64 ((K + 65 : Nat) : Int)] w fun e w' => ∃ pd pl q, e = .returned (.tuple #[.pointer (some ⟨pl, 0, none⟩), .pointer (some ⟨q, 0, none⟩)]) ∧ TxUp (fun b => b < w.heap.size) w w' pd pl q K (fun _ => zeros 512) (fun _ => none) 0 true (fun _ => none) 0 (K + 2) := by
  have hn : K + 65 ≤ 127 := by omega
  obtain ⟨nb, hnb⟩ : ∃ nb, K + 65 = nb := ⟨_, rfl⟩
  rw [hnb]
  have HNB : Hid (K + 65 = nb) := hnb
  rw [hnb] at hn
  have h3 : 1 ≤ nb := by omega
  clear hnb
  go_enter Tryz.func6, Tryz.ntmps6
  go_wp2_with fail
  refine (new_ok nb w h3 (by omega)).mono ?_
  rintro e w1 ⟨F, p, rfl, hd, hc1, hF⟩
  have H1 : Hid (Dk w1 F p (St.new nb) ∧ Nw (fun b => b < w.heap.size) w w1 F (fun _ => False)) := ⟨hd, Nw.ofNew hc1 hF⟩
  clear hd hc1 hF
  go_wp2_with fail
  refine (format_up (N := K + 2) (K := K) F (St.new nb) H1.out.1 H1.out.2 (fun _ => rfl) HNB.out.symm h1 rfl (by show (0 : Int) < 1; decide) (by show 0 + K + 2 ≤ K + 2; omega) (by omega)).mono ?_
  rintro e w2 ⟨pl, rfl, h2', _⟩
  have H2 : Hid (LogUp (fun b => b < w.heap.size) w w2 p pl K (fun _ => zeros 512) (fun _ => none) 0 (K + 2)) := h2'
  clear h2' H1
  have hq := eqL_some ⟨pl, 0, none⟩
  go_wp2_with fail
  refine (begin_up H2.out).mono ?_
  rintro e w3 ⟨q, rfl, h3', _⟩
  have H3 : Hid (TxUp (fun b => b < w.heap.size) w w3 p pl q K (fun _ => zeros 512) (fun _ => none) 0 true (fun _ => none) 0 (K + 2)) := h3'
  clear h3' H2
  go_wp2
  go_ret2
  exact ⟨p, pl, q, rfl, H3.out⟩

/-- A pool that lies at B, and which of its numbers are taken. -/
def Pq (X : Nat → Prop) (w0 w : World) (pd pl q K : Nat) (f : Nat → List Int) (com : Nat → Option (List Int)) (pend N B M F n : Nat) (T : Nat → Bool) : Prop :=
  ∃ V, Tv X w0 w pd pl q K f com pend N V ∧ Bt V M n T ∧ PAt w B M F n ∧ X B ∧ Pr M F n K
section
variable {X : Nat → Prop} {w0 w w' : World} {pd pl q K B M F n : Nat} {f : Nat → List Int} {com : Nat → Option (List Int)} {pend N : Nat} {T : Nat → Bool}
theorem Pq.more (h : Pq X w0 w pd pl q K f com pend N B M F n T) (hc : Chg (fun _ => False) w w') : Pq X w0 w' pd pl q K f com pend N B M F n T := by
  obtain ⟨V, h1, h2, h3, h4⟩ := h
  exact ⟨V, h1.more hc, h2, h3.kept hc (fun h => h), h4⟩
theorem Pq.chg (h : Pq X w0 w pd pl q K f com pend N B M F n T) : Chg (fun _ => False) w0 w := by
  obtain ⟨V, h1, _⟩ := h
  exact h1.chg
theorem Pq.at (h : Pq X w0 w pd pl q K f com pend N B M F n T) : PAt w B M F n := by
  obtain ⟨V, _, _, h3, _⟩ := h
  exact h3
theorem Pq.ext (h : Pq X w0 w pd pl q K f com pend N B M F n T) {U : Nat → Bool} (e : ∀ k, k < n → T k = U k) : Pq X w0 w pd pl q K f com pend N B M F n U := by
  obtain ⟨V, h1, h2, h3⟩ := h
  exact ⟨V, h1, h2.ext e, h3⟩
theorem PTo.pq {V : Nat → List Int} (h : PTo X w0 w pd pl q K f com pend N V M n T w') (ha : PAt w B M F n) (hx : X B) (hp : Pr M F n K) : Pq X w0 w' pd pl q K f com pend N B M F n T ∧ Sm X w w' := by
  obtain ⟨V', h1, h2, _, h4⟩ := h
  exact ⟨⟨V', h1, h2, ha.sm h4 hx, hx, hp⟩, h4⟩
theorem pq_take (k : Nat) (h : Pq X w0 w pd pl q K f com pend N B M F n T) (hk : k < n) (hT : T k = false) (hall : ∀ j, j < k → T j = true) :
    Calls Tryz.prog 12 #[PV M F n, .pointer (some ⟨q, 0, none⟩)] w fun e w' => e = .returned (.tuple #[.int .i64 ((F + k : Nat) : Int), .int .i64 0]) ∧ Pq X w0 w' pd pl q K f com pend N B M F n (upd T k true) ∧ Sm X w w' := by
  obtain ⟨V, h1, h2, h3, h4, h5⟩ := h
  refine (take_ok M F n k h1 h5 h2 hk hT hall).mono ?_
  rintro e w' ⟨rfl, ht⟩
  exact ⟨rfl, ht.pq h3 h4 h5⟩
theorem pq_full (h : Pq X w0 w pd pl q K f com pend N B M F n T) (hall : ∀ j, j < n → T j = true) :
    Calls Tryz.prog 12 #[PV M F n, .pointer (some ⟨q, 0, none⟩)] w fun e w' => e = .returned (.tuple #[.int .i64 0, .int .i64 7]) ∧ Chg (fun _ => False) w w' := by
  obtain ⟨V, h1, h2, h3, h4, h5⟩ := h
  exact take_full M F n h1 h5 h2 hall
theorem pq_give (k : Nat) (h : Pq X w0 w pd pl q K f com pend N B M F n T) (hk : k < n) (hT : T k = true) :
    Calls Tryz.prog 16 #[PV M F n, .pointer (some ⟨q, 0, none⟩), .int .i64 ((F + k : Nat) : Int)] w fun e w' => e = .returned (.int .i64 0) ∧ Pq X w0 w' pd pl q K f com pend N B M F n (upd T k false) ∧ Sm X w w' := by
  obtain ⟨V, h1, h2, h3, h4, h5⟩ := h
  refine (give_ok M F n k h1 h5 h2 hk hT).mono ?_
  rintro e w' ⟨rfl, ht⟩
  exact ⟨rfl, ht.pq h3 h4 h5⟩
theorem pq_give_free (k : Nat) (h : Pq X w0 w pd pl q K f com pend N B M F n T) (hk : k < n) (hT : T k = false) :
    Calls Tryz.prog 16 #[PV M F n, .pointer (some ⟨q, 0, none⟩), .int .i64 ((F + k : Nat) : Int)] w fun e w' => e = .returned (.int .i64 1) ∧ Chg (fun _ => False) w w' := by
  obtain ⟨V, h1, h2, h3, h4, h5⟩ := h
  exact give_free M F n k h1 h5 h2 hk hT
theorem pq_free (h : Pq X w0 w pd pl q K f com pend N B M F n T) :
    Calls Tryz.prog 13 #[PV M F n, .pointer (some ⟨q, 0, none⟩)] w fun e w' => e = .returned (.tuple #[.int .i64 ((n - cntT T n : Nat) : Int), .int .i64 0]) ∧ Chg (fun _ => False) w w' := by
  obtain ⟨V, h1, h2, h3, h4, h5⟩ := h
  exact free_ok M F n h1 h5 h2
/-- Clear of a pool that was laid: whatever the blocks were. -/
theorem tv_clear {V : Nat → List Int} (h : Tv X w0 w pd pl q K f com pend N V) (ha : PAt w B M F n) (hx : X B) (hp : Pr M F n K) :
    Calls Tryz.prog 15 #[PV M F n, .pointer (some ⟨q, 0, none⟩)] w fun e w' => e = .returned (.int .i64 0) ∧ Pq X w0 w' pd pl q K f com pend N B M F n (fun _ => false) ∧ Sm X w w' := by
  refine (pclear_ok M F n h hp).mono ?_
  rintro e w' ⟨rfl, ht⟩
  exact ⟨rfl, ht.pq ha hx hp⟩
end

set_option maxHeartbeats 3200000 in
set_option maxRecDepth 100000 in
theorem known_any (w : World) : Calls Tryz.prog 5 #[] w fun e w' => e = .returned (.bool true) ∧ Chg (fun _ => False) w w' := by
  have MD : Hid (Calls Tryz.prog 6 #[.int .i64 80] w fun e w' => ∃ pd pl q, e = .returned (.tuple #[.pointer (some ⟨pl, 0, none⟩), .pointer (some ⟨q, 0, none⟩)]) ∧ TxUp (fun b => b < w.heap.size) w w' pd pl q 15 (fun _ => zeros 512) (fun _ => none) 0 true (fun _ => none) 0 17) := made_any 15 w (by decide) (by decide)
  go_enter Tryz.func5, Tryz.ntmps5
  go_wp2_with fail
  refine MD.out.mono ?_
  clear MD
  rintro e w1 ⟨pd, pl, q, rfl, h1⟩
  have hv := (Tv.start h1 (by decide) (by decide)).add (Chg.alloc (fun _ => False) w1 (PO 2 5 9))
  have hbx := PAt.box w1 2 5 9
  have CL : Hid (Calls Tryz.prog 15 #[PV 2 5 9, .pointer (some ⟨q, 0, none⟩)] (w1.alloc (PO 2 5 9)) fun e w' => e = .returned (.int .i64 0) ∧ Pq _ w w' pd pl q 15 _ _ 0 17 w1.heap.size 2 5 9 (fun _ => false) ∧ Sm _ _ w') := tv_clear hv hbx (box_in _ _ _) ⟨by decide, by decide, by decide, by decide⟩
  obtain ⟨X, hX⟩ : ∃ X, addX (fun b => b < w.heap.size) w1.heap.size (w1.alloc (PO 2 5 9)).heap.size = X := ⟨_, rfl⟩
  rw [hX] at CL
  have p0 := hbx.c0
  have p1 := hbx.c1
  have p2 := hbx.c2
  clear hv h1 hX hbx
  unfold PV PO at *
  have hq := eqT_some ⟨q, 0, none⟩
  go_wp2_with fail
  refine CL.out.mono ?_
  clear CL
  rintro e w2 ⟨rfl, h2, _⟩
  have H2 : Hid (Pq X w w2 pd pl q 15 (fun _ => zeros 512) (fun _ => none) 0 17 w1.heap.size 2 5 9 (fun _ => false)) := h2
  have hb2 : PAt w2 w1.heap.size 2 5 9 := H2.out.at
  have a2 := hb2.c0
  have b2 := hb2.c1
  have c2 := hb2.c2
  clear hb2 h2 p0 p1 p2
  have TK : Hid (Calls Tryz.prog 12 #[.agg #[.int .i64 2, .int .i64 5, .int .i64 9], .pointer (some ⟨q, 0, none⟩)] w2 fun e w' => e = .returned (.tuple #[.int .i64 5, .int .i64 0]) ∧ Pq X w w' pd pl q 15 (fun _ => zeros 512) (fun _ => none) 0 17 w1.heap.size 2 5 9 (upd (fun _ => false) 0 true) ∧ Sm X w2 w') := pq_take 0 H2.out (by decide) rfl (fun j hj => by omega)
  go_wp2_with fail
  refine TK.out.mono ?_
  clear TK
  rintro e w3 ⟨rfl, h3, _⟩
  have H3 : Hid (Pq X w w3 pd pl q 15 (fun _ => zeros 512) (fun _ => none) 0 17 w1.heap.size 2 5 9 (upd (fun _ => false) 0 true)) := h3
  have hb3 : PAt w3 w1.heap.size 2 5 9 := H3.out.at
  have a3 := hb3.c0
  have b3 := hb3.c1
  have c3 := hb3.c2
  clear hb3 h3 H2 a2 b2 c2
  have TK : Hid (Calls Tryz.prog 12 #[.agg #[.int .i64 2, .int .i64 5, .int .i64 9], .pointer (some ⟨q, 0, none⟩)] w3 fun e w' => e = .returned (.tuple #[.int .i64 6, .int .i64 0]) ∧ Pq X w w' pd pl q 15 (fun _ => zeros 512) (fun _ => none) 0 17 w1.heap.size 2 5 9 (upd (upd (fun _ => false) 0 true) 1 true) ∧ Sm X w3 w') := pq_take 1 H3.out (by decide) rfl (fun j hj => by rw [show j = 0 by omega]; rfl)
  go_wp2_with fail
  refine TK.out.mono ?_
  clear TK
  rintro e w4 ⟨rfl, h4, _⟩
  have H4 : Hid (Pq X w w4 pd pl q 15 (fun _ => zeros 512) (fun _ => none) 0 17 w1.heap.size 2 5 9 (upd (upd (fun _ => false) 0 true) 1 true)) := h4
  have hb4 : PAt w4 w1.heap.size 2 5 9 := H4.out.at
  have a4 := hb4.c0
  have b4 := hb4.c1
  have c4 := hb4.c2
  clear hb4 h4 H3 a3 b3 c3
  have GV : Hid (Calls Tryz.prog 16 #[.agg #[.int .i64 2, .int .i64 5, .int .i64 9], .pointer (some ⟨q, 0, none⟩), .int .i64 5] w4 fun e w' => e = .returned (.int .i64 0) ∧ Pq X w w' pd pl q 15 (fun _ => zeros 512) (fun _ => none) 0 17 w1.heap.size 2 5 9 (upd (upd (upd (fun _ => false) 0 true) 1 true) 0 false) ∧ Sm X w4 w') := pq_give 0 H4.out (by decide) rfl
  go_wp2_with fail
  refine GV.out.mono ?_
  clear GV
  rintro e w5 ⟨rfl, h5, _⟩
  have H5 : Hid (Pq X w w5 pd pl q 15 (fun _ => zeros 512) (fun _ => none) 0 17 w1.heap.size 2 5 9 (upd (upd (upd (fun _ => false) 0 true) 1 true) 0 false)) := h5
  have hb5 : PAt w5 w1.heap.size 2 5 9 := H5.out.at
  have a5 := hb5.c0
  have b5 := hb5.c1
  have c5 := hb5.c2
  clear hb5 h5 H4 a4 b4 c4
  have FR : Hid (Calls Tryz.prog 13 #[.agg #[.int .i64 2, .int .i64 5, .int .i64 9], .pointer (some ⟨q, 0, none⟩)] w5 fun e w' => e = .returned (.tuple #[.int .i64 8, .int .i64 0]) ∧ Chg (fun _ => False) w5 w') := pq_free H5.out
  go_wp2_with fail
  refine FR.out.mono ?_
  clear FR
  rintro e w6 ⟨rfl, hc6⟩
  have H6 : Hid (Pq X w w6 pd pl q 15 (fun _ => zeros 512) (fun _ => none) 0 17 w1.heap.size 2 5 9 (upd (upd (upd (fun _ => false) 0 true) 1 true) 0 false)) := H5.out.more hc6
  have hb6 : PAt w6 w1.heap.size 2 5 9 := H6.out.at
  have a6 := hb6.c0
  have b6 := hb6.c1
  have c6 := hb6.c2
  clear hb6 hc6 H5 a5 b5 c5
  have MP : Hid (Calls Tryz.prog 10 #[.agg #[.int .i64 2, .int .i64 5, .int .i64 9]] w6 fun e w' => e = .returned (.int .i64 1) ∧ w' = w6.alloc (PO 2 5 9)) := maps_yes 2 5 9 w6 (by decide) (by decide)
  have HZ : Hid (Chg (fun _ => False) w (w6.alloc (PO 2 5 9))) := H6.out.chg.trans (Chg.alloc (fun _ => False) _ _) (fun _ _ h => h)
  clear H6
  go_wp2_with fail
  refine MP.out.mono ?_
  clear MP
  rintro e w7 ⟨rfl, rfl⟩
  go_wp2
  go_ret
  exact ⟨rfl, HZ.out⟩
end Go.Proofs.YtdcmcgdalanjjaaGreat

namespace Go.Proofs.YtdcmcgdalanjjaaGreat
open Go.RowKit Go.Maps

/-- A row of n bools at the head of block g. -/
def Br (w : World) (g n : Nat) (R : Nat → Bool) : Prop := ∃ cs ty, w.heap[g]? = some (.cells cs ty (0, 0)) ∧ cs.size = n ∧ ∀ j, j < n → cs[j]? = some (.bool (R j))
theorem Br.cell {w : World} {g n : Nat} {R : Nat → Bool} (h : Br w g n R) {j : Nat} (hj : j < n) : w.cell? ⟨g, j, none⟩ = some (.bool (R j)) ∧ w.frozen? ⟨g, j, none⟩ = false := by
  obtain ⟨cs, ty, h1, h2, h3⟩ := h
  exact ⟨by simp [World.cell?, h1, h3 j hj], by simp [World.frozen?, h1]⟩
theorem Br.kept {S : Nat → Prop} {w w' : World} {g n : Nat} {R : Nat → Bool} (h : Br w g n R) (hc : Chg S w w') (hl : g < w.heap.size) (hS : ¬ S g) : Br w' g n R := by
  obtain ⟨cs, ty, h1, h2⟩ := h
  exact ⟨cs, ty, (hc.block g hl hS).trans h1, h2⟩
theorem Br.lt {w : World} {g n : Nat} {R : Nat → Bool} (h : Br w g n R) : g < w.heap.size := by
  obtain ⟨cs, ty, h1, h2⟩ := h
  exact lt_of_block h1
theorem Br.sm {X : Nat → Prop} {w w' : World} {g n : Nat} {R : Nat → Bool} (h : Br w g n R) (hs : Sm X w w') (hx : X g) : Br w' g n R := by
  obtain ⟨cs, ty, h1, h2⟩ := h
  exact ⟨cs, ty, (hs g hx).trans h1, h2⟩
theorem Br.ext {w : World} {g n : Nat} {R R' : Nat → Bool} (h : Br w g n R) (e : ∀ j, j < n → R j = R' j) : Br w g n R' := by
  obtain ⟨cs, ty, h1, h2, h3⟩ := h
  exact ⟨cs, ty, h1, h2, fun j hj => by rw [h3 j hj, e j hj]⟩
theorem Br.set {w : World} {g n : Nat} {R : Nat → Bool} (h : Br w g n R) {k : Nat} (hk : k < n) (b : Bool) : Br (w.setCell ⟨g, k, none⟩ (.bool b)) g n (upd R k b) := by
  obtain ⟨cs, ty, h1, h2, h3⟩ := h
  refine ⟨_, ty, heap_setCell_same w g k _ _ (.bool b) h1, by simpa using h2, fun j hj => ?_⟩
  by_cases e : j = k
  · subst e
    rw [upd_same, Array.getElem?_setIfInBounds, if_pos rfl, if_pos (by rw [h2]; exact hj)]
  · rw [upd_other _ _ e, Array.getElem?_setIfInBounds, if_neg (fun e2 => e e2.symm)]
    exact h3 j hj

theorem info4 : (Tryz.prog.info? 4).map (fun i => (i.zero, i.size, i.bytes)) = some (some (.bool false), 1, 1) := by kernel_rfl
theorem info4_parts : ∃ i, Tryz.prog.info? 4 = some i ∧ i.zero = some (.bool false) ∧ i.size = 1 ∧ i.bytes = 1 := by
  have h := info4
  cases hi : Tryz.prog.info? 4 with
  | none => rw [hi] at h; cases h
  | some i =>
    rw [hi] at h
    simp at h
    exact ⟨i, rfl, h.1, h.2.1, h.2.2⟩
/-- A row of n bools, all false, as it is made. -/
theorem makeBools (n : Nat) (hn : n ≤ 16384) : ∃ o : Obj, (∀ w : World, (Instr.makeSlice 31 (.int .i64 (n : Int)) (.int .i64 (n : Int))).run Tryz.prog w = .ok (.slice (some ⟨w.heap.size, 0, none⟩) n n) (w.alloc o)) ∧ ∀ w : World, Br (w.alloc o) w.heap.size n (fun _ => false) := by
  obtain ⟨i0, hi, hz0, hz1, hz2⟩ := info4_parts
  refine ⟨.cells (madeCells (Value.bool false).cells (n * 1)) 4, fun w => ?_, fun w => ⟨_, 4, heap_alloc_new _ _, by simp [size_madeCells], fun j hj => ?_⟩⟩
  · have := run_make (P := Tryz.prog) w 31 4 i0 (.bool false) Tryz.underlying31 hi hz0 .i64 .i64 n n (by omega) (by omega) (by rw [hz2]; omega) (by omega)
    rw [hz1] at this
    simpa using this
  · simp [madeCells, Value.cells, Nat.mod_one, hj]

section
variable {X : Nat → Prop} {w0 w w' : World} {pd pl q K B M F n : Nat} {f : Nat → List Int} {com own : Nat → Option (List Int)} {pend wrote N : Nat} {live : Bool} {V : Nat → List Int} {T : Nat → Bool}
theorem Nw.put {F G : Nat → Prop} {r : Nat} (h : Nw X w0 w F G) (_hx : X r) (hr : w0.heap.size ≤ r) (hc : Chg (fun b => b = r) w w') : Nw X w0 w' F G :=
  ⟨h.chg.trans hc (fun i hi e => by omega), h.f, h.g, fun b hb => ⟨by have := (h.x b hb).1; have := hc.size; omega, (h.x b hb).2⟩⟩
theorem TxUp.put {r : Nat} (h : TxUp X w0 w pd pl q K f com pend live own wrote N) (hx : X r) (hr : w0.heap.size ≤ r) (hc : Chg (fun b => b = r) w w') : TxUp X w0 w' pd pl q K f com pend live own wrote N := by
  obtain ⟨F, G, S, m, V, mt, Vt, h1, h2, h3, h4, h5, h6, h7, h8⟩ := h
  have hn := h7.x r hx
  exact ⟨F, G, S, m, V, mt, Vt, h1.keptE hc (fun b hb e => hn.2.1 (e ▸ hb)) (fun b hb e => hn.2.2 (e ▸ hb)), h2, h3, h4, h5, h6, h7.put hx hr hc, h8⟩
/-- A store into memory that is not the log's. -/
theorem Tv.put {r : Nat} (h : Tv X w0 w pd pl q K f com pend N V) (hx : X r) (hr : w0.heap.size ≤ r) (hc : Chg (fun b => b = r) w w') : Tv X w0 w' pd pl q K f com pend N V := by
  obtain ⟨own, wrote, h1, h2⟩ := h
  exact ⟨own, wrote, h1.put hx hr hc, h2⟩
theorem Pq.put {r : Nat} (h : Pq X w0 w pd pl q K f com pend N B M F n T) (hx : X r) (hr : w0.heap.size ≤ r) (hB : B ≠ r) (hc : Chg (fun b => b = r) w w') : Pq X w0 w' pd pl q K f com pend N B M F n T := by
  obtain ⟨V, h1, h2, h3, h4⟩ := h
  exact ⟨V, h1.put hx hr hc, h2, h3.kept hc hB, h4⟩
theorem Pq.add (h : Pq X w0 w pd pl q K f com pend N B M F n T) (hc : Chg (fun _ => False) w w') : Pq (addX X w.heap.size w'.heap.size) w0 w' pd pl q K f com pend N B M F n T := by
  obtain ⟨V, h1, h2, h3, h4, h5⟩ := h
  exact ⟨V, h1.add hc, h2, h3.kept hc (fun h => h), .inl h4, h5⟩
theorem Pq.xB (h : Pq X w0 w pd pl q K f com pend N B M F n T) : B < w.heap.size := by
  obtain ⟨V, h1, h2, h3, h4, h5⟩ := h
  exact h1.xlt _ h4
end
end Go.Proofs.YtdcmcgdalanjjaaGreat

namespace Go.Proofs.YtdcmcgdalanjjaaGreat
open Go.RowKit Go.Maps

/-- A row of n bools at the head of block g, with whatever stands behind. -/
def Bw (w : World) (g n : Nat) (R : Nat → Bool) : Prop := ∃ cs ty, w.heap[g]? = some (.cells cs ty (0, 0)) ∧ n ≤ cs.size ∧ ∀ j, j < n → cs[j]? = some (.bool (R j))
theorem Br.bw {w : World} {g n : Nat} {R : Nat → Bool} (h : Br w g n R) : Bw w g n R := by
  obtain ⟨cs, ty, h1, h2, h3⟩ := h
  exact ⟨cs, ty, h1, by omega, h3⟩
theorem Bw.cell {w : World} {g n : Nat} {R : Nat → Bool} (h : Bw w g n R) {j : Nat} (hj : j < n) : w.cell? ⟨g, j, none⟩ = some (.bool (R j)) ∧ w.frozen? ⟨g, j, none⟩ = false := by
  obtain ⟨cs, ty, h1, h2, h3⟩ := h
  exact ⟨by simp [World.cell?, h1, h3 j hj], by simp [World.frozen?, h1]⟩
theorem Bw.lt {w : World} {g n : Nat} {R : Nat → Bool} (h : Bw w g n R) : g < w.heap.size := by
  obtain ⟨cs, ty, h1, h2⟩ := h
  exact lt_of_block h1
theorem Bw.kept {S : Nat → Prop} {w w' : World} {g n : Nat} {R : Nat → Bool} (h : Bw w g n R) (hc : Chg S w w') (hS : ¬ S g) : Bw w' g n R := by
  have hl := h.lt
  obtain ⟨cs, ty, h1, h2⟩ := h
  exact ⟨cs, ty, (hc.block g hl hS).trans h1, h2⟩
theorem Bw.sm {X : Nat → Prop} {w w' : World} {g n : Nat} {R : Nat → Bool} (h : Bw w g n R) (hs : Sm X w w') (hx : X g) : Bw w' g n R := by
  obtain ⟨cs, ty, h1, h2⟩ := h
  exact ⟨cs, ty, (hs g hx).trans h1, h2⟩
theorem Bw.ext {w : World} {g n : Nat} {R R' : Nat → Bool} (h : Bw w g n R) (e : ∀ j, j < n → R j = R' j) : Bw w g n R' := by
  obtain ⟨cs, ty, h1, h2, h3⟩ := h
  exact ⟨cs, ty, h1, h2, fun j hj => by rw [h3 j hj, e j hj]⟩
theorem Bw.set {w : World} {g n : Nat} {R : Nat → Bool} (h : Bw w g n R) {k : Nat} (hk : k < n) (b : Bool) : Bw (w.setCell ⟨g, k, none⟩ (.bool b)) g n (upd R k b) := by
  obtain ⟨cs, ty, h1, h2, h3⟩ := h
  refine ⟨_, ty, heap_setCell_same w g k _ _ (.bool b) h1, by simpa using h2, fun j hj => ?_⟩
  by_cases e : j = k
  · subst e
    rw [upd_same, Array.getElem?_setIfInBounds, if_pos rfl, if_pos (by omega)]
  · rw [upd_other _ _ e, Array.getElem?_setIfInBounds, if_neg (fun e2 => e e2.symm)]
    exact h3 j hj

/-- The document's pool. -/
structure RAt (w : World) (pr : Nat) (M F n : Int) (tv : Value) : Prop where
  blk : w.heap[pr]? = some (.cells #[.int .i64 M, .int .i64 F, .int .i64 n, tv] 33 (0, 0))
section
variable {w w' : World} {pr : Nat} {M F n : Int} {tv : Value}
theorem RAt.c0 (h : RAt w pr M F n tv) : w.cell? ⟨pr, 0, none⟩ = some (.int .i64 M) := by rw [cell_of_row w pr 0 _ _ _ h.blk]; rfl
theorem RAt.c1 (h : RAt w pr M F n tv) : w.cell? ⟨pr, 1, none⟩ = some (.int .i64 F) := by rw [cell_of_row w pr 1 _ _ _ h.blk]; rfl
theorem RAt.c2 (h : RAt w pr M F n tv) : w.cell? ⟨pr, 2, none⟩ = some (.int .i64 n) := by rw [cell_of_row w pr 2 _ _ _ h.blk]; rfl
theorem RAt.c3 (h : RAt w pr M F n tv) : w.cell? ⟨pr, 3, none⟩ = some tv := by rw [cell_of_row w pr 3 _ _ _ h.blk]; rfl
theorem RAt.fr (h : RAt w pr M F n tv) (j : Nat) : w.frozen? ⟨pr, j, none⟩ = false := frozen_of_row w pr j _ _ h.blk
theorem RAt.lt (h : RAt w pr M F n tv) : pr < w.heap.size := lt_of_block h.blk
theorem RAt.kept {S : Nat → Prop} (h : RAt w pr M F n tv) (hc : Chg S w w') (hS : ¬ S pr) : RAt w' pr M F n tv := ⟨(hc.block pr h.lt hS).trans h.blk⟩
theorem RAt.sm {X : Nat → Prop} (h : RAt w pr M F n tv) (hs : Sm X w w') (hx : X pr) : RAt w' pr M F n tv := ⟨(hs pr hx).trans h.blk⟩
theorem RAt.set (h : RAt w pr M F n tv) (u : Value) : RAt (w.setCell ⟨pr, 3, none⟩ u) pr M F n u := ⟨by
  rw [heap_setCell_same w pr 3 _ _ u h.blk]; rfl⟩
end

theorem rmaps_no (pr : Nat) (M F n : Int) (tv : Value) (w : World) (h : RAt w pr M F n tv) (hn : n < 1) :
    Calls Tryz.prog 11 #[.pointer (some ⟨pr, 0, none⟩)] w fun e w' => e = .returned (.int .i64 0) ∧ w' = w := by
  have c2 := h.c2
  have k1 : decide (n < 1) = true := by simpa using hn
  clear h
  go_enter Tryz.func11, Tryz.ntmps11
  go_wp2
  go_ret
  exact ⟨rfl, rfl⟩
theorem rmaps_yes (pr : Nat) (M F : Int) (n : Nat) (tv : Value) (w : World) (h : RAt w pr M F n tv) (hn : 1 ≤ n) (h2 : n ≤ 9223372036854775807) :
    Calls Tryz.prog 11 #[.pointer (some ⟨pr, 0, none⟩)] w fun e w' => e = .returned (.int .i64 (mapsN n : Int)) ∧ w' = w := by
  have c2 := h.c2
  have k1 : decide ((n : Int) < 1) = false := by simp; omega
  have e1 : Int.tdiv (n : Int) 4096 = ((n / 4096 : Nat) : Int) := by rw [Int.tdiv_eq_ediv_of_nonneg (by omega)]; omega
  have e2 : Int.tmod (n : Int) 4096 = ((n % 4096 : Nat) : Int) := by rw [Int.tmod_eq_emod_of_nonneg (by omega)]; omega
  have hlt : n / 4096 ≤ 9223372036854775 := by omega
  clear h
  by_cases hz : n % 4096 = 0
  · have e3 : mapsN n = n / 4096 := by unfold mapsN; omega
    rw [e3]
    have k2 : decide (0 < n % 4096) = false := by rw [hz]; rfl
    clear e3 hz
    generalize n % 4096 = r at *
    generalize n / 4096 = d at *
    go_enter Tryz.func11, Tryz.ntmps11
    go_wp2
    go_ret
    exact ⟨rfl, rfl⟩
  · have e3 : (mapsN n : Int) = ((n / 4096 : Nat) : Int) + 1 := by unfold mapsN; omega
    rw [e3]
    have k2 : decide (0 < n % 4096) = true := by simp; omega
    clear e3 hz
    generalize n % 4096 = r at *
    generalize n / 4096 = d at *
    go_enter Tryz.func11, Tryz.ntmps11
    go_wp2
    go_ret
    exact ⟨rfl, rfl⟩

set_option maxHeartbeats 3200000 in
theorem rright_yes (pr M F n K : Nat) (tv : Value) (w : World) (h : RAt w pr M F n tv) (hF : F ≤ 1073741824) (h1 : 1 ≤ n) (h2 : n ≤ 16384) (hM : M + mapsN n ≤ K) (hK : K ≤ 16384) :
    Calls Tryz.prog 9 #[.pointer (some ⟨pr, 0, none⟩), .int .i64 (K : Int)] w fun e w' => e = .returned (.bool true) ∧ ∃ n, w' = w.drewN n := by
  have c0 := h.c0
  have c1 := h.c1
  have c2 := h.c2
  have k1 : decide ((0 : Int) ≤ (M : Int)) = true := by simp
  have k2 : decide ((0 : Int) ≤ (F : Int)) = true := by simp
  have k3 : decide ((F : Int) ≤ 1073741824) = true := by simp; omega
  have k4 : decide ((1 : Int) ≤ (n : Int)) = true := by simp; omega
  have k5 : decide ((n : Int) ≤ 16384) = true := by simp; omega
  have hm4 := mapsN_le h2
  have MP : Hid (∀ k, Calls Tryz.prog 11 #[.pointer (some ⟨pr, 0, none⟩)] (w.drewN k) fun e w' => e = .returned (.int .i64 (mapsN n : Int)) ∧ w' = w.drewN k) := fun k => rmaps_yes pr M F n tv _ (h.kept (Chg.drewN (fun _ => False) w k) (fun h => h)) h1 (by omega)
  obtain ⟨m, hm⟩ : ∃ m, mapsN n = m := ⟨_, rfl⟩
  rw [hm] at MP hm4 hM
  clear hm h
  have k6 : decide (m ≤ K) = true := by simp; omega
  have k7 : decide ((M : Int) ≤ (K : Int) - (m : Int)) = true := by simp; omega
  have wr : IntKind.i64.wrap ((K : Int) - (m : Int)) = (K : Int) - (m : Int) := by rw [IntKind.wrap_i64]; omega
  go_enter Tryz.func9, Tryz.ntmps9
  go_wp2_with fail
  go_quiet (first | (go_at_call 11; exact Calls.quiet_of_same (MP.out _)))
  go_wp2
  go_ret
  exact ⟨rfl, _, rfl⟩

theorem maps_no (M F n : Int) (w : World) (h : n < 1) :
    Calls Tryz.prog 10 #[PV M F n] w fun e w' => e = .returned (.int .i64 0) ∧ w' = w.alloc (PO M F n) := by
  have k1 : decide (n < 1) = true := by simpa using h
  unfold PV PO
  go_enter Tryz.func10, Tryz.ntmps10
  go_wp2
  go_ret
  exact ⟨rfl, rfl⟩
theorem maps_big (M F : Int) (n : Nat) (w : World) (h1 : 1 ≤ n) (h2 : n ≤ 9223372036854775807) :
    Calls Tryz.prog 10 #[PV M F n] w fun e w' => e = .returned (.int .i64 (mapsN n : Int)) ∧ w' = w.alloc (PO M F n) := by
  have k1 : decide ((n : Int) < 1) = false := by simp; omega
  have e1 : (mapsN n : Int) = ((n : Int) - 1) / 4096 + 1 := by unfold mapsN; omega
  have hb : (n : Int) ≤ 9223372036854775807 := by omega
  rw [e1]
  unfold PV PO
  go_enter Tryz.func10, Tryz.ntmps10
  go_wp2
  go_ret
  exact ⟨rfl, rfl⟩

set_option maxHeartbeats 6400000 in
theorem rright_no (pr : Nat) (M F n : Int) (K : Nat) (tv : Value) (w : World) (h : RAt w pr M F n tv) (hw : M ≤ 9223372036854775807) (h4 : 4 ≤ K) (hK : K ≤ 16384) (hr : ¬ (0 ≤ M ∧ 0 ≤ F ∧ F ≤ 1073741824 ∧ 1 ≤ n ∧ n ≤ 16384 ∧ M + (mapsN n.toNat : Int) ≤ (K : Int))) :
    Calls Tryz.prog 9 #[.pointer (some ⟨pr, 0, none⟩), .int .i64 (K : Int)] w fun e w' => e = .returned (.bool false) ∧ ∃ n, w' = w.drewN n := by
  have c0 := h.c0
  have c1 := h.c1
  have c2 := h.c2
  by_cases gk1 : 0 ≤ M
  rotate_left
  · have k1 : decide (0 ≤ M) = false := by simpa using gk1
    clear hr h
    go_enter Tryz.func9, Tryz.ntmps9
    go_wp2_with fail
    go_quiet (fail)
    go_wp2
    go_ret
    exact ⟨rfl, _, rfl⟩
  have k1 : decide (0 ≤ M) = true := by simpa using gk1
  by_cases gk2 : 0 ≤ F
  rotate_left
  · have k2 : decide (0 ≤ F) = false := by simpa using gk2
    clear hr h
    go_enter Tryz.func9, Tryz.ntmps9
    go_wp2_with fail
    go_quiet (fail)
    go_wp2
    go_ret
    exact ⟨rfl, _, rfl⟩
  have k2 : decide (0 ≤ F) = true := by simpa using gk2
  by_cases gk3 : F ≤ 1073741824
  rotate_left
  · have k3 : decide (F ≤ 1073741824) = false := by simpa using gk3
    clear hr h
    go_enter Tryz.func9, Tryz.ntmps9
    go_wp2_with fail
    go_quiet (fail)
    go_wp2
    go_ret
    exact ⟨rfl, _, rfl⟩
  have k3 : decide (F ≤ 1073741824) = true := by simpa using gk3
  by_cases gk4 : 1 ≤ n
  rotate_left
  · have k4 : decide (1 ≤ n) = false := by simpa using gk4
    clear hr h
    go_enter Tryz.func9, Tryz.ntmps9
    go_wp2_with fail
    go_quiet (fail)
    go_wp2
    go_ret
    exact ⟨rfl, _, rfl⟩
  have k4 : decide (1 ≤ n) = true := by simpa using gk4
  by_cases gk5 : n ≤ 16384
  rotate_left
  · have k5 : decide (n ≤ 16384) = false := by simpa using gk5
    clear hr h
    go_enter Tryz.func9, Tryz.ntmps9
    go_wp2_with fail
    go_quiet (fail)
    go_wp2
    go_ret
    exact ⟨rfl, _, rfl⟩
  have k5 : decide (n ≤ 16384) = true := by simpa using gk5
  obtain ⟨n, rfl⟩ : ∃ n' : Nat, n = (n' : Int) := ⟨n.toNat, by omega⟩
  rw [Int.toNat_natCast] at hr
  have hm4 : mapsN n ≤ 4 := mapsN_le (by omega)
  have MP : Hid (∀ k, Calls Tryz.prog 11 #[.pointer (some ⟨pr, 0, none⟩)] (w.drewN k) fun e w' => e = .returned (.int .i64 (mapsN n : Int)) ∧ w' = w.drewN k) := fun k => rmaps_yes pr M F n tv _ (h.kept (Chg.drewN (fun _ => False) w k) (fun h => h)) (by omega) (by omega)
  obtain ⟨m, hm⟩ : ∃ m, mapsN n = m := ⟨_, rfl⟩
  rw [hm] at MP hm4 hr
  clear hm h
  have k6 : decide (m ≤ K) = true := by simp; omega
  have k7 : decide (M ≤ (K : Int) - (m : Int)) = false := by simp; omega
  have wr : IntKind.i64.wrap ((K : Int) - (m : Int)) = (K : Int) - (m : Int) := by rw [IntKind.wrap_i64]; omega
  clear hr gk1 gk2 gk3
  go_enter Tryz.func9, Tryz.ntmps9
  go_wp2_with fail
  go_quiet (first | (go_at_call 11; exact Calls.quiet_of_same (MP.out _)))
  go_wp2
  go_ret
  exact ⟨rfl, _, rfl⟩
end Go.Proofs.YtdcmcgdalanjjaaGreat

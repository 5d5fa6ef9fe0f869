/-
  What Clear and Free of a pool do.
-/
import Derived.Test.YtnnaemlipahamaaGreatFEach
namespace Go.Proofs.YtnnaemlipahamaaGreat
open Go.RowKit Go.Maps

section
variable {L : List Nat} {X Y : Nat → Prop} {w0 w w1 ws : World} {pd pl q K : Nat} {f : Nat → List Int} {com : Nat → Option (List Int)} {pend N : Nat} {V : Nat → List Int} {T : Nat → Bool}
set_option maxHeartbeats 1600000 in
theorem pclear_ok (M F n : Nat) (h : Tv L X w0 w pd pl q K f com pend N V) (hp : Pr L M F n K) :
    Calls Tryz.prog 24 #[PV M F n, .pointer (some ⟨q, 0, none⟩)] w fun e w' => e = .returned (.int .i64 0) ∧ PTo L X w0 w pd pl q K f com pend N V M n (fun _ => false) w' := by
  have hmf : ∀ (fn : Fn) (first cap : Array Value) (w : World), (Instr.makeFunc fn first cap).run Tryz.prog w = .ok (.func fn first cap) w := fun _ _ _ _ => rfl
  have cb := boxes_chg w M F n q
  have h1 := h.add cb
  have c1 := Cap.box w M F n q
  have ALL : Hid (Calls Tryz.prog 30 #[PV M F n, .pointer (some ⟨q, 0, none⟩)] ((w.alloc (PO M F n)).alloc (TO q)) fun e w2 => e = .returned (.int .i64 0) ∧ Cap w2 w.heap.size (w.heap.size + 1) M F n q ∧
      Hid (Calls Tryz.prog 59 #[PV M F n, .pointer (some ⟨q, 0, none⟩)] w2 fun e w3 => e = .returned (.int .i64 0) ∧ Cap w3 w.heap.size (w.heap.size + 1) M F n q ∧
        Hid (Calls Tryz.prog 31 #[PV M F n, .func (.func 60) #[] #[.pointer (some ⟨w.heap.size, 0, none⟩), .pointer (some ⟨w.heap.size + 1, 0, none⟩)]] w3 fun e w' => e = .returned (.int .i64 0) ∧ Hid (PTo L X w0 w pd pl q K f com pend N V M n (fun _ => false) w')))) := by
    generalize hws : (w.alloc (PO M F n)).alloc (TO q) = ws at *
    have hz : ws.heap.size = w.heap.size + 2 := by rw [← hws]; simp
    rw [hz] at h1
    obtain ⟨Y, hY⟩ : ∃ Y, addX X w.heap.size (w.heap.size + 2) = Y := ⟨_, rfl⟩
    have y0 : Y w.heap.size := hY ▸ .inr ⟨Nat.le_refl _, by omega⟩
    have y1 : Y (w.heap.size + 1) := hY ▸ .inr ⟨by omega, by omega⟩
    have yx : ∀ b, X b → Y b := fun b hb => hY ▸ .inl hb
    rw [hY] at h1
    refine (stands_ok M F n h1 hp.f hp.one hp.top hp.in').mono ?_
    rintro e w2 ⟨rfl, hc2⟩
    have c2 := c1.kept hc2 (fun h => h) (fun h => h)
    have h2 := h1.more hc2
    refine ⟨rfl, c2, (claim_any M F n h2 hp).mono ?_⟩
    rintro e w3 ⟨rfl, h3, s3⟩
    have c3 := c2.sm s3 y0 y1
    refine ⟨rfl, c3, ?_⟩
    have s03 : Sm X w w3 := (Sm.ofChg cb h.xlt).trans (fun b hb => ((Sm.ofChg hc2 h1.xlt).trans s3) b (yx b hb))
    refine (each_clear M F n w.heap.size (w.heap.size + 1) (fun i w' => ∃ V', Tv L Y w0 w' pd pl q K f com pend N V' ∧ (∀ j, j < i → V' (M + j) = zeros 512) ∧ (∀ m, (m < M ∨ M + mapsN n ≤ m) → V' m = V m) ∧ Cap w' w.heap.size (w.heap.size + 1) M F n q ∧ Sm Y w3 w') w3 hp.one hp.top
      ⟨V, h3, fun j hj => by omega, fun _ _ => rfl, c3, fun _ _ => rfl⟩ (fun w' hc => ⟨V, h3.more hc, fun j hj => by omega, fun _ _ => rfl, c3.kept hc (fun h => h) (fun h => h), Sm.ofChg hc h3.xlt⟩) ?_).mono ?_
    · rintro i w' hi ⟨V', ht, hz, he, hcp, hs⟩
      refine (clear1_any M F n i _ _ ht hcp (by have := hp.in'; omega) (hp.all i hi)).mono ?_
      rintro e w'' ⟨rfl, ht2, hs2⟩
      refine ⟨rfl, _, ht2, fun j hj => ?_, fun m hm => ?_, hcp.sm hs2 y0 y1, hs.trans hs2⟩
      · by_cases e : j = i
        · subst e; rw [upd_same]
        · rw [upd_other _ _ (by omega)]; exact hz j (by omega)
      · rw [upd_other _ _ (by omega)]; exact he m hm
    · rintro e w' ⟨rfl, V', ht, hz, he, _, hs⟩
      exact ⟨rfl, V', ht.less yx, Bt.zero hz, he, s03.trans (fun b hb => hs b (yx b hb))⟩
  have p0 := c1.p.c0
  have p1 := c1.p.c1
  have p2 := c1.p.c2
  have p3 := c1.t
  clear h h1 hp cb c1
  unfold PV PO TO at *
  go_enter Tryz.func24, Tryz.ntmps24
  go_wp2_with fail
  refine ALL.out.mono ?_
  clear ALL
  rintro e w2 ⟨rfl, c2, CL⟩
  have q0 := c2.p.c0
  have q1 := c2.p.c1
  have q2 := c2.p.c2
  have q3 := c2.t
  clear c2
  go_wp2_with fail
  refine CL.out.mono ?_
  clear CL
  rintro e w3 ⟨rfl, c3, EA⟩
  have r0 := c3.p.c0
  have r1 := c3.p.c1
  have r2 := c3.p.c2
  have r3 := c3.t
  clear c3
  go_wp2_with fail
  refine EA.out.mono ?_
  clear EA
  rintro e w4 ⟨rfl, HT⟩
  go_wp2
  go_ret
  exact ⟨rfl, HT.out⟩
theorem pclear_no (M F n : Int) (h : Tv L X w0 w pd pl q K f com pend N V) (hw : M ≤ 9223372036854775807) (hr : ¬ (0 ≤ M ∧ 0 ≤ F ∧ F ≤ 1073741824 ∧ 1 ≤ n ∧ n ≤ 16384 ∧ M + (mapsN n.toNat : Int) ≤ (K : Int))) :
    Calls Tryz.prog 24 #[PV M F n, .pointer (some ⟨q, 0, none⟩)] w fun e w' => e = .returned (.int .i64 1) ∧ Chg (fun _ => False) w w' := by
  have cb := boxes_chg w M F n q
  have c1 := Cap.box w M F n q
  have ST : Hid (Calls Tryz.prog 30 #[PV M F n, .pointer (some ⟨q, 0, none⟩)] ((w.alloc (PO M F n)).alloc (TO q)) fun e w2 => e = .returned (.int .i64 1) ∧ Hid (Chg (fun _ => False) w w2)) := (stands_no M F n (h.more cb) hw hr).mono (by
    rintro e w2 ⟨rfl, hc⟩
    exact ⟨rfl, cb.trans hc (fun _ _ h => h)⟩)
  have p0 := c1.p.c0
  have p1 := c1.p.c1
  have p2 := c1.p.c2
  have p3 := c1.t
  clear h hr hw cb c1
  unfold PV PO TO at *
  go_enter Tryz.func24, Tryz.ntmps24
  go_wp2_with fail
  refine ST.out.mono ?_
  clear ST
  rintro e w2 ⟨rfl, HC⟩
  go_wp2
  go_ret
  exact ⟨rfl, HC.out⟩
theorem take_no (M F n : Int) (h : Tv L X w0 w pd pl q K f com pend N V) (hw : M ≤ 9223372036854775807) (hr : ¬ (0 ≤ M ∧ 0 ≤ F ∧ F ≤ 1073741824 ∧ 1 ≤ n ∧ n ≤ 16384 ∧ M + (mapsN n.toNat : Int) ≤ (K : Int))) :
    Calls Tryz.prog 76 #[PV M F n, .pointer (some ⟨q, 0, none⟩)] w fun e w' => e = .returned (.tuple #[.int .i64 0, .int .i64 1]) ∧ Chg (fun _ => False) w w' := by
  have cb := Chg.alloc (fun _ => False) w (PO M F n)
  have ST : Hid (Calls Tryz.prog 30 #[PV M F n, .pointer (some ⟨q, 0, none⟩)] (w.alloc (PO M F n)) fun e w2 => e = .returned (.int .i64 1) ∧ Hid (Chg (fun _ => False) w w2)) := (stands_no M F n (h.more cb) hw hr).mono (by
    rintro e w2 ⟨rfl, hc⟩
    exact ⟨rfl, cb.trans hc (fun _ _ h => h)⟩)
  clear h hr hw cb
  unfold PV PO at *
  go_enter Tryz.func76, Tryz.ntmps76
  go_wp2_with fail
  refine ST.out.mono ?_
  clear ST
  rintro e w2 ⟨rfl, HC⟩
  go_wp2
  go_ret2
  exact ⟨rfl, HC.out⟩
theorem free_no (M F n : Int) (h : Tv L X w0 w pd pl q K f com pend N V) (hw : M ≤ 9223372036854775807) (hr : ¬ (0 ≤ M ∧ 0 ≤ F ∧ F ≤ 1073741824 ∧ 1 ≤ n ∧ n ≤ 16384 ∧ M + (mapsN n.toNat : Int) ≤ (K : Int))) :
    Calls Tryz.prog 11 #[PV M F n, .pointer (some ⟨q, 0, none⟩)] w fun e w' => e = .returned (.tuple #[.int .i64 0, .int .i64 1]) ∧ Chg (fun _ => False) w w' := by
  have cb := boxes_chg w M F n q
  have c1 := Cap.box w M F n q
  have ST : Hid (Calls Tryz.prog 30 #[PV M F n, .pointer (some ⟨q, 0, none⟩)] ((w.alloc (PO M F n)).alloc (TO q)) fun e w2 => e = .returned (.int .i64 1) ∧ Hid (Chg (fun _ => False) w w2)) := (stands_no M F n (h.more cb) hw hr).mono (by
    rintro e w2 ⟨rfl, hc⟩
    exact ⟨rfl, cb.trans hc (fun _ _ h => h)⟩)
  have p0 := c1.p.c0
  have p1 := c1.p.c1
  have p2 := c1.p.c2
  have p3 := c1.t
  clear h hr hw cb c1
  unfold PV PO TO at *
  go_enter Tryz.func11, Tryz.ntmps11
  go_wp2_with fail
  refine ST.out.mono ?_
  clear ST
  rintro e w2 ⟨rfl, HC⟩
  go_wp2
  go_ret2
  exact ⟨rfl, HC.out⟩
end
end Go.Proofs.YtnnaemlipahamaaGreat

namespace Go.Proofs.YtnnaemlipahamaaGreat
open Go.RowKit Go.Maps

section
variable {L : List Nat} {X Y : Nat → Prop} {w0 w w1 ws : World} {pd pl q K : Nat} {f : Nat → List Int} {com : Nat → Option (List Int)} {pend N : Nat} {V : Nat → List Int} {T : Nat → Bool}
/-- A number in a box. -/
def IntAt (w : World) (E : Nat) (x : Int) : Prop := w.heap[E]? = some (.cells #[.int .i64 x] 3 (0, 0))
set_option maxHeartbeats 3200000 in
theorem free1_any (M F n i B D E : Nat) (x y : Int) (h : Tv L X w0 w pd pl q K f com pend N V) (hc : Cap w B D M F n q) (he : IntAt w E x) (_hBE : B ≠ E) (_hDE : D ≠ E) (hb : Bt V M n T) (hp : Pr L M F n K) (hi : i < mapsN n) (hx : 0 ≤ x ∧ x ≤ 16384) (hy : x - (cnt (V (M + i)) 0 (sizeN n i) : Int) = y) :
    Calls Tryz.prog 32 #[.int .i64 (i : Int), .pointer (some ⟨B, 0, none⟩), .pointer (some ⟨D, 0, none⟩), .pointer (some ⟨E, 0, none⟩)] w fun e w' => e = .returned (.int .i64 0) ∧ Chg (fun b => b = E) w w' ∧ IntAt w' E y := by
  have hin := hp.in'
  have hElt : E < w.heap.size := lt_of_block he
  have PT : Hid (Calls Tryz.prog 33 #[PV M F n, .pointer (some ⟨q, 0, none⟩), .int .i64 (i : Int)] w fun e w2 => ∃ u, e = .returned (.tuple #[u, .int .i64 0]) ∧ Chg (fun _ => False) w w2 ∧ Hid (Bs w2 u (V (M + i)))) := by
    refine (part_any M i F n h (by omega)).mono ?_
    rintro e w2 ⟨u, g, rfl, hu⟩
    exact ⟨u, rfl, hu.chg, hu.mp.bs⟩
  have SZ : Hid (∀ w : World, Calls Tryz.prog 35 #[PV M F n, .int .i64 (i : Int)] w fun e w' => e = .returned (.int .i64 (sizeN n i : Int)) ∧ w' = w.alloc (PO M F n)) := fun w => size_any M F n i w hp.one hp.top hi
  have hxs := hb.by' i hi
  have CT : Hid (∀ (u : Value) (w : World), Bs w u (V (M + i)) → Calls Tryz.prog 34 #[u, .int .i64 0, .int .i64 (sizeN n i : Int)] w fun e w' => e = .returned (.int .i64 (cnt (V (M + i)) 0 (sizeN n i) : Int)) ∧ ∃ n, w' = w.drewN n) := fun u w hu => by
    have := count_any u (V (M + i)) 0 (sizeN n i : Int) w hu hxs.1 (by rw [hxs.2]; omega) (by omega)
    unfold cntI at this
    rw [hiB_size hxs.2, show loB 0 = 0 from rfl, Nat.sub_zero] at this
    exact this
  have hcl := cnt_le (V (M + i)) 0 (sizeN n i)
  have hsl := sizeN_le n i
  generalize cnt (V (M + i)) 0 (sizeN n i) = c at *
  generalize sizeN n i = z at *
  have wr : IntKind.i64.wrap (x - (c : Int)) = y := by rw [IntKind.wrap_i64]; omega
  have wr2 : IntKind.i64.wrap y = y := by rw [IntKind.wrap_i64]; omega
  have p0 := hc.p.c0
  have p1 := hc.p.c1
  have p2 := hc.p.c2
  have p3 := hc.t
  have HCAP : Hid (Cap w B D M F n q) := hc
  have HEE : Hid (IntAt w E x) := he
  clear h hc he hb hp hin hi hxs hcl hsl
  unfold PV PO at *
  go_enter Tryz.func32, Tryz.ntmps32
  go_wp2_with fail
  refine PT.out.mono ?_
  clear PT
  rintro e w2 ⟨u, rfl, c2, HB⟩
  have k2 := HCAP.out.kept c2 (fun h => h) (fun h => h)
  have e2 : IntAt w2 E x := (c2.block E hElt (fun h => h)).trans HEE.out
  have HC2 : Hid (Chg (fun _ => False) w w2) := c2
  have hE2 : E < w2.heap.size := lt_of_block e2
  have ka := fun o => k2.kept (Chg.alloc (fun _ => False) w2 o) (fun h => h) (fun h => h)
  have ea : ∀ o, IntAt (w2.alloc o) E x := fun o => ((Chg.alloc (fun _ => False) w2 o).block E hE2 (fun h => h)).trans e2
  have q0 := k2.p.c0
  have q1 := k2.p.c1
  have q2 := k2.p.c2
  have x0 := cell_of_one e2
  have x1 := fun o => cell_of_one (ea o)
  have x2 := fun o => free_of_one (ea o)
  have EA : Hid (∀ o, IntAt (w2.alloc o) E x) := ea
  clear p0 p1 p2 p3 c2 k2 ka ea e2
  have CTT : Hid (∀ w', (∃ k o, w' = (w2.alloc o).drewN k) → Calls Tryz.prog 34 #[u, .int .i64 0, .int .i64 (z : Int)] w' fun e w'' => e = .returned (.int .i64 (c : Int)) ∧ ∃ k o, w'' = (w2.alloc o).drewN k) := fun w' hw' => by
    obtain ⟨k, o, rfl⟩ := hw'
    refine (CT.out u _ ((HB.out.kept (Chg.alloc (fun _ => False) w2 o) (fun _ _ _ _ _ h => h)).drewN k)).mono ?_
    rintro e w'' ⟨rfl, k', rfl⟩
    exact ⟨rfl, k + k', o, by rw [World.drewN_drewN]⟩
  go_wp2_with fail
  go_region_with (first | (go_at_call 35; refine (SZ.out _).mono ?_; rintro e w3 ⟨rfl, rfl⟩) | (go_at_call 34; refine (CTT.out _ ⟨1, _, rfl⟩).mono ?_; rintro e w3 ⟨rfl, k, o, rfl⟩))
  all_goals
    go_wp2
    go_ret
    exact ⟨rfl, ((HC2.out.mono (fun _ _ h => h.elim)).trans (Chg.alloc (fun b => b = E) w2 o) (fun _ _ h => h)).trans ((Chg.drewN (fun b => b = E) _ k).trans (Chg.setCell (S := fun b => b = E) _ ⟨E, 0, none⟩ _ rfl) (fun _ _ h => h)) (fun _ _ h => h), one_setCell (EA.out o)⟩
set_option maxHeartbeats 1600000 in
theorem free_ok (M F n : Nat) (h : Tv L X w0 w pd pl q K f com pend N V) (hp : Pr L M F n K) (hb : Bt V M n T) :
    Calls Tryz.prog 11 #[PV M F n, .pointer (some ⟨q, 0, none⟩)] w fun e w' => e = .returned (.tuple #[.int .i64 ((n - cntT T n : Nat) : Int), .int .i64 0]) ∧ Chg (fun _ => False) w w' := by
  have hmf : ∀ (fn : Fn) (first cap : Array Value) (w : World), (Instr.makeFunc fn first cap).run Tryz.prog w = .ok (.func fn first cap) w := fun _ _ _ _ => rfl
  have cb := boxes_chg w M F n q
  have h1 := h.more cb
  have c1 := Cap.box w M F n q
  have ST : Hid (Calls Tryz.prog 30 #[PV M F n, .pointer (some ⟨q, 0, none⟩)] ((w.alloc (PO M F n)).alloc (TO q)) fun e w2 => e = .returned (.int .i64 0) ∧ Chg (fun _ => False) ((w.alloc (PO M F n)).alloc (TO q)) w2) := stands_ok M F n h1 hp.f hp.one hp.top hp.in'
  have EA : Hid (∀ w3 : World, ∀ E, w.heap.size + 2 ≤ E → Chg (fun _ => False) w w3 → Cap w3 w.heap.size (w.heap.size + 1) M F n q → IntAt w3 E n →
      Calls Tryz.prog 31 #[PV M F n, .func (.func 32) #[] #[.pointer (some ⟨w.heap.size, 0, none⟩), .pointer (some ⟨w.heap.size + 1, 0, none⟩), .pointer (some ⟨E, 0, none⟩)]] w3 fun e w' => e = .returned (.int .i64 0) ∧ w'.cell? ⟨E, 0, none⟩ = some (.int .i64 ((n - cntT T n : Nat) : Int)) ∧ Hid (Chg (fun _ => False) w w')) := fun w3 E hE c3 k3 i3 => by
    have hn := hp.top
    have hone := hp.one
    have hElt : E < w3.heap.size := lt_of_block i3
    refine (each_free M F n w.heap.size (w.heap.size + 1) E (fun i w' => Chg (fun b => b = E) w3 w' ∧ IntAt w' E ((n : Int) - (cntT T (min n (i * 4096)) : Int))) w3 hone hn ⟨Chg.refl _ _, ?_⟩ (fun w' hc => ⟨hc.mono (fun _ _ h => h.elim), ?_⟩) ?_).mono ?_
    · simpa [cntT] using i3
    · have e : IntAt w' E n := (hc.block E hElt (fun h => h)).trans i3
      simpa [cntT] using e
    · rintro i w' hi ⟨hc, hx⟩
      have hcw : Chg (fun _ => False) w w' := c3.trans hc (fun b hb e => by omega)
      have hstep := hb.cnt hi hone
      have hle := cntT_le T (min n (i * 4096))
      have hle2 := cntT_le T (min n ((i + 1) * 4096))
      have m1 : min n (i * 4096) ≤ n := Nat.min_le_left _ _
      refine (free1_any M F n i _ _ E _ ((n : Int) - (cntT T (min n ((i + 1) * 4096)) : Int)) (h.more hcw) (k3.kept hc (by omega) (by omega)) hx (by omega) (by omega) hb hp hi (by omega) (by omega)).mono ?_
      rintro e w'' ⟨rfl, hc2, hx2⟩
      exact ⟨rfl, hc.trans hc2 (fun _ _ h => h), hx2⟩
    · rintro e w' ⟨rfl, hc, hx⟩
      have e1 : min n (mapsN n * 4096) = n := by unfold mapsN; omega
      rw [e1] at hx
      have hle := cntT_le T n
      have e2 : ((n - cntT T n : Nat) : Int) = (n : Int) - (cntT T n : Int) := by omega
      rw [e2]
      exact ⟨rfl, cell_of_one hx, c3.trans hc (fun b hb e => by omega)⟩
  have p0 := c1.p.c0
  have p1 := c1.p.c1
  have p2 := c1.p.c2
  have p3 := c1.t
  have CB : Hid (Chg (fun _ => False) w ((w.alloc (PO M F n)).alloc (TO q))) := cb
  generalize n - cntT T n = res at *
  clear h h1 hp cb hb
  have hsz : ((w.alloc (PO M F n)).alloc (TO q)).heap.size = w.heap.size + 2 := by simp
  unfold PV PO TO at *
  go_enter Tryz.func11, Tryz.ntmps11
  go_wp2_with fail
  refine ST.out.mono ?_
  clear ST
  rintro e w2 ⟨rfl, hc2⟩
  have c2 := c1.kept hc2 (fun h => h) (fun h => h)
  have q0 := c2.p.c0
  have q1 := c2.p.c1
  have q2 := c2.p.c2
  have q3 := c2.t
  have hs2 : w.heap.size + 2 ≤ w2.heap.size := by have := hc2.size; omega
  have HC2 : Hid (Chg (fun _ => False) w w2) := CB.out.trans hc2 (fun _ _ h => h)
  have K2 : Hid (Cap w2 w.heap.size (w.heap.size + 1) M F n q) := c2
  have ka := fun o => c2.kept (Chg.alloc (fun _ => False) w2 o) (fun h => h) (fun h => h)
  have r0 := fun o => (ka o).p.c0
  have r1 := fun o => (ka o).p.c1
  have r2 := fun o => (ka o).p.c2
  have EB : Hid _ := EA.out (w2.alloc (.cells #[.int .i64 (n : Int)] 3)) w2.heap.size hs2 (HC2.out.trans (Chg.alloc (fun _ => False) w2 _) (fun _ _ h => h)) (ka _) (heap_alloc_new _ _)
  clear hc2 c1 c2 p0 p1 p2 p3 CB hsz ka EA
  go_wp2_with fail
  refine (show Calls _ _ _ _ _ from EB.out).mono ?_
  clear EB
  rintro e w4 ⟨rfl, hx4, HC4⟩
  go_wp2
  go_ret2
  exact ⟨rfl, HC4.out⟩
end
end Go.Proofs.YtnnaemlipahamaaGreat

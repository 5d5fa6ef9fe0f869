/-
  What each of a pool does with the closures of Clear, claim and Free; what these do.
-/
import Derived.Test.YtnnaemlipahamaaGreatFOut
namespace Go.Proofs.YtnnaemlipahamaaGreat
open Go.RowKit Go.Maps

section
variable {L : List Nat} {X Y : Nat → Prop} {w0 w w1 ws : World} {pd pl q K : Nat} {f : Nat → List Int} {com : Nat → Option (List Int)} {pend N : Nat} {V : Nat → List Int} {T : Nat → Bool}
set_option maxHeartbeats 1600000 in
theorem each_claim (M F : Int) (n : Nat) (b0 b1 : Nat) (I : Nat → World → Prop) (w : World) (h1 : 1 ≤ n) (h2 : n ≤ 16384) (_h0 : I 0 w) (hI : ∀ w', Chg (fun _ => False) w w' → I 0 w')
    (hstep : ∀ i w, i < mapsN n → I i w → Calls Tryz.prog 94 #[.int .i64 (i : Int), .pointer (some ⟨b0, 0, none⟩), .pointer (some ⟨b1, 0, none⟩)] w fun e w' => e = .returned (.int .i64 0) ∧ I (i + 1) w') :
    Calls Tryz.prog 31 #[PV M F n, .func (.func 94) #[] #[.pointer (some ⟨b0, 0, none⟩), .pointer (some ⟨b1, 0, none⟩)]] w fun e w' => e = .returned (.int .i64 0) ∧ I (mapsN n) w' := by
  have MP : Hid (∀ w : World, Calls Tryz.prog 67 #[PV M F n] w fun e w' => e = .returned (.int .i64 (mapsN n : Int)) ∧ w' = w.alloc (PO M F n)) := fun w => maps_yes M F n w h1 h2
  have hm4 := mapsN_le h2
  obtain ⟨m, hm⟩ : ∃ m, mapsN n = m := ⟨_, rfl⟩
  rw [hm] at MP hm4 hstep ⊢
  have HI : Hid (∀ w', Chg (fun _ => False) w w' → I 0 w') := hI
  have HS : Hid (∀ i w, i < m → I i w → Calls Tryz.prog 94 #[.int .i64 (i : Int), .pointer (some ⟨b0, 0, none⟩), .pointer (some ⟨b1, 0, none⟩)] w fun e w' => e = .returned (.int .i64 0) ∧ I (i + 1) w') := hstep
  clear _h0 hI hstep hm
  unfold PV PO at *
  go_enter Tryz.func31, Tryz.ntmps31
  go_wp2_with fail
  refine (MP.out _).mono ?_
  clear MP
  rintro e w3 ⟨rfl, hw3⟩
  have H3 : Hid (I 0 w3) := HI.out w3 ((Chg.alloc (fun _ => False) w _).trans (hw3 ▸ Chg.alloc (fun _ => False) _ _) (fun _ _ h => h))
  clear hw3 HI
  go_wp2
  go_loopw [9] (fun x wr => ∃ i, i ≤ m ∧ x = .int .i64 ((i : Nat) : Int) ∧ Hid (I i wr)) (fun x _ => m - (intOf x).toNat)
  case atStart => exact ⟨0, by omega, rfl, H3⟩
  case round =>
    obtain ⟨i, hi, rfl, HR⟩ := hrel
    clear H3
    by_cases him : i < m
    · have kim : (i : Int) < (m : Int) := by omega
      go_wp2_with fail
      refine (HS.out i wr him HR.out).mono ?_
      rintro e w4 ⟨rfl, h4⟩
      have H4 : Hid (I (i + 1) w4) := h4
      clear h4 HR
      go_wp2
      go_roundw
      case rel => exact ⟨i + 1, by omega, by go_num, H4⟩
      case measure => simp [intOf]; omega
    · have kim : ¬ ((i : Int) < (m : Int)) := by omega
      obtain rfl : i = m := by omega
      go_wp2
      go_ret
      exact ⟨rfl, HR.out⟩
set_option maxHeartbeats 1600000 in
theorem each_clear (M F : Int) (n : Nat) (b0 b1 : Nat) (I : Nat → World → Prop) (w : World) (h1 : 1 ≤ n) (h2 : n ≤ 16384) (_h0 : I 0 w) (hI : ∀ w', Chg (fun _ => False) w w' → I 0 w')
    (hstep : ∀ i w, i < mapsN n → I i w → Calls Tryz.prog 60 #[.int .i64 (i : Int), .pointer (some ⟨b0, 0, none⟩), .pointer (some ⟨b1, 0, none⟩)] w fun e w' => e = .returned (.int .i64 0) ∧ I (i + 1) w') :
    Calls Tryz.prog 31 #[PV M F n, .func (.func 60) #[] #[.pointer (some ⟨b0, 0, none⟩), .pointer (some ⟨b1, 0, none⟩)]] w fun e w' => e = .returned (.int .i64 0) ∧ I (mapsN n) w' := by
  have MP : Hid (∀ w : World, Calls Tryz.prog 67 #[PV M F n] w fun e w' => e = .returned (.int .i64 (mapsN n : Int)) ∧ w' = w.alloc (PO M F n)) := fun w => maps_yes M F n w h1 h2
  have hm4 := mapsN_le h2
  obtain ⟨m, hm⟩ : ∃ m, mapsN n = m := ⟨_, rfl⟩
  rw [hm] at MP hm4 hstep ⊢
  have HI : Hid (∀ w', Chg (fun _ => False) w w' → I 0 w') := hI
  have HS : Hid (∀ i w, i < m → I i w → Calls Tryz.prog 60 #[.int .i64 (i : Int), .pointer (some ⟨b0, 0, none⟩), .pointer (some ⟨b1, 0, none⟩)] w fun e w' => e = .returned (.int .i64 0) ∧ I (i + 1) w') := hstep
  clear _h0 hI hstep hm
  unfold PV PO at *
  go_enter Tryz.func31, Tryz.ntmps31
  go_wp2_with fail
  refine (MP.out _).mono ?_
  clear MP
  rintro e w3 ⟨rfl, hw3⟩
  have H3 : Hid (I 0 w3) := HI.out w3 ((Chg.alloc (fun _ => False) w _).trans (hw3 ▸ Chg.alloc (fun _ => False) _ _) (fun _ _ h => h))
  clear hw3 HI
  go_wp2
  go_loopw [9] (fun x wr => ∃ i, i ≤ m ∧ x = .int .i64 ((i : Nat) : Int) ∧ Hid (I i wr)) (fun x _ => m - (intOf x).toNat)
  case atStart => exact ⟨0, by omega, rfl, H3⟩
  case round =>
    obtain ⟨i, hi, rfl, HR⟩ := hrel
    clear H3
    by_cases him : i < m
    · have kim : (i : Int) < (m : Int) := by omega
      go_wp2_with fail
      refine (HS.out i wr him HR.out).mono ?_
      rintro e w4 ⟨rfl, h4⟩
      have H4 : Hid (I (i + 1) w4) := h4
      clear h4 HR
      go_wp2
      go_roundw
      case rel => exact ⟨i + 1, by omega, by go_num, H4⟩
      case measure => simp [intOf]; omega
    · have kim : ¬ ((i : Int) < (m : Int)) := by omega
      obtain rfl : i = m := by omega
      go_wp2
      go_ret
      exact ⟨rfl, HR.out⟩
set_option maxHeartbeats 1600000 in
theorem each_free (M F : Int) (n : Nat) (b0 b1 b2 : Nat) (I : Nat → World → Prop) (w : World) (h1 : 1 ≤ n) (h2 : n ≤ 16384) (_h0 : I 0 w) (hI : ∀ w', Chg (fun _ => False) w w' → I 0 w')
    (hstep : ∀ i w, i < mapsN n → I i w → Calls Tryz.prog 32 #[.int .i64 (i : Int), .pointer (some ⟨b0, 0, none⟩), .pointer (some ⟨b1, 0, none⟩), .pointer (some ⟨b2, 0, none⟩)] w fun e w' => e = .returned (.int .i64 0) ∧ I (i + 1) w') :
    Calls Tryz.prog 31 #[PV M F n, .func (.func 32) #[] #[.pointer (some ⟨b0, 0, none⟩), .pointer (some ⟨b1, 0, none⟩), .pointer (some ⟨b2, 0, none⟩)]] w fun e w' => e = .returned (.int .i64 0) ∧ I (mapsN n) w' := by
  have MP : Hid (∀ w : World, Calls Tryz.prog 67 #[PV M F n] w fun e w' => e = .returned (.int .i64 (mapsN n : Int)) ∧ w' = w.alloc (PO M F n)) := fun w => maps_yes M F n w h1 h2
  have hm4 := mapsN_le h2
  obtain ⟨m, hm⟩ : ∃ m, mapsN n = m := ⟨_, rfl⟩
  rw [hm] at MP hm4 hstep ⊢
  have HI : Hid (∀ w', Chg (fun _ => False) w w' → I 0 w') := hI
  have HS : Hid (∀ i w, i < m → I i w → Calls Tryz.prog 32 #[.int .i64 (i : Int), .pointer (some ⟨b0, 0, none⟩), .pointer (some ⟨b1, 0, none⟩), .pointer (some ⟨b2, 0, none⟩)] w fun e w' => e = .returned (.int .i64 0) ∧ I (i + 1) w') := hstep
  clear _h0 hI hstep hm
  unfold PV PO at *
  go_enter Tryz.func31, Tryz.ntmps31
  go_wp2_with fail
  refine (MP.out _).mono ?_
  clear MP
  rintro e w3 ⟨rfl, hw3⟩
  have H3 : Hid (I 0 w3) := HI.out w3 ((Chg.alloc (fun _ => False) w _).trans (hw3 ▸ Chg.alloc (fun _ => False) _ _) (fun _ _ h => h))
  clear hw3 HI
  go_wp2
  go_loopw [9] (fun x wr => ∃ i, i ≤ m ∧ x = .int .i64 ((i : Nat) : Int) ∧ Hid (I i wr)) (fun x _ => m - (intOf x).toNat)
  case atStart => exact ⟨0, by omega, rfl, H3⟩
  case round =>
    obtain ⟨i, hi, rfl, HR⟩ := hrel
    clear H3
    by_cases him : i < m
    · have kim : (i : Int) < (m : Int) := by omega
      go_wp2_with fail
      refine (HS.out i wr him HR.out).mono ?_
      rintro e w4 ⟨rfl, h4⟩
      have H4 : Hid (I (i + 1) w4) := h4
      clear h4 HR
      go_wp2
      go_roundw
      case rel => exact ⟨i + 1, by omega, by go_num, H4⟩
      case measure => simp [intOf]; omega
    · have kim : ¬ ((i : Int) < (m : Int)) := by omega
      obtain rfl : i = m := by omega
      go_wp2
      go_ret
      exact ⟨rfl, HR.out⟩
end
end Go.Proofs.YtnnaemlipahamaaGreat

namespace Go.Proofs.YtnnaemlipahamaaGreat
open Go.RowKit Go.Maps

section
variable {L : List Nat} {X Y : Nat → Prop} {w0 w w1 ws : World} {pd pl q K : Nat} {f : Nat → List Int} {com : Nat → Option (List Int)} {pend N : Nat} {V : Nat → List Int} {T : Nat → Bool}
/-- A pool and a transaction in boxes. -/
structure Cap (w : World) (B D : Nat) (M F n : Int) (q : Nat) : Prop where
  p : PAt w B M F n
  t : w.cell? ⟨D, 0, none⟩ = some (.pointer (some ⟨q, 0, none⟩))
theorem Cap.kept {S : Nat → Prop} {w w' : World} {B D q : Nat} {M F n : Int} (h : Cap w B D M F n q) (hc : Chg S w w') (hB : ¬ S B) (hD : ¬ S D) : Cap w' B D M F n q := ⟨h.p.kept hc hB, hc.cell h.t hD⟩
theorem Cap.sm {w w' : World} {B D q : Nat} {M F n : Int} (h : Cap w B D M F n q) (hs : Sm Y w w') (hB : Y B) (hD : Y D) : Cap w' B D M F n q := ⟨h.p.sm hs hB, hs.cell h.t hD⟩
/-- The two boxes of a call. -/
def TO (q : Nat) : Obj := .cells #[.pointer (some ⟨q, 0, none⟩)] 37
theorem Cap.box (w : World) (M F n : Int) (q : Nat) : Cap ((w.alloc (PO M F n)).alloc (TO q)) w.heap.size (w.heap.size + 1) M F n q := by
  refine ⟨(PAt.box w M F n).kept (Chg.alloc (fun _ => False) _ _) (fun h => h), ?_⟩
  unfold TO
  rw [World.cell?_alloc_at _ _ _ _ (by simp)]; rfl
theorem boxes_chg (w : World) (M F n : Int) (q : Nat) : Chg (fun _ => False) w ((w.alloc (PO M F n)).alloc (TO q)) := (Chg.alloc (fun _ => False) w _).trans (Chg.alloc (fun _ => False) _ _) (fun _ _ h => h)

theorem upd_id (V : Nat → List Int) (n : Nat) : upd V n (V n) = V := by
  funext k
  by_cases e : k = n
  · subst e; rw [upd_same]
  · rw [upd_other _ _ e]
theorem claim1_any (M F n i B D : Nat) (h : Tv L Y w0 w pd pl q K f com pend N V) (hc : Cap w B D M F n q) (hi : M + i < K) (hL : M + i ∈ L) :
    Calls Tryz.prog 94 #[.int .i64 (i : Int), .pointer (some ⟨B, 0, none⟩), .pointer (some ⟨D, 0, none⟩)] w fun e w' => e = .returned (.int .i64 0) ∧ Tv L Y w0 w' pd pl q K f com pend N V ∧ Sm Y w w' := by
  have PT : Hid (Calls Tryz.prog 33 #[PV M F n, .pointer (some ⟨q, 0, none⟩), .int .i64 (i : Int)] w fun e w2 => ∃ u, e = .returned (.tuple #[u, .int .i64 0]) ∧ Cap w2 B D M F n q ∧
      Hid (Calls Tryz.prog 61 #[PV M F n, .pointer (some ⟨q, 0, none⟩), .int .i64 (i : Int), u] w2 fun e w' => e = .returned (.int .i64 0) ∧ Hid (Tv L Y w0 w' pd pl q K f com pend N V ∧ Sm Y w w'))) := by
    refine (part_any M i F n h hi).mono ?_
    rintro e w2 ⟨u, g, rfl, hu⟩
    refine ⟨u, rfl, hc.kept hu.chg (fun h => h) (fun h => h), (store_any M i F n u g _ h hu hi hL).mono ?_⟩
    rintro e w3 ⟨rfl, ht, hs⟩
    rw [upd_id] at ht
    exact ⟨rfl, ht, (Sm.ofChg hu.chg h.xlt).trans hs⟩
  have p0 := hc.p.c0
  have p1 := hc.p.c1
  have p2 := hc.p.c2
  have p3 := hc.t
  clear h hc
  unfold PV at PT
  go_enter Tryz.func94, Tryz.ntmps94
  go_wp2_with fail
  refine PT.out.mono ?_
  clear PT
  rintro e w2 ⟨u, rfl, hc2, SR⟩
  have q0 := hc2.p.c0
  have q1 := hc2.p.c1
  have q2 := hc2.p.c2
  have q3 := hc2.t
  clear hc2
  go_wp2_with fail
  refine SR.out.mono ?_
  clear SR
  rintro e w3 ⟨rfl, HT⟩
  go_wp2
  go_ret
  exact ⟨rfl, HT.out⟩
theorem claim_any (M F n : Nat) (h : Tv L X w0 w pd pl q K f com pend N V) (hp : Pr L M F n K) :
    Calls Tryz.prog 59 #[PV M F n, .pointer (some ⟨q, 0, none⟩)] w fun e w' => e = .returned (.int .i64 0) ∧ Tv L X w0 w' pd pl q K f com pend N V ∧ Sm X w w' := by
  have hmf : ∀ (fn : Fn) (first cap : Array Value) (w : World), (Instr.makeFunc fn first cap).run Tryz.prog w = .ok (.func fn first cap) w := fun _ _ _ _ => rfl
  have cb := boxes_chg w M F n q
  have h1 := h.add cb
  have c1 := Cap.box w M F n q
  have EA : Hid (Calls Tryz.prog 31 #[PV M F n, .func (.func 94) #[] #[.pointer (some ⟨w.heap.size, 0, none⟩), .pointer (some ⟨w.heap.size + 1, 0, none⟩)]] ((w.alloc (PO M F n)).alloc (TO q)) fun e w' => e = .returned (.int .i64 0) ∧ Hid (Tv L X w0 w' pd pl q K f com pend N V ∧ Sm X w w')) := by
    generalize hws : (w.alloc (PO M F n)).alloc (TO q) = ws at *
    have hz : ws.heap.size = w.heap.size + 2 := by rw [← hws]; simp
    rw [hz] at h1
    obtain ⟨Y, hY⟩ : ∃ Y, addX X w.heap.size (w.heap.size + 2) = Y := ⟨_, rfl⟩
    have y0 : Y w.heap.size := hY ▸ .inr ⟨Nat.le_refl _, by omega⟩
    have y1 : Y (w.heap.size + 1) := hY ▸ .inr ⟨by omega, by omega⟩
    have yx : ∀ b, X b → Y b := fun b hb => hY ▸ .inl hb
    rw [hY] at h1
    refine (each_claim M F n w.heap.size (w.heap.size + 1) (fun _ w' => Tv L Y w0 w' pd pl q K f com pend N V ∧ Cap w' w.heap.size (w.heap.size + 1) M F n q ∧ Sm Y ws w') ws hp.one hp.top ⟨h1, c1, fun _ _ => rfl⟩ (fun w' hc => ⟨h1.more hc, c1.kept hc (fun h => h) (fun h => h), Sm.ofChg hc h1.xlt⟩) ?_).mono ?_
    · rintro i w' hi ⟨ht, hcp, hs⟩
      refine (claim1_any M F n i _ _ ht hcp (by have := hp.in'; omega) (hp.all i hi)).mono ?_
      rintro e w'' ⟨rfl, ht2, hs2⟩
      exact ⟨rfl, ht2, hcp.sm hs2 y0 y1, hs.trans hs2⟩
    · rintro e w' ⟨rfl, ht, _, hs⟩
      exact ⟨rfl, ht.less yx, (Sm.ofChg cb h.xlt).trans (fun b hb => hs b (yx b hb))⟩
  have p0 := c1.p.c0
  have p1 := c1.p.c1
  have p2 := c1.p.c2
  clear h h1 hp cb c1
  unfold PV PO TO at *
  go_enter Tryz.func59, Tryz.ntmps59
  go_wp2_with fail
  refine EA.out.mono ?_
  clear EA
  rintro e w' ⟨rfl, HT⟩
  go_wp2
  go_ret
  exact ⟨rfl, HT.out⟩

theorem bcells_nth {xs : List Int} {j : Nat} (h : j < xs.length) : (bcells xs)[j]? = some (.int .u8 (xs.getD j 0)) := by simp [bcells, List.getD, h]
theorem info5_parts : ∃ i, Tryz.prog.info? 5 = some i ∧ i.zero = some (.int .u8 0) ∧ i.size = 1 ∧ i.bytes = 1 := info_parts info5
/-- A block of bytes 0, as it is made. -/
theorem make512 : ∃ o : Obj, (∀ w : World, (Instr.makeSlice 92 (.int .i64 512) (.int .i64 512)).run Tryz.prog w = .ok (.slice (some ⟨w.heap.size, 0, none⟩) 512 512) (w.alloc o)) ∧ ∀ w : World, NewM w (w.alloc o) (.slice (some ⟨w.heap.size, 0, none⟩) 512 512) w.heap.size (zeros 512) := by
  obtain ⟨i0, hi, hz0, hz1, hz2⟩ := info5_parts
  refine ⟨.cells (madeCells (Value.int .u8 0).cells (512 * 1)) 5, fun w => ?_, fun w => ?_⟩
  · have := run_make (P := Tryz.prog) w 92 5 i0 (.int .u8 0) Tryz.underlying92 hi hz0 .i64 .i64 512 512 (by decide) (by decide) (by rw [hz2]; decide) (by decide)
    rw [hz1] at this
    exact this
  · refine ⟨.inr ⟨512, _, 5, by rw [zeros_len], heap_alloc_new _ _, by rw [zeros_len]; exact Nat.le_refl _, by unfold maxLen; decide, fun j hj => ?_⟩, Chg.alloc _ _ _, Nat.le_refl _, zeros_len 512, 512, rfl⟩
    rw [← Array.getElem?_toList, made_bytes]
    exact bcells_nth hj
set_option maxHeartbeats 1600000 in
theorem clear1_any (M F n i B D : Nat) (h : Tv L Y w0 w pd pl q K f com pend N V) (hc : Cap w B D M F n q) (hi : M + i < K) (hL : M + i ∈ L) :
    Calls Tryz.prog 60 #[.int .i64 (i : Int), .pointer (some ⟨B, 0, none⟩), .pointer (some ⟨D, 0, none⟩)] w fun e w' => e = .returned (.int .i64 0) ∧ Tv L Y w0 w' pd pl q K f com pend N (upd V (M + i) (zeros 512)) ∧ Sm Y w w' := by
  obtain ⟨o, hmk, hnew⟩ := make512
  have SR : Hid (∀ w1 : World, w1 = (w.alloc o).drew ∨ w1 = w.drew.alloc o → Calls Tryz.prog 61 #[PV M F n, .pointer (some ⟨q, 0, none⟩), .int .i64 (i : Int), .slice (some ⟨w.heap.size, 0, none⟩) 512 512] w1 fun e w' => e = .returned (.int .i64 0) ∧ Hid (Tv L Y w0 w' pd pl q K f com pend N (upd V (M + i) (zeros 512)) ∧ Sm Y w w')) := fun w1 hw1 => by
    have hn : NewM w w1 (.slice (some ⟨w.heap.size, 0, none⟩) 512 512) w.heap.size (zeros 512) := by
      rcases hw1 with rfl | rfl
      · exact (hnew w).more (Chg.drew (fun _ => False) _)
      · have hh := hnew w.drew
        exact ⟨hh.mp, (Chg.drew (fun _ => False) w).trans hh.chg (fun _ _ h => h), hh.new, hh.len, hh.form⟩
    refine (store_any M i F n _ _ _ h hn hi hL).mono ?_
    rintro e w3 ⟨rfl, ht, hs⟩
    exact ⟨rfl, ht, (Sm.ofChg hn.chg h.xlt).trans hs⟩
  have p0 := hc.p.c0
  have p1 := hc.p.c1
  have p2 := hc.p.c2
  have p3 := hc.t
  have pa := fun o => hc.kept (Chg.alloc (fun _ => False) w o) (fun h => h) (fun h => h)
  have q0 := fun o => (pa o).p.c0
  have q1 := fun o => (pa o).p.c1
  have q2 := fun o => (pa o).p.c2
  have q3 := fun o => (pa o).t
  clear h hc hnew pa
  unfold PV at SR
  go_enter Tryz.func60, Tryz.ntmps60
  go_wp2_with fail
  go_region_with (first | (go_at_call 61; refine (SR.out _ (by first | exact .inl rfl | exact .inr rfl)).mono ?_; rintro e w3 ⟨rfl, HT⟩))
  all_goals
    go_wp2
    go_ret
    exact ⟨rfl, HT.out⟩
end
end Go.Proofs.YtnnaemlipahamaaGreat

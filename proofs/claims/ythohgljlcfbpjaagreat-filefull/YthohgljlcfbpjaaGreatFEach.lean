/-
  What each of a pool does with the closures of Clear, claim and Free; what these do.
-/
import Derived.Test.YthohgljlcfbpjaaGreatFPart
import Derived.Test.YthohgljlcfbpjaaGreatDisk
import Derived.Test.YthohgljlcfbpjaaGreatWUp
namespace Go.Proofs.YthohgljlcfbpjaaGreat
open Go.RowKit Go.Maps

section
variable {L : List Nat} {X Y : Nat → Prop} {w0 w w1 ws : World} {pd pl q K : Nat} {f : Nat → List Int} {com : Nat → Option (List Int)} {pend N : Nat} {V : Nat → List Int} {T : Nat → Bool}
set_option maxHeartbeats 1600000 in
theorem each_claim (M F : Int) (n : Nat) (b0 b1 : Nat) (I : Nat → World → Prop) (w : World) (h1 : 1 ≤ n) (h2 : n ≤ 16384) (_h0 : I 0 w) (hI : ∀ w', Chg (fun _ => False) w w' → I 0 w')
    (hstep : ∀ i w, i < mapsN n → I i w → Calls Tryz.prog 97 #[.int .i64 (i : Int), .pointer (some ⟨b0, 0, none⟩), .pointer (some ⟨b1, 0, none⟩)] w fun e w' => e = .returned (.int .i64 0) ∧ I (i + 1) w') :
    Calls Tryz.prog 34 #[PV M F n, .func (.func 97) #[] #[.pointer (some ⟨b0, 0, none⟩), .pointer (some ⟨b1, 0, none⟩)]] w fun e w' => e = .returned (.int .i64 0) ∧ I (mapsN n) w' := by
  have MP : Hid (∀ w : World, Calls Tryz.prog 70 #[PV M F n] w fun e w' => e = .returned (.int .i64 (mapsN n : Int)) ∧ w' = w.alloc (PO M F n)) := fun w => maps_yes M F n w h1 h2
  have hm4 := mapsN_le h2
  obtain ⟨m, hm⟩ : ∃ m, mapsN n = m := ⟨_, rfl⟩
  rw [hm] at MP hm4 hstep ⊢
  have HI : Hid (∀ w', Chg (fun _ => False) w w' → I 0 w') := hI
  have HS : Hid (∀ i w, i < m → I i w → Calls Tryz.prog 97 #[.int .i64 (i : Int), .pointer (some ⟨b0, 0, none⟩), .pointer (some ⟨b1, 0, none⟩)] w fun e w' => e = .returned (.int .i64 0) ∧ I (i + 1) w') := hstep
  clear _h0 hI hstep hm
  unfold PV PO at *
  go_enter Tryz.func34, Tryz.ntmps34
  go_wp2_with fail
  refine (MP.out _).mono ?_
  clear MP
  rintro e w3 ⟨rfl, hw3⟩
  have H3 : Hid (I 0 w3) := HI.out w3 ((Chg.alloc (fun _ => False) w _).trans (hw3 ▸ Chg.alloc (fun _ => False) _ _) (fun _ _ h => h))
  clear hw3 HI
  go_wp2
  go_loopw [9] (fun x wr => ∃ i, i ≤ m ∧ x = .int .i64 ((i : Nat) : Int) ∧ Hid (I i wr)) (fun x _ => m - (intOf x).toNat)
  case atStart => exact ⟨0, by omega, rfl, H3⟩
  case round =>
    obtain ⟨i, hi, rfl, HR⟩ := hrel
    clear H3
    by_cases him : i < m
    · have kim : (i : Int) < (m : Int) := by omega
      go_wp2_with fail
      refine (HS.out i wr him HR.out).mono ?_
      rintro e w4 ⟨rfl, h4⟩
      have H4 : Hid (I (i + 1) w4) := h4
      clear h4 HR
      go_wp2
      go_roundw
      case rel => exact ⟨i + 1, by omega, by go_num, H4⟩
      case measure => simp [intOf]; omega
    · have kim : ¬ ((i : Int) < (m : Int)) := by omega
      obtain rfl : i = m := by omega
      go_wp2
      go_ret
      exact ⟨rfl, HR.out⟩
set_option maxHeartbeats 1600000 in
theorem each_clear (M F : Int) (n : Nat) (b0 b1 : Nat) (I : Nat → World → Prop) (w : World) (h1 : 1 ≤ n) (h2 : n ≤ 16384) (_h0 : I 0 w) (hI : ∀ w', Chg (fun _ => False) w w' → I 0 w')
    (hstep : ∀ i w, i < mapsN n → I i w → Calls Tryz.prog 63 #[.int .i64 (i : Int), .pointer (some ⟨b0, 0, none⟩), .pointer (some ⟨b1, 0, none⟩)] w fun e w' => e = .returned (.int .i64 0) ∧ I (i + 1) w') :
    Calls Tryz.prog 34 #[PV M F n, .func (.func 63) #[] #[.pointer (some ⟨b0, 0, none⟩), .pointer (some ⟨b1, 0, none⟩)]] w fun e w' => e = .returned (.int .i64 0) ∧ I (mapsN n) w' := by
  have MP : Hid (∀ w : World, Calls Tryz.prog 70 #[PV M F n] w fun e w' => e = .returned (.int .i64 (mapsN n : Int)) ∧ w' = w.alloc (PO M F n)) := fun w => maps_yes M F n w h1 h2
  have hm4 := mapsN_le h2
  obtain ⟨m, hm⟩ : ∃ m, mapsN n = m := ⟨_, rfl⟩
  rw [hm] at MP hm4 hstep ⊢
  have HI : Hid (∀ w', Chg (fun _ => False) w w' → I 0 w') := hI
  have HS : Hid (∀ i w, i < m → I i w → Calls Tryz.prog 63 #[.int .i64 (i : Int), .pointer (some ⟨b0, 0, none⟩), .pointer (some ⟨b1, 0, none⟩)] w fun e w' => e = .returned (.int .i64 0) ∧ I (i + 1) w') := hstep
  clear _h0 hI hstep hm
  unfold PV PO at *
  go_enter Tryz.func34, Tryz.ntmps34
  go_wp2_with fail
  refine (MP.out _).mono ?_
  clear MP
  rintro e w3 ⟨rfl, hw3⟩
  have H3 : Hid (I 0 w3) := HI.out w3 ((Chg.alloc (fun _ => False) w _).trans (hw3 ▸ Chg.alloc (fun _ => False) _ _) (fun _ _ h => h))
  clear hw3 HI
  go_wp2
  go_loopw [9] (fun x wr => ∃ i, i ≤ m ∧ x = .int .i64 ((i : Nat) : Int) ∧ Hid (I i wr)) (fun x _ => m - (intOf x).toNat)
  case atStart => exact ⟨0, by omega, rfl, H3⟩
  case round =>
    obtain ⟨i, hi, rfl, HR⟩ := hrel
    clear H3
    by_cases him : i < m
    · have kim : (i : Int) < (m : Int) := by omega
      go_wp2_with fail
      refine (HS.out i wr him HR.out).mono ?_
      rintro e w4 ⟨rfl, h4⟩
      have H4 : Hid (I (i + 1) w4) := h4
      clear h4 HR
      go_wp2
      go_roundw
      case rel => exact ⟨i + 1, by omega, by go_num, H4⟩
      case measure => simp [intOf]; omega
    · have kim : ¬ ((i : Int) < (m : Int)) := by omega
      obtain rfl : i = m := by omega
      go_wp2
      go_ret
      exact ⟨rfl, HR.out⟩
set_option maxHeartbeats 1600000 in
theorem each_free (M F : Int) (n : Nat) (b0 b1 b2 : Nat) (I : Nat → World → Prop) (w : World) (h1 : 1 ≤ n) (h2 : n ≤ 16384) (_h0 : I 0 w) (hI : ∀ w', Chg (fun _ => False) w w' → I 0 w')
    (hstep : ∀ i w, i < mapsN n → I i w → Calls Tryz.prog 35 #[.int .i64 (i : Int), .pointer (some ⟨b0, 0, none⟩), .pointer (some ⟨b1, 0, none⟩), .pointer (some ⟨b2, 0, none⟩)] w fun e w' => e = .returned (.int .i64 0) ∧ I (i + 1) w') :
    Calls Tryz.prog 34 #[PV M F n, .func (.func 35) #[] #[.pointer (some ⟨b0, 0, none⟩), .pointer (some ⟨b1, 0, none⟩), .pointer (some ⟨b2, 0, none⟩)]] w fun e w' => e = .returned (.int .i64 0) ∧ I (mapsN n) w' := by
  have MP : Hid (∀ w : World, Calls Tryz.prog 70 #[PV M F n] w fun e w' => e = .returned (.int .i64 (mapsN n : Int)) ∧ w' = w.alloc (PO M F n)) := fun w => maps_yes M F n w h1 h2
  have hm4 := mapsN_le h2
  obtain ⟨m, hm⟩ : ∃ m, mapsN n = m := ⟨_, rfl⟩
  rw [hm] at MP hm4 hstep ⊢
  have HI : Hid (∀ w', Chg (fun _ => False) w w' → I 0 w') := hI
  have HS : Hid (∀ i w, i < m → I i w → Calls Tryz.prog 35 #[.int .i64 (i : Int), .pointer (some ⟨b0, 0, none⟩), .pointer (some ⟨b1, 0, none⟩), .pointer (some ⟨b2, 0, none⟩)] w fun e w' => e = .returned (.int .i64 0) ∧ I (i + 1) w') := hstep
  clear _h0 hI hstep hm
  unfold PV PO at *
  go_enter Tryz.func34, Tryz.ntmps34
  go_wp2_with fail
  refine (MP.out _).mono ?_
  clear MP
  rintro e w3 ⟨rfl, hw3⟩
  have H3 : Hid (I 0 w3) := HI.out w3 ((Chg.alloc (fun _ => False) w _).trans (hw3 ▸ Chg.alloc (fun _ => False) _ _) (fun _ _ h => h))
  clear hw3 HI
  go_wp2
  go_loopw [9] (fun x wr => ∃ i, i ≤ m ∧ x = .int .i64 ((i : Nat) : Int) ∧ Hid (I i wr)) (fun x _ => m - (intOf x).toNat)
  case atStart => exact ⟨0, by omega, rfl, H3⟩
  case round =>
    obtain ⟨i, hi, rfl, HR⟩ := hrel
    clear H3
    by_cases him : i < m
    · have kim : (i : Int) < (m : Int) := by omega
      go_wp2_with fail
      refine (HS.out i wr him HR.out).mono ?_
      rintro e w4 ⟨rfl, h4⟩
      have H4 : Hid (I (i + 1) w4) := h4
      clear h4 HR
      go_wp2
      go_roundw
      case rel => exact ⟨i + 1, by omega, by go_num, H4⟩
      case measure => simp [intOf]; omega
    · have kim : ¬ ((i : Int) < (m : Int)) := by omega
      obtain rfl : i = m := by omega
      go_wp2
      go_ret
      exact ⟨rfl, HR.out⟩
end
end Go.Proofs.YthohgljlcfbpjaaGreat

namespace Go.Proofs.YthohgljlcfbpjaaGreat
open Go.RowKit Go.Maps

section
variable {L : List Nat} {X Y : Nat → Prop} {w0 w w1 ws : World} {pd pl q K : Nat} {f : Nat → List Int} {com : Nat → Option (List Int)} {pend N : Nat} {V : Nat → List Int} {T : Nat → Bool}
/-- A pool and a transaction in boxes. -/
structure Cap (w : World) (B D : Nat) (M F n : Int) (q : Nat) : Prop where
  p : PAt w B M F n
  t : w.cell? ⟨D, 0, none⟩ = some (.pointer (some ⟨q, 0, none⟩))
theorem Cap.kept {S : Nat → Prop} {w w' : World} {B D q : Nat} {M F n : Int} (h : Cap w B D M F n q) (hc : Chg S w w') (hB : ¬ S B) (hD : ¬ S D) : Cap w' B D M F n q := ⟨h.p.kept hc hB, hc.cell h.t hD⟩
theorem Cap.sm {w w' : World} {B D q : Nat} {M F n : Int} (h : Cap w B D M F n q) (hs : Sm Y w w') (hB : Y B) (hD : Y D) : Cap w' B D M F n q := ⟨h.p.sm hs hB, hs.cell h.t hD⟩
/-- The two boxes of a call. -/
def TO (q : Nat) : Obj := .cells #[.pointer (some ⟨q, 0, none⟩)] 37
theorem Cap.box (w : World) (M F n : Int) (q : Nat) : Cap ((w.alloc (PO M F n)).alloc (TO q)) w.heap.size (w.heap.size + 1) M F n q := by
  refine ⟨(PAt.box w M F n).kept (Chg.alloc (fun _ => False) _ _) (fun h => h), ?_⟩
  unfold TO
  rw [World.cell?_alloc_at _ _ _ _ (by simp)]; rfl
theorem boxes_chg (w : World) (M F n : Int) (q : Nat) : Chg (fun _ => False) w ((w.alloc (PO M F n)).alloc (TO q)) := (Chg.alloc (fun _ => False) w _).trans (Chg.alloc (fun _ => False) _ _) (fun _ _ h => h)

theorem upd_id (V : Nat → List Int) (n : Nat) : upd V n (V n) = V := by
  funext k
  by_cases e : k = n
  · subst e; rw [upd_same]
  · rw [upd_other _ _ e]
theorem claim1_any (M F n i B D : Nat) (h : Tv L Y w0 w pd pl q K f com pend N V) (hc : Cap w B D M F n q) (hi : M + i < K) (hL : M + i ∈ L) :
    Calls Tryz.prog 97 #[.int .i64 (i : Int), .pointer (some ⟨B, 0, none⟩), .pointer (some ⟨D, 0, none⟩)] w fun e w' => e = .returned (.int .i64 0) ∧ Tv L Y w0 w' pd pl q K f com pend N V ∧ Sm Y w w' := by
  have PT : Hid (Calls Tryz.prog 36 #[PV M F n, .pointer (some ⟨q, 0, none⟩), .int .i64 (i : Int)] w fun e w2 => ∃ u, e = .returned (.tuple #[u, .int .i64 0]) ∧ Cap w2 B D M F n q ∧
      Hid (Calls Tryz.prog 64 #[PV M F n, .pointer (some ⟨q, 0, none⟩), .int .i64 (i : Int), u] w2 fun e w' => e = .returned (.int .i64 0) ∧ Hid (Tv L Y w0 w' pd pl q K f com pend N V ∧ Sm Y w w'))) := by
    refine (part_any M i F n h hi).mono ?_
    rintro e w2 ⟨u, g, rfl, hu⟩
    refine ⟨u, rfl, hc.kept hu.chg (fun h => h) (fun h => h), (store_any M i F n u g _ h hu hi hL).mono ?_⟩
    rintro e w3 ⟨rfl, ht, hs⟩
    rw [upd_id] at ht
    exact ⟨rfl, ht, (Sm.ofChg hu.chg h.xlt).trans hs⟩
  have p0 := hc.p.c0
  have p1 := hc.p.c1
  have p2 := hc.p.c2
  have p3 := hc.t
  clear h hc
  unfold PV at PT
  go_enter Tryz.func97, Tryz.ntmps97
  go_wp2_with fail
  refine PT.out.mono ?_
  clear PT
  rintro e w2 ⟨u, rfl, hc2, SR⟩
  have q0 := hc2.p.c0
  have q1 := hc2.p.c1
  have q2 := hc2.p.c2
  have q3 := hc2.t
  clear hc2
  go_wp2_with fail
  refine SR.out.mono ?_
  clear SR
  rintro e w3 ⟨rfl, HT⟩
  go_wp2
  go_ret
  exact ⟨rfl, HT.out⟩
theorem claim_any (M F n : Nat) (h : Tv L X w0 w pd pl q K f com pend N V) (hp : Pr L M F n K) :
    Calls Tryz.prog 62 #[PV M F n, .pointer (some ⟨q, 0, none⟩)] w fun e w' => e = .returned (.int .i64 0) ∧ Tv L X w0 w' pd pl q K f com pend N V ∧ Sm X w w' := by
  have hmf : ∀ (fn : Fn) (first cap : Array Value) (w : World), (Instr.makeFunc fn first cap).run Tryz.prog w = .ok (.func fn first cap) w := fun _ _ _ _ => rfl
  have cb := boxes_chg w M F n q
  have h1 := h.add cb
  have c1 := Cap.box w M F n q
  have EA : Hid (Calls Tryz.prog 34 #[PV M F n, .func (.func 97) #[] #[.pointer (some ⟨w.heap.size, 0, none⟩), .pointer (some ⟨w.heap.size + 1, 0, none⟩)]] ((w.alloc (PO M F n)).alloc (TO q)) fun e w' => e = .returned (.int .i64 0) ∧ Hid (Tv L X w0 w' pd pl q K f com pend N V ∧ Sm X w w')) := by
    generalize hws : (w.alloc (PO M F n)).alloc (TO q) = ws at *
    have hz : ws.heap.size = w.heap.size + 2 := by rw [← hws]; simp
    rw [hz] at h1
    obtain ⟨Y, hY⟩ : ∃ Y, addX X w.heap.size (w.heap.size + 2) = Y := ⟨_, rfl⟩
    have y0 : Y w.heap.size := hY ▸ .inr ⟨Nat.le_refl _, by omega⟩
    have y1 : Y (w.heap.size + 1) := hY ▸ .inr ⟨by omega, by omega⟩
    have yx : ∀ b, X b → Y b := fun b hb => hY ▸ .inl hb
    rw [hY] at h1
    refine (each_claim M F n w.heap.size (w.heap.size + 1) (fun _ w' => Tv L Y w0 w' pd pl q K f com pend N V ∧ Cap w' w.heap.size (w.heap.size + 1) M F n q ∧ Sm Y ws w') ws hp.one hp.top ⟨h1, c1, fun _ _ => rfl⟩ (fun w' hc => ⟨h1.more hc, c1.kept hc (fun h => h) (fun h => h), Sm.ofChg hc h1.xlt⟩) ?_).mono ?_
    · rintro i w' hi ⟨ht, hcp, hs⟩
      refine (claim1_any M F n i _ _ ht hcp (by have := hp.in'; omega) (hp.all i hi)).mono ?_
      rintro e w'' ⟨rfl, ht2, hs2⟩
      exact ⟨rfl, ht2, hcp.sm hs2 y0 y1, hs.trans hs2⟩
    · rintro e w' ⟨rfl, ht, _, hs⟩
      exact ⟨rfl, ht.less yx, (Sm.ofChg cb h.xlt).trans (fun b hb => hs b (yx b hb))⟩
  have p0 := c1.p.c0
  have p1 := c1.p.c1
  have p2 := c1.p.c2
  clear h h1 hp cb c1
  unfold PV PO TO at *
  go_enter Tryz.func62, Tryz.ntmps62
  go_wp2_with fail
  refine EA.out.mono ?_
  clear EA
  rintro e w' ⟨rfl, HT⟩
  go_wp2
  go_ret
  exact ⟨rfl, HT.out⟩

theorem bcells_nth {xs : List Int} {j : Nat} (h : j < xs.length) : (bcells xs)[j]? = some (.int .u8 (xs.getD j 0)) := by simp [bcells, List.getD, h]
theorem info5_parts : ∃ i, Tryz.prog.info? 5 = some i ∧ i.zero = some (.int .u8 0) ∧ i.size = 1 ∧ i.bytes = 1 := info_parts info5
/-- A block of bytes 0, as it is made. -/
theorem make512 : ∃ o : Obj, (∀ w : World, (Instr.makeSlice 94 (.int .i64 512) (.int .i64 512)).run Tryz.prog w = .ok (.slice (some ⟨w.heap.size, 0, none⟩) 512 512) (w.alloc o)) ∧ ∀ w : World, NewM w (w.alloc o) (.slice (some ⟨w.heap.size, 0, none⟩) 512 512) w.heap.size (zeros 512) := by
  obtain ⟨i0, hi, hz0, hz1, hz2⟩ := info5_parts
  refine ⟨.cells (madeCells (Value.int .u8 0).cells (512 * 1)) 5, fun w => ?_, fun w => ?_⟩
  · have := run_make (P := Tryz.prog) w 94 5 i0 (.int .u8 0) Tryz.underlying94 hi hz0 .i64 .i64 512 512 (by decide) (by decide) (by rw [hz2]; decide) (by decide)
    rw [hz1] at this
    exact this
  · refine ⟨.inr ⟨512, _, 5, by rw [zeros_len], heap_alloc_new _ _, by rw [zeros_len]; exact Nat.le_refl _, by unfold maxLen; decide, fun j hj => ?_⟩, Chg.alloc _ _ _, Nat.le_refl _, zeros_len 512, 512, rfl⟩
    rw [← Array.getElem?_toList, made_bytes]
    exact bcells_nth hj
set_option maxHeartbeats 1600000 in
theorem clear1_any (M F n i B D : Nat) (h : Tv L Y w0 w pd pl q K f com pend N V) (hc : Cap w B D M F n q) (hi : M + i < K) (hL : M + i ∈ L) :
    Calls Tryz.prog 63 #[.int .i64 (i : Int), .pointer (some ⟨B, 0, none⟩), .pointer (some ⟨D, 0, none⟩)] w fun e w' => e = .returned (.int .i64 0) ∧ Tv L Y w0 w' pd pl q K f com pend N (upd V (M + i) (zeros 512)) ∧ Sm Y w w' := by
  obtain ⟨o, hmk, hnew⟩ := make512
  have SR : Hid (∀ w1 : World, w1 = (w.alloc o).drew ∨ w1 = w.drew.alloc o → Calls Tryz.prog 64 #[PV M F n, .pointer (some ⟨q, 0, none⟩), .int .i64 (i : Int), .slice (some ⟨w.heap.size, 0, none⟩) 512 512] w1 fun e w' => e = .returned (.int .i64 0) ∧ Hid (Tv L Y w0 w' pd pl q K f com pend N (upd V (M + i) (zeros 512)) ∧ Sm Y w w')) := fun w1 hw1 => by
    have hn : NewM w w1 (.slice (some ⟨w.heap.size, 0, none⟩) 512 512) w.heap.size (zeros 512) := by
      rcases hw1 with rfl | rfl
      · exact (hnew w).more (Chg.drew (fun _ => False) _)
      · have hh := hnew w.drew
        exact ⟨hh.mp, (Chg.drew (fun _ => False) w).trans hh.chg (fun _ _ h => h), hh.new, hh.len, hh.form⟩
    refine (store_any M i F n _ _ _ h hn hi hL).mono ?_
    rintro e w3 ⟨rfl, ht, hs⟩
    exact ⟨rfl, ht, (Sm.ofChg hn.chg h.xlt).trans hs⟩
  have p0 := hc.p.c0
  have p1 := hc.p.c1
  have p2 := hc.p.c2
  have p3 := hc.t
  have pa := fun o => hc.kept (Chg.alloc (fun _ => False) w o) (fun h => h) (fun h => h)
  have q0 := fun o => (pa o).p.c0
  have q1 := fun o => (pa o).p.c1
  have q2 := fun o => (pa o).p.c2
  have q3 := fun o => (pa o).t
  clear h hc hnew pa
  unfold PV at SR
  go_enter Tryz.func63, Tryz.ntmps63
  go_wp2_with fail
  go_region_with (first | (go_at_call 64; refine (SR.out _ (by first | exact .inl rfl | exact .inr rfl)).mono ?_; rintro e w3 ⟨rfl, HT⟩))
  all_goals
    go_wp2
    go_ret
    exact ⟨rfl, HT.out⟩
end
end Go.Proofs.YthohgljlcfbpjaaGreat

namespace Go.Proofs.YthohgljlcfbpjaaGreat
open Go.RowKit

/-- A node's thirteen numbers. -/
structure Nd where
  kd : Int
  lk : Int
  sz : Int
  d0 : Int
  d1 : Int
  d2 : Int
  d3 : Int
  d4 : Int
  d5 : Int
  d6 : Int
  d7 : Int
  on : Int
  tw : Int

/-- .. as a value. -/
abbrev Nd.v (n : Nd) : Value := .agg #[.int .i64 n.kd, .int .i64 n.lk, .int .i64 n.sz, .int .i64 n.d0, .int .i64 n.d1, .int .i64 n.d2, .int .i64 n.d3, .int .i64 n.d4, .int .i64 n.d5, .int .i64 n.d6, .int .i64 n.d7, .int .i64 n.on, .int .i64 n.tw]
def Nd.ds (n : Nd) : List Int := [n.d0, n.d1, n.d2, n.d3, n.d4, n.d5, n.d6, n.d7]
def Nd.no : Nd := ⟨0, 0, 0, 0, 0, 0, 0, 0, 0, 0, 0, 0, 0⟩
theorem Nd.ds_len (n : Nd) : n.ds.length = 8 := rfl

theorem idx8 (n : Nd) (k : Nat) (hk : k < 8) (w : World) : (Instr.index 27 (.agg #[.int .i64 n.d0, .int .i64 n.d1, .int .i64 n.d2, .int .i64 n.d3, .int .i64 n.d4, .int .i64 n.d5, .int .i64 n.d6, .int .i64 n.d7]) (.int .i64 (k : Int))).run Tryz.prog w = .ok (.int .i64 (n.ds.getD k 0)) w := by
  have i0 : ∀ w : World, (Instr.index 27 (.agg #[.int .i64 n.d0, .int .i64 n.d1, .int .i64 n.d2, .int .i64 n.d3, .int .i64 n.d4, .int .i64 n.d5, .int .i64 n.d6, .int .i64 n.d7]) (.int .i64 0)).run Tryz.prog w = .ok (.int .i64 n.d0) w := fun _ => by kernel_rfl
  have i1 : ∀ w : World, (Instr.index 27 (.agg #[.int .i64 n.d0, .int .i64 n.d1, .int .i64 n.d2, .int .i64 n.d3, .int .i64 n.d4, .int .i64 n.d5, .int .i64 n.d6, .int .i64 n.d7]) (.int .i64 1)).run Tryz.prog w = .ok (.int .i64 n.d1) w := fun _ => by kernel_rfl
  have i2 : ∀ w : World, (Instr.index 27 (.agg #[.int .i64 n.d0, .int .i64 n.d1, .int .i64 n.d2, .int .i64 n.d3, .int .i64 n.d4, .int .i64 n.d5, .int .i64 n.d6, .int .i64 n.d7]) (.int .i64 2)).run Tryz.prog w = .ok (.int .i64 n.d2) w := fun _ => by kernel_rfl
  have i3 : ∀ w : World, (Instr.index 27 (.agg #[.int .i64 n.d0, .int .i64 n.d1, .int .i64 n.d2, .int .i64 n.d3, .int .i64 n.d4, .int .i64 n.d5, .int .i64 n.d6, .int .i64 n.d7]) (.int .i64 3)).run Tryz.prog w = .ok (.int .i64 n.d3) w := fun _ => by kernel_rfl
  have i4 : ∀ w : World, (Instr.index 27 (.agg #[.int .i64 n.d0, .int .i64 n.d1, .int .i64 n.d2, .int .i64 n.d3, .int .i64 n.d4, .int .i64 n.d5, .int .i64 n.d6, .int .i64 n.d7]) (.int .i64 4)).run Tryz.prog w = .ok (.int .i64 n.d4) w := fun _ => by kernel_rfl
  have i5 : ∀ w : World, (Instr.index 27 (.agg #[.int .i64 n.d0, .int .i64 n.d1, .int .i64 n.d2, .int .i64 n.d3, .int .i64 n.d4, .int .i64 n.d5, .int .i64 n.d6, .int .i64 n.d7]) (.int .i64 5)).run Tryz.prog w = .ok (.int .i64 n.d5) w := fun _ => by kernel_rfl
  have i6 : ∀ w : World, (Instr.index 27 (.agg #[.int .i64 n.d0, .int .i64 n.d1, .int .i64 n.d2, .int .i64 n.d3, .int .i64 n.d4, .int .i64 n.d5, .int .i64 n.d6, .int .i64 n.d7]) (.int .i64 6)).run Tryz.prog w = .ok (.int .i64 n.d6) w := fun _ => by kernel_rfl
  have i7 : ∀ w : World, (Instr.index 27 (.agg #[.int .i64 n.d0, .int .i64 n.d1, .int .i64 n.d2, .int .i64 n.d3, .int .i64 n.d4, .int .i64 n.d5, .int .i64 n.d6, .int .i64 n.d7]) (.int .i64 7)).run Tryz.prog w = .ok (.int .i64 n.d7) w := fun _ => by kernel_rfl
  have hc : k = 0 ∨ k = 1 ∨ k = 2 ∨ k = 3 ∨ k = 4 ∨ k = 5 ∨ k = 6 ∨ k = 7 := by omega
  rcases hc with rfl | rfl | rfl | rfl | rfl | rfl | rfl | rfl
  · exact i0 w
  · exact i1 w
  · exact i2 w
  · exact i3 w
  · exact i4 w
  · exact i5 w
  · exact i6 w
  · exact i7 w

/-- A node as it is laid. -/
abbrev Nd.o (n : Nd) (T : TypeId) : Obj := .cells #[.int .i64 n.kd, .int .i64 n.lk, .int .i64 n.sz, .int .i64 n.d0, .int .i64 n.d1, .int .i64 n.d2, .int .i64 n.d3, .int .i64 n.d4, .int .i64 n.d5, .int .i64 n.d6, .int .i64 n.d7, .int .i64 n.on, .int .i64 n.tw] T
structure NdAt (w : World) (b : Nat) (n : Nd) : Prop where
  c0 : w.cell? ⟨b, 0, none⟩ = some (.int .i64 n.kd)
  c1 : w.cell? ⟨b, 1, none⟩ = some (.int .i64 n.lk)
  c2 : w.cell? ⟨b, 2, none⟩ = some (.int .i64 n.sz)
  c3 : w.cell? ⟨b, 3, none⟩ = some (.int .i64 n.d0)
  c4 : w.cell? ⟨b, 4, none⟩ = some (.int .i64 n.d1)
  c5 : w.cell? ⟨b, 5, none⟩ = some (.int .i64 n.d2)
  c6 : w.cell? ⟨b, 6, none⟩ = some (.int .i64 n.d3)
  c7 : w.cell? ⟨b, 7, none⟩ = some (.int .i64 n.d4)
  c8 : w.cell? ⟨b, 8, none⟩ = some (.int .i64 n.d5)
  c9 : w.cell? ⟨b, 9, none⟩ = some (.int .i64 n.d6)
  c10 : w.cell? ⟨b, 10, none⟩ = some (.int .i64 n.d7)
  c11 : w.cell? ⟨b, 11, none⟩ = some (.int .i64 n.on)
  c12 : w.cell? ⟨b, 12, none⟩ = some (.int .i64 n.tw)
theorem NdAt.kept {S : Nat → Prop} {w w' : World} {b : Nat} {n : Nd} (h : NdAt w b n) (hc : Chg S w w') (hn : ¬ S b) : NdAt w' b n :=
  ⟨hc.cell h.c0 hn, hc.cell h.c1 hn, hc.cell h.c2 hn, hc.cell h.c3 hn, hc.cell h.c4 hn, hc.cell h.c5 hn, hc.cell h.c6 hn, hc.cell h.c7 hn, hc.cell h.c8 hn, hc.cell h.c9 hn, hc.cell h.c10 hn, hc.cell h.c11 hn, hc.cell h.c12 hn⟩
theorem NdAt.lt {w : World} {b : Nat} {n : Nd} (h : NdAt w b n) : b < w.heap.size := World.block_lt_of_cell? w _ h.c0
theorem NdAt.below {w w' : World} {N b : Nat} {n : Nd} (h : NdAt w b n) (hb : Below N w w') (hn : b < N) : NdAt w' b n :=
  ⟨(hb.cell (p := ⟨b, 0, none⟩) hn).trans h.c0, (hb.cell (p := ⟨b, 1, none⟩) hn).trans h.c1, (hb.cell (p := ⟨b, 2, none⟩) hn).trans h.c2, (hb.cell (p := ⟨b, 3, none⟩) hn).trans h.c3, (hb.cell (p := ⟨b, 4, none⟩) hn).trans h.c4, (hb.cell (p := ⟨b, 5, none⟩) hn).trans h.c5, (hb.cell (p := ⟨b, 6, none⟩) hn).trans h.c6, (hb.cell (p := ⟨b, 7, none⟩) hn).trans h.c7, (hb.cell (p := ⟨b, 8, none⟩) hn).trans h.c8, (hb.cell (p := ⟨b, 9, none⟩) hn).trans h.c9, (hb.cell (p := ⟨b, 10, none⟩) hn).trans h.c10, (hb.cell (p := ⟨b, 11, none⟩) hn).trans h.c11, (hb.cell (p := ⟨b, 12, none⟩) hn).trans h.c12⟩
theorem NdAt.ofBlk {w : World} {b : Nat} {n : Nd} {T : TypeId} {fr : Nat × Nat} (h : w.heap[b]? = some (.cells #[.int .i64 n.kd, .int .i64 n.lk, .int .i64 n.sz, .int .i64 n.d0, .int .i64 n.d1, .int .i64 n.d2, .int .i64 n.d3, .int .i64 n.d4, .int .i64 n.d5, .int .i64 n.d6, .int .i64 n.d7, .int .i64 n.on, .int .i64 n.tw] T fr)) : NdAt w b n := by
  refine ⟨?_, ?_, ?_, ?_, ?_, ?_, ?_, ?_, ?_, ?_, ?_, ?_, ?_⟩ <;> (rw [cell_of_row w b _ _ _ _ h]; rfl)
theorem NdAt.box (w : World) (n : Nd) (T : TypeId) : NdAt (w.alloc (n.o T)) w.heap.size n := NdAt.ofBlk (heap_alloc_new w _)

theorem NdAt.dir {w : World} {b : Nat} {n : Nd} (h : NdAt w b n) (k : Nat) (hk : k < 8) : w.cell? ⟨b, 3 + k, none⟩ = some (.int .i64 (n.ds.getD k 0)) := by
  have hc : k = 0 ∨ k = 1 ∨ k = 2 ∨ k = 3 ∨ k = 4 ∨ k = 5 ∨ k = 6 ∨ k = 7 := by omega
  rcases hc with rfl | rfl | rfl | rfl | rfl | rfl | rfl | rfl
  · exact h.c3
  · exact h.c4
  · exact h.c5
  · exact h.c6
  · exact h.c7
  · exact h.c8
  · exact h.c9
  · exact h.c10

/-- The node n lies in block b. -/
def NdB (T : TypeId) (w : World) (b : Nat) (n : Nd) : Prop := w.heap[b]? = some (.cells #[.int .i64 n.kd, .int .i64 n.lk, .int .i64 n.sz, .int .i64 n.d0, .int .i64 n.d1, .int .i64 n.d2, .int .i64 n.d3, .int .i64 n.d4, .int .i64 n.d5, .int .i64 n.d6, .int .i64 n.d7, .int .i64 n.on, .int .i64 n.tw] T (0, 0))
/-- The node with one number set. -/
def Nd.set (n : Nd) (j : Nat) (x : Int) : Nd :=
  match j with
  | 0 => { n with kd := x }
  | 1 => { n with lk := x }
  | 2 => { n with sz := x }
  | 3 => { n with d0 := x }
  | 4 => { n with d1 := x }
  | 5 => { n with d2 := x }
  | 6 => { n with d3 := x }
  | 7 => { n with d4 := x }
  | 8 => { n with d5 := x }
  | 9 => { n with d6 := x }
  | 10 => { n with d7 := x }
  | 11 => { n with on := x }
  | 12 => { n with tw := x }
  | _ => n
theorem NdB.at {T : TypeId} {w : World} {b : Nat} {n : Nd} (h : NdB T w b n) : NdAt w b n := NdAt.ofBlk h
theorem NdB.lt {T : TypeId} {w : World} {b : Nat} {n : Nd} (h : NdB T w b n) : b < w.heap.size := h.at.lt
theorem NdB.fr {T : TypeId} {w : World} {b : Nat} {n : Nd} (h : NdB T w b n) (j : Nat) : w.frozen? ⟨b, j, none⟩ = false := by
  unfold NdB at h
  simp [World.frozen?, h]
theorem NdB.kept {T : TypeId} {S : Nat → Prop} {w w' : World} {b : Nat} {n : Nd} (h : NdB T w b n) (hc : Chg S w w') (hn : ¬ S b) : NdB T w' b n := (hc.block b h.lt hn).trans h
theorem NdB.st {T : TypeId} {w : World} {b : Nat} {n : Nd} (h : NdB T w b n) (j : Nat) (x : Int) (hj : j < 13) : NdB T (w.setCell ⟨b, j, none⟩ (.int .i64 x)) b (n.set j x) := by
  have g := heap_setCell_same w b j _ T (.int .i64 x) h
  unfold NdB
  rw [g]
  have hc : j = 0 ∨ j = 1 ∨ j = 2 ∨ j = 3 ∨ j = 4 ∨ j = 5 ∨ j = 6 ∨ j = 7 ∨ j = 8 ∨ j = 9 ∨ j = 10 ∨ j = 11 ∨ j = 12 := by omega
  rcases hc with rfl | rfl | rfl | rfl | rfl | rfl | rfl | rfl | rfl | rfl | rfl | rfl | rfl <;> rfl
/-- What is bytes is no node. -/
theorem NdB.off {T : TypeId} {w : World} {b : Nat} {n : Nd} (h : NdB T w b n) {v : Value} {xs : List Int} (hb : Bs w v xs) : ∀ a m c, v = .slice (some a) m c → 0 < m → a.block ≠ b := by
  intro a m c e h0 hab
  rcases hb with ⟨e2, _⟩ | ⟨a2, c2, e2, _, _, hcell⟩
  · rw [e2] at e; cases e
  · rw [e2] at e
    cases e
    have h1 := hcell 0 h0
    have e0 : a.add 0 = a := by unfold Addr.add; split <;> simp_all
    rw [e0] at h1
    obtain ⟨blk, off, spot⟩ := a
    simp only at hab
    subst hab
    obtain rfl : spot = none := by simpa using World.cell?_spot h1
    rw [cell_of_row w blk off _ _ _ h] at h1
    have : ∀ u ∈ (#[Value.int .i64 n.kd, .int .i64 n.lk, .int .i64 n.sz, .int .i64 n.d0, .int .i64 n.d1, .int .i64 n.d2, .int .i64 n.d3, .int .i64 n.d4, .int .i64 n.d5, .int .i64 n.d6, .int .i64 n.d7, .int .i64 n.on, .int .i64 n.tw] : Array Value), ∃ y, u = .int .i64 y := by
      intro u hu
      simp at hu
      rcases hu with rfl | rfl | rfl | rfl | rfl | rfl | rfl | rfl | rfl | rfl | rfl | rfl | rfl <;> exact ⟨_, rfl⟩
    obtain ⟨y, hy⟩ := this _ (Array.mem_of_getElem? h1)
    cases hy

/-- A whole node is stored into block r. -/
abbrev putNd (w : World) (r : Nat) (m : Nd) : World := (((((((((((((w.setCell ⟨r, 0, none⟩ (.int .i64 m.kd)).setCell ⟨r, 1, none⟩ (.int .i64 m.lk)).setCell ⟨r, 2, none⟩ (.int .i64 m.sz)).setCell ⟨r, 3, none⟩ (.int .i64 m.d0)).setCell ⟨r, 4, none⟩ (.int .i64 m.d1)).setCell ⟨r, 5, none⟩ (.int .i64 m.d2)).setCell ⟨r, 6, none⟩ (.int .i64 m.d3)).setCell ⟨r, 7, none⟩ (.int .i64 m.d4)).setCell ⟨r, 8, none⟩ (.int .i64 m.d5)).setCell ⟨r, 9, none⟩ (.int .i64 m.d6)).setCell ⟨r, 10, none⟩ (.int .i64 m.d7)).setCell ⟨r, 11, none⟩ (.int .i64 m.on)).setCell ⟨r, 12, none⟩ (.int .i64 m.tw))
theorem Chg.put1 {S : Nat → Prop} {w w' : World} (h : Chg S w w') (r j : Nat) (v : Value) (hr : S r) : Chg S w (w'.setCell ⟨r, j, none⟩ v) := h.trans (Chg.setCell (S := S) w' ⟨r, j, none⟩ v hr) (fun _ _ h => h)
theorem Nd.set_all (n m : Nd) : (((((((((((((n.set 0 m.kd).set 1 m.lk).set 2 m.sz).set 3 m.d0).set 4 m.d1).set 5 m.d2).set 6 m.d3).set 7 m.d4).set 8 m.d5).set 9 m.d6).set 10 m.d7).set 11 m.on).set 12 m.tw) = m := by
  obtain ⟨a0, a1, a2, a3, a4, a5, a6, a7, a8, a9, a10, a11, a12⟩ := m
  rfl
theorem NdB.put {T : TypeId} {w : World} {r : Nat} {n : Nd} (h : NdB T w r n) (m : Nd) : NdB T (putNd w r m) r m ∧ Chg (fun k => k = r) w (putNd w r m) := by
  have h1 := (((((((((((((h.st 0 m.kd (by omega)).st 1 m.lk (by omega)).st 2 m.sz (by omega)).st 3 m.d0 (by omega)).st 4 m.d1 (by omega)).st 5 m.d2 (by omega)).st 6 m.d3 (by omega)).st 7 m.d4 (by omega)).st 8 m.d5 (by omega)).st 9 m.d6 (by omega)).st 10 m.d7 (by omega)).st 11 m.on (by omega)).st 12 m.tw (by omega))
  rw [Nd.set_all n m] at h1
  refine ⟨h1, ?_⟩
  exact (((((((((((((((Chg.refl (fun k => k = r) w).put1 r 0 (.int .i64 m.kd) rfl).put1 r 1 (.int .i64 m.lk) rfl).put1 r 2 (.int .i64 m.sz) rfl).put1 r 3 (.int .i64 m.d0) rfl).put1 r 4 (.int .i64 m.d1) rfl).put1 r 5 (.int .i64 m.d2) rfl).put1 r 6 (.int .i64 m.d3) rfl).put1 r 7 (.int .i64 m.d4) rfl).put1 r 8 (.int .i64 m.d5) rfl).put1 r 9 (.int .i64 m.d6) rfl).put1 r 10 (.int .i64 m.d7) rfl).put1 r 11 (.int .i64 m.on) rfl).put1 r 12 (.int .i64 m.tw) rfl))
theorem most_any (w : World) : Calls Tryz.prog 44 #[] w fun e w' => e = .returned (.int .i64 8458240) ∧ w' = w := by
  go_enter Tryz.func44, Tryz.ntmps44
  go_wp2
  go_ret
  exact ⟨rfl, rfl⟩

theorem ret_eq {k : IntKind} {a b : Int} (h : a = b) : Ending.returned (.int k a) = .returned (.int k b) := by rw [h]
end Go.Proofs.YthohgljlcfbpjaaGreat

/-
  The contract of Decode of the reference (package mailbagref7): the node that is read is held against the bytes.
-/
import Derived.Test.YtcclpfcgodckgaaDoorIRefDec2
namespace Go.Proofs.YtcclpfcgodckgaaDoor
open Go.RowKit

set_option maxHeartbeats 1600000 in
set_option maxRecDepth 100000 in
theorem refDecode_not (v : Value) (bs : List Int) (w : World) (hb : Bs w v bs) (hB : IsB bs) (h : bs.length = 64) (ho : openE bs = 0) (hby : (readN (bs.take 60)).bytes ≠ bs) :
    Calls Tryd.prog 11 #[v] w fun e w' => e = .returned (.tuple #[Nd.no.v, .int .i64 3]) ∧ Chg (fun _ => False) w w' := by
  obtain ⟨ab, cb, rfl, hcb⟩ := hb.formC
  have HL : Hid (bs.length = 64) := h
  have HV : Hid (openV bs = bs.take 60) := by rw [Hid]; unfold openV; rw [if_pos ho, h]
  have HX : Hid ((bs.take 60).length = 60) := by rw [Hid]; simp [h]
  rw [h] at hb
  rw [h]
  clear h hcb
  have c0 : Chg (fun _ => False) w (w.alloc (.cells #[.int .i64 0, .int .i64 0, .int .i64 0, .int .i64 0, .int .i64 0, .int .i64 0, .int .i64 0, .int .i64 0, .int .i64 0, .int .i64 0, .int .i64 0, .int .i64 0, .int .i64 0] 29)) := Chg.alloc _ _ _
  have s0 : NdB 29 (w.alloc (.cells #[.int .i64 0, .int .i64 0, .int .i64 0, .int .i64 0, .int .i64 0, .int .i64 0, .int .i64 0, .int .i64 0, .int .i64 0, .int .i64 0, .int .i64 0, .int .i64 0, .int .i64 0] 29)) w.heap.size Nd.no := heap_alloc_new w _
  go_enter Tryd.func11, Tryd.ntmps11
  go_wp2_with fail
  generalize w.alloc (.cells #[.int .i64 0, .int .i64 0, .int .i64 0, .int .i64 0, .int .i64 0, .int .i64 0, .int .i64 0, .int .i64 0, .int .i64 0, .int .i64 0, .int .i64 0, .int .i64 0, .int .i64 0] 29) = w0 at *
  refine (refOpen_any w0.heap.size _ bs w0 (hb.kept c0 (fun _ _ _ _ _ h => h)) hB (Nat.le_refl _) (by rw [HL.out]; omega)).mono ?_
  rintro e w1 ⟨u, rfl, F1⟩
  have s1 := s0.kept F1.2.1 (fun h => h)
  have C1 := c0.trans F1.2.1 (fun _ _ h => h)
  rw [HV.out] at F1
  have U1 := Bs.ofOwns F1.1
  obtain ⟨ua, uc, rfl⟩ := cown_slice F1.1
  rw [HX.out] at U1
  rw [ho, HX.out]
  have hBt := hB.take 60
  generalize hxs : bs.take 60 = xs at *
  have HXS : Hid (bs.take 60 = xs) := hxs
  clear F1 s0 c0 HV ho hxs
  have A1 : Chg (fun _ => False) w1 (w1.alloc (.cells #[.slice ua 60 uc, .int .i64 0, .int .i64 0] 69)) := Chg.alloc _ _ _
  have R1 : RR w.heap.size (w1.alloc (.cells #[.slice ua 60 uc, .int .i64 0, .int .i64 0] 69)) w1.heap.size (.slice ua 60 uc) xs 0 0 := by
    refine ⟨C1.size, heap_alloc_new w1 _, U1.kept A1 (fun _ _ _ _ _ h => h), fun a n c e h0 => ?_, Nat.zero_le _⟩
    have := U1.ltC a n c e h0
    omega
  have CA : Chg (fun k => k = w1.heap.size) w (w1.alloc (.cells #[.slice ua 60 uc, .int .i64 0, .int .i64 0] 69)) := (C1.trans A1 (fun _ _ h => h)).mono (fun _ _ h => h.elim)
  have t0 := TfAt.begin (k := 0) ⟨0, 0, R1, rfl, fun _ => rfl, fun h => absurd rfl h⟩ CA (s1.kept A1 (fun h => h)) (by have := s1.lt; omega) (Nat.le_refl _) Nd.no
  have hz : (w1.alloc (.cells #[.slice ua 60 uc, .int .i64 0, .int .i64 0] 69)).heap.size = w1.heap.size + 1 := by simp
  have hzs := s1.lt
  have hzc := C1.size
  rw [hz] at t0
  have t1 : TfAt w.heap.size w w1.heap.size w.heap.size (w1.heap.size + 1) (.slice ua 60 uc) xs ((w1.alloc (.cells #[.slice ua 60 uc, .int .i64 0, .int .i64 0] 69)).alloc (.cells #[.int .i64 0, .int .i64 0, .int .i64 0, .int .i64 0, .int .i64 0, .int .i64 0, .int .i64 0, .int .i64 0, .int .i64 0, .int .i64 0, .int .i64 0, .int .i64 0, .int .i64 0] 29)) 0 Nd.no := t0
  clear R1 CA U1 s1 A1 hz C1 t0
  go_wp2_with fail
  generalize (w1.alloc (.cells #[.slice ua 60 uc, .int .i64 0, .int .i64 0] 69)).alloc (.cells #[.int .i64 0, .int .i64 0, .int .i64 0, .int .i64 0, .int .i64 0, .int .i64 0, .int .i64 0, .int .i64 0, .int .i64 0, .int .i64 0, .int .i64 0, .int .i64 0, .int .i64 0] 29) = w2 at *
  refine (t1.num hBt 1 (by omega) (by rw [HX.out]; omega) (by rw [HX.out]; omega)).mono ?_
  rintro e w3 ⟨rfl, t3⟩
  have f3 := t3.nd.fr 0
  have c3 := t3.nd.at.c0
  have t4 := t3.store 0 (numAt xs 0 1) (by omega)
  clear t1 t3
  go_wp2_with fail
  generalize w3.setCell _ _ = w4 at *
  clear c3 f3
  refine (t4.num hBt 1 (by omega) (by rw [HX.out]; omega) (by rw [HX.out]; omega)).mono ?_
  rintro e w5 ⟨rfl, t5⟩
  clear t4
  go_wp2_with fail
  refine (t5.num hBt 2 (by omega) (by rw [HX.out]; omega) (by rw [HX.out]; omega)).mono ?_
  rintro e w6 ⟨rfl, t6⟩
  have f6 := t6.nd.fr 1
  have c6 := t6.nd.at.c1
  have t7 := t6.store 1 (numAt xs (0 + 1 + 1) 2) (by omega)
  clear t5 t6
  go_wp2_with fail
  generalize w6.setCell _ _ = w7 at *
  clear c6 f6
  refine (t7.num hBt 4 (by omega) (by rw [HX.out]; omega) (by rw [HX.out]; omega)).mono ?_
  rintro e w8 ⟨rfl, t8⟩
  have f8 := t8.nd.fr 2
  have c8 := t8.nd.at.c2
  have t9 := t8.store 2 (numAt xs (0 + 1 + 1 + 2) 4) (by omega)
  clear t7 t8
  go_wp2_with fail
  generalize w8.setCell _ _ = w9 at *
  clear c8 f8
  obtain ⟨n3, HN⟩ : ∃ n3, Hid (((Nd.no.set 0 (numAt xs 0 1)).set 1 (numAt xs (0 + 1 + 1) 2)).set 2 (numAt xs (0 + 1 + 1 + 2) 4) = n3) := ⟨_, rfl⟩
  rw [HN.out] at t9
  go_loopw [8] (fun i wr => ∃ k : Nat, k ≤ 8 ∧ i = .int .i64 k ∧ TfAt w.heap.size w w1.heap.size w.heap.size (w1.heap.size + 1) (.slice ua 60 uc) xs wr (8 + 4 * k) (n3.fill (fun k => numAt xs (8 + 4 * k) 4) k)) (fun i _ => 8 - (intOf i).toNat)
  case atStart => exact ⟨0, Nat.zero_le _, rfl, t9⟩
  case round =>
    obtain ⟨k, hk, rfl, t10⟩ := hrel
    clear t9
    by_cases hlt : k < 8
    · have g1 : (k : Int) < 8 := by omega
      go_wp2_with fail
      refine (t10.num hBt 4 (by omega) (by rw [HX.out]; omega) (by rw [HX.out]; omega)).mono ?_
      rintro e w11 ⟨rfl, t11⟩
      have f11 := t11.nd.fr (3 + k)
      have c11 := t11.nd.at.dir k hlt
      have t12 : TfAt w.heap.size w w1.heap.size w.heap.size (w1.heap.size + 1) (.slice ua 60 uc) xs (w11.setCell ⟨w1.heap.size + 1, 3 + k, none⟩ (.int .i64 (numAt xs (8 + 4 * k) 4))) (8 + 4 * (k + 1)) (n3.fill (fun k => numAt xs (8 + 4 * k) 4) (k + 1)) := t11.store (3 + k) (numAt xs (8 + 4 * k) 4) (by omega)
      clear t10 t11
      generalize numAt xs (8 + 4 * k) 4 = x at *
      go_wp2_with fail
      go_roundw
      case rel => exact ⟨k + 1, by omega, by go_num, t12⟩
      case measure => simp [intOf]; omega
    · obtain rfl : k = 8 := by omega
      go_wp2_with fail
      refine (t10.num hBt 4 (by omega) (by rw [HX.out]; omega) (by rw [HX.out]; omega)).mono ?_
      rintro e w11 ⟨rfl, t11⟩
      have f11 := t11.nd.fr 11
      have c11 := t11.nd.at.c11
      have t12 := t11.store 11 (numAt xs (8 + 4 * 8) 4) (by omega)
      clear t10 t11
      go_wp2_with fail
      generalize w11.setCell _ _ = w12 at *
      clear c11 f11
      refine (t12.num hBt 4 (by omega) (by rw [HX.out]; omega) (by rw [HX.out]; omega)).mono ?_
      rintro e w13 ⟨rfl, t13⟩
      have f13 := t13.nd.fr 12
      have c13 := t13.nd.at.c12
      have t14 := t13.store 12 (numAt xs (8 + 4 * 8 + 4) 4) (by omega)
      have en : ((n3.fill (fun k => numAt xs (8 + 4 * k) 4) 8).set 11 (numAt xs (8 + 4 * 8) 4)).set 12 (numAt xs (8 + 4 * 8 + 4) 4) = readN xs := by rw [← HN.out]; rfl
      rw [en] at t14
      clear t12 t13 HN en
      obtain ⟨n, HNN⟩ : ∃ n, Hid (readN xs = n) := ⟨_, rfl⟩
      rw [HNN.out] at t14 hby
      have k9 := strC_ne _ _ n.bytes_isB hB hby
      go_wp2_with fail
      generalize w13.setCell _ _ = w14 at *
      clear c13 f13
      have A : Chg (fun _ => False) w14 w14.drew := Chg.drew _ _
      have CZ : Chg (fun _ => False) w w14 := t14.chg.mono (fun i hi e => by omega)
      have RR : RefRest w w1.heap.size w.heap.size (w1.heap.size + 1) n w14.drew := ⟨t14.chg.trans A (fun _ _ h => h.elim), t14.res.kept A (fun h => h), t14.nd.at.kept A (fun h => h)⟩
      have B3 : Bs w14.drew (.slice ab 64 cb) bs := hb.kept (CZ.trans A (fun _ _ h => h)) (fun _ _ _ _ _ h => h)
      have sb : (convert 25 9 (.slice ab 64 cb)).run Tryd.prog w14.drew = .ok (.string (strC bs)) w14.drew := run_strC B3
      have HC : Hid (Calls Tryd.prog 9 #[n.v] w14.drew _) := ref_call RR B3 rfl rfl
      obtain ⟨tb, HTB⟩ : ∃ t, Hid (strC bs = t) := ⟨_, rfl⟩
      obtain ⟨tn, HTN⟩ : ∃ t, Hid (strC n.bytes = t) := ⟨_, rfl⟩
      rw [HTB.out] at sb HC
      rw [HTN.out] at HC
      rw [HTB.out, HTN.out] at k9
      clear hby HTB HTN
      obtain ⟨a0, a1, a2, a3, a4, a5, a6, a7, a8, a9, a10, a11, a12⟩ := RR.2.2
      clear RR B3 A t14 hb hB hBt HX HL CZ
      refine wp_region_held_drew (S := (fun w' => (w'.cell? ⟨w1.heap.size + 1, 0, none⟩ = some (.int .i64 n.kd) ∧ w'.cell? ⟨w1.heap.size + 1, 1, none⟩ = some (.int .i64 n.lk) ∧ w'.cell? ⟨w1.heap.size + 1, 2, none⟩ = some (.int .i64 n.sz) ∧ w'.cell? ⟨w1.heap.size + 1, 3, none⟩ = some (.int .i64 n.d0) ∧ w'.cell? ⟨w1.heap.size + 1, 4, none⟩ = some (.int .i64 n.d1) ∧ w'.cell? ⟨w1.heap.size + 1, 5, none⟩ = some (.int .i64 n.d2) ∧ w'.cell? ⟨w1.heap.size + 1, 6, none⟩ = some (.int .i64 n.d3) ∧ w'.cell? ⟨w1.heap.size + 1, 7, none⟩ = some (.int .i64 n.d4) ∧ w'.cell? ⟨w1.heap.size + 1, 8, none⟩ = some (.int .i64 n.d5) ∧ w'.cell? ⟨w1.heap.size + 1, 9, none⟩ = some (.int .i64 n.d6) ∧ w'.cell? ⟨w1.heap.size + 1, 10, none⟩ = some (.int .i64 n.d7) ∧ w'.cell? ⟨w1.heap.size + 1, 11, none⟩ = some (.int .i64 n.on) ∧ w'.cell? ⟨w1.heap.size + 1, 12, none⟩ = some (.int .i64 n.tw)) ∧ (convert 25 9 (.slice ab 64 cb)).run Tryd.prog w' = .ok (.string tb) w')) (by kernel_rfl) ⟨⟨a0, a1, a2, a3, a4, a5, a6, a7, a8, a9, a10, a11, a12⟩, sb⟩ (fun hHeld => ?_)
      refine wpAnyH_take (i := 0) (v := ?_) rfl (by kernel_rfl) (by kernel_rfl) (by kernel_rfl) (fun _ _ _ h => h) (Or.inl ⟨by rfl, ?_⟩) hHeld ?_
      rotate_left
      · (intro w hSw; (try dsimp only at hSw); go_simp; try with_reducible rfl)
      simp only [List.getElem_toArray, List.getElem_cons_zero, Act.put, List.setIfInBounds_toArray, List.set_cons_zero, List.set_cons_succ]
      refine wpAnyH_take (i := 3) (v := ?_) rfl (by kernel_rfl) (by kernel_rfl) (by kernel_rfl) (fun _ _ _ h => h) (Or.inl ⟨by rfl, ?_⟩) hHeld ?_
      rotate_left
      · (intro w hSw; (try dsimp only at hSw); go_simp; try with_reducible rfl)
      simp only [List.getElem_toArray, List.getElem_cons_succ, List.getElem_cons_zero, Act.put, List.setIfInBounds_toArray, List.set_cons_zero, List.set_cons_succ]
      refine wpAnyH_take (i := 4) (v := ?_) rfl (by kernel_rfl) (by kernel_rfl) (by kernel_rfl) (fun _ _ _ h => h) (Or.inl ⟨by rfl, ?_⟩) hHeld ?_
      rotate_left
      · (intro w hSw; (try dsimp only at hSw); go_simp; try with_reducible rfl)
      simp only [List.getElem_toArray, List.getElem_cons_succ, List.getElem_cons_zero, Act.put, List.setIfInBounds_toArray, List.set_cons_zero, List.set_cons_succ]
      refine wpAnyH_ready (rs := [1]) (by kernel_rfl) (by simp) ?_
      refine AllReadyH.cons rfl (fun K hK => ?_) AllReadyH.nil
      go_simp
      go_wp2_with (go_at_call 9; refine HC.out.mono ?_; clear HC; rintro e w15 ⟨u5, rfl, xs5, su, HQ5⟩)
      refine hK.out _ _ xs5 (fun hHeld => ?_)
      clear hK K hHeld
      refine wpAnyH_mono (S' := (fun w' => ((w'.cell? ⟨w1.heap.size + 1, 0, none⟩ = some (.int .i64 n.kd) ∧ w'.cell? ⟨w1.heap.size + 1, 1, none⟩ = some (.int .i64 n.lk) ∧ w'.cell? ⟨w1.heap.size + 1, 2, none⟩ = some (.int .i64 n.sz) ∧ w'.cell? ⟨w1.heap.size + 1, 3, none⟩ = some (.int .i64 n.d0) ∧ w'.cell? ⟨w1.heap.size + 1, 4, none⟩ = some (.int .i64 n.d1) ∧ w'.cell? ⟨w1.heap.size + 1, 5, none⟩ = some (.int .i64 n.d2) ∧ w'.cell? ⟨w1.heap.size + 1, 6, none⟩ = some (.int .i64 n.d3) ∧ w'.cell? ⟨w1.heap.size + 1, 7, none⟩ = some (.int .i64 n.d4) ∧ w'.cell? ⟨w1.heap.size + 1, 8, none⟩ = some (.int .i64 n.d5) ∧ w'.cell? ⟨w1.heap.size + 1, 9, none⟩ = some (.int .i64 n.d6) ∧ w'.cell? ⟨w1.heap.size + 1, 10, none⟩ = some (.int .i64 n.d7) ∧ w'.cell? ⟨w1.heap.size + 1, 11, none⟩ = some (.int .i64 n.on) ∧ w'.cell? ⟨w1.heap.size + 1, 12, none⟩ = some (.int .i64 n.tw)) ∧ (convert 25 9 (.slice ab 64 cb)).run Tryd.prog w' = .ok (.string tb) w') ∧ (convert 25 9 u5).run Tryd.prog w' = .ok (.string tn) w')) (fun _ h => h.1) _ _ _ _ ?_
      have hHeld : (fun w' => ((w'.cell? ⟨w1.heap.size + 1, 0, none⟩ = some (.int .i64 n.kd) ∧ w'.cell? ⟨w1.heap.size + 1, 1, none⟩ = some (.int .i64 n.lk) ∧ w'.cell? ⟨w1.heap.size + 1, 2, none⟩ = some (.int .i64 n.sz) ∧ w'.cell? ⟨w1.heap.size + 1, 3, none⟩ = some (.int .i64 n.d0) ∧ w'.cell? ⟨w1.heap.size + 1, 4, none⟩ = some (.int .i64 n.d1) ∧ w'.cell? ⟨w1.heap.size + 1, 5, none⟩ = some (.int .i64 n.d2) ∧ w'.cell? ⟨w1.heap.size + 1, 6, none⟩ = some (.int .i64 n.d3) ∧ w'.cell? ⟨w1.heap.size + 1, 7, none⟩ = some (.int .i64 n.d4) ∧ w'.cell? ⟨w1.heap.size + 1, 8, none⟩ = some (.int .i64 n.d5) ∧ w'.cell? ⟨w1.heap.size + 1, 9, none⟩ = some (.int .i64 n.d6) ∧ w'.cell? ⟨w1.heap.size + 1, 10, none⟩ = some (.int .i64 n.d7) ∧ w'.cell? ⟨w1.heap.size + 1, 11, none⟩ = some (.int .i64 n.on) ∧ w'.cell? ⟨w1.heap.size + 1, 12, none⟩ = some (.int .i64 n.tw)) ∧ (convert 25 9 (.slice ab 64 cb)).run Tryd.prog w' = .ok (.string tb) w') ∧ (convert 25 9 u5).run Tryd.prog w' = .ok (.string tn) w') w15 := ⟨xs5, su⟩
      refine wpAnyH_take (i := 2) (v := ?_) rfl (by kernel_rfl) (by kernel_rfl) (by kernel_rfl) (fun _ _ _ h => h) (Or.inl ⟨by rfl, ?_⟩) hHeld ?_
      rotate_left
      · (intro w hSw; (try dsimp only at hSw); go_simp; try with_reducible rfl)
      simp only [List.getElem_toArray, List.getElem_cons_succ, List.getElem_cons_zero, Act.put, List.setIfInBounds_toArray, List.set_cons_zero, List.set_cons_succ]
      refine wpAnyH_take (i := 5) (v := ?_) rfl (by kernel_rfl) (by kernel_rfl) (by kernel_rfl) (fun _ _ _ h => h) (Or.inl ⟨by rfl, ?_⟩) hHeld ?_
      rotate_left
      · (intro w hSw; (try dsimp only at hSw); go_simp; try with_reducible rfl)
      simp only [List.getElem_toArray, List.getElem_cons_succ, List.getElem_cons_zero, Act.put, List.setIfInBounds_toArray, List.set_cons_zero, List.set_cons_succ]
      refine wpAnyH_take (i := 6) (v := ?_) rfl (by kernel_rfl) (by kernel_rfl) (by kernel_rfl) (fun _ _ _ h => h) (Or.inl ⟨by rfl, ?_⟩) hHeld ?_
      rotate_left
      · (intro w hSw; (try dsimp only at hSw); go_simp; try with_reducible rfl)
      simp only [List.getElem_toArray, List.getElem_cons_succ, List.getElem_cons_zero, Act.put, List.setIfInBounds_toArray, List.set_cons_zero, List.set_cons_succ]
      refine wpAnyH_take (i := 7) (v := undef) rfl (by kernel_rfl) (by kernel_rfl) (by kernel_rfl) (fun _ _ _ h => h) (Or.inr ⟨by rfl, rfl⟩) hHeld ?_
      simp only [List.getElem_toArray, List.getElem_cons_succ, List.getElem_cons_zero, Act.put, List.setIfInBounds_toArray, List.set_cons_zero, List.set_cons_succ]
      refine wpAnyH_take (i := 8) (v := undef) rfl (by kernel_rfl) (by kernel_rfl) (by kernel_rfl) (fun _ _ _ h => h) (Or.inr ⟨by rfl, rfl⟩) hHeld ?_
      simp only [List.getElem_toArray, List.getElem_cons_succ, List.getElem_cons_zero, Act.put, List.setIfInBounds_toArray, List.set_cons_zero, List.set_cons_succ]
      refine wpAnyH_take (i := 9) (v := undef) rfl (by kernel_rfl) (by kernel_rfl) (by kernel_rfl) (fun _ _ _ h => h) (Or.inr ⟨by rfl, rfl⟩) hHeld ?_
      simp only [List.getElem_toArray, List.getElem_cons_succ, List.getElem_cons_zero, Act.put, List.setIfInBounds_toArray, List.set_cons_zero, List.set_cons_succ]
      refine wpAnyH_take (i := 10) (v := ?_) rfl (by kernel_rfl) (by kernel_rfl) (by kernel_rfl) (fun _ _ _ h => h) (Or.inl ⟨by rfl, ?_⟩) hHeld ?_
      rotate_left
      · (intro w hSw; (try dsimp only at hSw); go_simp; try with_reducible rfl)
      simp only [List.getElem_toArray, List.getElem_cons_succ, List.getElem_cons_zero, Act.put, List.setIfInBounds_toArray, List.set_cons_zero, List.set_cons_succ]
      refine wpAnyH_take (i := 11) (v := ?_) rfl (by kernel_rfl) (by kernel_rfl) (by kernel_rfl) (fun _ _ _ h => h) (Or.inl ⟨by rfl, ?_⟩) hHeld ?_
      rotate_left
      · (intro w hSw; (try dsimp only at hSw); go_simp; try with_reducible rfl)
      simp only [List.getElem_toArray, List.getElem_cons_succ, List.getElem_cons_zero, Act.put, List.setIfInBounds_toArray, List.set_cons_zero, List.set_cons_succ]
      refine wpAnyH_take (i := 12) (v := undef) rfl (by kernel_rfl) (by kernel_rfl) (by kernel_rfl) (fun _ _ _ h => h) (Or.inr ⟨by rfl, rfl⟩) hHeld ?_
      simp only [List.getElem_toArray, List.getElem_cons_succ, List.getElem_cons_zero, Act.put, List.setIfInBounds_toArray, List.set_cons_zero, List.set_cons_succ]
      refine wpAnyH_take (i := 13) (v := undef) rfl (by kernel_rfl) (by kernel_rfl) (by kernel_rfl) (fun _ _ _ h => h) (Or.inr ⟨by rfl, rfl⟩) hHeld ?_
      simp only [List.getElem_toArray, List.getElem_cons_succ, List.getElem_cons_zero, Act.put, List.setIfInBounds_toArray, List.set_cons_zero, List.set_cons_succ]
      refine wpAnyH_take (i := 14) (v := undef) rfl (by kernel_rfl) (by kernel_rfl) (by kernel_rfl) (fun _ _ _ h => h) (Or.inr ⟨by rfl, rfl⟩) hHeld ?_
      simp only [List.getElem_toArray, List.getElem_cons_succ, List.getElem_cons_zero, Act.put, List.setIfInBounds_toArray, List.set_cons_zero, List.set_cons_succ]
      refine wpAnyH_take (i := 15) (v := ?_) rfl (by kernel_rfl) (by kernel_rfl) (by kernel_rfl) (fun _ _ _ h => h) (Or.inl ⟨by rfl, ?_⟩) hHeld ?_
      rotate_left
      · (intro w hSw; (try dsimp only at hSw); go_simp; try with_reducible rfl)
      simp only [List.getElem_toArray, List.getElem_cons_succ, List.getElem_cons_zero, Act.put, List.setIfInBounds_toArray, List.set_cons_zero, List.set_cons_succ]
      refine wpAnyH_done (by kernel_rfl) ?_ _
      obtain ⟨D1, D2, D3⟩ := HQ5.out
      have D0 : Chg (fun _ => False) w w15 := D1.mono (fun i hi e => by omega)
      obtain ⟨c0, c1, c2, c3, c4, c5, c6, c7, c8, c9, c10, c11, c12⟩ := D3
      obtain ⟨r0, r1, r2, r3, r4, r5, r6, r7, r8, r9, r10, r11, r12⟩ := D2.at
      have fr := D2.fr
      clear hHeld a0 a1 a2 a3 a4 a5 a6 a7 a8 a9 a10 a11 a12 xs5 su sb
      go_wp2_with fail
      obtain ⟨P1, P2⟩ := D2.put Nd.no
      have C9 := D0.trans P2 (fun i hi e => by omega)
      clear c0 c1 c2 c3 c4 c5 c6 c7 c8 c9 c10 c11 c12 r0 r1 r2 r3 r4 r5 r6 r7 r8 r9 r10 r11 r12 P2 D1 D2 fr D0
      unfold putNd at P1 C9
      simp only [Nd.no] at P1 C9
      generalize World.setCell _ ⟨w.heap.size, 12, none⟩ _ = w16 at *
      obtain ⟨c0, c1, c2, c3, c4, c5, c6, c7, c8, c9, c10, c11, c12⟩ := P1.at
      refine bodyPost_ret (v := .tuple #[Nd.no.v, .int .i64 3]) (by simp [results, Tryd.results11, go_sem, Nd.no, c0, c1, c2, c3, c4, c5, c6, c7, c8, c9, c10, c11, c12]) rfl ⟨rfl, C9⟩

set_option maxHeartbeats 1600000 in
set_option maxRecDepth 100000 in
theorem refDecode_kd (v : Value) (bs : List Int) (w : World) (hb : Bs w v bs) (hB : IsB bs) (h : bs.length = 64) (ho : openE bs = 0) (hkd : 2 < (readN (bs.take 60)).kd) (hby : (readN (bs.take 60)).bytes = bs) :
    Calls Tryd.prog 11 #[v] w fun e w' => e = .returned (.tuple #[Nd.no.v, .int .i64 3]) ∧ Chg (fun _ => False) w w' := by
  obtain ⟨ab, cb, rfl, hcb⟩ := hb.formC
  have HL : Hid (bs.length = 64) := h
  have HV : Hid (openV bs = bs.take 60) := by rw [Hid]; unfold openV; rw [if_pos ho, h]
  have HX : Hid ((bs.take 60).length = 60) := by rw [Hid]; simp [h]
  rw [h] at hb
  rw [h]
  clear h hcb
  have c0 : Chg (fun _ => False) w (w.alloc (.cells #[.int .i64 0, .int .i64 0, .int .i64 0, .int .i64 0, .int .i64 0, .int .i64 0, .int .i64 0, .int .i64 0, .int .i64 0, .int .i64 0, .int .i64 0, .int .i64 0, .int .i64 0] 29)) := Chg.alloc _ _ _
  have s0 : NdB 29 (w.alloc (.cells #[.int .i64 0, .int .i64 0, .int .i64 0, .int .i64 0, .int .i64 0, .int .i64 0, .int .i64 0, .int .i64 0, .int .i64 0, .int .i64 0, .int .i64 0, .int .i64 0, .int .i64 0] 29)) w.heap.size Nd.no := heap_alloc_new w _
  go_enter Tryd.func11, Tryd.ntmps11
  go_wp2_with fail
  generalize w.alloc (.cells #[.int .i64 0, .int .i64 0, .int .i64 0, .int .i64 0, .int .i64 0, .int .i64 0, .int .i64 0, .int .i64 0, .int .i64 0, .int .i64 0, .int .i64 0, .int .i64 0, .int .i64 0] 29) = w0 at *
  refine (refOpen_any w0.heap.size _ bs w0 (hb.kept c0 (fun _ _ _ _ _ h => h)) hB (Nat.le_refl _) (by rw [HL.out]; omega)).mono ?_
  rintro e w1 ⟨u, rfl, F1⟩
  have s1 := s0.kept F1.2.1 (fun h => h)
  have C1 := c0.trans F1.2.1 (fun _ _ h => h)
  rw [HV.out] at F1
  have U1 := Bs.ofOwns F1.1
  obtain ⟨ua, uc, rfl⟩ := cown_slice F1.1
  rw [HX.out] at U1
  rw [ho, HX.out]
  have hBt := hB.take 60
  generalize hxs : bs.take 60 = xs at *
  have HXS : Hid (bs.take 60 = xs) := hxs
  clear F1 s0 c0 HV ho hxs
  have A1 : Chg (fun _ => False) w1 (w1.alloc (.cells #[.slice ua 60 uc, .int .i64 0, .int .i64 0] 69)) := Chg.alloc _ _ _
  have R1 : RR w.heap.size (w1.alloc (.cells #[.slice ua 60 uc, .int .i64 0, .int .i64 0] 69)) w1.heap.size (.slice ua 60 uc) xs 0 0 := by
    refine ⟨C1.size, heap_alloc_new w1 _, U1.kept A1 (fun _ _ _ _ _ h => h), fun a n c e h0 => ?_, Nat.zero_le _⟩
    have := U1.ltC a n c e h0
    omega
  have CA : Chg (fun k => k = w1.heap.size) w (w1.alloc (.cells #[.slice ua 60 uc, .int .i64 0, .int .i64 0] 69)) := (C1.trans A1 (fun _ _ h => h)).mono (fun _ _ h => h.elim)
  have t0 := TfAt.begin (k := 0) ⟨0, 0, R1, rfl, fun _ => rfl, fun h => absurd rfl h⟩ CA (s1.kept A1 (fun h => h)) (by have := s1.lt; omega) (Nat.le_refl _) Nd.no
  have hz : (w1.alloc (.cells #[.slice ua 60 uc, .int .i64 0, .int .i64 0] 69)).heap.size = w1.heap.size + 1 := by simp
  have hzs := s1.lt
  have hzc := C1.size
  rw [hz] at t0
  have t1 : TfAt w.heap.size w w1.heap.size w.heap.size (w1.heap.size + 1) (.slice ua 60 uc) xs ((w1.alloc (.cells #[.slice ua 60 uc, .int .i64 0, .int .i64 0] 69)).alloc (.cells #[.int .i64 0, .int .i64 0, .int .i64 0, .int .i64 0, .int .i64 0, .int .i64 0, .int .i64 0, .int .i64 0, .int .i64 0, .int .i64 0, .int .i64 0, .int .i64 0, .int .i64 0] 29)) 0 Nd.no := t0
  clear R1 CA U1 s1 A1 hz C1 t0
  go_wp2_with fail
  generalize (w1.alloc (.cells #[.slice ua 60 uc, .int .i64 0, .int .i64 0] 69)).alloc (.cells #[.int .i64 0, .int .i64 0, .int .i64 0, .int .i64 0, .int .i64 0, .int .i64 0, .int .i64 0, .int .i64 0, .int .i64 0, .int .i64 0, .int .i64 0, .int .i64 0, .int .i64 0] 29) = w2 at *
  refine (t1.num hBt 1 (by omega) (by rw [HX.out]; omega) (by rw [HX.out]; omega)).mono ?_
  rintro e w3 ⟨rfl, t3⟩
  have f3 := t3.nd.fr 0
  have c3 := t3.nd.at.c0
  have t4 := t3.store 0 (numAt xs 0 1) (by omega)
  clear t1 t3
  go_wp2_with fail
  generalize w3.setCell _ _ = w4 at *
  clear c3 f3
  refine (t4.num hBt 1 (by omega) (by rw [HX.out]; omega) (by rw [HX.out]; omega)).mono ?_
  rintro e w5 ⟨rfl, t5⟩
  clear t4
  go_wp2_with fail
  refine (t5.num hBt 2 (by omega) (by rw [HX.out]; omega) (by rw [HX.out]; omega)).mono ?_
  rintro e w6 ⟨rfl, t6⟩
  have f6 := t6.nd.fr 1
  have c6 := t6.nd.at.c1
  have t7 := t6.store 1 (numAt xs (0 + 1 + 1) 2) (by omega)
  clear t5 t6
  go_wp2_with fail
  generalize w6.setCell _ _ = w7 at *
  clear c6 f6
  refine (t7.num hBt 4 (by omega) (by rw [HX.out]; omega) (by rw [HX.out]; omega)).mono ?_
  rintro e w8 ⟨rfl, t8⟩
  have f8 := t8.nd.fr 2
  have c8 := t8.nd.at.c2
  have t9 := t8.store 2 (numAt xs (0 + 1 + 1 + 2) 4) (by omega)
  clear t7 t8
  go_wp2_with fail
  generalize w8.setCell _ _ = w9 at *
  clear c8 f8
  obtain ⟨n3, HN⟩ : ∃ n3, Hid (((Nd.no.set 0 (numAt xs 0 1)).set 1 (numAt xs (0 + 1 + 1) 2)).set 2 (numAt xs (0 + 1 + 1 + 2) 4) = n3) := ⟨_, rfl⟩
  rw [HN.out] at t9
  go_loopw [8] (fun i wr => ∃ k : Nat, k ≤ 8 ∧ i = .int .i64 k ∧ TfAt w.heap.size w w1.heap.size w.heap.size (w1.heap.size + 1) (.slice ua 60 uc) xs wr (8 + 4 * k) (n3.fill (fun k => numAt xs (8 + 4 * k) 4) k)) (fun i _ => 8 - (intOf i).toNat)
  case atStart => exact ⟨0, Nat.zero_le _, rfl, t9⟩
  case round =>
    obtain ⟨k, hk, rfl, t10⟩ := hrel
    clear t9
    by_cases hlt : k < 8
    · have g1 : (k : Int) < 8 := by omega
      go_wp2_with fail
      refine (t10.num hBt 4 (by omega) (by rw [HX.out]; omega) (by rw [HX.out]; omega)).mono ?_
      rintro e w11 ⟨rfl, t11⟩
      have f11 := t11.nd.fr (3 + k)
      have c11 := t11.nd.at.dir k hlt
      have t12 : TfAt w.heap.size w w1.heap.size w.heap.size (w1.heap.size + 1) (.slice ua 60 uc) xs (w11.setCell ⟨w1.heap.size + 1, 3 + k, none⟩ (.int .i64 (numAt xs (8 + 4 * k) 4))) (8 + 4 * (k + 1)) (n3.fill (fun k => numAt xs (8 + 4 * k) 4) (k + 1)) := t11.store (3 + k) (numAt xs (8 + 4 * k) 4) (by omega)
      clear t10 t11
      generalize numAt xs (8 + 4 * k) 4 = x at *
      go_wp2_with fail
      go_roundw
      case rel => exact ⟨k + 1, by omega, by go_num, t12⟩
      case measure => simp [intOf]; omega
    · obtain rfl : k = 8 := by omega
      go_wp2_with fail
      refine (t10.num hBt 4 (by omega) (by rw [HX.out]; omega) (by rw [HX.out]; omega)).mono ?_
      rintro e w11 ⟨rfl, t11⟩
      have f11 := t11.nd.fr 11
      have c11 := t11.nd.at.c11
      have t12 := t11.store 11 (numAt xs (8 + 4 * 8) 4) (by omega)
      clear t10 t11
      go_wp2_with fail
      generalize w11.setCell _ _ = w12 at *
      clear c11 f11
      refine (t12.num hBt 4 (by omega) (by rw [HX.out]; omega) (by rw [HX.out]; omega)).mono ?_
      rintro e w13 ⟨rfl, t13⟩
      have f13 := t13.nd.fr 12
      have c13 := t13.nd.at.c12
      have t14 := t13.store 12 (numAt xs (8 + 4 * 8 + 4) 4) (by omega)
      have en : ((n3.fill (fun k => numAt xs (8 + 4 * k) 4) 8).set 11 (numAt xs (8 + 4 * 8) 4)).set 12 (numAt xs (8 + 4 * 8 + 4) 4) = readN xs := by rw [← HN.out]; rfl
      rw [en] at t14
      clear t12 t13 HN en
      obtain ⟨n, HNN⟩ : ∃ n, Hid (readN xs = n) := ⟨_, rfl⟩
      rw [HNN.out] at t14 hby hkd
      go_wp2_with fail
      generalize w13.setCell _ _ = w14 at *
      clear c13 f13
      have A : Chg (fun _ => False) w14 w14.drew := Chg.drew _ _
      have CZ : Chg (fun _ => False) w w14 := t14.chg.mono (fun i hi e => by omega)
      have RR : RefRest w w1.heap.size w.heap.size (w1.heap.size + 1) n w14.drew := ⟨t14.chg.trans A (fun _ _ h => h.elim), t14.res.kept A (fun h => h), t14.nd.at.kept A (fun h => h)⟩
      have B3 : Bs w14.drew (.slice ab 64 cb) bs := hb.kept (CZ.trans A (fun _ _ h => h)) (fun _ _ _ _ _ h => h)
      have sb : (convert 25 9 (.slice ab 64 cb)).run Tryd.prog w14.drew = .ok (.string (strC bs)) w14.drew := run_strC B3
      have HC : Hid (Calls Tryd.prog 9 #[n.v] w14.drew _) := ref_call RR B3 rfl rfl
      obtain ⟨tb, HTB⟩ : ∃ t, Hid (strC bs = t) := ⟨_, rfl⟩
      obtain ⟨tn, HTN⟩ : ∃ t, Hid (strC n.bytes = t) := ⟨_, rfl⟩
      rw [HTB.out] at sb HC
      rw [HTN.out] at HC
      obtain rfl : tn = tb := by rw [← HTB.out, ← HTN.out, hby]
      clear HTB HTN hby
      obtain ⟨a0, a1, a2, a3, a4, a5, a6, a7, a8, a9, a10, a11, a12⟩ := RR.2.2
      clear RR B3 A t14 hb hB hBt HX HL CZ
      refine wp_region_held_drew (S := (fun w' => (w'.cell? ⟨w1.heap.size + 1, 0, none⟩ = some (.int .i64 n.kd) ∧ w'.cell? ⟨w1.heap.size + 1, 1, none⟩ = some (.int .i64 n.lk) ∧ w'.cell? ⟨w1.heap.size + 1, 2, none⟩ = some (.int .i64 n.sz) ∧ w'.cell? ⟨w1.heap.size + 1, 3, none⟩ = some (.int .i64 n.d0) ∧ w'.cell? ⟨w1.heap.size + 1, 4, none⟩ = some (.int .i64 n.d1) ∧ w'.cell? ⟨w1.heap.size + 1, 5, none⟩ = some (.int .i64 n.d2) ∧ w'.cell? ⟨w1.heap.size + 1, 6, none⟩ = some (.int .i64 n.d3) ∧ w'.cell? ⟨w1.heap.size + 1, 7, none⟩ = some (.int .i64 n.d4) ∧ w'.cell? ⟨w1.heap.size + 1, 8, none⟩ = some (.int .i64 n.d5) ∧ w'.cell? ⟨w1.heap.size + 1, 9, none⟩ = some (.int .i64 n.d6) ∧ w'.cell? ⟨w1.heap.size + 1, 10, none⟩ = some (.int .i64 n.d7) ∧ w'.cell? ⟨w1.heap.size + 1, 11, none⟩ = some (.int .i64 n.on) ∧ w'.cell? ⟨w1.heap.size + 1, 12, none⟩ = some (.int .i64 n.tw)) ∧ (convert 25 9 (.slice ab 64 cb)).run Tryd.prog w' = .ok (.string tn) w')) (by kernel_rfl) ⟨⟨a0, a1, a2, a3, a4, a5, a6, a7, a8, a9, a10, a11, a12⟩, sb⟩ (fun hHeld => ?_)
      refine wpAnyH_take (i := 0) (v := ?_) rfl (by kernel_rfl) (by kernel_rfl) (by kernel_rfl) (fun _ _ _ h => h) (Or.inl ⟨by rfl, ?_⟩) hHeld ?_
      rotate_left
      · (intro w hSw; (try dsimp only at hSw); go_simp; try with_reducible rfl)
      simp only [List.getElem_toArray, List.getElem_cons_zero, Act.put, List.setIfInBounds_toArray, List.set_cons_zero, List.set_cons_succ]
      refine wpAnyH_take (i := 3) (v := ?_) rfl (by kernel_rfl) (by kernel_rfl) (by kernel_rfl) (fun _ _ _ h => h) (Or.inl ⟨by rfl, ?_⟩) hHeld ?_
      rotate_left
      · (intro w hSw; (try dsimp only at hSw); go_simp; try with_reducible rfl)
      simp only [List.getElem_toArray, List.getElem_cons_succ, List.getElem_cons_zero, Act.put, List.setIfInBounds_toArray, List.set_cons_zero, List.set_cons_succ]
      refine wpAnyH_take (i := 4) (v := ?_) rfl (by kernel_rfl) (by kernel_rfl) (by kernel_rfl) (fun _ _ _ h => h) (Or.inl ⟨by rfl, ?_⟩) hHeld ?_
      rotate_left
      · (intro w hSw; (try dsimp only at hSw); go_simp; try with_reducible rfl)
      simp only [List.getElem_toArray, List.getElem_cons_succ, List.getElem_cons_zero, Act.put, List.setIfInBounds_toArray, List.set_cons_zero, List.set_cons_succ]
      refine wpAnyH_ready (rs := [1]) (by kernel_rfl) (by simp) ?_
      refine AllReadyH.cons rfl (fun K hK => ?_) AllReadyH.nil
      go_simp
      go_wp2_with (go_at_call 9; refine HC.out.mono ?_; clear HC; rintro e w15 ⟨u5, rfl, xs5, su, HQ5⟩)
      refine hK.out _ _ xs5 (fun hHeld => ?_)
      clear hK K hHeld
      refine wpAnyH_mono (S' := (fun w' => ((w'.cell? ⟨w1.heap.size + 1, 0, none⟩ = some (.int .i64 n.kd) ∧ w'.cell? ⟨w1.heap.size + 1, 1, none⟩ = some (.int .i64 n.lk) ∧ w'.cell? ⟨w1.heap.size + 1, 2, none⟩ = some (.int .i64 n.sz) ∧ w'.cell? ⟨w1.heap.size + 1, 3, none⟩ = some (.int .i64 n.d0) ∧ w'.cell? ⟨w1.heap.size + 1, 4, none⟩ = some (.int .i64 n.d1) ∧ w'.cell? ⟨w1.heap.size + 1, 5, none⟩ = some (.int .i64 n.d2) ∧ w'.cell? ⟨w1.heap.size + 1, 6, none⟩ = some (.int .i64 n.d3) ∧ w'.cell? ⟨w1.heap.size + 1, 7, none⟩ = some (.int .i64 n.d4) ∧ w'.cell? ⟨w1.heap.size + 1, 8, none⟩ = some (.int .i64 n.d5) ∧ w'.cell? ⟨w1.heap.size + 1, 9, none⟩ = some (.int .i64 n.d6) ∧ w'.cell? ⟨w1.heap.size + 1, 10, none⟩ = some (.int .i64 n.d7) ∧ w'.cell? ⟨w1.heap.size + 1, 11, none⟩ = some (.int .i64 n.on) ∧ w'.cell? ⟨w1.heap.size + 1, 12, none⟩ = some (.int .i64 n.tw)) ∧ (convert 25 9 (.slice ab 64 cb)).run Tryd.prog w' = .ok (.string tn) w') ∧ (convert 25 9 u5).run Tryd.prog w' = .ok (.string tn) w')) (fun _ h => h.1) _ _ _ _ ?_
      have hHeld : (fun w' => ((w'.cell? ⟨w1.heap.size + 1, 0, none⟩ = some (.int .i64 n.kd) ∧ w'.cell? ⟨w1.heap.size + 1, 1, none⟩ = some (.int .i64 n.lk) ∧ w'.cell? ⟨w1.heap.size + 1, 2, none⟩ = some (.int .i64 n.sz) ∧ w'.cell? ⟨w1.heap.size + 1, 3, none⟩ = some (.int .i64 n.d0) ∧ w'.cell? ⟨w1.heap.size + 1, 4, none⟩ = some (.int .i64 n.d1) ∧ w'.cell? ⟨w1.heap.size + 1, 5, none⟩ = some (.int .i64 n.d2) ∧ w'.cell? ⟨w1.heap.size + 1, 6, none⟩ = some (.int .i64 n.d3) ∧ w'.cell? ⟨w1.heap.size + 1, 7, none⟩ = some (.int .i64 n.d4) ∧ w'.cell? ⟨w1.heap.size + 1, 8, none⟩ = some (.int .i64 n.d5) ∧ w'.cell? ⟨w1.heap.size + 1, 9, none⟩ = some (.int .i64 n.d6) ∧ w'.cell? ⟨w1.heap.size + 1, 10, none⟩ = some (.int .i64 n.d7) ∧ w'.cell? ⟨w1.heap.size + 1, 11, none⟩ = some (.int .i64 n.on) ∧ w'.cell? ⟨w1.heap.size + 1, 12, none⟩ = some (.int .i64 n.tw)) ∧ (convert 25 9 (.slice ab 64 cb)).run Tryd.prog w' = .ok (.string tn) w') ∧ (convert 25 9 u5).run Tryd.prog w' = .ok (.string tn) w') w15 := ⟨xs5, su⟩
      refine wpAnyH_take (i := 2) (v := ?_) rfl (by kernel_rfl) (by kernel_rfl) (by kernel_rfl) (fun _ _ _ h => h) (Or.inl ⟨by rfl, ?_⟩) hHeld ?_
      rotate_left
      · (intro w hSw; (try dsimp only at hSw); go_simp; try with_reducible rfl)
      simp only [List.getElem_toArray, List.getElem_cons_succ, List.getElem_cons_zero, Act.put, List.setIfInBounds_toArray, List.set_cons_zero, List.set_cons_succ]
      refine wpAnyH_take (i := 5) (v := ?_) rfl (by kernel_rfl) (by kernel_rfl) (by kernel_rfl) (fun _ _ _ h => h) (Or.inl ⟨by rfl, ?_⟩) hHeld ?_
      rotate_left
      · (intro w hSw; (try dsimp only at hSw); go_simp; try with_reducible rfl)
      simp only [List.getElem_toArray, List.getElem_cons_succ, List.getElem_cons_zero, Act.put, List.setIfInBounds_toArray, List.set_cons_zero, List.set_cons_succ]
      refine wpAnyH_take (i := 6) (v := ?_) rfl (by kernel_rfl) (by kernel_rfl) (by kernel_rfl) (fun _ _ _ h => h) (Or.inl ⟨by rfl, ?_⟩) hHeld ?_
      rotate_left
      · (intro w hSw; (try dsimp only at hSw); go_simp; try with_reducible rfl)
      simp only [List.getElem_toArray, List.getElem_cons_succ, List.getElem_cons_zero, Act.put, List.setIfInBounds_toArray, List.set_cons_zero, List.set_cons_succ]
      refine wpAnyH_take (i := 7) (v := ?_) rfl (by kernel_rfl) (by kernel_rfl) (by kernel_rfl) (fun _ _ _ h => h) (Or.inl ⟨by rfl, ?_⟩) hHeld ?_
      rotate_left
      · (intro w hSw; (try dsimp only at hSw); go_simp; try with_reducible rfl)
      simp only [List.getElem_toArray, List.getElem_cons_succ, List.getElem_cons_zero, Act.put, List.setIfInBounds_toArray, List.set_cons_zero, List.set_cons_succ]
      refine wpAnyH_take (i := 8) (v := ?_) rfl (by kernel_rfl) (by kernel_rfl) (by kernel_rfl) (fun _ _ _ h => h) (Or.inl ⟨by rfl, ?_⟩) hHeld ?_
      rotate_left
      · (intro w hSw; (try dsimp only at hSw); go_simp; try with_reducible rfl)
      simp only [List.getElem_toArray, List.getElem_cons_succ, List.getElem_cons_zero, Act.put, List.setIfInBounds_toArray, List.set_cons_zero, List.set_cons_succ]
      refine wpAnyH_take (i := 9) (v := ?_) rfl (by kernel_rfl) (by kernel_rfl) (by kernel_rfl) (fun _ _ _ h => h) (Or.inl ⟨by rfl, ?_⟩) hHeld ?_
      rotate_left
      · (intro w hSw; (try dsimp only at hSw); go_simp; try with_reducible rfl)
      simp only [List.getElem_toArray, List.getElem_cons_succ, List.getElem_cons_zero, Act.put, List.setIfInBounds_toArray, List.set_cons_zero, List.set_cons_succ]
      refine wpAnyH_take (i := 10) (v := ?_) rfl (by kernel_rfl) (by kernel_rfl) (by kernel_rfl) (fun _ _ _ h => h) (Or.inl ⟨by rfl, ?_⟩) hHeld ?_
      rotate_left
      · (intro w hSw; (try dsimp only at hSw); go_simp; try with_reducible rfl)
      simp only [List.getElem_toArray, List.getElem_cons_succ, List.getElem_cons_zero, Act.put, List.setIfInBounds_toArray, List.set_cons_zero, List.set_cons_succ]
      refine wpAnyH_take (i := 11) (v := ?_) rfl (by kernel_rfl) (by kernel_rfl) (by kernel_rfl) (fun _ _ _ h => h) (Or.inl ⟨by rfl, ?_⟩) hHeld ?_
      rotate_left
      · (intro w hSw; (try dsimp only at hSw); go_simp; try with_reducible rfl)
      simp only [List.getElem_toArray, List.getElem_cons_succ, List.getElem_cons_zero, Act.put, List.setIfInBounds_toArray, List.set_cons_zero, List.set_cons_succ]
      refine wpAnyH_take (i := 12) (v := undef) rfl (by kernel_rfl) (by kernel_rfl) (by kernel_rfl) (fun _ _ _ h => h) (Or.inr ⟨by rfl, rfl⟩) hHeld ?_
      simp only [List.getElem_toArray, List.getElem_cons_succ, List.getElem_cons_zero, Act.put, List.setIfInBounds_toArray, List.set_cons_zero, List.set_cons_succ]
      refine wpAnyH_take (i := 13) (v := undef) rfl (by kernel_rfl) (by kernel_rfl) (by kernel_rfl) (fun _ _ _ h => h) (Or.inr ⟨by rfl, rfl⟩) hHeld ?_
      simp only [List.getElem_toArray, List.getElem_cons_succ, List.getElem_cons_zero, Act.put, List.setIfInBounds_toArray, List.set_cons_zero, List.set_cons_succ]
      refine wpAnyH_take (i := 14) (v := undef) rfl (by kernel_rfl) (by kernel_rfl) (by kernel_rfl) (fun _ _ _ h => h) (Or.inr ⟨by rfl, rfl⟩) hHeld ?_
      simp only [List.getElem_toArray, List.getElem_cons_succ, List.getElem_cons_zero, Act.put, List.setIfInBounds_toArray, List.set_cons_zero, List.set_cons_succ]
      refine wpAnyH_take (i := 15) (v := ?_) rfl (by kernel_rfl) (by kernel_rfl) (by kernel_rfl) (fun _ _ _ h => h) (Or.inl ⟨by rfl, ?_⟩) hHeld ?_
      rotate_left
      · (intro w hSw; (try dsimp only at hSw); go_simp; try with_reducible rfl)
      simp only [List.getElem_toArray, List.getElem_cons_succ, List.getElem_cons_zero, Act.put, List.setIfInBounds_toArray, List.set_cons_zero, List.set_cons_succ]
      refine wpAnyH_done (by kernel_rfl) ?_ _
      obtain ⟨D1, D2, D3⟩ := HQ5.out
      have D0 : Chg (fun _ => False) w w15 := D1.mono (fun i hi e => by omega)
      obtain ⟨c0, c1, c2, c3, c4, c5, c6, c7, c8, c9, c10, c11, c12⟩ := D3
      obtain ⟨r0, r1, r2, r3, r4, r5, r6, r7, r8, r9, r10, r11, r12⟩ := D2.at
      have fr := D2.fr
      clear hHeld a0 a1 a2 a3 a4 a5 a6 a7 a8 a9 a10 a11 a12 xs5 su sb
      go_wp2_with fail
      obtain ⟨P1, P2⟩ := D2.put Nd.no
      have C9 := D0.trans P2 (fun i hi e => by omega)
      clear c0 c1 c2 c3 c4 c5 c6 c7 c8 c9 c10 c11 c12 r0 r1 r2 r3 r4 r5 r6 r7 r8 r9 r10 r11 r12 P2 D1 D2 fr D0
      unfold putNd at P1 C9
      simp only [Nd.no] at P1 C9
      generalize World.setCell _ ⟨w.heap.size, 12, none⟩ _ = w16 at *
      obtain ⟨c0, c1, c2, c3, c4, c5, c6, c7, c8, c9, c10, c11, c12⟩ := P1.at
      refine bodyPost_ret (v := .tuple #[Nd.no.v, .int .i64 3]) (by simp [results, Tryd.results11, go_sem, Nd.no, c0, c1, c2, c3, c4, c5, c6, c7, c8, c9, c10, c11, c12]) rfl ⟨rfl, C9⟩

set_option maxHeartbeats 1600000 in
set_option maxRecDepth 100000 in
theorem refDecode_sz (v : Value) (bs : List Int) (w : World) (hb : Bs w v bs) (hB : IsB bs) (h : bs.length = 64) (ho : openE bs = 0) (hkd : (readN (bs.take 60)).kd ≤ 2) (hsz : 8458240 < (readN (bs.take 60)).sz) (hby : (readN (bs.take 60)).bytes = bs) :
    Calls Tryd.prog 11 #[v] w fun e w' => e = .returned (.tuple #[Nd.no.v, .int .i64 3]) ∧ Chg (fun _ => False) w w' := by
  obtain ⟨ab, cb, rfl, hcb⟩ := hb.formC
  have HL : Hid (bs.length = 64) := h
  have HV : Hid (openV bs = bs.take 60) := by rw [Hid]; unfold openV; rw [if_pos ho, h]
  have HX : Hid ((bs.take 60).length = 60) := by rw [Hid]; simp [h]
  rw [h] at hb
  rw [h]
  clear h hcb
  have c0 : Chg (fun _ => False) w (w.alloc (.cells #[.int .i64 0, .int .i64 0, .int .i64 0, .int .i64 0, .int .i64 0, .int .i64 0, .int .i64 0, .int .i64 0, .int .i64 0, .int .i64 0, .int .i64 0, .int .i64 0, .int .i64 0] 29)) := Chg.alloc _ _ _
  have s0 : NdB 29 (w.alloc (.cells #[.int .i64 0, .int .i64 0, .int .i64 0, .int .i64 0, .int .i64 0, .int .i64 0, .int .i64 0, .int .i64 0, .int .i64 0, .int .i64 0, .int .i64 0, .int .i64 0, .int .i64 0] 29)) w.heap.size Nd.no := heap_alloc_new w _
  go_enter Tryd.func11, Tryd.ntmps11
  go_wp2_with fail
  generalize w.alloc (.cells #[.int .i64 0, .int .i64 0, .int .i64 0, .int .i64 0, .int .i64 0, .int .i64 0, .int .i64 0, .int .i64 0, .int .i64 0, .int .i64 0, .int .i64 0, .int .i64 0, .int .i64 0] 29) = w0 at *
  refine (refOpen_any w0.heap.size _ bs w0 (hb.kept c0 (fun _ _ _ _ _ h => h)) hB (Nat.le_refl _) (by rw [HL.out]; omega)).mono ?_
  rintro e w1 ⟨u, rfl, F1⟩
  have s1 := s0.kept F1.2.1 (fun h => h)
  have C1 := c0.trans F1.2.1 (fun _ _ h => h)
  rw [HV.out] at F1
  have U1 := Bs.ofOwns F1.1
  obtain ⟨ua, uc, rfl⟩ := cown_slice F1.1
  rw [HX.out] at U1
  rw [ho, HX.out]
  have hBt := hB.take 60
  generalize hxs : bs.take 60 = xs at *
  have HXS : Hid (bs.take 60 = xs) := hxs
  clear F1 s0 c0 HV ho hxs
  have A1 : Chg (fun _ => False) w1 (w1.alloc (.cells #[.slice ua 60 uc, .int .i64 0, .int .i64 0] 69)) := Chg.alloc _ _ _
  have R1 : RR w.heap.size (w1.alloc (.cells #[.slice ua 60 uc, .int .i64 0, .int .i64 0] 69)) w1.heap.size (.slice ua 60 uc) xs 0 0 := by
    refine ⟨C1.size, heap_alloc_new w1 _, U1.kept A1 (fun _ _ _ _ _ h => h), fun a n c e h0 => ?_, Nat.zero_le _⟩
    have := U1.ltC a n c e h0
    omega
  have CA : Chg (fun k => k = w1.heap.size) w (w1.alloc (.cells #[.slice ua 60 uc, .int .i64 0, .int .i64 0] 69)) := (C1.trans A1 (fun _ _ h => h)).mono (fun _ _ h => h.elim)
  have t0 := TfAt.begin (k := 0) ⟨0, 0, R1, rfl, fun _ => rfl, fun h => absurd rfl h⟩ CA (s1.kept A1 (fun h => h)) (by have := s1.lt; omega) (Nat.le_refl _) Nd.no
  have hz : (w1.alloc (.cells #[.slice ua 60 uc, .int .i64 0, .int .i64 0] 69)).heap.size = w1.heap.size + 1 := by simp
  have hzs := s1.lt
  have hzc := C1.size
  rw [hz] at t0
  have t1 : TfAt w.heap.size w w1.heap.size w.heap.size (w1.heap.size + 1) (.slice ua 60 uc) xs ((w1.alloc (.cells #[.slice ua 60 uc, .int .i64 0, .int .i64 0] 69)).alloc (.cells #[.int .i64 0, .int .i64 0, .int .i64 0, .int .i64 0, .int .i64 0, .int .i64 0, .int .i64 0, .int .i64 0, .int .i64 0, .int .i64 0, .int .i64 0, .int .i64 0, .int .i64 0] 29)) 0 Nd.no := t0
  clear R1 CA U1 s1 A1 hz C1 t0
  go_wp2_with fail
  generalize (w1.alloc (.cells #[.slice ua 60 uc, .int .i64 0, .int .i64 0] 69)).alloc (.cells #[.int .i64 0, .int .i64 0, .int .i64 0, .int .i64 0, .int .i64 0, .int .i64 0, .int .i64 0, .int .i64 0, .int .i64 0, .int .i64 0, .int .i64 0, .int .i64 0, .int .i64 0] 29) = w2 at *
  refine (t1.num hBt 1 (by omega) (by rw [HX.out]; omega) (by rw [HX.out]; omega)).mono ?_
  rintro e w3 ⟨rfl, t3⟩
  have f3 := t3.nd.fr 0
  have c3 := t3.nd.at.c0
  have t4 := t3.store 0 (numAt xs 0 1) (by omega)
  clear t1 t3
  go_wp2_with fail
  generalize w3.setCell _ _ = w4 at *
  clear c3 f3
  refine (t4.num hBt 1 (by omega) (by rw [HX.out]; omega) (by rw [HX.out]; omega)).mono ?_
  rintro e w5 ⟨rfl, t5⟩
  clear t4
  go_wp2_with fail
  refine (t5.num hBt 2 (by omega) (by rw [HX.out]; omega) (by rw [HX.out]; omega)).mono ?_
  rintro e w6 ⟨rfl, t6⟩
  have f6 := t6.nd.fr 1
  have c6 := t6.nd.at.c1
  have t7 := t6.store 1 (numAt xs (0 + 1 + 1) 2) (by omega)
  clear t5 t6
  go_wp2_with fail
  generalize w6.setCell _ _ = w7 at *
  clear c6 f6
  refine (t7.num hBt 4 (by omega) (by rw [HX.out]; omega) (by rw [HX.out]; omega)).mono ?_
  rintro e w8 ⟨rfl, t8⟩
  have f8 := t8.nd.fr 2
  have c8 := t8.nd.at.c2
  have t9 := t8.store 2 (numAt xs (0 + 1 + 1 + 2) 4) (by omega)
  clear t7 t8
  go_wp2_with fail
  generalize w8.setCell _ _ = w9 at *
  clear c8 f8
  obtain ⟨n3, HN⟩ : ∃ n3, Hid (((Nd.no.set 0 (numAt xs 0 1)).set 1 (numAt xs (0 + 1 + 1) 2)).set 2 (numAt xs (0 + 1 + 1 + 2) 4) = n3) := ⟨_, rfl⟩
  rw [HN.out] at t9
  go_loopw [8] (fun i wr => ∃ k : Nat, k ≤ 8 ∧ i = .int .i64 k ∧ TfAt w.heap.size w w1.heap.size w.heap.size (w1.heap.size + 1) (.slice ua 60 uc) xs wr (8 + 4 * k) (n3.fill (fun k => numAt xs (8 + 4 * k) 4) k)) (fun i _ => 8 - (intOf i).toNat)
  case atStart => exact ⟨0, Nat.zero_le _, rfl, t9⟩
  case round =>
    obtain ⟨k, hk, rfl, t10⟩ := hrel
    clear t9
    by_cases hlt : k < 8
    · have g1 : (k : Int) < 8 := by omega
      go_wp2_with fail
      refine (t10.num hBt 4 (by omega) (by rw [HX.out]; omega) (by rw [HX.out]; omega)).mono ?_
      rintro e w11 ⟨rfl, t11⟩
      have f11 := t11.nd.fr (3 + k)
      have c11 := t11.nd.at.dir k hlt
      have t12 : TfAt w.heap.size w w1.heap.size w.heap.size (w1.heap.size + 1) (.slice ua 60 uc) xs (w11.setCell ⟨w1.heap.size + 1, 3 + k, none⟩ (.int .i64 (numAt xs (8 + 4 * k) 4))) (8 + 4 * (k + 1)) (n3.fill (fun k => numAt xs (8 + 4 * k) 4) (k + 1)) := t11.store (3 + k) (numAt xs (8 + 4 * k) 4) (by omega)
      clear t10 t11
      generalize numAt xs (8 + 4 * k) 4 = x at *
      go_wp2_with fail
      go_roundw
      case rel => exact ⟨k + 1, by omega, by go_num, t12⟩
      case measure => simp [intOf]; omega
    · obtain rfl : k = 8 := by omega
      go_wp2_with fail
      refine (t10.num hBt 4 (by omega) (by rw [HX.out]; omega) (by rw [HX.out]; omega)).mono ?_
      rintro e w11 ⟨rfl, t11⟩
      have f11 := t11.nd.fr 11
      have c11 := t11.nd.at.c11
      have t12 := t11.store 11 (numAt xs (8 + 4 * 8) 4) (by omega)
      clear t10 t11
      go_wp2_with fail
      generalize w11.setCell _ _ = w12 at *
      clear c11 f11
      refine (t12.num hBt 4 (by omega) (by rw [HX.out]; omega) (by rw [HX.out]; omega)).mono ?_
      rintro e w13 ⟨rfl, t13⟩
      have f13 := t13.nd.fr 12
      have c13 := t13.nd.at.c12
      have t14 := t13.store 12 (numAt xs (8 + 4 * 8 + 4) 4) (by omega)
      have en : ((n3.fill (fun k => numAt xs (8 + 4 * k) 4) 8).set 11 (numAt xs (8 + 4 * 8) 4)).set 12 (numAt xs (8 + 4 * 8 + 4) 4) = readN xs := by rw [← HN.out]; rfl
      rw [en] at t14
      clear t12 t13 HN en
      obtain ⟨n, HNN⟩ : ∃ n, Hid (readN xs = n) := ⟨_, rfl⟩
      rw [HNN.out] at t14 hby hkd hsz
      have q1 : decide (n.kd > 2) = false := by simp; exact hkd
      have q2 : decide (n.sz > 8458240) = true := by simp; exact hsz
      go_wp2_with fail
      generalize w13.setCell _ _ = w14 at *
      clear c13 f13
      have A : Chg (fun _ => False) w14 w14.drew := Chg.drew _ _
      have CZ : Chg (fun _ => False) w w14 := t14.chg.mono (fun i hi e => by omega)
      have RR : RefRest w w1.heap.size w.heap.size (w1.heap.size + 1) n w14.drew := ⟨t14.chg.trans A (fun _ _ h => h.elim), t14.res.kept A (fun h => h), t14.nd.at.kept A (fun h => h)⟩
      have B3 : Bs w14.drew (.slice ab 64 cb) bs := hb.kept (CZ.trans A (fun _ _ h => h)) (fun _ _ _ _ _ h => h)
      have sb : (convert 25 9 (.slice ab 64 cb)).run Tryd.prog w14.drew = .ok (.string (strC bs)) w14.drew := run_strC B3
      have HC : Hid (Calls Tryd.prog 9 #[n.v] w14.drew _) := ref_call RR B3 rfl rfl
      obtain ⟨tb, HTB⟩ : ∃ t, Hid (strC bs = t) := ⟨_, rfl⟩
      obtain ⟨tn, HTN⟩ : ∃ t, Hid (strC n.bytes = t) := ⟨_, rfl⟩
      rw [HTB.out] at sb HC
      rw [HTN.out] at HC
      obtain rfl : tn = tb := by rw [← HTB.out, ← HTN.out, hby]
      clear HTB HTN hby
      obtain ⟨a0, a1, a2, a3, a4, a5, a6, a7, a8, a9, a10, a11, a12⟩ := RR.2.2
      clear RR B3 A t14 hb hB hBt HX HL CZ
      refine wp_region_held_drew (S := (fun w' => (w'.cell? ⟨w1.heap.size + 1, 0, none⟩ = some (.int .i64 n.kd) ∧ w'.cell? ⟨w1.heap.size + 1, 1, none⟩ = some (.int .i64 n.lk) ∧ w'.cell? ⟨w1.heap.size + 1, 2, none⟩ = some (.int .i64 n.sz) ∧ w'.cell? ⟨w1.heap.size + 1, 3, none⟩ = some (.int .i64 n.d0) ∧ w'.cell? ⟨w1.heap.size + 1, 4, none⟩ = some (.int .i64 n.d1) ∧ w'.cell? ⟨w1.heap.size + 1, 5, none⟩ = some (.int .i64 n.d2) ∧ w'.cell? ⟨w1.heap.size + 1, 6, none⟩ = some (.int .i64 n.d3) ∧ w'.cell? ⟨w1.heap.size + 1, 7, none⟩ = some (.int .i64 n.d4) ∧ w'.cell? ⟨w1.heap.size + 1, 8, none⟩ = some (.int .i64 n.d5) ∧ w'.cell? ⟨w1.heap.size + 1, 9, none⟩ = some (.int .i64 n.d6) ∧ w'.cell? ⟨w1.heap.size + 1, 10, none⟩ = some (.int .i64 n.d7) ∧ w'.cell? ⟨w1.heap.size + 1, 11, none⟩ = some (.int .i64 n.on) ∧ w'.cell? ⟨w1.heap.size + 1, 12, none⟩ = some (.int .i64 n.tw)) ∧ (convert 25 9 (.slice ab 64 cb)).run Tryd.prog w' = .ok (.string tn) w')) (by kernel_rfl) ⟨⟨a0, a1, a2, a3, a4, a5, a6, a7, a8, a9, a10, a11, a12⟩, sb⟩ (fun hHeld => ?_)
      refine wpAnyH_take (i := 0) (v := ?_) rfl (by kernel_rfl) (by kernel_rfl) (by kernel_rfl) (fun _ _ _ h => h) (Or.inl ⟨by rfl, ?_⟩) hHeld ?_
      rotate_left
      · (intro w hSw; (try dsimp only at hSw); go_simp; try with_reducible rfl)
      simp only [List.getElem_toArray, List.getElem_cons_zero, Act.put, List.setIfInBounds_toArray, List.set_cons_zero, List.set_cons_succ]
      refine wpAnyH_take (i := 3) (v := ?_) rfl (by kernel_rfl) (by kernel_rfl) (by kernel_rfl) (fun _ _ _ h => h) (Or.inl ⟨by rfl, ?_⟩) hHeld ?_
      rotate_left
      · (intro w hSw; (try dsimp only at hSw); go_simp; try with_reducible rfl)
      simp only [List.getElem_toArray, List.getElem_cons_succ, List.getElem_cons_zero, Act.put, List.setIfInBounds_toArray, List.set_cons_zero, List.set_cons_succ]
      refine wpAnyH_take (i := 4) (v := ?_) rfl (by kernel_rfl) (by kernel_rfl) (by kernel_rfl) (fun _ _ _ h => h) (Or.inl ⟨by rfl, ?_⟩) hHeld ?_
      rotate_left
      · (intro w hSw; (try dsimp only at hSw); go_simp; try with_reducible rfl)
      simp only [List.getElem_toArray, List.getElem_cons_succ, List.getElem_cons_zero, Act.put, List.setIfInBounds_toArray, List.set_cons_zero, List.set_cons_succ]
      refine wpAnyH_ready (rs := [1]) (by kernel_rfl) (by simp) ?_
      refine AllReadyH.cons rfl (fun K hK => ?_) AllReadyH.nil
      go_simp
      go_wp2_with (go_at_call 9; refine HC.out.mono ?_; clear HC; rintro e w15 ⟨u5, rfl, xs5, su, HQ5⟩)
      refine hK.out _ _ xs5 (fun hHeld => ?_)
      clear hK K hHeld
      refine wpAnyH_mono (S' := (fun w' => ((w'.cell? ⟨w1.heap.size + 1, 0, none⟩ = some (.int .i64 n.kd) ∧ w'.cell? ⟨w1.heap.size + 1, 1, none⟩ = some (.int .i64 n.lk) ∧ w'.cell? ⟨w1.heap.size + 1, 2, none⟩ = some (.int .i64 n.sz) ∧ w'.cell? ⟨w1.heap.size + 1, 3, none⟩ = some (.int .i64 n.d0) ∧ w'.cell? ⟨w1.heap.size + 1, 4, none⟩ = some (.int .i64 n.d1) ∧ w'.cell? ⟨w1.heap.size + 1, 5, none⟩ = some (.int .i64 n.d2) ∧ w'.cell? ⟨w1.heap.size + 1, 6, none⟩ = some (.int .i64 n.d3) ∧ w'.cell? ⟨w1.heap.size + 1, 7, none⟩ = some (.int .i64 n.d4) ∧ w'.cell? ⟨w1.heap.size + 1, 8, none⟩ = some (.int .i64 n.d5) ∧ w'.cell? ⟨w1.heap.size + 1, 9, none⟩ = some (.int .i64 n.d6) ∧ w'.cell? ⟨w1.heap.size + 1, 10, none⟩ = some (.int .i64 n.d7) ∧ w'.cell? ⟨w1.heap.size + 1, 11, none⟩ = some (.int .i64 n.on) ∧ w'.cell? ⟨w1.heap.size + 1, 12, none⟩ = some (.int .i64 n.tw)) ∧ (convert 25 9 (.slice ab 64 cb)).run Tryd.prog w' = .ok (.string tn) w') ∧ (convert 25 9 u5).run Tryd.prog w' = .ok (.string tn) w')) (fun _ h => h.1) _ _ _ _ ?_
      have hHeld : (fun w' => ((w'.cell? ⟨w1.heap.size + 1, 0, none⟩ = some (.int .i64 n.kd) ∧ w'.cell? ⟨w1.heap.size + 1, 1, none⟩ = some (.int .i64 n.lk) ∧ w'.cell? ⟨w1.heap.size + 1, 2, none⟩ = some (.int .i64 n.sz) ∧ w'.cell? ⟨w1.heap.size + 1, 3, none⟩ = some (.int .i64 n.d0) ∧ w'.cell? ⟨w1.heap.size + 1, 4, none⟩ = some (.int .i64 n.d1) ∧ w'.cell? ⟨w1.heap.size + 1, 5, none⟩ = some (.int .i64 n.d2) ∧ w'.cell? ⟨w1.heap.size + 1, 6, none⟩ = some (.int .i64 n.d3) ∧ w'.cell? ⟨w1.heap.size + 1, 7, none⟩ = some (.int .i64 n.d4) ∧ w'.cell? ⟨w1.heap.size + 1, 8, none⟩ = some (.int .i64 n.d5) ∧ w'.cell? ⟨w1.heap.size + 1, 9, none⟩ = some (.int .i64 n.d6) ∧ w'.cell? ⟨w1.heap.size + 1, 10, none⟩ = some (.int .i64 n.d7) ∧ w'.cell? ⟨w1.heap.size + 1, 11, none⟩ = some (.int .i64 n.on) ∧ w'.cell? ⟨w1.heap.size + 1, 12, none⟩ = some (.int .i64 n.tw)) ∧ (convert 25 9 (.slice ab 64 cb)).run Tryd.prog w' = .ok (.string tn) w') ∧ (convert 25 9 u5).run Tryd.prog w' = .ok (.string tn) w') w15 := ⟨xs5, su⟩
      refine wpAnyH_take (i := 2) (v := ?_) rfl (by kernel_rfl) (by kernel_rfl) (by kernel_rfl) (fun _ _ _ h => h) (Or.inl ⟨by rfl, ?_⟩) hHeld ?_
      rotate_left
      · (intro w hSw; (try dsimp only at hSw); go_simp; try with_reducible rfl)
      simp only [List.getElem_toArray, List.getElem_cons_succ, List.getElem_cons_zero, Act.put, List.setIfInBounds_toArray, List.set_cons_zero, List.set_cons_succ]
      refine wpAnyH_take (i := 5) (v := ?_) rfl (by kernel_rfl) (by kernel_rfl) (by kernel_rfl) (fun _ _ _ h => h) (Or.inl ⟨by rfl, ?_⟩) hHeld ?_
      rotate_left
      · (intro w hSw; (try dsimp only at hSw); go_simp; try with_reducible rfl)
      simp only [List.getElem_toArray, List.getElem_cons_succ, List.getElem_cons_zero, Act.put, List.setIfInBounds_toArray, List.set_cons_zero, List.set_cons_succ]
      refine wpAnyH_take (i := 6) (v := ?_) rfl (by kernel_rfl) (by kernel_rfl) (by kernel_rfl) (fun _ _ _ h => h) (Or.inl ⟨by rfl, ?_⟩) hHeld ?_
      rotate_left
      · (intro w hSw; (try dsimp only at hSw); go_simp; try with_reducible rfl)
      simp only [List.getElem_toArray, List.getElem_cons_succ, List.getElem_cons_zero, Act.put, List.setIfInBounds_toArray, List.set_cons_zero, List.set_cons_succ]
      refine wpAnyH_take (i := 7) (v := ?_) rfl (by kernel_rfl) (by kernel_rfl) (by kernel_rfl) (fun _ _ _ h => h) (Or.inl ⟨by rfl, ?_⟩) hHeld ?_
      rotate_left
      · (intro w hSw; (try dsimp only at hSw); go_simp; try with_reducible rfl)
      simp only [List.getElem_toArray, List.getElem_cons_succ, List.getElem_cons_zero, Act.put, List.setIfInBounds_toArray, List.set_cons_zero, List.set_cons_succ]
      refine wpAnyH_take (i := 8) (v := ?_) rfl (by kernel_rfl) (by kernel_rfl) (by kernel_rfl) (fun _ _ _ h => h) (Or.inl ⟨by rfl, ?_⟩) hHeld ?_
      rotate_left
      · (intro w hSw; (try dsimp only at hSw); go_simp; try with_reducible rfl)
      simp only [List.getElem_toArray, List.getElem_cons_succ, List.getElem_cons_zero, Act.put, List.setIfInBounds_toArray, List.set_cons_zero, List.set_cons_succ]
      refine wpAnyH_take (i := 9) (v := ?_) rfl (by kernel_rfl) (by kernel_rfl) (by kernel_rfl) (fun _ _ _ h => h) (Or.inl ⟨by rfl, ?_⟩) hHeld ?_
      rotate_left
      · (intro w hSw; (try dsimp only at hSw); go_simp; try with_reducible rfl)
      simp only [List.getElem_toArray, List.getElem_cons_succ, List.getElem_cons_zero, Act.put, List.setIfInBounds_toArray, List.set_cons_zero, List.set_cons_succ]
      refine wpAnyH_take (i := 10) (v := ?_) rfl (by kernel_rfl) (by kernel_rfl) (by kernel_rfl) (fun _ _ _ h => h) (Or.inl ⟨by rfl, ?_⟩) hHeld ?_
      rotate_left
      · (intro w hSw; (try dsimp only at hSw); go_simp; try with_reducible rfl)
      simp only [List.getElem_toArray, List.getElem_cons_succ, List.getElem_cons_zero, Act.put, List.setIfInBounds_toArray, List.set_cons_zero, List.set_cons_succ]
      refine wpAnyH_take (i := 11) (v := ?_) rfl (by kernel_rfl) (by kernel_rfl) (by kernel_rfl) (fun _ _ _ h => h) (Or.inl ⟨by rfl, ?_⟩) hHeld ?_
      rotate_left
      · (intro w hSw; (try dsimp only at hSw); go_simp; try with_reducible rfl)
      simp only [List.getElem_toArray, List.getElem_cons_succ, List.getElem_cons_zero, Act.put, List.setIfInBounds_toArray, List.set_cons_zero, List.set_cons_succ]
      refine wpAnyH_take (i := 12) (v := ?_) rfl (by kernel_rfl) (by kernel_rfl) (by kernel_rfl) (fun _ _ _ h => h) (Or.inl ⟨by rfl, ?_⟩) hHeld ?_
      rotate_left
      · (intro w hSw; (try dsimp only at hSw); go_simp; try with_reducible rfl)
      simp only [List.getElem_toArray, List.getElem_cons_succ, List.getElem_cons_zero, Act.put, List.setIfInBounds_toArray, List.set_cons_zero, List.set_cons_succ]
      refine wpAnyH_take (i := 13) (v := ?_) rfl (by kernel_rfl) (by kernel_rfl) (by kernel_rfl) (fun _ _ _ h => h) (Or.inl ⟨by rfl, ?_⟩) hHeld ?_
      rotate_left
      · (intro w hSw; (try dsimp only at hSw); go_simp; try with_reducible rfl)
      simp only [List.getElem_toArray, List.getElem_cons_succ, List.getElem_cons_zero, Act.put, List.setIfInBounds_toArray, List.set_cons_zero, List.set_cons_succ]
      refine wpAnyH_take (i := 14) (v := ?_) rfl (by kernel_rfl) (by kernel_rfl) (by kernel_rfl) (fun _ _ _ h => h) (Or.inl ⟨by rfl, ?_⟩) hHeld ?_
      rotate_left
      · (intro w hSw; (try dsimp only at hSw); go_simp; try with_reducible rfl)
      simp only [List.getElem_toArray, List.getElem_cons_succ, List.getElem_cons_zero, Act.put, List.setIfInBounds_toArray, List.set_cons_zero, List.set_cons_succ]
      refine wpAnyH_take (i := 15) (v := ?_) rfl (by kernel_rfl) (by kernel_rfl) (by kernel_rfl) (fun _ _ _ h => h) (Or.inl ⟨by rfl, ?_⟩) hHeld ?_
      rotate_left
      · (intro w hSw; (try dsimp only at hSw); go_simp; try with_reducible rfl)
      simp only [List.getElem_toArray, List.getElem_cons_succ, List.getElem_cons_zero, Act.put, List.setIfInBounds_toArray, List.set_cons_zero, List.set_cons_succ]
      refine wpAnyH_done (by kernel_rfl) ?_ _
      obtain ⟨D1, D2, D3⟩ := HQ5.out
      have D0 : Chg (fun _ => False) w w15 := D1.mono (fun i hi e => by omega)
      obtain ⟨c0, c1, c2, c3, c4, c5, c6, c7, c8, c9, c10, c11, c12⟩ := D3
      obtain ⟨r0, r1, r2, r3, r4, r5, r6, r7, r8, r9, r10, r11, r12⟩ := D2.at
      have fr := D2.fr
      clear hHeld a0 a1 a2 a3 a4 a5 a6 a7 a8 a9 a10 a11 a12 xs5 su sb
      go_wp2_with fail
      obtain ⟨P1, P2⟩ := D2.put Nd.no
      have C9 := D0.trans P2 (fun i hi e => by omega)
      clear c0 c1 c2 c3 c4 c5 c6 c7 c8 c9 c10 c11 c12 r0 r1 r2 r3 r4 r5 r6 r7 r8 r9 r10 r11 r12 P2 D1 D2 fr D0
      unfold putNd at P1 C9
      simp only [Nd.no] at P1 C9
      generalize World.setCell _ ⟨w.heap.size, 12, none⟩ _ = w16 at *
      obtain ⟨c0, c1, c2, c3, c4, c5, c6, c7, c8, c9, c10, c11, c12⟩ := P1.at
      refine bodyPost_ret (v := .tuple #[Nd.no.v, .int .i64 3]) (by simp [results, Tryd.results11, go_sem, Nd.no, c0, c1, c2, c3, c4, c5, c6, c7, c8, c9, c10, c11, c12]) rfl ⟨rfl, C9⟩

/-- Decode of the reference answers as Decode does. -/
theorem refDecode_any (v : Value) (bs : List Int) (w : World) (hb : Bs w v bs) (hB : IsB bs) :
    Calls Tryd.prog 11 #[v] w fun e w' => e = .returned (.tuple #[(decN bs).v, .int .i64 (decE bs)]) ∧ Chg (fun _ => False) w w' := by
  by_cases h1 : bs.length < 64
  · have e1 : decN bs = Nd.no := by unfold decN; rw [if_neg (by omega)]
    have e2 : decE bs = 2 := by unfold decE; rw [if_pos h1]
    rw [e1, e2]
    exact refDecode_short v bs w hb h1
  by_cases h2 : 64 < bs.length
  · have e1 : decN bs = Nd.no := by unfold decN; rw [if_neg (by omega)]
    have e2 : decE bs = 5 := by unfold decE; rw [if_neg h1, if_pos h2]
    rw [e1, e2]
    exact refDecode_long v bs w hb h2
  have h : bs.length = 64 := by omega
  by_cases ho : openE bs = 0
  · by_cases hby : (readN (bs.take 60)).bytes = bs
    · by_cases hok : (readN (bs.take 60)).ok
      · have e1 : decN bs = readN (bs.take 60) := by unfold decN; rw [if_pos ⟨h, ho, hok, hby⟩]
        have e2 : decE bs = 0 := by unfold decE; rw [if_neg h1, if_neg h2, if_pos ho, if_pos ⟨hok, hby⟩]
        rw [e1, e2]
        exact refDecode_ok v bs w hb hB h ho hok hby
      · have e1 : decN bs = Nd.no := by unfold decN; rw [if_neg (fun x => hok x.2.2.1)]
        have e2 : decE bs = 3 := by unfold decE; rw [if_neg h1, if_neg h2, if_pos ho, if_neg (fun x => hok x.1)]
        rw [e1, e2]
        by_cases hk : 2 < (readN (bs.take 60)).kd
        · exact refDecode_kd v bs w hb hB h ho hk hby
        · exact refDecode_sz v bs w hb hB h ho (by omega) (by unfold Nd.ok at hok; omega) hby
    · have e1 : decN bs = Nd.no := by unfold decN; rw [if_neg (fun x => hby x.2.2.2)]
      have e2 : decE bs = 3 := by unfold decE; rw [if_neg h1, if_neg h2, if_pos ho, if_neg (fun x => hby x.2)]
      rw [e1, e2]
      exact refDecode_not v bs w hb hB h ho hby
  · have e1 : decN bs = Nd.no := by unfold decN; rw [if_neg (fun x => ho x.2.1)]
    have e2 : decE bs = openE bs := by unfold decE; rw [if_neg h1, if_neg h2, if_neg ho]
    rw [e1, e2]
    exact refDecode_sum v bs w hb hB h ho
end Go.Proofs.YtcclpfcgodckgaaDoor

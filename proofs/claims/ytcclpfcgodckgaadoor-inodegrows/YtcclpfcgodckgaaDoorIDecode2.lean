/-
  The contract of Decode of package inode: a node that may not be; all together.
-/
import Derived.Test.YtcclpfcgodckgaaDoorIDecode
import Derived.Deep.RegionHeld3
import Derived.BigRegion
namespace Go.Proofs.YtcclpfcgodckgaaDoor
open Go.RowKit

set_option maxHeartbeats 1600000 in
set_option maxRecDepth 100000 in
theorem decode_bad (v : Value) (bs : List Int) (w : World) (hb : Bs w v bs) (hB : IsB bs) (hT : Tab w) (h : bs.length = 64) (ho : openE bs = 0) (hok : ¬ (readN (bs.take 60)).ok) :
    Calls Tryd.prog 10 #[v] w fun e w' => e = .returned (.tuple #[Nd.no.v, .int .i64 3]) ∧ Chg (fun _ => False) w w' := by
  have hN0 : 0 < w.heap.size := by have := World.block_lt_of_cell? w _ (hT 0 (by omega)); simpa using this
  obtain ⟨ab, cb, rfl, hcb⟩ := hb.formC
  have HL : Hid (bs.length = 64) := h
  have HV : Hid (openV bs = bs.take 60) := by rw [Hid]; unfold openV; rw [if_pos ho, h]
  rw [h] at hb
  rw [h]
  clear h hcb
  have c0 : Chg (fun _ => False) w (w.alloc (.cells #[.int .i64 0, .int .i64 0, .int .i64 0, .int .i64 0, .int .i64 0, .int .i64 0, .int .i64 0, .int .i64 0, .int .i64 0, .int .i64 0, .int .i64 0, .int .i64 0, .int .i64 0] 24)) := Chg.alloc _ _ _
  have s0 : NdB 24 (w.alloc (.cells #[.int .i64 0, .int .i64 0, .int .i64 0, .int .i64 0, .int .i64 0, .int .i64 0, .int .i64 0, .int .i64 0, .int .i64 0, .int .i64 0, .int .i64 0, .int .i64 0, .int .i64 0] 24)) w.heap.size Nd.no := heap_alloc_new w _
  go_enter Tryd.func10, Tryd.ntmps10
  go_wp2_with fail
  generalize w.alloc (.cells #[.int .i64 0, .int .i64 0, .int .i64 0, .int .i64 0, .int .i64 0, .int .i64 0, .int .i64 0, .int .i64 0, .int .i64 0, .int .i64 0, .int .i64 0, .int .i64 0, .int .i64 0] 24) = w0 at *
  refine (open_any w0.heap.size _ bs w0 (hb.kept c0 (fun _ _ _ _ _ h => h)) hB (hT.below (c0.below (Nat.le_refl _) (fun _ h => h.elim)) hN0) (Nat.le_refl _) (by rw [HL.out]; omega)).mono ?_
  rintro e w1 ⟨u, rfl, F1⟩
  have s1 := s0.kept F1.2.1 (fun h => h)
  have C1 := c0.trans F1.2.1 (fun _ _ h => h)
  rw [HV.out] at F1
  have U1 := Bs.ofOwns F1.1
  rw [ho]
  clear F1 s0 c0 HV ho
  go_wp2_with fail
  refine (newReader_any w.heap.size u _ w1 U1 (by simp; omega) C1.size).mono ?_
  rintro e w2 ⟨p, v2, rfl, R2, C2, hp⟩
  have s2 := s1.kept C2 (fun h => h)
  have C12 := C1.trans C2 (fun _ _ h => h)
  have hps : w.heap.size < p := by have := s1.lt; omega
  clear C1 C2 s1 U1
  go_wp2_with fail
  refine (itake_any w.heap.size p v2 _ w2 R2 (by simp [HL.out]) (hB.take 60)).mono ?_
  rintro e w3 ⟨rfl, C3⟩
  have s3 := s2.kept C3 (fun h => by omega)
  have C13 : Chg (fun _ => False) w w3 := C12.trans (C3.mono (S' := fun k => k = p) (fun _ _ h => h)) (fun i hi h => by omega)
  clear C12 C3 s2 R2
  obtain ⟨n, HN⟩ : ∃ n, Hid (readN (bs.take 60) = n) := ⟨_, rfl⟩
  rw [HN.out] at hok
  rw [HN.out]
  have A : Chg (fun _ => False) w3 (w3.alloc (n.o 24)).drew := (Chg.alloc _ _ _).trans (Chg.drew _ _) (fun _ _ h => h)
  have RR : DecRest w w.heap.size w3.heap.size n (w3.alloc (n.o 24)).drew := ⟨C13.trans A (fun _ _ h => h), s3.kept A (fun h => h), (NdAt.box w3 n _).kept (Chg.drew (fun _ => False) _) (fun h => h)⟩
  have B3 : Bs (w3.alloc (n.o 24)).drew (.slice ab 64 cb) bs := hb.kept RR.1 (fun _ _ _ _ _ h => h)
  obtain ⟨m, HM⟩ : ∃ m, Hid (n.lim = m) := ⟨_, rfl⟩
  have hnm : n.kd ≠ m.kd ∨ n.lk = m.lk ∧ n.sz ≠ m.sz := by
    rw [← HM.out]
    rcases n.lim_not hok with h | h
    · exact .inl (Ne.symm h)
    · exact .inr ⟨rfl, Ne.symm h⟩
  have HC : Hid (Calls Tryd.prog 33 #[n.v] (w3.alloc (n.o 24)).drew _) := dec_call (m := m) (eq := decide (n.bytes = bs)) RR B3 (hT.below (RR.1.below (Nat.le_refl _) (fun _ h => h.elim)) hN0) hB HM.out rfl
  obtain ⟨a0, a1, a2, a3, a4, a5, a6, a7, a8, a9, a10, a11, a12⟩ := RR.2.2
  have nq := fun w => neqNotI n m w hnm
  have hg : Tryd.prog.eqGuardType Tryd.prog.depth 24 = false := by kernel_rfl
  clear RR B3 A C13 s3 hb hB hT hok hnm HL
  go_wp2_with fail
  refine wp_region_held_drew (S := (fun w' => w'.cell? ⟨w3.heap.size, 0, none⟩ = some (.int .i64 n.kd) ∧ w'.cell? ⟨w3.heap.size, 1, none⟩ = some (.int .i64 n.lk) ∧ w'.cell? ⟨w3.heap.size, 2, none⟩ = some (.int .i64 n.sz) ∧ w'.cell? ⟨w3.heap.size, 3, none⟩ = some (.int .i64 n.d0) ∧ w'.cell? ⟨w3.heap.size, 4, none⟩ = some (.int .i64 n.d1) ∧ w'.cell? ⟨w3.heap.size, 5, none⟩ = some (.int .i64 n.d2) ∧ w'.cell? ⟨w3.heap.size, 6, none⟩ = some (.int .i64 n.d3) ∧ w'.cell? ⟨w3.heap.size, 7, none⟩ = some (.int .i64 n.d4) ∧ w'.cell? ⟨w3.heap.size, 8, none⟩ = some (.int .i64 n.d5) ∧ w'.cell? ⟨w3.heap.size, 9, none⟩ = some (.int .i64 n.d6) ∧ w'.cell? ⟨w3.heap.size, 10, none⟩ = some (.int .i64 n.d7) ∧ w'.cell? ⟨w3.heap.size, 11, none⟩ = some (.int .i64 n.on) ∧ w'.cell? ⟨w3.heap.size, 12, none⟩ = some (.int .i64 n.tw))) (by kernel_rfl) ⟨a0, a1, a2, a3, a4, a5, a6, a7, a8, a9, a10, a11, a12⟩ (fun hHeld => ?_)
  refine wpAnyH_take (i := 0) (v := ?_) rfl (by kernel_rfl) (by kernel_rfl) (by kernel_rfl) (fun _ _ _ h => h) (Or.inl ⟨by rfl, ?_⟩) hHeld ?_
  rotate_left
  · (intro w hSw; (try dsimp only at hSw); go_simp; try with_reducible rfl)
  simp only [List.getElem_toArray, List.getElem_cons_zero, Act.put, List.setIfInBounds_toArray, List.set_cons_zero, List.set_cons_succ]
  refine wpAnyH_take (i := 1) (v := ?_) rfl (by kernel_rfl) (by kernel_rfl) (by kernel_rfl) (fun _ _ _ h => h) (Or.inl ⟨by rfl, ?_⟩) hHeld ?_
  rotate_left
  · (intro w hSw; (try dsimp only at hSw); go_simp; try with_reducible rfl)
  simp only [List.getElem_toArray, List.getElem_cons_succ, List.getElem_cons_zero, Act.put, List.setIfInBounds_toArray, List.set_cons_zero, List.set_cons_succ]
  refine wpAnyH_ready (rs := [2]) (by kernel_rfl) (by simp) ?_
  refine AllReadyH.cons rfl (fun K hK => ?_) AllReadyH.nil
  go_simp
  go_wp2_with (go_at_call 33; refine HC.out.mono ?_; clear HC; rintro e w4 ⟨rfl, xs4, HE, HQ4⟩)
  refine hK.out _ _ xs4 (fun hHeld => ?_)
  clear hK K
  refine wpAnyH_take (i := 3) (v := ?_) rfl (by kernel_rfl) (by kernel_rfl) (by kernel_rfl) (fun _ _ _ h => h) (Or.inl ⟨by rfl, ?_⟩) hHeld ?_
  rotate_left
  · (intro w hSw; (try dsimp only at hSw); go_simp; try with_reducible rfl)
  simp only [List.getElem_toArray, List.getElem_cons_succ, List.getElem_cons_zero, Act.put, List.setIfInBounds_toArray, List.set_cons_zero, List.set_cons_succ]
  refine wpAnyH_take (i := 4) (v := ?_) rfl (by kernel_rfl) (by kernel_rfl) (by kernel_rfl) (fun _ _ _ h => h) (Or.inl ⟨by rfl, ?_⟩) hHeld ?_
  rotate_left
  · (intro w hSw; (try dsimp only at hSw); go_simp; try with_reducible rfl)
  simp only [List.getElem_toArray, List.getElem_cons_succ, List.getElem_cons_zero, Act.put, List.setIfInBounds_toArray, List.set_cons_zero, List.set_cons_succ]
  refine wpAnyH_take (i := 5) (v := undef) rfl (by kernel_rfl) (by kernel_rfl) (by kernel_rfl) (fun _ _ _ h => h) (Or.inr ⟨by rfl, rfl⟩) hHeld ?_
  simp only [List.getElem_toArray, List.getElem_cons_succ, List.getElem_cons_zero, Act.put, List.setIfInBounds_toArray, List.set_cons_zero, List.set_cons_succ]
  refine wpAnyH_take (i := 6) (v := undef) rfl (by kernel_rfl) (by kernel_rfl) (by kernel_rfl) (fun _ _ _ h => h) (Or.inr ⟨by rfl, rfl⟩) hHeld ?_
  simp only [List.getElem_toArray, List.getElem_cons_succ, List.getElem_cons_zero, Act.put, List.setIfInBounds_toArray, List.set_cons_zero, List.set_cons_succ]
  refine wpAnyH_take (i := 7) (v := undef) rfl (by kernel_rfl) (by kernel_rfl) (by kernel_rfl) (fun _ _ _ h => h) (Or.inr ⟨by rfl, rfl⟩) hHeld ?_
  simp only [List.getElem_toArray, List.getElem_cons_succ, List.getElem_cons_zero, Act.put, List.setIfInBounds_toArray, List.set_cons_zero, List.set_cons_succ]
  refine wpAnyH_take (i := 8) (v := undef) rfl (by kernel_rfl) (by kernel_rfl) (by kernel_rfl) (fun _ _ _ h => h) (Or.inr ⟨by rfl, rfl⟩) hHeld ?_
  simp only [List.getElem_toArray, List.getElem_cons_succ, List.getElem_cons_zero, Act.put, List.setIfInBounds_toArray, List.set_cons_zero, List.set_cons_succ]
  refine wpAnyH_take (i := 9) (v := undef) rfl (by kernel_rfl) (by kernel_rfl) (by kernel_rfl) (fun _ _ _ h => h) (Or.inr ⟨by rfl, rfl⟩) hHeld ?_
  simp only [List.getElem_toArray, List.getElem_cons_succ, List.getElem_cons_zero, Act.put, List.setIfInBounds_toArray, List.set_cons_zero, List.set_cons_succ]
  refine wpAnyH_take (i := 10) (v := ?_) rfl (by kernel_rfl) (by kernel_rfl) (by kernel_rfl) (fun _ _ _ h => h) (Or.inl ⟨by rfl, ?_⟩) hHeld ?_
  rotate_left
  · (intro w hSw; (try dsimp only at hSw); go_simp; try with_reducible rfl)
  simp only [List.getElem_toArray, List.getElem_cons_succ, List.getElem_cons_zero, Act.put, List.setIfInBounds_toArray, List.set_cons_zero, List.set_cons_succ]
  refine wpAnyH_done (by kernel_rfl) ?_ _
  obtain ⟨D1, D2, D3⟩ := HQ4.out
  obtain ⟨c0, c1, c2, c3, c4, c5, c6, c7, c8, c9, c10, c11, c12⟩ := D3
  obtain ⟨r0, r1, r2, r3, r4, r5, r6, r7, r8, r9, r10, r11, r12⟩ := D2.at
  have fr := D2.fr
  clear hHeld a0 a1 a2 a3 a4 a5 a6 a7 a8 a9 a10 a11 a12 xs4 HE
  go_wp2_with fail
  obtain ⟨P1, P2⟩ := D2.put Nd.no
  have C9 := D1.trans P2 (fun i hi e => by omega)
  clear c0 c1 c2 c3 c4 c5 c6 c7 c8 c9 c10 c11 c12 r0 r1 r2 r3 r4 r5 r6 r7 r8 r9 r10 r11 r12 P2 D1 D2 fr
  unfold putNd at P1 C9
  simp only [Nd.no] at P1 C9
  generalize World.setCell _ ⟨w.heap.size, 12, none⟩ _ = w12 at *
  obtain ⟨c0, c1, c2, c3, c4, c5, c6, c7, c8, c9, c10, c11, c12⟩ := P1.at
  refine bodyPost_ret (v := .tuple #[Nd.no.v, .int .i64 3]) (by simp [results, Tryd.results10, go_sem, Nd.no, c0, c1, c2, c3, c4, c5, c6, c7, c8, c9, c10, c11, c12]) rfl ⟨rfl, C9⟩

/-- Decode. -/
theorem decode_any (v : Value) (bs : List Int) (w : World) (hb : Bs w v bs) (hB : IsB bs) (hT : Tab w) :
    Calls Tryd.prog 10 #[v] w fun e w' => e = .returned (.tuple #[(decN bs).v, .int .i64 (decE bs)]) ∧ Chg (fun _ => False) w w' := by
  by_cases h1 : bs.length < 64
  · have e1 : decN bs = Nd.no := by unfold decN; rw [if_neg (by omega)]
    have e2 : decE bs = 2 := by unfold decE; rw [if_pos h1]
    rw [e1, e2]
    exact decode_short v bs w hb h1
  by_cases h2 : 64 < bs.length
  · have e1 : decN bs = Nd.no := by unfold decN; rw [if_neg (by omega)]
    have e2 : decE bs = 5 := by unfold decE; rw [if_neg h1, if_pos h2]
    rw [e1, e2]
    exact decode_long v bs w hb h2
  have h : bs.length = 64 := by omega
  by_cases ho : openE bs = 0
  · by_cases hok : (readN (bs.take 60)).ok
    · by_cases hby : (readN (bs.take 60)).bytes = bs
      · have e1 : decN bs = readN (bs.take 60) := by unfold decN; rw [if_pos ⟨h, ho, hok, hby⟩]
        have e2 : decE bs = 0 := by unfold decE; rw [if_neg h1, if_neg h2, if_pos ho, if_pos ⟨hok, hby⟩]
        rw [e1, e2]
        exact decode_ok v bs w hb hB hT h ho hok hby
      · have e1 : decN bs = Nd.no := by unfold decN; rw [if_neg (fun x => hby x.2.2.2)]
        have e2 : decE bs = 3 := by unfold decE; rw [if_neg h1, if_neg h2, if_pos ho, if_neg (fun x => hby x.2)]
        rw [e1, e2]
        exact decode_not v bs w hb hB hT h ho hok hby
    · have e1 : decN bs = Nd.no := by unfold decN; rw [if_neg (fun x => hok x.2.2.1)]
      have e2 : decE bs = 3 := by unfold decE; rw [if_neg h1, if_neg h2, if_pos ho, if_neg (fun x => hok x.1)]
      rw [e1, e2]
      exact decode_bad v bs w hb hB hT h ho hok
  · have e1 : decN bs = Nd.no := by unfold decN; rw [if_neg (fun x => ho x.2.1)]
    have e2 : decE bs = openE bs := by unfold decE; rw [if_neg h1, if_neg h2, if_neg ho]
    rw [e1, e2]
    exact decode_sum v bs w hb hB hT h ho
end Go.Proofs.YtcclpfcgodckgaaDoor

/-
  Contracts of take, within of package inode and of bytes.Equal.
-/
import Derived.Test.YtcclpfcgodckgaaDoorIBox
import Derived.Deep.LoopGhost
namespace Go.Proofs.YtcclpfcgodckgaaDoor
open Go.RowKit

theorem read_fill (xs : List Int) : (((((Nd.no.set 0 (numAt xs 0 1)).set 1 (numAt xs 2 2)).set 2 (numAt xs 4 4)).fill (fun k => numAt xs (8 + 4 * k) 4) 8).set 11 (numAt xs 40 4)).set 12 (numAt xs 44 4) = readN xs := rfl

set_option maxHeartbeats 1600000 in
set_option maxRecDepth 100000 in
theorem itake_any (N p : Nat) (v : Value) (xs : List Int) (w : World) (hr : RdS N w p v ⟨xs, 0⟩) (hl : xs.length = 60) (hB : IsB xs) :
    Calls Tryd.prog 31 #[.pointer (some ⟨p, 0, none⟩)] w fun r w' => r = .returned (readN xs).v ∧ Chg (fun k => k = p) w w' := by
  have HL : Hid (xs.length = 60) := hl
  have hc0 : Chg (fun _ => False) w (w.alloc (.cells #[.int .i64 0, .int .i64 0, .int .i64 0, .int .i64 0, .int .i64 0, .int .i64 0, .int .i64 0, .int .i64 0, .int .i64 0, .int .i64 0, .int .i64 0, .int .i64 0, .int .i64 0] 24)) := Chg.alloc _ _ _
  have hr0 : RdS N (w.alloc (.cells #[.int .i64 0, .int .i64 0, .int .i64 0, .int .i64 0, .int .i64 0, .int .i64 0, .int .i64 0, .int .i64 0, .int .i64 0, .int .i64 0, .int .i64 0, .int .i64 0, .int .i64 0] 24)) p v ⟨xs, 0⟩ := hr.kept hc0 (fun h => h) (fun _ _ _ _ _ h => h)
  have s0 : NdB 24 (w.alloc (.cells #[.int .i64 0, .int .i64 0, .int .i64 0, .int .i64 0, .int .i64 0, .int .i64 0, .int .i64 0, .int .i64 0, .int .i64 0, .int .i64 0, .int .i64 0, .int .i64 0, .int .i64 0] 24)) w.heap.size Nd.no := heap_alloc_new w _
  have hpw := hr.lt
  clear hl
  go_enter Tryd.func31, Tryd.ntmps31
  go_wp2_with fail
  refine (ru8_any N p v ⟨xs, 0⟩ _ hr0 hB).mono ?_
  rintro e w1 ⟨rfl, v1, h1⟩
  have q1 : valB (tkV ⟨xs, 0⟩ 1) = numAt xs 0 1 := (tk_at xs 0 1 (by rw [HL.out]; omega)).1
  have q2 : tkS ⟨xs, 0⟩ 1 = ⟨xs.drop 1, 0⟩ := (tk_at xs 0 1 (by rw [HL.out]; omega)).2
  rw [q2] at h1
  rw [q1]
  clear q1 q2
  have s1 := s0.kept h1.chg (fun e => by omega)
  have t2 : TkAt N w p w.heap.size w1.heap.size xs (w1.alloc (.cells #[.int .i64 (numAt xs 0 1), .int .i64 0, .int .i64 0, .int .i64 0, .int .i64 0, .int .i64 0, .int .i64 0, .int .i64 0, .int .i64 0, .int .i64 0, .int .i64 0, .int .i64 0, .int .i64 0] 24)) 1 (Nd.no.set 0 (numAt xs 0 1)) :=
    TkAt.begin h1.rd ((hc0.mono (fun _ _ h => h.elim)).trans h1.chg (fun _ _ h => h)) s1 (by omega) (Nat.le_refl _) (Nd.no.set 0 (numAt xs 0 1))
  have hz1 : w.heap.size < w1.heap.size := s1.lt
  clear h1 s1 s0 hr0 hc0 hr
  go_wp2_with fail
  generalize w1.alloc (.cells #[.int .i64 (numAt xs 0 1), .int .i64 0, .int .i64 0, .int .i64 0, .int .i64 0, .int .i64 0, .int .i64 0, .int .i64 0, .int .i64 0, .int .i64 0, .int .i64 0, .int .i64 0, .int .i64 0] 24) = w2 at *
  refine (t2.u8 hB (by rw [HL.out]; omega)).mono ?_
  rintro e w3 ⟨rfl, t3⟩
  clear t2
  go_wp2_with fail
  refine (t3.u16 hB (by rw [HL.out]; omega)).mono ?_
  rintro e w4 ⟨rfl, t4⟩
  have f4 := t4.nd.fr 1
  have c4 := t4.nd.at.c1
  have t5 := t4.store 1 (numAt xs (1 + 1) 2) (by omega)
  clear t3 t4
  go_wp2_with fail
  generalize w4.setCell _ _ = w5 at *
  clear c4 f4
  refine (t5.u32 hB (by rw [HL.out]; omega)).mono ?_
  rintro e w6 ⟨rfl, t6⟩
  have f6 := t6.nd.fr 2
  have c6 := t6.nd.at.c2
  have t7 := t6.store 2 (numAt xs (1 + 1 + 2) 4) (by omega)
  clear t5 t6
  go_wp2_with fail
  generalize w6.setCell _ _ = w7 at *
  clear c6 f6
  obtain ⟨n3, HN⟩ : ∃ n3, Hid (((Nd.no.set 0 (numAt xs 0 1)).set 1 (numAt xs (1 + 1) 2)).set 2 (numAt xs (1 + 1 + 2) 4) = n3) := ⟨_, rfl⟩
  rw [HN.out] at t7
  go_loopw [16] (fun i wr => ∃ k : Nat, k ≤ 8 ∧ i = .int .i64 k ∧ TkAt N w p w.heap.size w1.heap.size xs wr (8 + 4 * k) (n3.fill (fun k => numAt xs (8 + 4 * k) 4) k)) (fun i _ => 8 - (intOf i).toNat)
  case atStart => exact ⟨0, Nat.zero_le _, rfl, t7⟩
  case round =>
    obtain ⟨k, hk, rfl, t8⟩ := hrel
    clear t7
    by_cases hlt : k < 8
    · have g1 : (k : Int) < 8 := by omega
      go_wp2_with fail
      refine (t8.u32 hB (by rw [HL.out]; omega)).mono ?_
      rintro e w9 ⟨rfl, t9⟩
      have f9 := t9.nd.fr (3 + k)
      have c9 := t9.nd.at.dir k hlt
      have t10 : TkAt N w p w.heap.size w1.heap.size xs (w9.setCell ⟨w1.heap.size, 3 + k, none⟩ (.int .i64 (numAt xs (8 + 4 * k) 4))) (8 + 4 * (k + 1)) (n3.fill (fun k => numAt xs (8 + 4 * k) 4) (k + 1)) := t9.store (3 + k) (numAt xs (8 + 4 * k) 4) (by omega)
      clear t8 t9
      generalize numAt xs (8 + 4 * k) 4 = x at *
      go_wp2_with fail
      go_roundw
      case rel => exact ⟨k + 1, by omega, by go_num, t10⟩
      case measure => simp [intOf]; omega
    · obtain rfl : k = 8 := by omega
      go_wp2_with fail
      refine (t8.u32 hB (by rw [HL.out]; omega)).mono ?_
      rintro e w9 ⟨rfl, t9⟩
      have f9 := t9.nd.fr 11
      have c9 := t9.nd.at.c11
      have t10 := t9.store 11 (numAt xs (8 + 4 * 8) 4) (by omega)
      clear t8 t9
      go_wp2_with fail
      generalize w9.setCell _ _ = w10 at *
      clear c9 f9
      refine (t10.u32 hB (by rw [HL.out]; omega)).mono ?_
      rintro e w11 ⟨rfl, t11⟩
      have en : (n3.fill (fun k => numAt xs (8 + 4 * k) 4) 8).set 11 (numAt xs (8 + 4 * 8) 4) = (readN xs).set 12 0 := by rw [← HN.out]; rfl
      have HE : Hid (numAt xs (8 + 4 * 8 + 4) 4 = (readN xs).tw) := rfl
      rw [en] at t11
      clear t10 HN en
      obtain ⟨m, HM⟩ : ∃ m, Hid (readN xs = m) := ⟨_, rfl⟩
      rw [HM.out] at t11 HE
      rw [HE.out]
      have f11 := t11.nd.fr 12
      have fr := t11.res.fr
      have c0 : w11.cell? ⟨w1.heap.size, 0, none⟩ = some (.int .i64 m.kd) := t11.nd.at.c0
      have c1 : w11.cell? ⟨w1.heap.size, 1, none⟩ = some (.int .i64 m.lk) := t11.nd.at.c1
      have c2 : w11.cell? ⟨w1.heap.size, 2, none⟩ = some (.int .i64 m.sz) := t11.nd.at.c2
      have c3 : w11.cell? ⟨w1.heap.size, 3, none⟩ = some (.int .i64 m.d0) := t11.nd.at.c3
      have c4 : w11.cell? ⟨w1.heap.size, 4, none⟩ = some (.int .i64 m.d1) := t11.nd.at.c4
      have c5 : w11.cell? ⟨w1.heap.size, 5, none⟩ = some (.int .i64 m.d2) := t11.nd.at.c5
      have c6 : w11.cell? ⟨w1.heap.size, 6, none⟩ = some (.int .i64 m.d3) := t11.nd.at.c6
      have c7 : w11.cell? ⟨w1.heap.size, 7, none⟩ = some (.int .i64 m.d4) := t11.nd.at.c7
      have c8 : w11.cell? ⟨w1.heap.size, 8, none⟩ = some (.int .i64 m.d5) := t11.nd.at.c8
      have c9 : w11.cell? ⟨w1.heap.size, 9, none⟩ = some (.int .i64 m.d6) := t11.nd.at.c9
      have c10 : w11.cell? ⟨w1.heap.size, 10, none⟩ = some (.int .i64 m.d7) := t11.nd.at.c10
      have c11 : w11.cell? ⟨w1.heap.size, 11, none⟩ = some (.int .i64 m.on) := t11.nd.at.c11
      have c12 : w11.cell? ⟨w1.heap.size, 12, none⟩ = some (.int .i64 0) := t11.nd.at.c12
      have r0 : w11.cell? ⟨w.heap.size, 0, none⟩ = some (.int .i64 0) := t11.res.at.c0
      have r1 : w11.cell? ⟨w.heap.size, 1, none⟩ = some (.int .i64 0) := t11.res.at.c1
      have r2 : w11.cell? ⟨w.heap.size, 2, none⟩ = some (.int .i64 0) := t11.res.at.c2
      have r3 : w11.cell? ⟨w.heap.size, 3, none⟩ = some (.int .i64 0) := t11.res.at.c3
      have r4 : w11.cell? ⟨w.heap.size, 4, none⟩ = some (.int .i64 0) := t11.res.at.c4
      have r5 : w11.cell? ⟨w.heap.size, 5, none⟩ = some (.int .i64 0) := t11.res.at.c5
      have r6 : w11.cell? ⟨w.heap.size, 6, none⟩ = some (.int .i64 0) := t11.res.at.c6
      have r7 : w11.cell? ⟨w.heap.size, 7, none⟩ = some (.int .i64 0) := t11.res.at.c7
      have r8 : w11.cell? ⟨w.heap.size, 8, none⟩ = some (.int .i64 0) := t11.res.at.c8
      have r9 : w11.cell? ⟨w.heap.size, 9, none⟩ = some (.int .i64 0) := t11.res.at.c9
      have r10 : w11.cell? ⟨w.heap.size, 10, none⟩ = some (.int .i64 0) := t11.res.at.c10
      have r11 : w11.cell? ⟨w.heap.size, 11, none⟩ = some (.int .i64 0) := t11.res.at.c11
      have r12 : w11.cell? ⟨w.heap.size, 12, none⟩ = some (.int .i64 0) := t11.res.at.c12
      have hz2 : w.heap.size ≠ w1.heap.size := by omega
      have hz3 : w1.heap.size ≠ w.heap.size := by omega
      go_wp2_with fail
      have t12 := t11.store 12 m.tw (by omega)
      obtain ⟨P1, P2⟩ := t12.res.put m
      have C12 := t12.chg.trans P2 (fun i hi e => by omega)
      clear t11 t12 f11 fr c0 c1 c2 c3 c4 c5 c6 c7 c8 c9 c10 c11 c12 r0 r1 r2 r3 r4 r5 r6 r7 r8 r9 r10 r11 r12 P2
      unfold putNd at P1 C12
      generalize World.setCell _ ⟨w.heap.size, 12, none⟩ _ = w12 at *
      obtain ⟨c0, c1, c2, c3, c4, c5, c6, c7, c8, c9, c10, c11, c12⟩ := P1.at
      refine bodyPost_ret (v := m.v) (by simp [results, Tryd.results31, go_sem, c0, c1, c2, c3, c4, c5, c6, c7, c8, c9, c10, c11, c12]) rfl ⟨by rw [HM.out], C12⟩
end Go.Proofs.YtcclpfcgodckgaaDoor

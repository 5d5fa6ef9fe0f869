/-
  The contract of Decode of package inode.
-/
import Derived.Test.YtcclpfcgodckgaaDoorIEq
import Derived.Deep.RegionHeld
namespace Go.Proofs.YtcclpfcgodckgaaDoor
open Go.RowKit

/-- What the compare in Decode calls, one behind the other. -/
def DecRest (w0 : World) (r b : Nat) (n : Nd) (w : World) : Prop := Chg (fun _ => False) w0 w ∧ NdB 24 w r Nd.no ∧ NdAt w b n
theorem dec_call {w0 w : World} {r b : Nat} {n m : Nd} {v : Value} {bs : List Int} {eq : Bool} (hR : DecRest w0 r b n w) (hb : Bs w v bs) (hT : Tab w) (hB : IsB bs) (hm : n.lim = m) (he : decide (n.bytes = bs) = eq) :
    Calls Tryd.prog 33 #[n.v] w fun e w1 => e = .returned m.v ∧ (w1.cell? ⟨b, 0, none⟩ = some (.int .i64 n.kd) ∧ w1.cell? ⟨b, 1, none⟩ = some (.int .i64 n.lk) ∧ w1.cell? ⟨b, 2, none⟩ = some (.int .i64 n.sz) ∧ w1.cell? ⟨b, 3, none⟩ = some (.int .i64 n.d0) ∧ w1.cell? ⟨b, 4, none⟩ = some (.int .i64 n.d1) ∧ w1.cell? ⟨b, 5, none⟩ = some (.int .i64 n.d2) ∧ w1.cell? ⟨b, 6, none⟩ = some (.int .i64 n.d3) ∧ w1.cell? ⟨b, 7, none⟩ = some (.int .i64 n.d4) ∧ w1.cell? ⟨b, 8, none⟩ = some (.int .i64 n.d5) ∧ w1.cell? ⟨b, 9, none⟩ = some (.int .i64 n.d6) ∧ w1.cell? ⟨b, 10, none⟩ = some (.int .i64 n.d7) ∧ w1.cell? ⟨b, 11, none⟩ = some (.int .i64 n.on) ∧ w1.cell? ⟨b, 12, none⟩ = some (.int .i64 n.tw)) ∧
      Hid (Calls Tryd.prog 8 #[n.v] w1 fun e w2 => ∃ u, e = .returned u ∧ (w2.cell? ⟨b, 0, none⟩ = some (.int .i64 n.kd) ∧ w2.cell? ⟨b, 1, none⟩ = some (.int .i64 n.lk) ∧ w2.cell? ⟨b, 2, none⟩ = some (.int .i64 n.sz) ∧ w2.cell? ⟨b, 3, none⟩ = some (.int .i64 n.d0) ∧ w2.cell? ⟨b, 4, none⟩ = some (.int .i64 n.d1) ∧ w2.cell? ⟨b, 5, none⟩ = some (.int .i64 n.d2) ∧ w2.cell? ⟨b, 6, none⟩ = some (.int .i64 n.d3) ∧ w2.cell? ⟨b, 7, none⟩ = some (.int .i64 n.d4) ∧ w2.cell? ⟨b, 8, none⟩ = some (.int .i64 n.d5) ∧ w2.cell? ⟨b, 9, none⟩ = some (.int .i64 n.d6) ∧ w2.cell? ⟨b, 10, none⟩ = some (.int .i64 n.d7) ∧ w2.cell? ⟨b, 11, none⟩ = some (.int .i64 n.on) ∧ w2.cell? ⟨b, 12, none⟩ = some (.int .i64 n.tw)) ∧
        Hid (Calls Tryd.prog 34 #[u, v] w2 fun e w3 => e = .returned (.bool eq) ∧ w3 = w2) ∧ Hid (DecRest w0 r b n w2)) ∧ Hid (DecRest w0 r b n w1) := by
  have hN0 : 0 < w.heap.size := by have := World.block_lt_of_cell? w _ (hT 0 (by omega)); simpa using this
  subst hm he
  refine (within_any n w).mono ?_
  rintro e w1 ⟨rfl, C1⟩
  obtain ⟨h1, h2, h3⟩ := hR
  have N1 := h3.kept C1 (fun h => h)
  have R1 : DecRest w0 r b n w1 := ⟨h1.trans C1 (fun _ _ h => h), h2.kept C1 (fun h => h), N1⟩
  have b1 := hb.kept C1 (fun _ _ _ _ _ h => h)
  have T1 := hT.below (C1.below (Nat.le_refl _) (fun _ h => h.elim)) hN0
  obtain ⟨c0, c1, c2, c3, c4, c5, c6, c7, c8, c9, c10, c11, c12⟩ := N1
  refine ⟨rfl, ⟨c0, c1, c2, c3, c4, c5, c6, c7, c8, c9, c10, c11, c12⟩, ?_, R1⟩
  refine (encode_any n w1.heap.size w1 T1 (Nat.le_refl _)).mono ?_
  rintro e w2 ⟨u, rfl, F2⟩
  have N2 := R1.2.2.kept F2.2.1 (fun h => h)
  have R2 : DecRest w0 r b n w2 := ⟨R1.1.trans F2.2.1 (fun _ _ h => h), R1.2.1.kept F2.2.1 (fun h => h), N2⟩
  obtain ⟨c0, c1, c2, c3, c4, c5, c6, c7, c8, c9, c10, c11, c12⟩ := N2
  exact ⟨u, rfl, ⟨c0, c1, c2, c3, c4, c5, c6, c7, c8, c9, c10, c11, c12⟩, equal_any u v n.bytes bs w2 (Bs.ofOwns F2.1) (b1.kept F2.2.1 (fun _ _ _ _ _ h => h)) n.bytes_isB hB, R2⟩

set_option maxHeartbeats 1600000 in
set_option maxRecDepth 100000 in
theorem decode_short (v : Value) (bs : List Int) (w : World) (hb : Bs w v bs) (h : bs.length < 64) :
    Calls Tryd.prog 10 #[v] w fun e w' => e = .returned (.tuple #[Nd.no.v, .int .i64 2]) ∧ Chg (fun _ => False) w w' := by
  obtain ⟨ab, cb, rfl, hcb⟩ := hb.formC
  have k1 : decide ((bs.length : Int) < 64) = true := by simp; omega
  have k1' : (bs.length : Int) < 64 := by omega
  clear hb
  go_enter Tryd.func10, Tryd.ntmps10
  go_wp2_with fail
  refine bodyPost_ret (v := .tuple #[Nd.no.v, .int .i64 2]) (by simp [results, Tryd.results10, go_sem, Nd.no]) rfl ⟨rfl, Chg.alloc _ _ _⟩

set_option maxHeartbeats 1600000 in
set_option maxRecDepth 100000 in
theorem decode_long (v : Value) (bs : List Int) (w : World) (hb : Bs w v bs) (h : 64 < bs.length) :
    Calls Tryd.prog 10 #[v] w fun e w' => e = .returned (.tuple #[Nd.no.v, .int .i64 5]) ∧ Chg (fun _ => False) w w' := by
  obtain ⟨ab, cb, rfl, hcb⟩ := hb.formC
  have k1 : decide ((bs.length : Int) < 64) = false := by simp; omega
  have k2 : decide ((64 : Int) < (bs.length : Int)) = true := by simp; omega
  have k1' : ¬ (bs.length : Int) < 64 := by omega
  have k2' : (64 : Int) < (bs.length : Int) := by omega
  clear hb
  go_enter Tryd.func10, Tryd.ntmps10
  go_wp2_with fail
  refine bodyPost_ret (v := .tuple #[Nd.no.v, .int .i64 5]) (by simp [results, Tryd.results10, go_sem, Nd.no]) rfl ⟨rfl, Chg.alloc _ _ _⟩

set_option maxHeartbeats 1600000 in
set_option maxRecDepth 100000 in
theorem decode_sum (v : Value) (bs : List Int) (w : World) (hb : Bs w v bs) (hB : IsB bs) (hT : Tab w) (h : bs.length = 64) (ho : openE bs ≠ 0) :
    Calls Tryd.prog 10 #[v] w fun e w' => e = .returned (.tuple #[Nd.no.v, .int .i64 (openE bs)]) ∧ Chg (fun _ => False) w w' := by
  have hN0 : 0 < w.heap.size := by have := World.block_lt_of_cell? w _ (hT 0 (by omega)); simpa using this
  obtain ⟨ab, cb, rfl, hcb⟩ := hb.formC
  have HL : Hid (bs.length = 64) := h
  rw [h] at hb
  rw [h]
  clear h hcb
  have c0 : Chg (fun _ => False) w (w.alloc (.cells #[.int .i64 0, .int .i64 0, .int .i64 0, .int .i64 0, .int .i64 0, .int .i64 0, .int .i64 0, .int .i64 0, .int .i64 0, .int .i64 0, .int .i64 0, .int .i64 0, .int .i64 0] 24)) := Chg.alloc _ _ _
  have s0 : NdB 24 (w.alloc (.cells #[.int .i64 0, .int .i64 0, .int .i64 0, .int .i64 0, .int .i64 0, .int .i64 0, .int .i64 0, .int .i64 0, .int .i64 0, .int .i64 0, .int .i64 0, .int .i64 0, .int .i64 0] 24)) w.heap.size Nd.no := heap_alloc_new w _
  go_enter Tryd.func10, Tryd.ntmps10
  go_wp2_with fail
  generalize w.alloc (.cells #[.int .i64 0, .int .i64 0, .int .i64 0, .int .i64 0, .int .i64 0, .int .i64 0, .int .i64 0, .int .i64 0, .int .i64 0, .int .i64 0, .int .i64 0, .int .i64 0, .int .i64 0] 24) = w0 at *
  refine (open_any w0.heap.size _ bs w0 (hb.kept c0 (fun _ _ _ _ _ h => h)) hB (hT.below (c0.below (Nat.le_refl _) (fun _ h => h.elim)) hN0) (Nat.le_refl _) (by rw [HL.out]; omega)).mono ?_
  rintro e w1 ⟨u, rfl, F1⟩
  have s1 := s0.kept F1.2.1 (fun h => h)
  have C1 := c0.trans F1.2.1 (fun _ _ h => h)
  have k3 : (openE bs == 0) = false := by simpa using ho
  obtain ⟨c0', c1', c2', c3', c4', c5', c6', c7', c8', c9', c10', c11', c12'⟩ := s1.at
  have fr := s1.fr
  have P := s1.put Nd.no
  obtain ⟨ee, HEE⟩ : ∃ ee, Hid (openE bs = ee) := ⟨_, rfl⟩
  rw [HEE.out] at k3
  rw [HEE.out]
  clear F1 s0 hb hB hT c0 ho
  go_wp2_with fail
  obtain ⟨P1, P2⟩ := P
  have C2 := C1.trans P2 (fun i hi e => by omega)
  clear c0' c1' c2' c3' c4' c5' c6' c7' c8' c9' c10' c11' c12' P2 s1 fr
  unfold putNd at P1 C2
  simp only [Nd.no] at P1 C2
  generalize World.setCell _ ⟨w.heap.size, 12, none⟩ _ = w12 at *
  obtain ⟨c0, c1, c2, c3, c4, c5, c6, c7, c8, c9, c10, c11, c12⟩ := P1.at
  refine bodyPost_ret (v := .tuple #[Nd.no.v, .int .i64 ee]) (by simp [results, Tryd.results10, go_sem, Nd.no, c0, c1, c2, c3, c4, c5, c6, c7, c8, c9, c10, c11, c12]) rfl ⟨by rw [HEE.out], C2⟩

set_option maxHeartbeats 1600000 in
set_option maxRecDepth 100000 in
theorem decode_ok (v : Value) (bs : List Int) (w : World) (hb : Bs w v bs) (hB : IsB bs) (hT : Tab w) (h : bs.length = 64) (ho : openE bs = 0) (hok : (readN (bs.take 60)).ok) (hby : (readN (bs.take 60)).bytes = bs) :
    Calls Tryd.prog 10 #[v] w fun e w' => e = .returned (.tuple #[(readN (bs.take 60)).v, .int .i64 0]) ∧ Chg (fun _ => False) w w' := by
  have hN0 : 0 < w.heap.size := by have := World.block_lt_of_cell? w _ (hT 0 (by omega)); simpa using this
  obtain ⟨ab, cb, rfl, hcb⟩ := hb.formC
  have HL : Hid (bs.length = 64) := h
  have HV : Hid (openV bs = bs.take 60) := by rw [Hid]; unfold openV; rw [if_pos ho, h]
  rw [h] at hb
  rw [h]
  clear h hcb
  have c0 : Chg (fun _ => False) w (w.alloc (.cells #[.int .i64 0, .int .i64 0, .int .i64 0, .int .i64 0, .int .i64 0, .int .i64 0, .int .i64 0, .int .i64 0, .int .i64 0, .int .i64 0, .int .i64 0, .int .i64 0, .int .i64 0] 24)) := Chg.alloc _ _ _
  have s0 : NdB 24 (w.alloc (.cells #[.int .i64 0, .int .i64 0, .int .i64 0, .int .i64 0, .int .i64 0, .int .i64 0, .int .i64 0, .int .i64 0, .int .i64 0, .int .i64 0, .int .i64 0, .int .i64 0, .int .i64 0] 24)) w.heap.size Nd.no := heap_alloc_new w _
  go_enter Tryd.func10, Tryd.ntmps10
  go_wp2_with fail
  generalize w.alloc (.cells #[.int .i64 0, .int .i64 0, .int .i64 0, .int .i64 0, .int .i64 0, .int .i64 0, .int .i64 0, .int .i64 0, .int .i64 0, .int .i64 0, .int .i64 0, .int .i64 0, .int .i64 0] 24) = w0 at *
  refine (open_any w0.heap.size _ bs w0 (hb.kept c0 (fun _ _ _ _ _ h => h)) hB (hT.below (c0.below (Nat.le_refl _) (fun _ h => h.elim)) hN0) (Nat.le_refl _) (by rw [HL.out]; omega)).mono ?_
  rintro e w1 ⟨u, rfl, F1⟩
  have s1 := s0.kept F1.2.1 (fun h => h)
  have C1 := c0.trans F1.2.1 (fun _ _ h => h)
  rw [HV.out] at F1
  have U1 := Bs.ofOwns F1.1
  rw [ho]
  clear F1 s0 c0 HV ho
  go_wp2_with fail
  refine (newReader_any w.heap.size u _ w1 U1 (by simp; omega) C1.size).mono ?_
  rintro e w2 ⟨p, v2, rfl, R2, C2, hp⟩
  have s2 := s1.kept C2 (fun h => h)
  have C12 := C1.trans C2 (fun _ _ h => h)
  have hps : w.heap.size < p := by have := s1.lt; omega
  clear C1 C2 s1 U1
  go_wp2_with fail
  refine (itake_any w.heap.size p v2 _ w2 R2 (by simp [HL.out]) (hB.take 60)).mono ?_
  rintro e w3 ⟨rfl, C3⟩
  have s3 := s2.kept C3 (fun h => by omega)
  have C13 : Chg (fun _ => False) w w3 := C12.trans (C3.mono (S' := fun k => k = p) (fun _ _ h => h)) (fun i hi h => by omega)
  clear C12 C3 s2 R2
  obtain ⟨n, HN⟩ : ∃ n, Hid (readN (bs.take 60) = n) := ⟨_, rfl⟩
  rw [HN.out] at hok hby
  rw [HN.out]
  have A : Chg (fun _ => False) w3 (w3.alloc (n.o 24)).drew := (Chg.alloc _ _ _).trans (Chg.drew _ _) (fun _ _ h => h)
  have RR : DecRest w w.heap.size w3.heap.size n (w3.alloc (n.o 24)).drew := ⟨C13.trans A (fun _ _ h => h), s3.kept A (fun h => h), (NdAt.box w3 n _).kept (Chg.drew (fun _ => False) _) (fun h => h)⟩
  have B3 : Bs (w3.alloc (n.o 24)).drew (.slice ab 64 cb) bs := hb.kept RR.1 (fun _ _ _ _ _ h => h)
  have HC : Hid (Calls Tryd.prog 33 #[n.v] (w3.alloc (n.o 24)).drew _) := dec_call (eq := true) RR B3 (hT.below (RR.1.below (Nat.le_refl _) (fun _ h => h.elim)) hN0) hB (n.lim_ok hok) (by simp [hby])
  obtain ⟨a0, a1, a2, a3, a4, a5, a6, a7, a8, a9, a10, a11, a12⟩ := RR.2.2
  have nq := fun w => neqI n w
  have hg : Tryd.prog.eqGuardType Tryd.prog.depth 24 = false := by kernel_rfl
  clear RR B3 A C13 s3 hb hB hT hok hby HL
  go_wp2_with fail
  go_region_held (fun w' => w'.cell? ⟨w3.heap.size, 0, none⟩ = some (.int .i64 n.kd) ∧ w'.cell? ⟨w3.heap.size, 1, none⟩ = some (.int .i64 n.lk) ∧ w'.cell? ⟨w3.heap.size, 2, none⟩ = some (.int .i64 n.sz) ∧ w'.cell? ⟨w3.heap.size, 3, none⟩ = some (.int .i64 n.d0) ∧ w'.cell? ⟨w3.heap.size, 4, none⟩ = some (.int .i64 n.d1) ∧ w'.cell? ⟨w3.heap.size, 5, none⟩ = some (.int .i64 n.d2) ∧ w'.cell? ⟨w3.heap.size, 6, none⟩ = some (.int .i64 n.d3) ∧ w'.cell? ⟨w3.heap.size, 7, none⟩ = some (.int .i64 n.d4) ∧ w'.cell? ⟨w3.heap.size, 8, none⟩ = some (.int .i64 n.d5) ∧ w'.cell? ⟨w3.heap.size, 9, none⟩ = some (.int .i64 n.d6) ∧ w'.cell? ⟨w3.heap.size, 10, none⟩ = some (.int .i64 n.d7) ∧ w'.cell? ⟨w3.heap.size, 11, none⟩ = some (.int .i64 n.on) ∧ w'.cell? ⟨w3.heap.size, 12, none⟩ = some (.int .i64 n.tw))
    (first | assumption | exact ⟨a0, a1, a2, a3, a4, a5, a6, a7, a8, a9, a10, a11, a12⟩)
    (first | (go_at_call 33; refine HC.out.mono ?_; rintro e w4 ⟨rfl, xs4, HE, HQ4⟩) | (go_at_call 8; refine HE.out.mono ?_; rintro e w5 ⟨u5, rfl, xs5, H5, HQ5⟩) | (go_at_call 34; refine H5.out.mono ?_; rintro e w6 ⟨rfl, h6⟩; subst h6))
  obtain ⟨D1, D2, D3⟩ := HQ5.out
  obtain ⟨c0, c1, c2, c3, c4, c5, c6, c7, c8, c9, c10, c11, c12⟩ := D3
  obtain ⟨r0, r1, r2, r3, r4, r5, r6, r7, r8, r9, r10, r11, r12⟩ := D2.at
  have fr := D2.fr
  clear a0 a1 a2 a3 a4 a5 a6 a7 a8 a9 a10 a11 a12 xs4 xs5 HQ4
  go_wp2_with fail
  obtain ⟨P1, P2⟩ := D2.put n
  have C9 := D1.trans P2 (fun i hi e => by omega)
  clear c0 c1 c2 c3 c4 c5 c6 c7 c8 c9 c10 c11 c12 r0 r1 r2 r3 r4 r5 r6 r7 r8 r9 r10 r11 r12 P2 D1 D2 fr
  unfold putNd at P1 C9
  generalize World.setCell _ ⟨w.heap.size, 12, none⟩ _ = w12 at *
  obtain ⟨c0, c1, c2, c3, c4, c5, c6, c7, c8, c9, c10, c11, c12⟩ := P1.at
  refine bodyPost_ret (v := .tuple #[n.v, .int .i64 0]) (by simp [results, Tryd.results10, go_sem, c0, c1, c2, c3, c4, c5, c6, c7, c8, c9, c10, c11, c12]) rfl ⟨by rw [HN.out], C9⟩

set_option maxHeartbeats 1600000 in
set_option maxRecDepth 100000 in
theorem decode_not (v : Value) (bs : List Int) (w : World) (hb : Bs w v bs) (hB : IsB bs) (hT : Tab w) (h : bs.length = 64) (ho : openE bs = 0) (hok : (readN (bs.take 60)).ok) (hby : (readN (bs.take 60)).bytes ≠ bs) :
    Calls Tryd.prog 10 #[v] w fun e w' => e = .returned (.tuple #[Nd.no.v, .int .i64 3]) ∧ Chg (fun _ => False) w w' := by
  have hN0 : 0 < w.heap.size := by have := World.block_lt_of_cell? w _ (hT 0 (by omega)); simpa using this
  obtain ⟨ab, cb, rfl, hcb⟩ := hb.formC
  have HL : Hid (bs.length = 64) := h
  have HV : Hid (openV bs = bs.take 60) := by rw [Hid]; unfold openV; rw [if_pos ho, h]
  rw [h] at hb
  rw [h]
  clear h hcb
  have c0 : Chg (fun _ => False) w (w.alloc (.cells #[.int .i64 0, .int .i64 0, .int .i64 0, .int .i64 0, .int .i64 0, .int .i64 0, .int .i64 0, .int .i64 0, .int .i64 0, .int .i64 0, .int .i64 0, .int .i64 0, .int .i64 0] 24)) := Chg.alloc _ _ _
  have s0 : NdB 24 (w.alloc (.cells #[.int .i64 0, .int .i64 0, .int .i64 0, .int .i64 0, .int .i64 0, .int .i64 0, .int .i64 0, .int .i64 0, .int .i64 0, .int .i64 0, .int .i64 0, .int .i64 0, .int .i64 0] 24)) w.heap.size Nd.no := heap_alloc_new w _
  go_enter Tryd.func10, Tryd.ntmps10
  go_wp2_with fail
  generalize w.alloc (.cells #[.int .i64 0, .int .i64 0, .int .i64 0, .int .i64 0, .int .i64 0, .int .i64 0, .int .i64 0, .int .i64 0, .int .i64 0, .int .i64 0, .int .i64 0, .int .i64 0, .int .i64 0] 24) = w0 at *
  refine (open_any w0.heap.size _ bs w0 (hb.kept c0 (fun _ _ _ _ _ h => h)) hB (hT.below (c0.below (Nat.le_refl _) (fun _ h => h.elim)) hN0) (Nat.le_refl _) (by rw [HL.out]; omega)).mono ?_
  rintro e w1 ⟨u, rfl, F1⟩
  have s1 := s0.kept F1.2.1 (fun h => h)
  have C1 := c0.trans F1.2.1 (fun _ _ h => h)
  rw [HV.out] at F1
  have U1 := Bs.ofOwns F1.1
  rw [ho]
  clear F1 s0 c0 HV ho
  go_wp2_with fail
  refine (newReader_any w.heap.size u _ w1 U1 (by simp; omega) C1.size).mono ?_
  rintro e w2 ⟨p, v2, rfl, R2, C2, hp⟩
  have s2 := s1.kept C2 (fun h => h)
  have C12 := C1.trans C2 (fun _ _ h => h)
  have hps : w.heap.size < p := by have := s1.lt; omega
  clear C1 C2 s1 U1
  go_wp2_with fail
  refine (itake_any w.heap.size p v2 _ w2 R2 (by simp [HL.out]) (hB.take 60)).mono ?_
  rintro e w3 ⟨rfl, C3⟩
  have s3 := s2.kept C3 (fun h => by omega)
  have C13 : Chg (fun _ => False) w w3 := C12.trans (C3.mono (S' := fun k => k = p) (fun _ _ h => h)) (fun i hi h => by omega)
  clear C12 C3 s2 R2
  obtain ⟨n, HN⟩ : ∃ n, Hid (readN (bs.take 60) = n) := ⟨_, rfl⟩
  rw [HN.out] at hok hby
  rw [HN.out]
  have A : Chg (fun _ => False) w3 (w3.alloc (n.o 24)).drew := (Chg.alloc _ _ _).trans (Chg.drew _ _) (fun _ _ h => h)
  have RR : DecRest w w.heap.size w3.heap.size n (w3.alloc (n.o 24)).drew := ⟨C13.trans A (fun _ _ h => h), s3.kept A (fun h => h), (NdAt.box w3 n _).kept (Chg.drew (fun _ => False) _) (fun h => h)⟩
  have B3 : Bs (w3.alloc (n.o 24)).drew (.slice ab 64 cb) bs := hb.kept RR.1 (fun _ _ _ _ _ h => h)
  have HC : Hid (Calls Tryd.prog 33 #[n.v] (w3.alloc (n.o 24)).drew _) := dec_call (eq := false) RR B3 (hT.below (RR.1.below (Nat.le_refl _) (fun _ h => h.elim)) hN0) hB (n.lim_ok hok) (by simp [hby])
  obtain ⟨a0, a1, a2, a3, a4, a5, a6, a7, a8, a9, a10, a11, a12⟩ := RR.2.2
  have nq := fun w => neqI n w
  have hg : Tryd.prog.eqGuardType Tryd.prog.depth 24 = false := by kernel_rfl
  clear RR B3 A C13 s3 hb hB hT hok hby HL
  go_wp2_with fail
  go_region_held (fun w' => w'.cell? ⟨w3.heap.size, 0, none⟩ = some (.int .i64 n.kd) ∧ w'.cell? ⟨w3.heap.size, 1, none⟩ = some (.int .i64 n.lk) ∧ w'.cell? ⟨w3.heap.size, 2, none⟩ = some (.int .i64 n.sz) ∧ w'.cell? ⟨w3.heap.size, 3, none⟩ = some (.int .i64 n.d0) ∧ w'.cell? ⟨w3.heap.size, 4, none⟩ = some (.int .i64 n.d1) ∧ w'.cell? ⟨w3.heap.size, 5, none⟩ = some (.int .i64 n.d2) ∧ w'.cell? ⟨w3.heap.size, 6, none⟩ = some (.int .i64 n.d3) ∧ w'.cell? ⟨w3.heap.size, 7, none⟩ = some (.int .i64 n.d4) ∧ w'.cell? ⟨w3.heap.size, 8, none⟩ = some (.int .i64 n.d5) ∧ w'.cell? ⟨w3.heap.size, 9, none⟩ = some (.int .i64 n.d6) ∧ w'.cell? ⟨w3.heap.size, 10, none⟩ = some (.int .i64 n.d7) ∧ w'.cell? ⟨w3.heap.size, 11, none⟩ = some (.int .i64 n.on) ∧ w'.cell? ⟨w3.heap.size, 12, none⟩ = some (.int .i64 n.tw))
    (first | assumption | exact ⟨a0, a1, a2, a3, a4, a5, a6, a7, a8, a9, a10, a11, a12⟩)
    (first | (go_at_call 33; refine HC.out.mono ?_; rintro e w4 ⟨rfl, xs4, HE, HQ4⟩) | (go_at_call 8; refine HE.out.mono ?_; rintro e w5 ⟨u5, rfl, xs5, H5, HQ5⟩) | (go_at_call 34; refine H5.out.mono ?_; rintro e w6 ⟨rfl, h6⟩; subst h6))
  obtain ⟨D1, D2, D3⟩ := HQ5.out
  obtain ⟨c0, c1, c2, c3, c4, c5, c6, c7, c8, c9, c10, c11, c12⟩ := D3
  obtain ⟨r0, r1, r2, r3, r4, r5, r6, r7, r8, r9, r10, r11, r12⟩ := D2.at
  have fr := D2.fr
  clear a0 a1 a2 a3 a4 a5 a6 a7 a8 a9 a10 a11 a12 xs4 xs5 HQ4
  go_wp2_with fail
  obtain ⟨P1, P2⟩ := D2.put Nd.no
  have C9 := D1.trans P2 (fun i hi e => by omega)
  clear c0 c1 c2 c3 c4 c5 c6 c7 c8 c9 c10 c11 c12 r0 r1 r2 r3 r4 r5 r6 r7 r8 r9 r10 r11 r12 P2 D1 D2 fr
  unfold putNd at P1 C9
  simp only [Nd.no] at P1 C9
  generalize World.setCell _ ⟨w.heap.size, 12, none⟩ _ = w12 at *
  obtain ⟨c0, c1, c2, c3, c4, c5, c6, c7, c8, c9, c10, c11, c12⟩ := P1.at
  refine bodyPost_ret (v := .tuple #[Nd.no.v, .int .i64 3]) (by simp [results, Tryd.results10, go_sem, Nd.no, c0, c1, c2, c3, c4, c5, c6, c7, c8, c9, c10, c11, c12]) rfl ⟨rfl, C9⟩

end Go.Proofs.YtcclpfcgodckgaaDoor

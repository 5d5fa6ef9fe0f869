/-
  InodeBytes answers true for every argument, in every world that holds codec's table; nothing that was there has changed.
-/
import Derived.Test.YtcclpfcgodckgaaDoorIKnown
import Derived.Test.YtcclpfcgodckgaaDoorIRefDec3
import Derived.Deep.RegionHeld
namespace Go.Proofs.YtcclpfcgodckgaaDoor
open Go.RowKit

/-- What the compare of the bytes calls. -/
theorem bytes_call {w0 w : World} {b : Nat} {n : Nd} {u : Value} {t : ByteArray} (hC : Chg (fun _ => False) w0 w) (hn : NdAt w b n) (hu : Bs w u n.bytes) (ht : strC n.bytes = t) :
    Calls Tryd.prog 9 #[n.v] w fun e w1 => ∃ u1, e = .returned u1 ∧ ((w1.cell? ⟨b, 0, none⟩ = some (.int .i64 n.kd) ∧ w1.cell? ⟨b, 1, none⟩ = some (.int .i64 n.lk) ∧ w1.cell? ⟨b, 2, none⟩ = some (.int .i64 n.sz) ∧ w1.cell? ⟨b, 3, none⟩ = some (.int .i64 n.d0) ∧ w1.cell? ⟨b, 4, none⟩ = some (.int .i64 n.d1) ∧ w1.cell? ⟨b, 5, none⟩ = some (.int .i64 n.d2) ∧ w1.cell? ⟨b, 6, none⟩ = some (.int .i64 n.d3) ∧ w1.cell? ⟨b, 7, none⟩ = some (.int .i64 n.d4) ∧ w1.cell? ⟨b, 8, none⟩ = some (.int .i64 n.d5) ∧ w1.cell? ⟨b, 9, none⟩ = some (.int .i64 n.d6) ∧ w1.cell? ⟨b, 10, none⟩ = some (.int .i64 n.d7) ∧ w1.cell? ⟨b, 11, none⟩ = some (.int .i64 n.on) ∧ w1.cell? ⟨b, 12, none⟩ = some (.int .i64 n.tw)) ∧ (convert 25 9 u).run Tryd.prog w1 = .ok (.string t) w1) ∧ (convert 25 9 u1).run Tryd.prog w1 = .ok (.string t) w1 ∧ Hid (Chg (fun _ => False) w0 w1 ∧ Bs w1 u n.bytes) := by
  subst ht
  refine (refEncode_any n w.heap.size w (Nat.le_refl _)).mono ?_
  rintro e w1 ⟨u1, rfl, F1⟩
  have N1 := hn.kept F1.2.1 (fun h => h)
  have U1 := hu.kept F1.2.1 (fun _ _ _ _ _ h => h)
  obtain ⟨c0, c1, c2, c3, c4, c5, c6, c7, c8, c9, c10, c11, c12⟩ := N1
  exact ⟨u1, rfl, ⟨⟨c0, c1, c2, c3, c4, c5, c6, c7, c8, c9, c10, c11, c12⟩, run_strC U1⟩, run_strC (Bs.ofOwns F1.1), hC.trans F1.2.1 (fun _ _ h => h), U1⟩

set_option maxHeartbeats 1600000 in
set_option maxRecDepth 100000 in
theorem law_bytes_in (n : Nd) (v : Value) (bs : List Int) (w : World) (hT : Tab w) (hb : Bs w v bs) (hB : IsB bs) (hl : bs.length ≤ 200) :
    Calls Tryd.prog 3 #[n.v, v] w fun r w' => r = .returned (.bool true) ∧ Chg (fun _ => False) w w' := by
  have hN0 : 0 < w.heap.size := by have := World.block_lt_of_cell? w _ (hT 0 (by omega)); simpa using this
  obtain ⟨ab, cb, rfl, hcb⟩ := hb.formC
  have k1 : decide ((200 : Int) < (bs.length : Int)) = false := by simp; omega
  have k1' : ¬ (200 : Int) < (bs.length : Int) := by omega
  have n0 := NdAt.box w n 24
  have C0 : Chg (fun _ => False) w (w.alloc (n.o 24)) := Chg.alloc _ _ _
  go_enter Tryd.func3, Tryd.ntmps3
  go_wp2_with fail
  generalize w.alloc (n.o 24) = w0 at *
  have T0 := hT.below (C0.below (Nat.le_refl _) (fun _ h => h.elim)) hN0
  refine (iknown_any w0 T0).mono ?_
  rintro r w1 ⟨rfl, C1⟩
  have n1 := n0.kept C1 (fun h => h)
  have C01 := C0.trans C1 (fun _ _ h => h)
  have T1 := hT.below (C01.below (Nat.le_refl _) (fun _ h => h.elim)) hN0
  obtain ⟨c0, c1, c2, c3, c4, c5, c6, c7, c8, c9, c10, c11, c12⟩ := n1
  clear C0 C1 n0 T0
  go_wp2_with fail
  refine (encode_any n w1.heap.size w1 T1 (Nat.le_refl _)).mono ?_
  rintro r w2 ⟨u, rfl, F2⟩
  have n1 : NdAt w1 w.heap.size n := ⟨c0, c1, c2, c3, c4, c5, c6, c7, c8, c9, c10, c11, c12⟩
  have n2 := n1.kept F2.2.1 (fun h => h)
  have C02 := C01.trans F2.2.1 (fun _ _ h => h)
  have U2 := Bs.ofOwns F2.1
  clear c0 c1 c2 c3 c4 c5 c6 c7 c8 c9 c10 c11 c12 C01 T1 F2 n1
  obtain ⟨ua, uc, hu, huc⟩ := U2.formC
  rw [n.bytes_len] at hu huc
  subst hu
  have A2 : Chg (fun _ => False) w2 w2.drew := Chg.drew _ _
  have n3 := n2.kept A2 (fun h => h)
  have U3 : Bs w2.drew (.slice ua 64 uc) n.bytes := U2.kept A2 (fun _ _ _ _ _ h => h)
  obtain ⟨t, HTT⟩ : ∃ t, Hid (strC n.bytes = t) := ⟨_, rfl⟩
  have su := run_strC U3
  rw [HTT.out] at su
  have HC : Hid (Calls Tryd.prog 9 #[n.v] w2.drew _) := bytes_call (C02.trans A2 (fun _ _ h => h)) n3 U3 HTT.out
  obtain ⟨c0, c1, c2, c3, c4, c5, c6, c7, c8, c9, c10, c11, c12⟩ := n3
  clear n2 U2 U3 A2 C02 HTT
  go_wp2_with fail
  go_region_held (fun w' => (w'.cell? ⟨w.heap.size, 0, none⟩ = some (.int .i64 n.kd) ∧ w'.cell? ⟨w.heap.size, 1, none⟩ = some (.int .i64 n.lk) ∧ w'.cell? ⟨w.heap.size, 2, none⟩ = some (.int .i64 n.sz) ∧ w'.cell? ⟨w.heap.size, 3, none⟩ = some (.int .i64 n.d0) ∧ w'.cell? ⟨w.heap.size, 4, none⟩ = some (.int .i64 n.d1) ∧ w'.cell? ⟨w.heap.size, 5, none⟩ = some (.int .i64 n.d2) ∧ w'.cell? ⟨w.heap.size, 6, none⟩ = some (.int .i64 n.d3) ∧ w'.cell? ⟨w.heap.size, 7, none⟩ = some (.int .i64 n.d4) ∧ w'.cell? ⟨w.heap.size, 8, none⟩ = some (.int .i64 n.d5) ∧ w'.cell? ⟨w.heap.size, 9, none⟩ = some (.int .i64 n.d6) ∧ w'.cell? ⟨w.heap.size, 10, none⟩ = some (.int .i64 n.d7) ∧ w'.cell? ⟨w.heap.size, 11, none⟩ = some (.int .i64 n.on) ∧ w'.cell? ⟨w.heap.size, 12, none⟩ = some (.int .i64 n.tw)) ∧ (convert 25 9 (.slice ua 64 uc)).run Tryd.prog w' = .ok (.string t) w')
    (first | assumption | exact ⟨⟨c0, c1, c2, c3, c4, c5, c6, c7, c8, c9, c10, c11, c12⟩, su⟩)
    (first | (go_at_call 9; refine HC.out.mono ?_; rintro r w3 ⟨u3, rfl, x3, s3, HQ⟩))
  obtain ⟨C3, U3⟩ := HQ.out
  clear c0 c1 c2 c3 c4 c5 c6 c7 c8 c9 c10 c11 c12 su HC x3 s3 HQ
  have hbk : ∀ w', Chg (fun _ => False) w w' → Bs w' (.slice ab bs.length cb) bs := fun w' hc => hb.kept hc (fun _ _ _ _ _ h => h)
  have hTk : ∀ w', Chg (fun _ => False) w w' → Tab w' := fun w' hc => hT.below (hc.below (Nat.le_refl _) (fun _ h => h.elim)) hN0
  have HBK : Hid (∀ w', Chg (fun _ => False) w w' → Bs w' (.slice ab bs.length cb) bs) := hbk
  have HTK : Hid (∀ w', Chg (fun _ => False) w w' → Tab w') := hTk
  have HB2 : Hid (IsB bs) := hB
  clear hbk hTk hb hB hT hl hcb
  obtain ⟨m, HM⟩ : ∃ m, Hid (decN bs = m) := ⟨_, rfl⟩
  obtain ⟨ee, HEE⟩ : ∃ ee, Hid (decE bs = ee) := ⟨_, rfl⟩
  obtain ⟨m2, HM2⟩ : ∃ m, Hid (decN n.bytes = m) := ⟨_, rfl⟩
  obtain ⟨ee2, HEE2⟩ : ∃ ee, Hid (decE n.bytes = ee) := ⟨_, rfl⟩
  go_wp2_with fail
  refine (decode_any _ bs w3 (HBK.out _ C3) HB2.out (HTK.out _ C3)).mono ?_
  rintro r w4 ⟨rfl, C4⟩
  rw [HM.out, HEE.out]
  have D4 := C3.trans C4 (fun _ _ h => h)
  have U4 := U3.kept C4 (fun _ _ _ _ _ h => h)
  have B4 : NdAt (w4.alloc (m.o 24)) w4.heap.size m := NdAt.box w4 m _
  have A4 : Chg (fun _ => False) w4 (w4.alloc (m.o 24)) := Chg.alloc _ _ _
  clear C3 C4 U3
  go_wp2_with fail
  generalize w4.alloc (m.o 24) = w5 at *
  have D5 := D4.trans A4 (fun _ _ h => h)
  have U5 := U4.kept A4 (fun _ _ _ _ _ h => h)
  refine (refDecode_any _ bs w5 (HBK.out _ D5) HB2.out).mono ?_
  rintro r w6 ⟨rfl, C6⟩
  rw [HM.out, HEE.out]
  have D6 := D5.trans C6 (fun _ _ h => h)
  have U6 := U5.kept C6 (fun _ _ _ _ _ h => h)
  have Y6 := B4.kept C6 (fun h => h)
  have Z6 : NdAt (w6.alloc (m.o 29)) w6.heap.size m := NdAt.box w6 m _
  have A6 : Chg (fun _ => False) w6 (w6.alloc (m.o 29)) := Chg.alloc _ _ _
  clear D4 D5 U4 U5 B4 A4 C6
  go_wp2_with fail
  generalize w6.alloc (m.o 29) = w7 at *
  have D7 := D6.trans A6 (fun _ _ h => h)
  have U7 := U6.kept A6 (fun _ _ _ _ _ h => h)
  have Y7 := Y6.kept A6 (fun h => h)
  refine (decode_any _ n.bytes w7 U7 n.bytes_isB (HTK.out _ D7)).mono ?_
  rintro r w8 ⟨rfl, C8⟩
  rw [HM2.out, HEE2.out]
  have D8 := D7.trans C8 (fun _ _ h => h)
  have U8 := U7.kept C8 (fun _ _ _ _ _ h => h)
  have Y8 := Y7.kept C8 (fun h => h)
  have Z8 := Z6.kept C8 (fun h => h)
  have V8 : NdAt (w8.alloc (m2.o 24)) w8.heap.size m2 := NdAt.box w8 m2 _
  have A8 : Chg (fun _ => False) w8 (w8.alloc (m2.o 24)) := Chg.alloc _ _ _
  clear D6 D7 U6 U7 A6 C8 Y6 Y7 Z6
  go_wp2_with fail
  generalize w8.alloc (m2.o 24) = w9 at *
  have D9 := D8.trans A8 (fun _ _ h => h)
  have U9 := U8.kept A8 (fun _ _ _ _ _ h => h)
  have Y9 := Y8.kept A8 (fun h => h)
  have Z9 := Z8.kept A8 (fun h => h)
  refine (refDecode_any _ n.bytes w9 U9 n.bytes_isB).mono ?_
  rintro r w10 ⟨rfl, C10⟩
  rw [HM2.out, HEE2.out]
  have D10 := D9.trans C10 (fun _ _ h => h)
  have A10 : Chg (fun _ => False) w10 (w10.alloc (m2.o 29)) := Chg.alloc _ _ _
  have CA := C10.trans A10 (fun _ _ h => h)
  have Y10 := Y9.kept CA (fun h => h)
  have Z10 := Z9.kept CA (fun h => h)
  have V10 := V8.kept CA (fun h => h)
  have X10 : NdAt (w10.alloc (m2.o 29)) w10.heap.size m2 := NdAt.box w10 m2 _
  have D11 := D10.trans A10 (fun _ _ h => h)
  clear D8 D9 D10 U8 U9 A8 C10 Y8 Y9 Z8 Z9 V8 A10 CA HBK HTK HM HM2 HEE HEE2
  have q1 := fun w => eqlR m w
  have q2 := fun w => eqlR m2 w
  have hg : Tryd.prog.eqGuardType Tryd.prog.depth 29 = false := by kernel_rfl
  obtain ⟨c0, c1, c2, c3, c4, c5, c6, c7, c8, c9, c10, c11, c12⟩ := Y10
  obtain ⟨d0, d1, d2, d3, d4, d5, d6, d7, d8, d9, d10, d11, d12⟩ := Z10
  obtain ⟨e0, e1, e2, e3, e4, e5, e6, e7, e8, e9, e10, e11, e12⟩ := V10
  obtain ⟨g0, g1, g2, g3, g4, g5, g6, g7, g8, g9, g10, g11, g12⟩ := X10
  go_wp2
  go_ret
  exact ⟨rfl, D11⟩

set_option maxHeartbeats 1600000 in
/-- InodeBytes answers true. -/
theorem law_bytes (n : Nd) (v : Value) (bs : List Int) (w : World) (hT : Tab w) (hb : Bs w v bs) (hB : IsB bs) :
    Calls Tryd.prog 3 #[n.v, v] w fun r w' => r = .returned (.bool true) ∧ Chg (fun _ => False) w w' := by
  by_cases hl : bs.length ≤ 200
  · exact law_bytes_in n v bs w hT hb hB hl
  · have hN0 : 0 < w.heap.size := by have := World.block_lt_of_cell? w _ (hT 0 (by omega)); simpa using this
    obtain ⟨ab, cb, rfl, hcb⟩ := hb.formC
    have k1 : decide ((200 : Int) < (bs.length : Int)) = true := by simp; omega
    have k1' : (200 : Int) < (bs.length : Int) := by omega
    have C0 : Chg (fun _ => False) w (w.alloc (n.o 24)) := Chg.alloc _ _ _
    clear hb
    go_enter Tryd.func3, Tryd.ntmps3
    go_wp2_with fail
    generalize w.alloc (n.o 24) = w0 at *
    have T0 := hT.below (C0.below (Nat.le_refl _) (fun _ h => h.elim)) hN0
    refine (iknown_any w0 T0).mono ?_
    rintro r w1 ⟨rfl, C1⟩
    go_wp2
    go_ret
    exact ⟨rfl, C0.trans C1 (fun _ _ h => h)⟩
end Go.Proofs.YtcclpfcgodckgaaDoor

/-
  InodeBits answers true for every argument, in every world that holds codec's table; nothing that was there has changed.
-/
import Derived.Test.YtcclpfcgodckgaaDoorIKnown
import Derived.Deep.RegionHeld
import Derived.Deep.Cut
namespace Go.Proofs.YtcclpfcgodckgaaDoor
open Go.RowKit

/-- What Decode says of bytes that are none of a node's. -/
theorem dec_sum (T : List Int) (hl : T.length = 64) (h : openE T = 4) : decN T = Nd.no ∧ decE T = 4 := by
  constructor
  · unfold decN; rw [if_neg (fun x => by have := x.2.1; omega)]
  · unfold decE; rw [if_neg (by omega), if_neg (by omega), if_neg (by omega), h]
theorem dec_short (T : List Int) (hl : T.length < 64) : decN T = Nd.no ∧ decE T = 2 := by
  constructor
  · unfold decN; rw [if_neg (fun x => by have := x.1; omega)]
  · unfold decE; rw [if_pos hl]
theorem dec_long (T : List Int) (hl : 64 < T.length) : decE T = 5 := by
  unfold decE; rw [if_neg (by omega), if_pos hl]

/-- The copy in which a bit is turned: where the byte lies, and what a store there leaves. -/
theorem bits_flip {wc w7 : World} {n : Nd} {X : List Int} {v7 : Value} {ii : Nat} (hX : n.bytes = X) (hown : w7.ownsRow wc.heap.size 5 1 v7 (0 + X.length) (bcells ([] ++ X))) (hgrow : (wc.alloc (.cells #[] 5)).grownBy w7 (some wc.heap.size)) (hii : ii < 64) :
    ∃ g cap x, v7 = .slice (some ⟨g, 0, none⟩) 64 cap ∧ w7.cell? ⟨g, ii, none⟩ = some (.int .u8 x) ∧ w7.frozen? ⟨g, ii, none⟩ = false ∧ (0 ≤ x ∧ x < 256) ∧
      ∀ y : Int, 0 ≤ y ∧ y < 256 → y ≠ x → ∃ T, Bs (w7.setCell ⟨g, ii, none⟩ (.int .u8 y)) (.slice (some ⟨g, 0, none⟩) 64 cap) T ∧ IsB T ∧ decN T = Nd.no ∧ decE T = 4 ∧ Chg (fun _ => False) wc (w7.setCell ⟨g, ii, none⟩ (.int .u8 y)) := by
  subst hX
  have hbl := n.body_len
  have hl : (n.body ++ leTo (sumV n.body) 4).length = n.body.length + 4 := by simp [leTo_len]
  obtain ⟨g, cap, x, e, h1, h2, h3, _, h5⟩ := flip_facts (w := wc) (bs := n.body) n.body_isB hl hown hgrow (Below.refl _ _) (ii := ii) (by omega)
  rw [hbl] at e h5
  refine ⟨g, cap, x, e, h1, h2, h3, fun y hy hne => ?_⟩
  obtain ⟨T, t1, t2, t3, t4, t5, t6⟩ := h5 y hy hne
  obtain ⟨q1, q2⟩ := dec_sum T t5 t3
  exact ⟨T, t1, t2, q1, q2, Chg.ofBelowC t6⟩

set_option maxHeartbeats 1600000 in
set_option maxRecDepth 100000 in
theorem law_bits_pos (n : Nd) (v : Value) (ms : List Int) (bit : Int) (w : World) (hT : Tab w) (hm : Bs w v ms) (hM : IsB ms) (hl : ms.length ≤ 100) (hneg : ¬ bit.tmod 512 < 0) :
    Calls Tryd.prog 6 #[n.v, .int .i64 bit, v] w fun r w' => r = .returned (.bool true) ∧ Chg (fun _ => False) w w' := by
  have hN0 : 0 < w.heap.size := by have := World.block_lt_of_cell? w _ (hT 0 (by omega)); simpa using this
  obtain ⟨i0, hi, hz0, hz1, hz2⟩ := info_parts cinfo5
  obtain ⟨ab, cb, rfl, hcb⟩ := hm.formC
  have k1 : decide ((100 : Int) < (ms.length : Int)) = false := by simp; omega
  have k1' : ¬ (100 : Int) < (ms.length : Int) := by omega
  have d1 := Int.tmod_lt_of_pos bit (show (0 : Int) < 512 by decide)
  obtain ⟨K, hK⟩ := Int.eq_ofNat_of_zero_le (show 0 ≤ bit.tmod 512 by omega)
  obtain ⟨ii, jj, hii, hjj, hKi⟩ : ∃ ii jj : Nat, ii < 64 ∧ jj < 8 ∧ K = 8 * ii + jj := ⟨K / 8, K % 8, by omega, by omega, by omega⟩
  have hr1 : (K : Int) / 8 = (ii : Int) := by omega
  have hr2 : (K : Int) % 8 = (jj : Int) := by omega
  have hgi : (ii : Int) < 64 := by omega
  clear hKi d1
  have n0 := NdAt.box w n 24
  have C0 : Chg (fun _ => False) w (w.alloc (n.o 24)) := Chg.alloc _ _ _
  go_enter Tryd.func6, Tryd.ntmps6
  go_wp2_with fail
  generalize w.alloc (n.o 24) = w0 at *
  have T0 := hT.below (C0.below (Nat.le_refl _) (fun _ h => h.elim)) hN0
  refine (iknown_any w0 T0).mono ?_
  rintro r w1 ⟨rfl, C1⟩
  have n1 := n0.kept C1 (fun h => h)
  have C01 := C0.trans C1 (fun _ _ h => h)
  have T1 := hT.below (C01.below (Nat.le_refl _) (fun _ h => h.elim)) hN0
  obtain ⟨c0, c1, c2, c3, c4, c5, c6, c7, c8, c9, c10, c11, c12⟩ := n1
  clear C0 C1 n0 T0
  go_wp2_with fail
  refine (encode_any n w1.heap.size w1 T1 (Nat.le_refl _)).mono ?_
  rintro r w2 ⟨u, rfl, F2⟩
  have C02 := C01.trans F2.2.1 (fun _ _ h => h)
  have U2 := Bs.ofOwns F2.1
  obtain ⟨ua, uc, hu, huc⟩ := U2.formC
  rw [n.bytes_len] at hu huc
  subst hu
  obtain ⟨X, HX⟩ : ∃ X, Hid (n.bytes = X) := ⟨_, rfl⟩
  have HXL : Hid (X.length = 64) := by rw [Hid, ← HX.out]; exact n.bytes_len
  have HXB : Hid (IsB X) := by rw [Hid, ← HX.out]; exact n.bytes_isB
  rw [HX.out] at U2
  clear c0 c1 c2 c3 c4 c5 c6 c7 c8 c9 c10 c11 c12 C01 T1 F2
  have hbS : Bs (w2.alloc (.cells #[] 5)) (.slice ua 64 uc) X := U2.kept (Chg.alloc (fun _ => False) w2 _) (fun _ _ _ _ _ h => h)
  have hoS := lit_own w2 w2.heap.size (Nat.le_refl _)
  have hzS : w2.heap.size ≤ (w2.alloc (.cells #[] 5)).heap.size := by simp
  have hlS : ([] : List Int).length + X.length ≤ 1099511627776 := by rw [HXL.out]; simp
  have h2j : (2 : Int) ^ jj % 256 = 2 ^ jj := pow_small jj hjj
  go_wp2_with (at_builtin; go_must (refine wpList_app rfl (.tmp 29) (.tmp 30) 25 rfl w2.heap.size i0 Tryd.underlying25 hi hz0 hz1 hz2 (.slice (some ⟨w2.heap.size, 0, none⟩) 0 0) _ 0 [] X rfl hoS rfl hbS hlS hzS ?_; intro v7 w7 hown hgrow hat; obtain ⟨g, cap, x, rfl, c7, f7, hx, H7⟩ := bits_flip HX.out hown hgrow hii))
  obtain ⟨y, hy, y0, y1, yne⟩ := turned_bit x jj hx hjj
  rw [hy]
  obtain ⟨T, t1, t2, t3, t4, CT⟩ := H7 y ⟨y0, y1⟩ yne
  have HTK : Hid (∀ w', Chg (fun _ => False) w w' → Tab w') := fun w' hc => hT.below (hc.below (Nat.le_refl _) (fun _ h => h.elim)) hN0
  have HMK : Hid (∀ w', Chg (fun _ => False) w w' → Bs w' (.slice ab ms.length cb) ms) := fun w' hc => hm.kept hc (fun _ _ _ _ _ h => h)
  have D8 := C02.trans CT (fun _ _ h => h)
  have U8 := U2.kept CT (fun _ _ _ _ _ h => h)
  clear hown hgrow hat c7 f7 H7 hy hm hT hbS hoS hzS hlS U2 C02 CT
  refine (decode_any _ T _ t1 t2 (HTK.out _ D8)).mono ?_
  rintro r w9 ⟨rfl, C9⟩
  rw [t3, t4]
  have D9 := D8.trans C9 (fun _ _ h => h)
  have U9 := U8.kept C9 (fun _ _ _ _ _ h => h)
  have g1 : (ii : Int) ≤ (uc : Int) := by omega
  clear D8 U8 C9 t1 t2 t3 t4
  have A9 : NdAt (w9.alloc (Nd.no.o 24)) w9.heap.size Nd.no := NdAt.box w9 Nd.no _
  have E9 : Chg (fun _ => False) w9 (w9.alloc (Nd.no.o 24)) := Chg.alloc _ _ _
  go_wp2_with fail
  generalize w9.alloc (Nd.no.o 24) = w10 at *
  have D10 := D9.trans E9 (fun _ _ h => h)
  have U10 := U9.kept E9 (fun _ _ _ _ _ h => h)
  have S10 : Bs w10 (.slice ua ii uc) (X.take ii) := Bs.low U10 (by omega)
  have hts : (X.take ii).length < 64 := by simp [HXL.out]; omega
  obtain ⟨q1, q2⟩ := dec_short _ hts
  refine (decode_any _ (X.take ii) w10 S10 (HXB.out.take ii) (HTK.out _ D10)).mono ?_
  rintro r w11 ⟨rfl, C11⟩
  rw [q1, q2]
  have D11 := D10.trans C11 (fun _ _ h => h)
  have U11 := U10.kept C11 (fun _ _ _ _ _ h => h)
  have A11 := A9.kept C11 (fun h => h)
  have B11 : NdAt (w11.alloc (Nd.no.o 24)) w11.heap.size Nd.no := NdAt.box w11 Nd.no _
  have E11 : Chg (fun _ => False) w11 (w11.alloc (Nd.no.o 24)) := Chg.alloc _ _ _
  clear D9 U9 D10 U10 S10 hts q1 q2 C11 A9 E9
  go_upto_region 13 with fail
  generalize w11.alloc (Nd.no.o 24) = w12 at *
  have D12 := D11.trans E11 (fun _ _ h => h)
  have U12 := U11.kept E11 (fun _ _ _ _ _ h => h)
  have A12 := A11.kept E11 (fun h => h)
  have hbS : Bs (w12.alloc (.cells #[] 5)) (.slice ua 64 uc) X := U12.kept (Chg.alloc (fun _ => False) w12 _) (fun _ _ _ _ _ h => h)
  have hoS := lit_own w12 w12.heap.size (Nat.le_refl _)
  have hzS : w12.heap.size ≤ (w12.alloc (.cells #[] 5)).heap.size := by simp
  have hlS : ([] : List Int).length + X.length ≤ 1099511627776 := by rw [HXL.out]; simp
  have hlM : X.length + ms.length ≤ 1099511627776 := by rw [HXL.out]; omega
  clear D11 U11 A11 E11
  go_wp2_with (first | (at_builtin; refine wpList_app rfl (.tmp 60) (.tmp 61) 25 rfl w12.heap.size i0 Tryd.underlying25 hi hz0 hz1 hz2 (.slice (some ⟨w12.heap.size, 0, none⟩) 0 0) _ 0 [] X rfl hoS rfl hbS hlS hzS ?_; intro v13 w13 hown hgrow hat; simp only [Nat.zero_add, List.nil_append] at hown; have C13 := lit_grown hgrow; have D13 := D12.trans C13 (fun _ _ h => h); have M13 := HMK.out _ D13) | (at_builtin; go_must (refine wpList_app rfl (.tmp 62) (.tmp 63) 25 rfl w12.heap.size i0 Tryd.underlying25 hi hz0 hz1 hz2 v13 (.slice ab ms.length cb) X.length X ms rfl hown rfl M13 hlM C13.size ?_; intro v14 w14 hown2 hgrow2 hat2)))
  have C14 : Chg (fun _ => False) w12 w14 := by
    refine ⟨hgrow2.os.trans C13.os, hgrow2.tape.trans C13.tape, hgrow2.output.trans C13.output, Nat.le_trans C13.size hgrow2.size, fun k hk _ => ?_⟩
    rw [hgrow2.block k (Nat.lt_of_lt_of_le hk C13.size) (by intro e; have := (hown.lt k e.symm).1; omega)]
    exact C13.block k hk (fun h => h)
  have D14 := D12.trans C14 (fun _ _ h => h)
  have L14 := Bs.ofOwns hown2
  have A14 := A12.kept C14 (fun h => h)
  have B14 := B11.kept C14 (fun h => h)
  clear hown hgrow hat C13 D13 M13 hown2 hgrow2 hat2 hbS hoS hzS hlS hlM U12 A12 B11 C14 D12
  obtain ⟨m3, HM3⟩ : ∃ m, Hid (decN (X ++ ms) = m) := ⟨_, rfl⟩
  obtain ⟨e3, HE3⟩ : ∃ m, Hid (decE (X ++ ms) = m) := ⟨_, rfl⟩
  refine (decode_any _ (X ++ ms) w14 L14 (isB_app HXB.out hM) (HTK.out _ D14)).mono ?_
  rintro r w15 ⟨rfl, C15⟩
  rw [HM3.out, HE3.out]
  have D15 := D14.trans C15 (fun _ _ h => h)
  have A15 := A14.kept C15 (fun h => h)
  have B15 := B14.kept C15 (fun h => h)
  clear L14 A14 B14 D14 C15
  go_upto_region 14 with fail
  have E15 : Chg (fun _ => False) w15 (w15.alloc (m3.o 24)) := Chg.alloc _ _ _
  generalize w15.alloc (m3.o 24) = w16 at *
  have A16 := A15.kept E15 (fun h => h)
  have B16 := B15.kept E15 (fun h => h)
  have D16 := D15.trans E15 (fun _ _ h => h)
  have a0 : w16.cell? ⟨w9.heap.size, 0, none⟩ = some (.int .i64 0) := A16.c0
  have a1 : w16.cell? ⟨w9.heap.size, 1, none⟩ = some (.int .i64 0) := A16.c1
  have a2 : w16.cell? ⟨w9.heap.size, 2, none⟩ = some (.int .i64 0) := A16.c2
  have a3 : w16.cell? ⟨w9.heap.size, 3, none⟩ = some (.int .i64 0) := A16.c3
  have a4 : w16.cell? ⟨w9.heap.size, 4, none⟩ = some (.int .i64 0) := A16.c4
  have a5 : w16.cell? ⟨w9.heap.size, 5, none⟩ = some (.int .i64 0) := A16.c5
  have a6 : w16.cell? ⟨w9.heap.size, 6, none⟩ = some (.int .i64 0) := A16.c6
  have a7 : w16.cell? ⟨w9.heap.size, 7, none⟩ = some (.int .i64 0) := A16.c7
  have a8 : w16.cell? ⟨w9.heap.size, 8, none⟩ = some (.int .i64 0) := A16.c8
  have a9 : w16.cell? ⟨w9.heap.size, 9, none⟩ = some (.int .i64 0) := A16.c9
  have a10 : w16.cell? ⟨w9.heap.size, 10, none⟩ = some (.int .i64 0) := A16.c10
  have a11 : w16.cell? ⟨w9.heap.size, 11, none⟩ = some (.int .i64 0) := A16.c11
  have a12 : w16.cell? ⟨w9.heap.size, 12, none⟩ = some (.int .i64 0) := A16.c12
  have b0 : w16.cell? ⟨w11.heap.size, 0, none⟩ = some (.int .i64 0) := B16.c0
  have b1 : w16.cell? ⟨w11.heap.size, 1, none⟩ = some (.int .i64 0) := B16.c1
  have b2 : w16.cell? ⟨w11.heap.size, 2, none⟩ = some (.int .i64 0) := B16.c2
  have b3 : w16.cell? ⟨w11.heap.size, 3, none⟩ = some (.int .i64 0) := B16.c3
  have b4 : w16.cell? ⟨w11.heap.size, 4, none⟩ = some (.int .i64 0) := B16.c4
  have b5 : w16.cell? ⟨w11.heap.size, 5, none⟩ = some (.int .i64 0) := B16.c5
  have b6 : w16.cell? ⟨w11.heap.size, 6, none⟩ = some (.int .i64 0) := B16.c6
  have b7 : w16.cell? ⟨w11.heap.size, 7, none⟩ = some (.int .i64 0) := B16.c7
  have b8 : w16.cell? ⟨w11.heap.size, 8, none⟩ = some (.int .i64 0) := B16.c8
  have b9 : w16.cell? ⟨w11.heap.size, 9, none⟩ = some (.int .i64 0) := B16.c9
  have b10 : w16.cell? ⟨w11.heap.size, 10, none⟩ = some (.int .i64 0) := B16.c10
  have b11 : w16.cell? ⟨w11.heap.size, 11, none⟩ = some (.int .i64 0) := B16.c11
  have b12 : w16.cell? ⟨w11.heap.size, 12, none⟩ = some (.int .i64 0) := B16.c12
  have q1 : ∀ w : World, (binOp .eql 24 (.agg #[.int .i64 0, .int .i64 0, .int .i64 0, .int .i64 0, .int .i64 0, .int .i64 0, .int .i64 0, .int .i64 0, .int .i64 0, .int .i64 0, .int .i64 0, .int .i64 0, .int .i64 0]) (.agg #[.int .i64 0, .int .i64 0, .int .i64 0, .int .i64 0, .int .i64 0, .int .i64 0, .int .i64 0, .int .i64 0, .int .i64 0, .int .i64 0, .int .i64 0, .int .i64 0, .int .i64 0])).run Tryd.prog w = .ok (.bool true) w := fun w => eqlI Nd.no w
  have hg : Tryd.prog.eqGuardType Tryd.prog.depth 24 = false := by kernel_rfl
  have H5 : Hid (ms.length ≠ 0 → e3 = 5) := fun h => by rw [← HE3.out]; exact dec_long _ (by rw [List.length_append, HXL.out]; omega)
  clear A15 B15 D15 E15 A16 B16 HM3 HE3 HTK HMK HX HXL HXB hM
  by_cases hms : ms.length = 0
  · have k5 : ((ms.length : Int) == 0) = true := by simp [hms]
    have k5' : (ms.length : Int) = 0 := by omega
    clear H5 hms
    go_wp2
    go_ret
    exact ⟨rfl, D16⟩
  · obtain rfl := H5.out hms
    have k5 : ((ms.length : Int) == 0) = false := by simp only [beq_eq_false_iff_ne, ne_eq]; omega
    clear H5 hms
    go_wp2
    go_ret
    exact ⟨rfl, D16⟩

set_option maxHeartbeats 1600000 in
set_option maxRecDepth 100000 in
theorem law_bits_neg (n : Nd) (v : Value) (ms : List Int) (bit : Int) (w : World) (hT : Tab w) (hm : Bs w v ms) (hM : IsB ms) (hl : ms.length ≤ 100) (hneg : bit.tmod 512 < 0) :
    Calls Tryd.prog 6 #[n.v, .int .i64 bit, v] w fun r w' => r = .returned (.bool true) ∧ Chg (fun _ => False) w w' := by
  have hN0 : 0 < w.heap.size := by have := World.block_lt_of_cell? w _ (hT 0 (by omega)); simpa using this
  obtain ⟨i0, hi, hz0, hz1, hz2⟩ := info_parts cinfo5
  obtain ⟨ab, cb, rfl, hcb⟩ := hm.formC
  have k1 : decide ((100 : Int) < (ms.length : Int)) = false := by simp; omega
  have k1' : ¬ (100 : Int) < (ms.length : Int) := by omega
  have d2 : -512 < bit.tmod 512 := by
    have h9 := Int.tmod_lt_of_pos (-bit) (show (0 : Int) < 512 by decide)
    rw [Int.neg_tmod] at h9
    omega
  have kn : decide (bit.tmod 512 < 0) = true := by simpa using hneg
  obtain ⟨K, hK⟩ := Int.eq_ofNat_of_zero_le (show 0 ≤ bit.tmod 512 + 512 by omega)
  obtain ⟨ii, jj, hii, hjj, hKi⟩ : ∃ ii jj : Nat, ii < 64 ∧ jj < 8 ∧ K = 8 * ii + jj := ⟨K / 8, K % 8, by omega, by omega, by omega⟩
  have hr1 : (K : Int) / 8 = (ii : Int) := by omega
  have hr2 : (K : Int) % 8 = (jj : Int) := by omega
  have hgi : (ii : Int) < 64 := by omega
  clear hKi d2
  have n0 := NdAt.box w n 24
  have C0 : Chg (fun _ => False) w (w.alloc (n.o 24)) := Chg.alloc _ _ _
  go_enter Tryd.func6, Tryd.ntmps6
  go_wp2_with fail
  generalize w.alloc (n.o 24) = w0 at *
  have T0 := hT.below (C0.below (Nat.le_refl _) (fun _ h => h.elim)) hN0
  refine (iknown_any w0 T0).mono ?_
  rintro r w1 ⟨rfl, C1⟩
  have n1 := n0.kept C1 (fun h => h)
  have C01 := C0.trans C1 (fun _ _ h => h)
  have T1 := hT.below (C01.below (Nat.le_refl _) (fun _ h => h.elim)) hN0
  obtain ⟨c0, c1, c2, c3, c4, c5, c6, c7, c8, c9, c10, c11, c12⟩ := n1
  clear C0 C1 n0 T0
  go_wp2_with fail
  refine (encode_any n w1.heap.size w1 T1 (Nat.le_refl _)).mono ?_
  rintro r w2 ⟨u, rfl, F2⟩
  have C02 := C01.trans F2.2.1 (fun _ _ h => h)
  have U2 := Bs.ofOwns F2.1
  obtain ⟨ua, uc, hu, huc⟩ := U2.formC
  rw [n.bytes_len] at hu huc
  subst hu
  obtain ⟨X, HX⟩ : ∃ X, Hid (n.bytes = X) := ⟨_, rfl⟩
  have HXL : Hid (X.length = 64) := by rw [Hid, ← HX.out]; exact n.bytes_len
  have HXB : Hid (IsB X) := by rw [Hid, ← HX.out]; exact n.bytes_isB
  rw [HX.out] at U2
  clear c0 c1 c2 c3 c4 c5 c6 c7 c8 c9 c10 c11 c12 C01 T1 F2
  have hbS : Bs (w2.alloc (.cells #[] 5)) (.slice ua 64 uc) X := U2.kept (Chg.alloc (fun _ => False) w2 _) (fun _ _ _ _ _ h => h)
  have hoS := lit_own w2 w2.heap.size (Nat.le_refl _)
  have hzS : w2.heap.size ≤ (w2.alloc (.cells #[] 5)).heap.size := by simp
  have hlS : ([] : List Int).length + X.length ≤ 1099511627776 := by rw [HXL.out]; simp
  have h2j : (2 : Int) ^ jj % 256 = 2 ^ jj := pow_small jj hjj
  go_wp2_with (at_builtin; go_must (refine wpList_app rfl (.tmp 29) (.tmp 30) 25 rfl w2.heap.size i0 Tryd.underlying25 hi hz0 hz1 hz2 (.slice (some ⟨w2.heap.size, 0, none⟩) 0 0) _ 0 [] X rfl hoS rfl hbS hlS hzS ?_; intro v7 w7 hown hgrow hat; obtain ⟨g, cap, x, rfl, c7, f7, hx, H7⟩ := bits_flip HX.out hown hgrow hii))
  obtain ⟨y, hy, y0, y1, yne⟩ := turned_bit x jj hx hjj
  rw [hy]
  obtain ⟨T, t1, t2, t3, t4, CT⟩ := H7 y ⟨y0, y1⟩ yne
  have HTK : Hid (∀ w', Chg (fun _ => False) w w' → Tab w') := fun w' hc => hT.below (hc.below (Nat.le_refl _) (fun _ h => h.elim)) hN0
  have HMK : Hid (∀ w', Chg (fun _ => False) w w' → Bs w' (.slice ab ms.length cb) ms) := fun w' hc => hm.kept hc (fun _ _ _ _ _ h => h)
  have D8 := C02.trans CT (fun _ _ h => h)
  have U8 := U2.kept CT (fun _ _ _ _ _ h => h)
  clear hown hgrow hat c7 f7 H7 hy hm hT hbS hoS hzS hlS U2 C02 CT
  refine (decode_any _ T _ t1 t2 (HTK.out _ D8)).mono ?_
  rintro r w9 ⟨rfl, C9⟩
  rw [t3, t4]
  have D9 := D8.trans C9 (fun _ _ h => h)
  have U9 := U8.kept C9 (fun _ _ _ _ _ h => h)
  have g1 : (ii : Int) ≤ (uc : Int) := by omega
  clear D8 U8 C9 t1 t2 t3 t4
  have A9 : NdAt (w9.alloc (Nd.no.o 24)) w9.heap.size Nd.no := NdAt.box w9 Nd.no _
  have E9 : Chg (fun _ => False) w9 (w9.alloc (Nd.no.o 24)) := Chg.alloc _ _ _
  go_wp2_with fail
  generalize w9.alloc (Nd.no.o 24) = w10 at *
  have D10 := D9.trans E9 (fun _ _ h => h)
  have U10 := U9.kept E9 (fun _ _ _ _ _ h => h)
  have S10 : Bs w10 (.slice ua ii uc) (X.take ii) := Bs.low U10 (by omega)
  have hts : (X.take ii).length < 64 := by simp [HXL.out]; omega
  obtain ⟨q1, q2⟩ := dec_short _ hts
  refine (decode_any _ (X.take ii) w10 S10 (HXB.out.take ii) (HTK.out _ D10)).mono ?_
  rintro r w11 ⟨rfl, C11⟩
  rw [q1, q2]
  have D11 := D10.trans C11 (fun _ _ h => h)
  have U11 := U10.kept C11 (fun _ _ _ _ _ h => h)
  have A11 := A9.kept C11 (fun h => h)
  have B11 : NdAt (w11.alloc (Nd.no.o 24)) w11.heap.size Nd.no := NdAt.box w11 Nd.no _
  have E11 : Chg (fun _ => False) w11 (w11.alloc (Nd.no.o 24)) := Chg.alloc _ _ _
  clear D9 U9 D10 U10 S10 hts q1 q2 C11 A9 E9
  go_upto_region 13 with fail
  generalize w11.alloc (Nd.no.o 24) = w12 at *
  have D12 := D11.trans E11 (fun _ _ h => h)
  have U12 := U11.kept E11 (fun _ _ _ _ _ h => h)
  have A12 := A11.kept E11 (fun h => h)
  have hbS : Bs (w12.alloc (.cells #[] 5)) (.slice ua 64 uc) X := U12.kept (Chg.alloc (fun _ => False) w12 _) (fun _ _ _ _ _ h => h)
  have hoS := lit_own w12 w12.heap.size (Nat.le_refl _)
  have hzS : w12.heap.size ≤ (w12.alloc (.cells #[] 5)).heap.size := by simp
  have hlS : ([] : List Int).length + X.length ≤ 1099511627776 := by rw [HXL.out]; simp
  have hlM : X.length + ms.length ≤ 1099511627776 := by rw [HXL.out]; omega
  clear D11 U11 A11 E11
  go_wp2_with (first | (at_builtin; refine wpList_app rfl (.tmp 60) (.tmp 61) 25 rfl w12.heap.size i0 Tryd.underlying25 hi hz0 hz1 hz2 (.slice (some ⟨w12.heap.size, 0, none⟩) 0 0) _ 0 [] X rfl hoS rfl hbS hlS hzS ?_; intro v13 w13 hown hgrow hat; simp only [Nat.zero_add, List.nil_append] at hown; have C13 := lit_grown hgrow; have D13 := D12.trans C13 (fun _ _ h => h); have M13 := HMK.out _ D13) | (at_builtin; go_must (refine wpList_app rfl (.tmp 62) (.tmp 63) 25 rfl w12.heap.size i0 Tryd.underlying25 hi hz0 hz1 hz2 v13 (.slice ab ms.length cb) X.length X ms rfl hown rfl M13 hlM C13.size ?_; intro v14 w14 hown2 hgrow2 hat2)))
  have C14 : Chg (fun _ => False) w12 w14 := by
    refine ⟨hgrow2.os.trans C13.os, hgrow2.tape.trans C13.tape, hgrow2.output.trans C13.output, Nat.le_trans C13.size hgrow2.size, fun k hk _ => ?_⟩
    rw [hgrow2.block k (Nat.lt_of_lt_of_le hk C13.size) (by intro e; have := (hown.lt k e.symm).1; omega)]
    exact C13.block k hk (fun h => h)
  have D14 := D12.trans C14 (fun _ _ h => h)
  have L14 := Bs.ofOwns hown2
  have A14 := A12.kept C14 (fun h => h)
  have B14 := B11.kept C14 (fun h => h)
  clear hown hgrow hat C13 D13 M13 hown2 hgrow2 hat2 hbS hoS hzS hlS hlM U12 A12 B11 C14 D12
  obtain ⟨m3, HM3⟩ : ∃ m, Hid (decN (X ++ ms) = m) := ⟨_, rfl⟩
  obtain ⟨e3, HE3⟩ : ∃ m, Hid (decE (X ++ ms) = m) := ⟨_, rfl⟩
  refine (decode_any _ (X ++ ms) w14 L14 (isB_app HXB.out hM) (HTK.out _ D14)).mono ?_
  rintro r w15 ⟨rfl, C15⟩
  rw [HM3.out, HE3.out]
  have D15 := D14.trans C15 (fun _ _ h => h)
  have A15 := A14.kept C15 (fun h => h)
  have B15 := B14.kept C15 (fun h => h)
  clear L14 A14 B14 D14 C15
  go_upto_region 14 with fail
  have E15 : Chg (fun _ => False) w15 (w15.alloc (m3.o 24)) := Chg.alloc _ _ _
  generalize w15.alloc (m3.o 24) = w16 at *
  have A16 := A15.kept E15 (fun h => h)
  have B16 := B15.kept E15 (fun h => h)
  have D16 := D15.trans E15 (fun _ _ h => h)
  have a0 : w16.cell? ⟨w9.heap.size, 0, none⟩ = some (.int .i64 0) := A16.c0
  have a1 : w16.cell? ⟨w9.heap.size, 1, none⟩ = some (.int .i64 0) := A16.c1
  have a2 : w16.cell? ⟨w9.heap.size, 2, none⟩ = some (.int .i64 0) := A16.c2
  have a3 : w16.cell? ⟨w9.heap.size, 3, none⟩ = some (.int .i64 0) := A16.c3
  have a4 : w16.cell? ⟨w9.heap.size, 4, none⟩ = some (.int .i64 0) := A16.c4
  have a5 : w16.cell? ⟨w9.heap.size, 5, none⟩ = some (.int .i64 0) := A16.c5
  have a6 : w16.cell? ⟨w9.heap.size, 6, none⟩ = some (.int .i64 0) := A16.c6
  have a7 : w16.cell? ⟨w9.heap.size, 7, none⟩ = some (.int .i64 0) := A16.c7
  have a8 : w16.cell? ⟨w9.heap.size, 8, none⟩ = some (.int .i64 0) := A16.c8
  have a9 : w16.cell? ⟨w9.heap.size, 9, none⟩ = some (.int .i64 0) := A16.c9
  have a10 : w16.cell? ⟨w9.heap.size, 10, none⟩ = some (.int .i64 0) := A16.c10
  have a11 : w16.cell? ⟨w9.heap.size, 11, none⟩ = some (.int .i64 0) := A16.c11
  have a12 : w16.cell? ⟨w9.heap.size, 12, none⟩ = some (.int .i64 0) := A16.c12
  have b0 : w16.cell? ⟨w11.heap.size, 0, none⟩ = some (.int .i64 0) := B16.c0
  have b1 : w16.cell? ⟨w11.heap.size, 1, none⟩ = some (.int .i64 0) := B16.c1
  have b2 : w16.cell? ⟨w11.heap.size, 2, none⟩ = some (.int .i64 0) := B16.c2
  have b3 : w16.cell? ⟨w11.heap.size, 3, none⟩ = some (.int .i64 0) := B16.c3
  have b4 : w16.cell? ⟨w11.heap.size, 4, none⟩ = some (.int .i64 0) := B16.c4
  have b5 : w16.cell? ⟨w11.heap.size, 5, none⟩ = some (.int .i64 0) := B16.c5
  have b6 : w16.cell? ⟨w11.heap.size, 6, none⟩ = some (.int .i64 0) := B16.c6
  have b7 : w16.cell? ⟨w11.heap.size, 7, none⟩ = some (.int .i64 0) := B16.c7
  have b8 : w16.cell? ⟨w11.heap.size, 8, none⟩ = some (.int .i64 0) := B16.c8
  have b9 : w16.cell? ⟨w11.heap.size, 9, none⟩ = some (.int .i64 0) := B16.c9
  have b10 : w16.cell? ⟨w11.heap.size, 10, none⟩ = some (.int .i64 0) := B16.c10
  have b11 : w16.cell? ⟨w11.heap.size, 11, none⟩ = some (.int .i64 0) := B16.c11
  have b12 : w16.cell? ⟨w11.heap.size, 12, none⟩ = some (.int .i64 0) := B16.c12
  have q1 : ∀ w : World, (binOp .eql 24 (.agg #[.int .i64 0, .int .i64 0, .int .i64 0, .int .i64 0, .int .i64 0, .int .i64 0, .int .i64 0, .int .i64 0, .int .i64 0, .int .i64 0, .int .i64 0, .int .i64 0, .int .i64 0]) (.agg #[.int .i64 0, .int .i64 0, .int .i64 0, .int .i64 0, .int .i64 0, .int .i64 0, .int .i64 0, .int .i64 0, .int .i64 0, .int .i64 0, .int .i64 0, .int .i64 0, .int .i64 0])).run Tryd.prog w = .ok (.bool true) w := fun w => eqlI Nd.no w
  have hg : Tryd.prog.eqGuardType Tryd.prog.depth 24 = false := by kernel_rfl
  have H5 : Hid (ms.length ≠ 0 → e3 = 5) := fun h => by rw [← HE3.out]; exact dec_long _ (by rw [List.length_append, HXL.out]; omega)
  clear A15 B15 D15 E15 A16 B16 HM3 HE3 HTK HMK HX HXL HXB hM
  by_cases hms : ms.length = 0
  · have k5 : ((ms.length : Int) == 0) = true := by simp [hms]
    have k5' : (ms.length : Int) = 0 := by omega
    clear H5 hms
    go_wp2
    go_ret
    exact ⟨rfl, D16⟩
  · obtain rfl := H5.out hms
    have k5 : ((ms.length : Int) == 0) = false := by simp only [beq_eq_false_iff_ne, ne_eq]; omega
    clear H5 hms
    go_wp2
    go_ret
    exact ⟨rfl, D16⟩

set_option maxHeartbeats 1600000 in
/-- InodeBits answers true. -/
theorem law_bits (n : Nd) (v : Value) (ms : List Int) (bit : Int) (w : World) (hT : Tab w) (hm : Bs w v ms) (hM : IsB ms) :
    Calls Tryd.prog 6 #[n.v, .int .i64 bit, v] w fun r w' => r = .returned (.bool true) ∧ Chg (fun _ => False) w w' := by
  by_cases hl : ms.length ≤ 100
  · by_cases hneg : bit.tmod 512 < 0
    · exact law_bits_neg n v ms bit w hT hm hM hl hneg
    · exact law_bits_pos n v ms bit w hT hm hM hl hneg
  · have hN0 : 0 < w.heap.size := by have := World.block_lt_of_cell? w _ (hT 0 (by omega)); simpa using this
    obtain ⟨ab, cb, rfl, hcb⟩ := hm.formC
    have k1 : decide ((100 : Int) < (ms.length : Int)) = true := by simp; omega
    have k1' : (100 : Int) < (ms.length : Int) := by omega
    have C0 : Chg (fun _ => False) w (w.alloc (n.o 24)) := Chg.alloc _ _ _
    clear hm hM
    go_enter Tryd.func6, Tryd.ntmps6
    go_wp2_with fail
    generalize w.alloc (n.o 24) = w0 at *
    have T0 := hT.below (C0.below (Nat.le_refl _) (fun _ h => h.elim)) hN0
    refine (iknown_any w0 T0).mono ?_
    rintro r w1 ⟨rfl, C1⟩
    go_wp2
    go_ret
    exact ⟨rfl, C0.trans C1 (fun _ _ h => h)⟩
end Go.Proofs.YtcclpfcgodckgaaDoor

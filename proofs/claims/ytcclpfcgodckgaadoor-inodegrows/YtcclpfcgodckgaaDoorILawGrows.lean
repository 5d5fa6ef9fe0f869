/-
  InodeGrows answers true for every argument, in every world that holds codec's table; nothing that was there has changed.
-/
import Derived.Test.YtcclpfcgodckgaaDoorIKnown
import Derived.Deep.RegionHeld
namespace Go.Proofs.YtcclpfcgodckgaaDoor
open Go.RowKit

theorem blkN_mul (i : Int) (h0 : 0 ≤ i) (h1 : i ≤ 16520) : blkN (i * 512) = i := by
  unfold blkN
  rw [if_pos (by omega)]
  omega
theorem allN_mul (i : Int) (h0 : 0 ≤ i) (h1 : i ≤ 16520) : allN (i * 512) = i + (if i ≤ 8 then 0 else if i ≤ 136 then 1 else 2 + (i - 9) / 128) := by
  unfold allN innN
  rw [blkN_mul i h0 h1]
theorem allN_more (i : Int) (h : inPl i) : 1 ≤ allN ((i + 1) * 512) - allN (i * 512) ∧ allN ((i + 1) * 512) - allN (i * 512) ≤ 3 := by
  obtain ⟨h0, h1⟩ := h
  rw [allN_mul i h0 (by omega), allN_mul (i + 1) (by omega) (by omega)]
  by_cases a1 : i ≤ 8 <;> by_cases a2 : i ≤ 136 <;> by_cases a3 : i + 1 ≤ 8 <;> by_cases a4 : i + 1 ≤ 136 <;> simp only [a1, a2, a3, a4, if_true, if_false] <;> omega
theorem allN_le (i k : Int) (hi : inPl i) (hk : inPl k) : decide (i ≤ k) = decide (allN (i * 512) ≤ allN (k * 512)) := by
  obtain ⟨h0, h1⟩ := hi
  obtain ⟨k0, k1⟩ := hk
  rw [allN_mul i h0 (by omega), allN_mul k k0 (by omega)]
  have key : i ≤ k ↔ i + (if i ≤ 8 then 0 else if i ≤ 136 then 1 else 2 + (i - 9) / 128) ≤ k + (if k ≤ 8 then 0 else if k ≤ 136 then 1 else 2 + (k - 9) / 128) := by
    by_cases a1 : i ≤ 8 <;> by_cases a2 : i ≤ 136 <;> by_cases a3 : k ≤ 8 <;> by_cases a4 : k ≤ 136 <;> simp only [a1, a2, a3, a4, if_true, if_false] <;> omega
  exact decide_eq_decide.2 key
theorem pl_inj (i k : Int) (hi : inPl i) (hk : inPl k) (h : plL i = plL k ∧ plA i = plA k ∧ plB i = plB k) : i = k := by
  obtain ⟨h0, h1⟩ := hi
  obtain ⟨k0, k1⟩ := hk
  obtain ⟨e1, e2, e3⟩ := h
  unfold plL at e1
  unfold plA at e2
  unfold plB at e3
  by_cases a1 : i < 8 <;> by_cases a2 : k < 8 <;> by_cases a3 : i < 136 <;> by_cases a4 : k < 136 <;> simp only [a1, a2, a3, a4, if_true, if_false] at e1 e2 e3 <;> omega

structure PlAt (w : World) (p : Nat) (l a b : Int) : Prop where
  c0 : w.cell? ⟨p, 0, none⟩ = some (.int .i64 l)
  c1 : w.cell? ⟨p, 1, none⟩ = some (.int .i64 a)
  c2 : w.cell? ⟨p, 2, none⟩ = some (.int .i64 b)
theorem PlAt.kept {S : Nat → Prop} {w w' : World} {p : Nat} {l a b : Int} (h : PlAt w p l a b) (hc : Chg S w w') (hn : ¬ S p) : PlAt w' p l a b :=
  ⟨hc.cell h.c0 hn, hc.cell h.c1 hn, hc.cell h.c2 hn⟩
theorem PlAt.box (w : World) (T : TypeId) (l a b : Int) : PlAt (w.alloc (plO T l a b)) w.heap.size l a b := by
  refine ⟨?_, ?_, ?_⟩ <;> (rw [cell_of_row _ _ _ _ _ _ (heap_alloc_new w _)]; rfl)

set_option maxHeartbeats 1600000 in
set_option maxRecDepth 100000 in
theorem law_grows_same (i : Int) (w : World) (hT : Tab w) (hi : inPl i)  :
    Calls Tryd.prog 5 #[.int .i64 i, .int .i64 i] w fun r w' => r = .returned (.bool true) ∧ Chg (fun _ => False) w w' := by
  have HI : Hid (inPl i) := hi
  have HK : Hid (inPl i) := hi
  have ha : allN (i * 512) = blkN (i * 512) + innN (i * 512) := rfl
  have mo := allN_more i hi
  have bd1 := allN_bd ((i + 1) * 512)
  have bb := blkN_bd (i * 512)
  have bi := innN_bd (i * 512)
  obtain ⟨i0, i1⟩ := HI.out
  obtain ⟨k0, k1⟩ := HK.out
  have i2 : ¬ i < 0 := by omega
  have k2 : ¬ i < 0 := by omega
  have i3 : ¬ 16520 ≤ i := by omega
  have k3 : ¬ 16520 ≤ i := by omega
  obtain ⟨A1, HA1⟩ : ∃ A1, Hid (allN ((i + 1) * 512) = A1) := ⟨_, rfl⟩
  obtain ⟨B0, HB0⟩ : ∃ B0, Hid (blkN (i * 512) = B0) := ⟨_, rfl⟩
  obtain ⟨I0, HI0⟩ : ∃ I0, Hid (innN (i * 512) = I0) := ⟨_, rfl⟩
  rw [HB0.out, HI0.out] at ha
  have HA0 : Hid (allN (i * 512) = B0 + I0) := ha
  rw [HA0.out, HA1.out] at mo
  rw [HA1.out] at bd1
  rw [HB0.out] at bb
  rw [HI0.out] at bi
  obtain ⟨m1, m2⟩ := mo
  clear hi ha
  go_enter Tryd.func5, Tryd.ntmps5
  go_wp2_with fail
  refine (iknown_any w hT).mono ?_
  rintro r w1 ⟨rfl, C1⟩
  go_wp2_with fail
  refine (most_any _).mono ?_
  rintro r w1 ⟨rfl, rfl⟩
  go_wp2_with fail
  refine (where_in i _ HI.out).mono ?_
  rintro r w2 ⟨rfl, hw2⟩
  have C2 : Chg (fun _ => False) w w2 := by rw [hw2]; exact C1.trans (Chg.alloc _ _ _) (fun _ _ h => h)
  clear hw2 C1
  go_wp2_with fail
  refine (where_in i _ HK.out).mono ?_
  rintro r w3 ⟨rfl, hw3⟩
  have A1' : Chg (fun _ => False) w2 (w2.alloc (plO 37 (plL i) (plA i) (plB i))) := Chg.alloc _ _ _
  have A2' : Chg (fun _ => False) (w2.alloc (plO 37 (plL i) (plA i) (plB i))) w3 := by rw [hw3]; exact Chg.alloc _ _ _
  have A3' : Chg (fun _ => False) w3 (w3.alloc (.cells #[.int .i64 (plL i), .int .i64 (plA i), .int .i64 (plB i)] 37)) := Chg.alloc _ _ _
  have P2 := PlAt.box w2 37 (plL i) (plA i) (plB i)
  have P3 := P2.kept A2' (fun h => h)
  have P4 := P3.kept A3' (fun h => h)
  have Q4 : PlAt (w3.alloc (.cells #[.int .i64 (plL i), .int .i64 (plA i), .int .i64 (plB i)] 37)) w3.heap.size (plL i) (plA i) (plB i) := PlAt.box w3 37 (plL i) (plA i) (plB i)
  have C4 : Chg (fun _ => False) w (w3.alloc (.cells #[.int .i64 (plL i), .int .i64 (plA i), .int .i64 (plB i)] 37)) := ((C2.trans A1' (fun _ _ h => h)).trans A2' (fun _ _ h => h)).trans A3' (fun _ _ h => h)
  clear hw3 A1' A2' A3' P2 P3
  go_wp2_with fail
  generalize w3.alloc (.cells #[.int .i64 (plL i), .int .i64 (plA i), .int .i64 (plB i)] 37) = w4 at *
  refine (all_any ((i + 1) * 512) _).mono ?_
  rintro r w5 ⟨rfl, C5⟩
  rw [HA1.out]
  go_wp2_with fail
  refine (all_any (i * 512) _).mono ?_
  rintro r w6 ⟨rfl, C6⟩
  rw [HA0.out]
  have C56 : Chg (fun _ => False) w4 w6 := Chg.trans C5 C6 (fun _ _ h => h)
  have P6 := P4.kept C56 (fun h => h)
  have Q6 := Q4.kept C56 (fun h => h)
  have CC := C4.trans C56 (fun _ _ h => h)
  obtain ⟨x0, x1, x2⟩ := P6
  obtain ⟨y0, y1, y2⟩ := Q6
  clear P4 Q4 C4 C5 C6 C2 C56
  go_wp2_with fail
  refine (all_any (i * 512) _).mono ?_
  rintro r w7 ⟨rfl, C7⟩
  rw [HA0.out]
  go_wp2_with fail
  refine (all_any (i * 512) _).mono ?_
  rintro r w8 ⟨rfl, C8⟩
  rw [HA0.out]
  go_wp2_with fail
  refine (all_any (i * 512) _).mono ?_
  rintro r w9 ⟨rfl, C9⟩
  rw [HA0.out]
  go_wp2_with fail
  refine (blocks_any (i * 512) _).mono ?_
  rintro r w10 ⟨rfl, rfl⟩
  rw [HB0.out]
  go_wp2_with fail
  refine (inner_any (i * 512) _).mono ?_
  rintro r w11 ⟨rfl, C11⟩
  rw [HI0.out]
  go_wp2
  go_ret
  exact ⟨rfl, (((CC.trans C7 (fun _ _ h => h)).trans C8 (fun _ _ h => h)).trans C9 (fun _ _ h => h)).trans C11 (fun _ _ h => h)⟩
set_option maxHeartbeats 1600000 in
set_option maxRecDepth 100000 in
theorem law_grows_ltL (i k : Int) (w : World) (hT : Tab w) (hi : inPl i) (hk : inPl k) (hc : i < k) (hL : plL i ≠ plL k) :
    Calls Tryd.prog 5 #[.int .i64 i, .int .i64 k] w fun r w' => r = .returned (.bool true) ∧ Chg (fun _ => False) w w' := by
  have HI : Hid (inPl i) := hi
  have HK : Hid (inPl k) := hk
  have ha : allN (i * 512) = blkN (i * 512) + innN (i * 512) := rfl
  have mo := allN_more i hi
  have bd1 := allN_bd ((i + 1) * 512)
  have bb := blkN_bd (i * 512)
  have bi := innN_bd (i * 512)
  have le := allN_le i k hi hk
  have bk := allN_bd (k * 512)
  have qik : (i == k) = false := by simp; omega
  have c1 : i ≤ k := by omega
  have c2 : allN (i * 512) ≤ allN (k * 512) := by rw [decide_eq_true c1] at le; exact of_decide_eq_true le.symm
  obtain ⟨AK, HAK⟩ : ∃ AK, Hid (allN (k * 512) = AK) := ⟨_, rfl⟩
  rw [HAK.out] at c2 bk
  have b0 : (plL i == plL k) = false := by simpa using hL
  clear le hL
  obtain ⟨i0, i1⟩ := HI.out
  obtain ⟨k0, k1⟩ := HK.out
  have i2 : ¬ i < 0 := by omega
  have k2 : ¬ k < 0 := by omega
  have i3 : ¬ 16520 ≤ i := by omega
  have k3 : ¬ 16520 ≤ k := by omega
  obtain ⟨A1, HA1⟩ : ∃ A1, Hid (allN ((i + 1) * 512) = A1) := ⟨_, rfl⟩
  obtain ⟨B0, HB0⟩ : ∃ B0, Hid (blkN (i * 512) = B0) := ⟨_, rfl⟩
  obtain ⟨I0, HI0⟩ : ∃ I0, Hid (innN (i * 512) = I0) := ⟨_, rfl⟩
  rw [HB0.out, HI0.out] at ha
  have HA0 : Hid (allN (i * 512) = B0 + I0) := ha
  rw [HA0.out, HA1.out] at mo
  rw [HA0.out] at c2
  rw [HA1.out] at bd1
  rw [HB0.out] at bb
  rw [HI0.out] at bi
  obtain ⟨m1, m2⟩ := mo
  clear hi ha hk
  go_enter Tryd.func5, Tryd.ntmps5
  go_wp2_with fail
  refine (iknown_any w hT).mono ?_
  rintro r w1 ⟨rfl, C1⟩
  go_wp2_with fail
  refine (most_any _).mono ?_
  rintro r w1 ⟨rfl, rfl⟩
  go_wp2_with fail
  refine (where_in i _ HI.out).mono ?_
  rintro r w2 ⟨rfl, hw2⟩
  have C2 : Chg (fun _ => False) w w2 := by rw [hw2]; exact C1.trans (Chg.alloc _ _ _) (fun _ _ h => h)
  clear hw2 C1
  go_wp2_with fail
  refine (where_in k _ HK.out).mono ?_
  rintro r w3 ⟨rfl, hw3⟩
  have A1' : Chg (fun _ => False) w2 (w2.alloc (plO 37 (plL i) (plA i) (plB i))) := Chg.alloc _ _ _
  have A2' : Chg (fun _ => False) (w2.alloc (plO 37 (plL i) (plA i) (plB i))) w3 := by rw [hw3]; exact Chg.alloc _ _ _
  have A3' : Chg (fun _ => False) w3 (w3.alloc (.cells #[.int .i64 (plL k), .int .i64 (plA k), .int .i64 (plB k)] 37)) := Chg.alloc _ _ _
  have P2 := PlAt.box w2 37 (plL i) (plA i) (plB i)
  have P3 := P2.kept A2' (fun h => h)
  have P4 := P3.kept A3' (fun h => h)
  have Q4 : PlAt (w3.alloc (.cells #[.int .i64 (plL k), .int .i64 (plA k), .int .i64 (plB k)] 37)) w3.heap.size (plL k) (plA k) (plB k) := PlAt.box w3 37 (plL k) (plA k) (plB k)
  have C4 : Chg (fun _ => False) w (w3.alloc (.cells #[.int .i64 (plL k), .int .i64 (plA k), .int .i64 (plB k)] 37)) := ((C2.trans A1' (fun _ _ h => h)).trans A2' (fun _ _ h => h)).trans A3' (fun _ _ h => h)
  clear hw3 A1' A2' A3' P2 P3
  go_wp2_with fail
  generalize w3.alloc (.cells #[.int .i64 (plL k), .int .i64 (plA k), .int .i64 (plB k)] 37) = w4 at *
  refine (all_any ((i + 1) * 512) _).mono ?_
  rintro r w5 ⟨rfl, C5⟩
  rw [HA1.out]
  go_wp2_with fail
  refine (all_any (i * 512) _).mono ?_
  rintro r w6 ⟨rfl, C6⟩
  rw [HA0.out]
  have C56 : Chg (fun _ => False) w4 w6 := Chg.trans C5 C6 (fun _ _ h => h)
  have P6 := P4.kept C56 (fun h => h)
  have Q6 := Q4.kept C56 (fun h => h)
  have CC := C4.trans C56 (fun _ _ h => h)
  obtain ⟨x0, x1, x2⟩ := P6
  obtain ⟨y0, y1, y2⟩ := Q6
  clear P4 Q4 C4 C5 C6 C2 C56
  go_wp2_with fail
  refine (all_any (i * 512) _).mono ?_
  rintro r w7 ⟨rfl, C7⟩
  rw [HA0.out]
  go_wp2_with fail
  refine (all_any (k * 512) _).mono ?_
  rintro r w8 ⟨rfl, C8⟩
  rw [HAK.out]
  go_wp2_with fail
  refine (all_any (i * 512) _).mono ?_
  rintro r w9 ⟨rfl, C9⟩
  rw [HA0.out]
  go_wp2_with fail
  refine (blocks_any (i * 512) _).mono ?_
  rintro r w10 ⟨rfl, rfl⟩
  rw [HB0.out]
  go_wp2_with fail
  refine (inner_any (i * 512) _).mono ?_
  rintro r w11 ⟨rfl, C11⟩
  rw [HI0.out]
  go_wp2
  go_ret
  exact ⟨rfl, (((CC.trans C7 (fun _ _ h => h)).trans C8 (fun _ _ h => h)).trans C9 (fun _ _ h => h)).trans C11 (fun _ _ h => h)⟩
set_option maxHeartbeats 1600000 in
set_option maxRecDepth 100000 in
theorem law_grows_ltA (i k : Int) (w : World) (hT : Tab w) (hi : inPl i) (hk : inPl k) (hc : i < k) (hL : plL i = plL k) (hA : plA i ≠ plA k) :
    Calls Tryd.prog 5 #[.int .i64 i, .int .i64 k] w fun r w' => r = .returned (.bool true) ∧ Chg (fun _ => False) w w' := by
  have HI : Hid (inPl i) := hi
  have HK : Hid (inPl k) := hk
  have ha : allN (i * 512) = blkN (i * 512) + innN (i * 512) := rfl
  have mo := allN_more i hi
  have bd1 := allN_bd ((i + 1) * 512)
  have bb := blkN_bd (i * 512)
  have bi := innN_bd (i * 512)
  have le := allN_le i k hi hk
  have bk := allN_bd (k * 512)
  have qik : (i == k) = false := by simp; omega
  have c1 : i ≤ k := by omega
  have c2 : allN (i * 512) ≤ allN (k * 512) := by rw [decide_eq_true c1] at le; exact of_decide_eq_true le.symm
  obtain ⟨AK, HAK⟩ : ∃ AK, Hid (allN (k * 512) = AK) := ⟨_, rfl⟩
  rw [HAK.out] at c2 bk
  have b0 : (plL i == plL k) = true := by simpa using hL
  have b1 : (plA i == plA k) = false := by simpa using hA
  clear le hL hA
  obtain ⟨i0, i1⟩ := HI.out
  obtain ⟨k0, k1⟩ := HK.out
  have i2 : ¬ i < 0 := by omega
  have k2 : ¬ k < 0 := by omega
  have i3 : ¬ 16520 ≤ i := by omega
  have k3 : ¬ 16520 ≤ k := by omega
  obtain ⟨A1, HA1⟩ : ∃ A1, Hid (allN ((i + 1) * 512) = A1) := ⟨_, rfl⟩
  obtain ⟨B0, HB0⟩ : ∃ B0, Hid (blkN (i * 512) = B0) := ⟨_, rfl⟩
  obtain ⟨I0, HI0⟩ : ∃ I0, Hid (innN (i * 512) = I0) := ⟨_, rfl⟩
  rw [HB0.out, HI0.out] at ha
  have HA0 : Hid (allN (i * 512) = B0 + I0) := ha
  rw [HA0.out, HA1.out] at mo
  rw [HA0.out] at c2
  rw [HA1.out] at bd1
  rw [HB0.out] at bb
  rw [HI0.out] at bi
  obtain ⟨m1, m2⟩ := mo
  clear hi ha hk
  go_enter Tryd.func5, Tryd.ntmps5
  go_wp2_with fail
  refine (iknown_any w hT).mono ?_
  rintro r w1 ⟨rfl, C1⟩
  go_wp2_with fail
  refine (most_any _).mono ?_
  rintro r w1 ⟨rfl, rfl⟩
  go_wp2_with fail
  refine (where_in i _ HI.out).mono ?_
  rintro r w2 ⟨rfl, hw2⟩
  have C2 : Chg (fun _ => False) w w2 := by rw [hw2]; exact C1.trans (Chg.alloc _ _ _) (fun _ _ h => h)
  clear hw2 C1
  go_wp2_with fail
  refine (where_in k _ HK.out).mono ?_
  rintro r w3 ⟨rfl, hw3⟩
  have A1' : Chg (fun _ => False) w2 (w2.alloc (plO 37 (plL i) (plA i) (plB i))) := Chg.alloc _ _ _
  have A2' : Chg (fun _ => False) (w2.alloc (plO 37 (plL i) (plA i) (plB i))) w3 := by rw [hw3]; exact Chg.alloc _ _ _
  have A3' : Chg (fun _ => False) w3 (w3.alloc (.cells #[.int .i64 (plL k), .int .i64 (plA k), .int .i64 (plB k)] 37)) := Chg.alloc _ _ _
  have P2 := PlAt.box w2 37 (plL i) (plA i) (plB i)
  have P3 := P2.kept A2' (fun h => h)
  have P4 := P3.kept A3' (fun h => h)
  have Q4 : PlAt (w3.alloc (.cells #[.int .i64 (plL k), .int .i64 (plA k), .int .i64 (plB k)] 37)) w3.heap.size (plL k) (plA k) (plB k) := PlAt.box w3 37 (plL k) (plA k) (plB k)
  have C4 : Chg (fun _ => False) w (w3.alloc (.cells #[.int .i64 (plL k), .int .i64 (plA k), .int .i64 (plB k)] 37)) := ((C2.trans A1' (fun _ _ h => h)).trans A2' (fun _ _ h => h)).trans A3' (fun _ _ h => h)
  clear hw3 A1' A2' A3' P2 P3
  go_wp2_with fail
  generalize w3.alloc (.cells #[.int .i64 (plL k), .int .i64 (plA k), .int .i64 (plB k)] 37) = w4 at *
  refine (all_any ((i + 1) * 512) _).mono ?_
  rintro r w5 ⟨rfl, C5⟩
  rw [HA1.out]
  go_wp2_with fail
  refine (all_any (i * 512) _).mono ?_
  rintro r w6 ⟨rfl, C6⟩
  rw [HA0.out]
  have C56 : Chg (fun _ => False) w4 w6 := Chg.trans C5 C6 (fun _ _ h => h)
  have P6 := P4.kept C56 (fun h => h)
  have Q6 := Q4.kept C56 (fun h => h)
  have CC := C4.trans C56 (fun _ _ h => h)
  obtain ⟨x0, x1, x2⟩ := P6
  obtain ⟨y0, y1, y2⟩ := Q6
  clear P4 Q4 C4 C5 C6 C2 C56
  go_wp2_with fail
  refine (all_any (i * 512) _).mono ?_
  rintro r w7 ⟨rfl, C7⟩
  rw [HA0.out]
  go_wp2_with fail
  refine (all_any (k * 512) _).mono ?_
  rintro r w8 ⟨rfl, C8⟩
  rw [HAK.out]
  go_wp2_with fail
  refine (all_any (i * 512) _).mono ?_
  rintro r w9 ⟨rfl, C9⟩
  rw [HA0.out]
  go_wp2_with fail
  refine (blocks_any (i * 512) _).mono ?_
  rintro r w10 ⟨rfl, rfl⟩
  rw [HB0.out]
  go_wp2_with fail
  refine (inner_any (i * 512) _).mono ?_
  rintro r w11 ⟨rfl, C11⟩
  rw [HI0.out]
  go_wp2
  go_ret
  exact ⟨rfl, (((CC.trans C7 (fun _ _ h => h)).trans C8 (fun _ _ h => h)).trans C9 (fun _ _ h => h)).trans C11 (fun _ _ h => h)⟩
set_option maxHeartbeats 1600000 in
set_option maxRecDepth 100000 in
theorem law_grows_ltB (i k : Int) (w : World) (hT : Tab w) (hi : inPl i) (hk : inPl k) (hc : i < k) (hL : plL i = plL k) (hA : plA i = plA k) (hB : plB i ≠ plB k) :
    Calls Tryd.prog 5 #[.int .i64 i, .int .i64 k] w fun r w' => r = .returned (.bool true) ∧ Chg (fun _ => False) w w' := by
  have HI : Hid (inPl i) := hi
  have HK : Hid (inPl k) := hk
  have ha : allN (i * 512) = blkN (i * 512) + innN (i * 512) := rfl
  have mo := allN_more i hi
  have bd1 := allN_bd ((i + 1) * 512)
  have bb := blkN_bd (i * 512)
  have bi := innN_bd (i * 512)
  have le := allN_le i k hi hk
  have bk := allN_bd (k * 512)
  have qik : (i == k) = false := by simp; omega
  have c1 : i ≤ k := by omega
  have c2 : allN (i * 512) ≤ allN (k * 512) := by rw [decide_eq_true c1] at le; exact of_decide_eq_true le.symm
  obtain ⟨AK, HAK⟩ : ∃ AK, Hid (allN (k * 512) = AK) := ⟨_, rfl⟩
  rw [HAK.out] at c2 bk
  have b0 : (plL i == plL k) = true := by simpa using hL
  have b1 : (plA i == plA k) = true := by simpa using hA
  have b2 : (plB i == plB k) = false := by simpa using hB
  clear le hL hA hB
  obtain ⟨i0, i1⟩ := HI.out
  obtain ⟨k0, k1⟩ := HK.out
  have i2 : ¬ i < 0 := by omega
  have k2 : ¬ k < 0 := by omega
  have i3 : ¬ 16520 ≤ i := by omega
  have k3 : ¬ 16520 ≤ k := by omega
  obtain ⟨A1, HA1⟩ : ∃ A1, Hid (allN ((i + 1) * 512) = A1) := ⟨_, rfl⟩
  obtain ⟨B0, HB0⟩ : ∃ B0, Hid (blkN (i * 512) = B0) := ⟨_, rfl⟩
  obtain ⟨I0, HI0⟩ : ∃ I0, Hid (innN (i * 512) = I0) := ⟨_, rfl⟩
  rw [HB0.out, HI0.out] at ha
  have HA0 : Hid (allN (i * 512) = B0 + I0) := ha
  rw [HA0.out, HA1.out] at mo
  rw [HA0.out] at c2
  rw [HA1.out] at bd1
  rw [HB0.out] at bb
  rw [HI0.out] at bi
  obtain ⟨m1, m2⟩ := mo
  clear hi ha hk
  go_enter Tryd.func5, Tryd.ntmps5
  go_wp2_with fail
  refine (iknown_any w hT).mono ?_
  rintro r w1 ⟨rfl, C1⟩
  go_wp2_with fail
  refine (most_any _).mono ?_
  rintro r w1 ⟨rfl, rfl⟩
  go_wp2_with fail
  refine (where_in i _ HI.out).mono ?_
  rintro r w2 ⟨rfl, hw2⟩
  have C2 : Chg (fun _ => False) w w2 := by rw [hw2]; exact C1.trans (Chg.alloc _ _ _) (fun _ _ h => h)
  clear hw2 C1
  go_wp2_with fail
  refine (where_in k _ HK.out).mono ?_
  rintro r w3 ⟨rfl, hw3⟩
  have A1' : Chg (fun _ => False) w2 (w2.alloc (plO 37 (plL i) (plA i) (plB i))) := Chg.alloc _ _ _
  have A2' : Chg (fun _ => False) (w2.alloc (plO 37 (plL i) (plA i) (plB i))) w3 := by rw [hw3]; exact Chg.alloc _ _ _
  have A3' : Chg (fun _ => False) w3 (w3.alloc (.cells #[.int .i64 (plL k), .int .i64 (plA k), .int .i64 (plB k)] 37)) := Chg.alloc _ _ _
  have P2 := PlAt.box w2 37 (plL i) (plA i) (plB i)
  have P3 := P2.kept A2' (fun h => h)
  have P4 := P3.kept A3' (fun h => h)
  have Q4 : PlAt (w3.alloc (.cells #[.int .i64 (plL k), .int .i64 (plA k), .int .i64 (plB k)] 37)) w3.heap.size (plL k) (plA k) (plB k) := PlAt.box w3 37 (plL k) (plA k) (plB k)
  have C4 : Chg (fun _ => False) w (w3.alloc (.cells #[.int .i64 (plL k), .int .i64 (plA k), .int .i64 (plB k)] 37)) := ((C2.trans A1' (fun _ _ h => h)).trans A2' (fun _ _ h => h)).trans A3' (fun _ _ h => h)
  clear hw3 A1' A2' A3' P2 P3
  go_wp2_with fail
  generalize w3.alloc (.cells #[.int .i64 (plL k), .int .i64 (plA k), .int .i64 (plB k)] 37) = w4 at *
  refine (all_any ((i + 1) * 512) _).mono ?_
  rintro r w5 ⟨rfl, C5⟩
  rw [HA1.out]
  go_wp2_with fail
  refine (all_any (i * 512) _).mono ?_
  rintro r w6 ⟨rfl, C6⟩
  rw [HA0.out]
  have C56 : Chg (fun _ => False) w4 w6 := Chg.trans C5 C6 (fun _ _ h => h)
  have P6 := P4.kept C56 (fun h => h)
  have Q6 := Q4.kept C56 (fun h => h)
  have CC := C4.trans C56 (fun _ _ h => h)
  obtain ⟨x0, x1, x2⟩ := P6
  obtain ⟨y0, y1, y2⟩ := Q6
  clear P4 Q4 C4 C5 C6 C2 C56
  go_wp2_with fail
  refine (all_any (i * 512) _).mono ?_
  rintro r w7 ⟨rfl, C7⟩
  rw [HA0.out]
  go_wp2_with fail
  refine (all_any (k * 512) _).mono ?_
  rintro r w8 ⟨rfl, C8⟩
  rw [HAK.out]
  go_wp2_with fail
  refine (all_any (i * 512) _).mono ?_
  rintro r w9 ⟨rfl, C9⟩
  rw [HA0.out]
  go_wp2_with fail
  refine (blocks_any (i * 512) _).mono ?_
  rintro r w10 ⟨rfl, rfl⟩
  rw [HB0.out]
  go_wp2_with fail
  refine (inner_any (i * 512) _).mono ?_
  rintro r w11 ⟨rfl, C11⟩
  rw [HI0.out]
  go_wp2
  go_ret
  exact ⟨rfl, (((CC.trans C7 (fun _ _ h => h)).trans C8 (fun _ _ h => h)).trans C9 (fun _ _ h => h)).trans C11 (fun _ _ h => h)⟩
set_option maxHeartbeats 1600000 in
set_option maxRecDepth 100000 in
theorem law_grows_gtL (i k : Int) (w : World) (hT : Tab w) (hi : inPl i) (hk : inPl k) (hc : k < i) (hL : plL i ≠ plL k) :
    Calls Tryd.prog 5 #[.int .i64 i, .int .i64 k] w fun r w' => r = .returned (.bool true) ∧ Chg (fun _ => False) w w' := by
  have HI : Hid (inPl i) := hi
  have HK : Hid (inPl k) := hk
  have ha : allN (i * 512) = blkN (i * 512) + innN (i * 512) := rfl
  have mo := allN_more i hi
  have bd1 := allN_bd ((i + 1) * 512)
  have bb := blkN_bd (i * 512)
  have bi := innN_bd (i * 512)
  have le := allN_le i k hi hk
  have bk := allN_bd (k * 512)
  have qik : (i == k) = false := by simp; omega
  have c1 : ¬ i ≤ k := by omega
  have c2 : ¬ allN (i * 512) ≤ allN (k * 512) := by rw [decide_eq_false c1] at le; exact of_decide_eq_false le.symm
  obtain ⟨AK, HAK⟩ : ∃ AK, Hid (allN (k * 512) = AK) := ⟨_, rfl⟩
  rw [HAK.out] at c2 bk
  have b0 : (plL i == plL k) = false := by simpa using hL
  clear le hL
  obtain ⟨i0, i1⟩ := HI.out
  obtain ⟨k0, k1⟩ := HK.out
  have i2 : ¬ i < 0 := by omega
  have k2 : ¬ k < 0 := by omega
  have i3 : ¬ 16520 ≤ i := by omega
  have k3 : ¬ 16520 ≤ k := by omega
  obtain ⟨A1, HA1⟩ : ∃ A1, Hid (allN ((i + 1) * 512) = A1) := ⟨_, rfl⟩
  obtain ⟨B0, HB0⟩ : ∃ B0, Hid (blkN (i * 512) = B0) := ⟨_, rfl⟩
  obtain ⟨I0, HI0⟩ : ∃ I0, Hid (innN (i * 512) = I0) := ⟨_, rfl⟩
  rw [HB0.out, HI0.out] at ha
  have HA0 : Hid (allN (i * 512) = B0 + I0) := ha
  rw [HA0.out, HA1.out] at mo
  rw [HA0.out] at c2
  rw [HA1.out] at bd1
  rw [HB0.out] at bb
  rw [HI0.out] at bi
  obtain ⟨m1, m2⟩ := mo
  clear hi ha hk
  go_enter Tryd.func5, Tryd.ntmps5
  go_wp2_with fail
  refine (iknown_any w hT).mono ?_
  rintro r w1 ⟨rfl, C1⟩
  go_wp2_with fail
  refine (most_any _).mono ?_
  rintro r w1 ⟨rfl, rfl⟩
  go_wp2_with fail
  refine (where_in i _ HI.out).mono ?_
  rintro r w2 ⟨rfl, hw2⟩
  have C2 : Chg (fun _ => False) w w2 := by rw [hw2]; exact C1.trans (Chg.alloc _ _ _) (fun _ _ h => h)
  clear hw2 C1
  go_wp2_with fail
  refine (where_in k _ HK.out).mono ?_
  rintro r w3 ⟨rfl, hw3⟩
  have A1' : Chg (fun _ => False) w2 (w2.alloc (plO 37 (plL i) (plA i) (plB i))) := Chg.alloc _ _ _
  have A2' : Chg (fun _ => False) (w2.alloc (plO 37 (plL i) (plA i) (plB i))) w3 := by rw [hw3]; exact Chg.alloc _ _ _
  have A3' : Chg (fun _ => False) w3 (w3.alloc (.cells #[.int .i64 (plL k), .int .i64 (plA k), .int .i64 (plB k)] 37)) := Chg.alloc _ _ _
  have P2 := PlAt.box w2 37 (plL i) (plA i) (plB i)
  have P3 := P2.kept A2' (fun h => h)
  have P4 := P3.kept A3' (fun h => h)
  have Q4 : PlAt (w3.alloc (.cells #[.int .i64 (plL k), .int .i64 (plA k), .int .i64 (plB k)] 37)) w3.heap.size (plL k) (plA k) (plB k) := PlAt.box w3 37 (plL k) (plA k) (plB k)
  have C4 : Chg (fun _ => False) w (w3.alloc (.cells #[.int .i64 (plL k), .int .i64 (plA k), .int .i64 (plB k)] 37)) := ((C2.trans A1' (fun _ _ h => h)).trans A2' (fun _ _ h => h)).trans A3' (fun _ _ h => h)
  clear hw3 A1' A2' A3' P2 P3
  go_wp2_with fail
  generalize w3.alloc (.cells #[.int .i64 (plL k), .int .i64 (plA k), .int .i64 (plB k)] 37) = w4 at *
  refine (all_any ((i + 1) * 512) _).mono ?_
  rintro r w5 ⟨rfl, C5⟩
  rw [HA1.out]
  go_wp2_with fail
  refine (all_any (i * 512) _).mono ?_
  rintro r w6 ⟨rfl, C6⟩
  rw [HA0.out]
  have C56 : Chg (fun _ => False) w4 w6 := Chg.trans C5 C6 (fun _ _ h => h)
  have P6 := P4.kept C56 (fun h => h)
  have Q6 := Q4.kept C56 (fun h => h)
  have CC := C4.trans C56 (fun _ _ h => h)
  obtain ⟨x0, x1, x2⟩ := P6
  obtain ⟨y0, y1, y2⟩ := Q6
  clear P4 Q4 C4 C5 C6 C2 C56
  go_wp2_with fail
  refine (all_any (i * 512) _).mono ?_
  rintro r w7 ⟨rfl, C7⟩
  rw [HA0.out]
  go_wp2_with fail
  refine (all_any (k * 512) _).mono ?_
  rintro r w8 ⟨rfl, C8⟩
  rw [HAK.out]
  go_wp2_with fail
  refine (all_any (i * 512) _).mono ?_
  rintro r w9 ⟨rfl, C9⟩
  rw [HA0.out]
  go_wp2_with fail
  refine (blocks_any (i * 512) _).mono ?_
  rintro r w10 ⟨rfl, rfl⟩
  rw [HB0.out]
  go_wp2_with fail
  refine (inner_any (i * 512) _).mono ?_
  rintro r w11 ⟨rfl, C11⟩
  rw [HI0.out]
  go_wp2
  go_ret
  exact ⟨rfl, (((CC.trans C7 (fun _ _ h => h)).trans C8 (fun _ _ h => h)).trans C9 (fun _ _ h => h)).trans C11 (fun _ _ h => h)⟩
set_option maxHeartbeats 1600000 in
set_option maxRecDepth 100000 in
theorem law_grows_gtA (i k : Int) (w : World) (hT : Tab w) (hi : inPl i) (hk : inPl k) (hc : k < i) (hL : plL i = plL k) (hA : plA i ≠ plA k) :
    Calls Tryd.prog 5 #[.int .i64 i, .int .i64 k] w fun r w' => r = .returned (.bool true) ∧ Chg (fun _ => False) w w' := by
  have HI : Hid (inPl i) := hi
  have HK : Hid (inPl k) := hk
  have ha : allN (i * 512) = blkN (i * 512) + innN (i * 512) := rfl
  have mo := allN_more i hi
  have bd1 := allN_bd ((i + 1) * 512)
  have bb := blkN_bd (i * 512)
  have bi := innN_bd (i * 512)
  have le := allN_le i k hi hk
  have bk := allN_bd (k * 512)
  have qik : (i == k) = false := by simp; omega
  have c1 : ¬ i ≤ k := by omega
  have c2 : ¬ allN (i * 512) ≤ allN (k * 512) := by rw [decide_eq_false c1] at le; exact of_decide_eq_false le.symm
  obtain ⟨AK, HAK⟩ : ∃ AK, Hid (allN (k * 512) = AK) := ⟨_, rfl⟩
  rw [HAK.out] at c2 bk
  have b0 : (plL i == plL k) = true := by simpa using hL
  have b1 : (plA i == plA k) = false := by simpa using hA
  clear le hL hA
  obtain ⟨i0, i1⟩ := HI.out
  obtain ⟨k0, k1⟩ := HK.out
  have i2 : ¬ i < 0 := by omega
  have k2 : ¬ k < 0 := by omega
  have i3 : ¬ 16520 ≤ i := by omega
  have k3 : ¬ 16520 ≤ k := by omega
  obtain ⟨A1, HA1⟩ : ∃ A1, Hid (allN ((i + 1) * 512) = A1) := ⟨_, rfl⟩
  obtain ⟨B0, HB0⟩ : ∃ B0, Hid (blkN (i * 512) = B0) := ⟨_, rfl⟩
  obtain ⟨I0, HI0⟩ : ∃ I0, Hid (innN (i * 512) = I0) := ⟨_, rfl⟩
  rw [HB0.out, HI0.out] at ha
  have HA0 : Hid (allN (i * 512) = B0 + I0) := ha
  rw [HA0.out, HA1.out] at mo
  rw [HA0.out] at c2
  rw [HA1.out] at bd1
  rw [HB0.out] at bb
  rw [HI0.out] at bi
  obtain ⟨m1, m2⟩ := mo
  clear hi ha hk
  go_enter Tryd.func5, Tryd.ntmps5
  go_wp2_with fail
  refine (iknown_any w hT).mono ?_
  rintro r w1 ⟨rfl, C1⟩
  go_wp2_with fail
  refine (most_any _).mono ?_
  rintro r w1 ⟨rfl, rfl⟩
  go_wp2_with fail
  refine (where_in i _ HI.out).mono ?_
  rintro r w2 ⟨rfl, hw2⟩
  have C2 : Chg (fun _ => False) w w2 := by rw [hw2]; exact C1.trans (Chg.alloc _ _ _) (fun _ _ h => h)
  clear hw2 C1
  go_wp2_with fail
  refine (where_in k _ HK.out).mono ?_
  rintro r w3 ⟨rfl, hw3⟩
  have A1' : Chg (fun _ => False) w2 (w2.alloc (plO 37 (plL i) (plA i) (plB i))) := Chg.alloc _ _ _
  have A2' : Chg (fun _ => False) (w2.alloc (plO 37 (plL i) (plA i) (plB i))) w3 := by rw [hw3]; exact Chg.alloc _ _ _
  have A3' : Chg (fun _ => False) w3 (w3.alloc (.cells #[.int .i64 (plL k), .int .i64 (plA k), .int .i64 (plB k)] 37)) := Chg.alloc _ _ _
  have P2 := PlAt.box w2 37 (plL i) (plA i) (plB i)
  have P3 := P2.kept A2' (fun h => h)
  have P4 := P3.kept A3' (fun h => h)
  have Q4 : PlAt (w3.alloc (.cells #[.int .i64 (plL k), .int .i64 (plA k), .int .i64 (plB k)] 37)) w3.heap.size (plL k) (plA k) (plB k) := PlAt.box w3 37 (plL k) (plA k) (plB k)
  have C4 : Chg (fun _ => False) w (w3.alloc (.cells #[.int .i64 (plL k), .int .i64 (plA k), .int .i64 (plB k)] 37)) := ((C2.trans A1' (fun _ _ h => h)).trans A2' (fun _ _ h => h)).trans A3' (fun _ _ h => h)
  clear hw3 A1' A2' A3' P2 P3
  go_wp2_with fail
  generalize w3.alloc (.cells #[.int .i64 (plL k), .int .i64 (plA k), .int .i64 (plB k)] 37) = w4 at *
  refine (all_any ((i + 1) * 512) _).mono ?_
  rintro r w5 ⟨rfl, C5⟩
  rw [HA1.out]
  go_wp2_with fail
  refine (all_any (i * 512) _).mono ?_
  rintro r w6 ⟨rfl, C6⟩
  rw [HA0.out]
  have C56 : Chg (fun _ => False) w4 w6 := Chg.trans C5 C6 (fun _ _ h => h)
  have P6 := P4.kept C56 (fun h => h)
  have Q6 := Q4.kept C56 (fun h => h)
  have CC := C4.trans C56 (fun _ _ h => h)
  obtain ⟨x0, x1, x2⟩ := P6
  obtain ⟨y0, y1, y2⟩ := Q6
  clear P4 Q4 C4 C5 C6 C2 C56
  go_wp2_with fail
  refine (all_any (i * 512) _).mono ?_
  rintro r w7 ⟨rfl, C7⟩
  rw [HA0.out]
  go_wp2_with fail
  refine (all_any (k * 512) _).mono ?_
  rintro r w8 ⟨rfl, C8⟩
  rw [HAK.out]
  go_wp2_with fail
  refine (all_any (i * 512) _).mono ?_
  rintro r w9 ⟨rfl, C9⟩
  rw [HA0.out]
  go_wp2_with fail
  refine (blocks_any (i * 512) _).mono ?_
  rintro r w10 ⟨rfl, rfl⟩
  rw [HB0.out]
  go_wp2_with fail
  refine (inner_any (i * 512) _).mono ?_
  rintro r w11 ⟨rfl, C11⟩
  rw [HI0.out]
  go_wp2
  go_ret
  exact ⟨rfl, (((CC.trans C7 (fun _ _ h => h)).trans C8 (fun _ _ h => h)).trans C9 (fun _ _ h => h)).trans C11 (fun _ _ h => h)⟩
set_option maxHeartbeats 1600000 in
set_option maxRecDepth 100000 in
theorem law_grows_gtB (i k : Int) (w : World) (hT : Tab w) (hi : inPl i) (hk : inPl k) (hc : k < i) (hL : plL i = plL k) (hA : plA i = plA k) (hB : plB i ≠ plB k) :
    Calls Tryd.prog 5 #[.int .i64 i, .int .i64 k] w fun r w' => r = .returned (.bool true) ∧ Chg (fun _ => False) w w' := by
  have HI : Hid (inPl i) := hi
  have HK : Hid (inPl k) := hk
  have ha : allN (i * 512) = blkN (i * 512) + innN (i * 512) := rfl
  have mo := allN_more i hi
  have bd1 := allN_bd ((i + 1) * 512)
  have bb := blkN_bd (i * 512)
  have bi := innN_bd (i * 512)
  have le := allN_le i k hi hk
  have bk := allN_bd (k * 512)
  have qik : (i == k) = false := by simp; omega
  have c1 : ¬ i ≤ k := by omega
  have c2 : ¬ allN (i * 512) ≤ allN (k * 512) := by rw [decide_eq_false c1] at le; exact of_decide_eq_false le.symm
  obtain ⟨AK, HAK⟩ : ∃ AK, Hid (allN (k * 512) = AK) := ⟨_, rfl⟩
  rw [HAK.out] at c2 bk
  have b0 : (plL i == plL k) = true := by simpa using hL
  have b1 : (plA i == plA k) = true := by simpa using hA
  have b2 : (plB i == plB k) = false := by simpa using hB
  clear le hL hA hB
  obtain ⟨i0, i1⟩ := HI.out
  obtain ⟨k0, k1⟩ := HK.out
  have i2 : ¬ i < 0 := by omega
  have k2 : ¬ k < 0 := by omega
  have i3 : ¬ 16520 ≤ i := by omega
  have k3 : ¬ 16520 ≤ k := by omega
  obtain ⟨A1, HA1⟩ : ∃ A1, Hid (allN ((i + 1) * 512) = A1) := ⟨_, rfl⟩
  obtain ⟨B0, HB0⟩ : ∃ B0, Hid (blkN (i * 512) = B0) := ⟨_, rfl⟩
  obtain ⟨I0, HI0⟩ : ∃ I0, Hid (innN (i * 512) = I0) := ⟨_, rfl⟩
  rw [HB0.out, HI0.out] at ha
  have HA0 : Hid (allN (i * 512) = B0 + I0) := ha
  rw [HA0.out, HA1.out] at mo
  rw [HA0.out] at c2
  rw [HA1.out] at bd1
  rw [HB0.out] at bb
  rw [HI0.out] at bi
  obtain ⟨m1, m2⟩ := mo
  clear hi ha hk
  go_enter Tryd.func5, Tryd.ntmps5
  go_wp2_with fail
  refine (iknown_any w hT).mono ?_
  rintro r w1 ⟨rfl, C1⟩
  go_wp2_with fail
  refine (most_any _).mono ?_
  rintro r w1 ⟨rfl, rfl⟩
  go_wp2_with fail
  refine (where_in i _ HI.out).mono ?_
  rintro r w2 ⟨rfl, hw2⟩
  have C2 : Chg (fun _ => False) w w2 := by rw [hw2]; exact C1.trans (Chg.alloc _ _ _) (fun _ _ h => h)
  clear hw2 C1
  go_wp2_with fail
  refine (where_in k _ HK.out).mono ?_
  rintro r w3 ⟨rfl, hw3⟩
  have A1' : Chg (fun _ => False) w2 (w2.alloc (plO 37 (plL i) (plA i) (plB i))) := Chg.alloc _ _ _
  have A2' : Chg (fun _ => False) (w2.alloc (plO 37 (plL i) (plA i) (plB i))) w3 := by rw [hw3]; exact Chg.alloc _ _ _
  have A3' : Chg (fun _ => False) w3 (w3.alloc (.cells #[.int .i64 (plL k), .int .i64 (plA k), .int .i64 (plB k)] 37)) := Chg.alloc _ _ _
  have P2 := PlAt.box w2 37 (plL i) (plA i) (plB i)
  have P3 := P2.kept A2' (fun h => h)
  have P4 := P3.kept A3' (fun h => h)
  have Q4 : PlAt (w3.alloc (.cells #[.int .i64 (plL k), .int .i64 (plA k), .int .i64 (plB k)] 37)) w3.heap.size (plL k) (plA k) (plB k) := PlAt.box w3 37 (plL k) (plA k) (plB k)
  have C4 : Chg (fun _ => False) w (w3.alloc (.cells #[.int .i64 (plL k), .int .i64 (plA k), .int .i64 (plB k)] 37)) := ((C2.trans A1' (fun _ _ h => h)).trans A2' (fun _ _ h => h)).trans A3' (fun _ _ h => h)
  clear hw3 A1' A2' A3' P2 P3
  go_wp2_with fail
  generalize w3.alloc (.cells #[.int .i64 (plL k), .int .i64 (plA k), .int .i64 (plB k)] 37) = w4 at *
  refine (all_any ((i + 1) * 512) _).mono ?_
  rintro r w5 ⟨rfl, C5⟩
  rw [HA1.out]
  go_wp2_with fail
  refine (all_any (i * 512) _).mono ?_
  rintro r w6 ⟨rfl, C6⟩
  rw [HA0.out]
  have C56 : Chg (fun _ => False) w4 w6 := Chg.trans C5 C6 (fun _ _ h => h)
  have P6 := P4.kept C56 (fun h => h)
  have Q6 := Q4.kept C56 (fun h => h)
  have CC := C4.trans C56 (fun _ _ h => h)
  obtain ⟨x0, x1, x2⟩ := P6
  obtain ⟨y0, y1, y2⟩ := Q6
  clear P4 Q4 C4 C5 C6 C2 C56
  go_wp2_with fail
  refine (all_any (i * 512) _).mono ?_
  rintro r w7 ⟨rfl, C7⟩
  rw [HA0.out]
  go_wp2_with fail
  refine (all_any (k * 512) _).mono ?_
  rintro r w8 ⟨rfl, C8⟩
  rw [HAK.out]
  go_wp2_with fail
  refine (all_any (i * 512) _).mono ?_
  rintro r w9 ⟨rfl, C9⟩
  rw [HA0.out]
  go_wp2_with fail
  refine (blocks_any (i * 512) _).mono ?_
  rintro r w10 ⟨rfl, rfl⟩
  rw [HB0.out]
  go_wp2_with fail
  refine (inner_any (i * 512) _).mono ?_
  rintro r w11 ⟨rfl, C11⟩
  rw [HI0.out]
  go_wp2
  go_ret
  exact ⟨rfl, (((CC.trans C7 (fun _ _ h => h)).trans C8 (fun _ _ h => h)).trans C9 (fun _ _ h => h)).trans C11 (fun _ _ h => h)⟩
set_option maxHeartbeats 1600000 in
theorem law_grows_out (i k : Int) (w : World) (hT : Tab w) (h : ¬ (inPl i ∧ inPl k)) :
    Calls Tryd.prog 5 #[.int .i64 i, .int .i64 k] w fun r w' => r = .returned (.bool true) ∧ Chg (fun _ => False) w w' := by
  have hh : i < 0 ∨ k < 0 ∨ 16520 ≤ i ∨ 16520 ≤ k := by unfold inPl at h; omega
  have HH : Hid (i < 0 ∨ k < 0 ∨ 16520 ≤ i ∨ 16520 ≤ k) := hh
  clear h hh
  go_enter Tryd.func5, Tryd.ntmps5
  go_wp2_with fail
  refine (iknown_any w hT).mono ?_
  rintro r w1 ⟨rfl, C1⟩
  go_wp2_with fail
  refine (most_any _).mono ?_
  rintro r w1 ⟨rfl, rfl⟩
  have HD : decide (i < 0) = true ∨ (decide (i < 0) = false ∧ decide (k < 0) = true) ∨ (decide (i < 0) = false ∧ decide (k < 0) = false ∧ decide (16520 ≤ i) = true) ∨ (decide (i < 0) = false ∧ decide (k < 0) = false ∧ decide (16520 ≤ i) = false ∧ decide (16520 ≤ k) = true) := by
    have := HH.out
    simp only [decide_eq_true_eq, decide_eq_false_iff_not]
    omega
  rcases HD with d1 | ⟨d1, d2⟩ | ⟨d1, d2, d3⟩ | ⟨d1, d2, d3, d4⟩
  · have e1 : i < 0 := of_decide_eq_true d1
    go_wp2
    go_ret
    exact ⟨rfl, C1⟩
  · have e1 : ¬ i < 0 := of_decide_eq_false d1
    have e2 : k < 0 := of_decide_eq_true d2
    go_wp2
    go_ret
    exact ⟨rfl, C1⟩
  · have e1 : ¬ i < 0 := of_decide_eq_false d1
    have e2 : ¬ k < 0 := of_decide_eq_false d2
    have e3 : 16520 ≤ i := of_decide_eq_true d3
    go_wp2
    go_ret
    exact ⟨rfl, C1⟩
  · have e1 : ¬ i < 0 := of_decide_eq_false d1
    have e2 : ¬ k < 0 := of_decide_eq_false d2
    have e3 : ¬ 16520 ≤ i := of_decide_eq_false d3
    have e4 : 16520 ≤ k := of_decide_eq_true d4
    go_wp2
    go_ret
    exact ⟨rfl, C1⟩
/-- InodeGrows answers true. -/
theorem law_grows (i k : Int) (w : World) (hT : Tab w) :
    Calls Tryd.prog 5 #[.int .i64 i, .int .i64 k] w fun r w' => r = .returned (.bool true) ∧ Chg (fun _ => False) w w' := by
  by_cases h : inPl i ∧ inPl k
  · obtain ⟨hi, hk⟩ := h
    by_cases he : i = k
    · subst he
      exact law_grows_same i w hT hi
    · by_cases hL : plL i = plL k
      · by_cases hA : plA i = plA k
        · by_cases hB : plB i = plB k
          · exact absurd (pl_inj i k hi hk ⟨hL, hA, hB⟩) he
          · by_cases hc : i < k
            · exact law_grows_ltB i k w hT hi hk hc hL hA hB
            · exact law_grows_gtB i k w hT hi hk (by omega) hL hA hB
        · by_cases hc : i < k
          · exact law_grows_ltA i k w hT hi hk hc hL hA
          · exact law_grows_gtA i k w hT hi hk (by omega) hL hA
      · by_cases hc : i < k
        · exact law_grows_ltL i k w hT hi hk hc hL
        · exact law_grows_gtL i k w hT hi hk (by omega) hL
  · exact law_grows_out i k w hT h
end Go.Proofs.YtcclpfcgodckgaaDoor

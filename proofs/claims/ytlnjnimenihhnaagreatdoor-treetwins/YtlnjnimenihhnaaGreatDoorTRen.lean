/-
  rename: contracts.
-/
import Derived.Test.YtlnjnimenihhnaaGreatDoorTRep
namespace Go.Proofs.YtlnjnimenihhnaaGreatDoor
open Go.RowKit Go.Maps

set_option maxHeartbeats 3200000 in
set_option maxRecDepth 100000 in
theorem ren1 (a b : ByteArray) (t : Nat) (F : Pth → Option Nd) (A : Pth → Nat) (O : Nat → Option (Pth × Nat)) (bl ino : Int) (K : Nat) (w : World) (h : Tr w t F A O bl ino K) (hs : a.size ≤ 3000) (_hs2 : b.size ≤ 3000) (n : Int) (hE : spE a = n) (hn : n = 5 ∨ n = 12) :
    Calls Tryz.prog 22 #[ptr t, .string a, .string b] w fun e w' => e = .returned (.int .i64 n) ∧ Below w.heap.size w w' := by
  have HT : Hid (Tr w t F A O bl ino K) := h
  clear h
  have hq0 : decide (n = 0) = false := by rcases hn with rfl | rfl <;> rfl
  have hq2 : ¬ n = 0 := by rcases hn with rfl | rfl <;> decide
  have hsp := split_any a w hs
  rw [hE] at hsp
  go_enter Tryz.func22, Tryz.ntmps22
  go_wp2_with fail
  refine hsp.mono ?_
  rintro e w1 ⟨v1, rfl, hv1, B1⟩
  have H1 : Hid (Below w.heap.size w w1 ∧ Tx w1 v1 (spN a)) := ⟨B1, hv1⟩
  obtain ⟨a1, k1, rfl⟩ := hv1.form
  clear hsp hv1 B1 hE
  go_wp2_with fail
  go_ret
  exact ⟨rfl, H1.out.1⟩
set_option maxHeartbeats 3200000 in
set_option maxRecDepth 100000 in
theorem ren2 (a b : ByteArray) (t : Nat) (F : Pth → Option Nd) (A : Pth → Nat) (O : Nat → Option (Pth × Nat)) (bl ino : Int) (K : Nat) (w : World) (h : Tr w t F A O bl ino K) (hs : a.size ≤ 3000) (hs2 : b.size ≤ 3000) (n : Int) (hE : spE a = 0) (hE2 : spE b = n) (hn : n = 5 ∨ n = 12) :
    Calls Tryz.prog 22 #[ptr t, .string a, .string b] w fun e w' => e = .returned (.int .i64 n) ∧ Below w.heap.size w w' := by
  have HT : Hid (Tr w t F A O bl ino K) := h
  clear h
  have hq0 : decide (n = 0) = false := by rcases hn with rfl | rfl <;> rfl
  have hq2 : ¬ n = 0 := by rcases hn with rfl | rfl <;> decide
  have hsp := split_any a w hs
  rw [hE] at hsp
  go_enter Tryz.func22, Tryz.ntmps22
  go_wp2_with fail
  refine hsp.mono ?_
  rintro e w1 ⟨v1, rfl, hv1, B1⟩
  have H1 : Hid (Below w.heap.size w w1 ∧ Tx w1 v1 (spN a)) := ⟨B1, hv1⟩
  obtain ⟨a1, k1, rfl⟩ := hv1.form
  clear hsp hv1 B1 hE
  go_wp2_with fail
  have hsp := split_any b w1 hs2
  rw [hE2] at hsp
  refine hsp.mono ?_
  rintro e w2 ⟨v2, rfl, hv2, B2⟩
  have H2 : Hid (Below w.heap.size w w2 ∧ Tx w2 (.slice a1 (spN a).length k1) (spN a) ∧ Tx w2 v2 (spN b)) := ⟨H1.out.1.trans (B2.mono H1.out.1.size), H1.out.2.below B2, hv2⟩
  obtain ⟨a2, k2, rfl⟩ := hv2.form
  clear hsp hv2 B2 hE2 H1
  go_wp2_with fail
  go_ret
  exact ⟨rfl, H2.out.1⟩
set_option maxHeartbeats 3200000 in
set_option maxRecDepth 100000 in
theorem ren3 (a b : ByteArray) (t : Nat) (F : Pth → Option Nd) (A : Pth → Nat) (O : Nat → Option (Pth × Nat)) (bl ino : Int) (K : Nat) (w : World) (h : Tr w t F A O bl ino K) (hs : a.size ≤ 3000) (hs2 : b.size ≤ 3000) (hE : spE a = 0) (hE2 : spE b = 0) (o1 : Option Addr) (x1 : ByteArray) (q1 : Option Addr) (n : Int) (hn : ¬ n = 0) (HFa : ∀ wb v, Tr wb t F A O bl ino K → Tx wb v (spN a) → Calls Tryz.prog 48 #[ptr t, v] wb fun e w' => e = .returned (.tuple #[.agg #[.pointer o1, .string x1, .pointer q1], .int .i64 n]) ∧ Below wb.heap.size wb w') :
    Calls Tryz.prog 22 #[ptr t, .string a, .string b] w fun e w' => e = .returned (.int .i64 n) ∧ Below w.heap.size w w' := by
  have HT : Hid (Tr w t F A O bl ino K) := h
  clear h
  have hq0 : decide (n = 0) = false := by simpa using hn
  have hsp := split_any a w hs
  rw [hE] at hsp
  go_enter Tryz.func22, Tryz.ntmps22
  go_wp2_with fail
  refine hsp.mono ?_
  rintro e w1 ⟨v1, rfl, hv1, B1⟩
  have H1 : Hid (Below w.heap.size w w1 ∧ Tx w1 v1 (spN a)) := ⟨B1, hv1⟩
  obtain ⟨a1, k1, rfl⟩ := hv1.form
  clear hsp hv1 B1 hE
  go_wp2_with fail
  have hsp := split_any b w1 hs2
  rw [hE2] at hsp
  refine hsp.mono ?_
  rintro e w2 ⟨v2, rfl, hv2, B2⟩
  have H2 : Hid (Below w.heap.size w w2 ∧ Tx w2 (.slice a1 (spN a).length k1) (spN a) ∧ Tx w2 v2 (spN b)) := ⟨H1.out.1.trans (B2.mono H1.out.1.size), H1.out.2.below B2, hv2⟩
  obtain ⟨a2, k2, rfl⟩ := hv2.form
  clear hsp hv2 B2 hE2 H1
  go_wp2_with fail
  refine (HFa w2 _ (HT.out.below H2.out.1) H2.out.2.1).mono ?_
  clear HFa
  rintro e w3 ⟨rfl, B3⟩
  have H3 : Hid (Below w.heap.size w w3 ∧ Tx w3 (.slice a2 (spN b).length k2) (spN b)) := ⟨H2.out.1.trans (B3.mono H2.out.1.size), H2.out.2.2.below B3⟩
  clear H2 B3
  go_wp2_with fail
  go_ret
  exact ⟨rfl, H3.out.1.trans ((below_alloc _ _).mono H3.out.1.size)⟩
set_option maxHeartbeats 3200000 in
set_option maxRecDepth 100000 in
theorem ren4 (a b : ByteArray) (t : Nat) (F : Pth → Option Nd) (A : Pth → Nat) (O : Nat → Option (Pth × Nat)) (bl ino : Int) (K : Nat) (w : World) (h : Tr w t F A O bl ino K) (hs : a.size ≤ 3000) (hs2 : b.size ≤ 3000) (hE : spE a = 0) (hE2 : spE b = 0) (o1 : Option Addr) (x1 : ByteArray) (HFa : ∀ wb v, Tr wb t F A O bl ino K → Tx wb v (spN a) → Calls Tryz.prog 48 #[ptr t, v] wb fun e w' => e = .returned (.tuple #[.agg #[.pointer o1, .string x1, .pointer none], .int .i64 0]) ∧ Below wb.heap.size wb w') :
    Calls Tryz.prog 22 #[ptr t, .string a, .string b] w fun e w' => e = .returned (.int .i64 8) ∧ Below w.heap.size w w' := by
  have HT : Hid (Tr w t F A O bl ino K) := h
  clear h
  have hsp := split_any a w hs
  rw [hE] at hsp
  go_enter Tryz.func22, Tryz.ntmps22
  go_wp2_with fail
  refine hsp.mono ?_
  rintro e w1 ⟨v1, rfl, hv1, B1⟩
  have H1 : Hid (Below w.heap.size w w1 ∧ Tx w1 v1 (spN a)) := ⟨B1, hv1⟩
  obtain ⟨a1, k1, rfl⟩ := hv1.form
  clear hsp hv1 B1 hE
  go_wp2_with fail
  have hsp := split_any b w1 hs2
  rw [hE2] at hsp
  refine hsp.mono ?_
  rintro e w2 ⟨v2, rfl, hv2, B2⟩
  have H2 : Hid (Below w.heap.size w w2 ∧ Tx w2 (.slice a1 (spN a).length k1) (spN a) ∧ Tx w2 v2 (spN b)) := ⟨H1.out.1.trans (B2.mono H1.out.1.size), H1.out.2.below B2, hv2⟩
  obtain ⟨a2, k2, rfl⟩ := hv2.form
  clear hsp hv2 B2 hE2 H1
  go_wp2_with fail
  refine (HFa w2 _ (HT.out.below H2.out.1) H2.out.2.1).mono ?_
  clear HFa
  rintro e w3 ⟨rfl, B3⟩
  have H3 : Hid (Below w.heap.size w w3 ∧ Tx w3 (.slice a2 (spN b).length k2) (spN b)) := ⟨H2.out.1.trans (B3.mono H2.out.1.size), H2.out.2.2.below B3⟩
  clear H2 B3
  go_wp2_with fail
  go_ret
  exact ⟨rfl, H3.out.1.trans ((below_alloc _ _).mono H3.out.1.size)⟩
set_option maxHeartbeats 3200000 in
set_option maxRecDepth 100000 in
theorem ren5 (a b : ByteArray) (t : Nat) (F : Pth → Option Nd) (A : Pth → Nat) (O : Nat → Option (Pth × Nat)) (bl ino : Int) (K : Nat) (w : World) (h : Tr w t F A O bl ino K) (hs : a.size ≤ 3000) (hs2 : b.size ≤ 3000) (hE : spE a = 0) (hE2 : spE b = 0) (o1 : Option Addr) (x1 : ByteArray) (q : Nat) (HFa : ∀ wb v, Tr wb t F A O bl ino K → Tx wb v (spN a) → Calls Tryz.prog 48 #[ptr t, v] wb fun e w' => e = .returned (.tuple #[.agg #[.pointer o1, .string x1, .pointer (some ⟨q, 0, none⟩)], .int .i64 0]) ∧ Below wb.heap.size wb w') (hl : (spN a).length = 0) :
    Calls Tryz.prog 22 #[ptr t, .string a, .string b] w fun e w' => e = .returned (.int .i64 13) ∧ Below w.heap.size w w' := by
  have HT : Hid (Tr w t F A O bl ino K) := h
  clear h
  have hsp := split_any a w hs
  rw [hE] at hsp
  go_enter Tryz.func22, Tryz.ntmps22
  go_wp2_with fail
  refine hsp.mono ?_
  rintro e w1 ⟨v1, rfl, hv1, B1⟩
  have H1 : Hid (Below w.heap.size w w1 ∧ Tx w1 v1 (spN a)) := ⟨B1, hv1⟩
  obtain ⟨a1, k1, rfl⟩ := hv1.form
  rw [hl] at H1 ⊢
  clear hl
  clear hsp hv1 B1 hE
  go_wp2_with fail
  have hsp := split_any b w1 hs2
  rw [hE2] at hsp
  refine hsp.mono ?_
  rintro e w2 ⟨v2, rfl, hv2, B2⟩
  have H2 : Hid (Below w.heap.size w w2 ∧ Tx w2 (.slice a1 0 k1) (spN a) ∧ Tx w2 v2 (spN b)) := ⟨H1.out.1.trans (B2.mono H1.out.1.size), H1.out.2.below B2, hv2⟩
  obtain ⟨a2, k2, rfl⟩ := hv2.form
  clear hsp hv2 B2 hE2 H1
  go_wp2_with fail
  refine (HFa w2 _ (HT.out.below H2.out.1) H2.out.2.1).mono ?_
  clear HFa
  rintro e w3 ⟨rfl, B3⟩
  have H3 : Hid (Below w.heap.size w w3 ∧ Tx w3 (.slice a2 (spN b).length k2) (spN b)) := ⟨H2.out.1.trans (B3.mono H2.out.1.size), H2.out.2.2.below B3⟩
  clear H2 B3
  go_wp2_with fail
  go_ret
  exact ⟨rfl, H3.out.1.trans ((below_alloc _ _).mono H3.out.1.size)⟩
set_option maxHeartbeats 3200000 in
set_option maxRecDepth 100000 in
theorem ren5b (a b : ByteArray) (t : Nat) (F : Pth → Option Nd) (A : Pth → Nat) (O : Nat → Option (Pth × Nat)) (bl ino : Int) (K : Nat) (w : World) (h : Tr w t F A O bl ino K) (hs : a.size ≤ 3000) (hs2 : b.size ≤ 3000) (hE : spE a = 0) (hE2 : spE b = 0) (o1 : Option Addr) (x1 : ByteArray) (q : Nat) (HFa : ∀ wb v, Tr wb t F A O bl ino K → Tx wb v (spN a) → Calls Tryz.prog 48 #[ptr t, v] wb fun e w' => e = .returned (.tuple #[.agg #[.pointer o1, .string x1, .pointer (some ⟨q, 0, none⟩)], .int .i64 0]) ∧ Below wb.heap.size wb w') (hl : ¬ (spN a).length = 0) (hl2 : (spN b).length = 0) :
    Calls Tryz.prog 22 #[ptr t, .string a, .string b] w fun e w' => e = .returned (.int .i64 13) ∧ Below w.heap.size w w' := by
  have HT : Hid (Tr w t F A O bl ino K) := h
  clear h
  have hla : (((spN a).length : Int) == 0) = false := by simp only [beq_eq_false_iff_ne, ne_eq]; omega
  clear hl
  have hsp := split_any a w hs
  rw [hE] at hsp
  go_enter Tryz.func22, Tryz.ntmps22
  go_wp2_with fail
  refine hsp.mono ?_
  rintro e w1 ⟨v1, rfl, hv1, B1⟩
  have H1 : Hid (Below w.heap.size w w1 ∧ Tx w1 v1 (spN a)) := ⟨B1, hv1⟩
  obtain ⟨a1, k1, rfl⟩ := hv1.form
  clear hsp hv1 B1 hE
  go_wp2_with fail
  have hsp := split_any b w1 hs2
  rw [hE2] at hsp
  refine hsp.mono ?_
  rintro e w2 ⟨v2, rfl, hv2, B2⟩
  have H2 : Hid (Below w.heap.size w w2 ∧ Tx w2 (.slice a1 (spN a).length k1) (spN a) ∧ Tx w2 v2 (spN b)) := ⟨H1.out.1.trans (B2.mono H1.out.1.size), H1.out.2.below B2, hv2⟩
  obtain ⟨a2, k2, rfl⟩ := hv2.form
  rw [hl2] at H2 ⊢
  clear hl2
  clear hsp hv2 B2 hE2 H1
  go_wp2_with fail
  refine (HFa w2 _ (HT.out.below H2.out.1) H2.out.2.1).mono ?_
  clear HFa
  rintro e w3 ⟨rfl, B3⟩
  have H3 : Hid (Below w.heap.size w w3 ∧ Tx w3 (.slice a2 0 k2) (spN b)) := ⟨H2.out.1.trans (B3.mono H2.out.1.size), H2.out.2.2.below B3⟩
  clear H2 B3
  go_wp2_with fail
  go_ret
  exact ⟨rfl, H3.out.1.trans ((below_alloc _ _).mono H3.out.1.size)⟩
set_option maxHeartbeats 3200000 in
set_option maxRecDepth 100000 in
theorem ren6 (a b : ByteArray) (t : Nat) (F : Pth → Option Nd) (A : Pth → Nat) (O : Nat → Option (Pth × Nat)) (bl ino : Int) (K : Nat) (w : World) (h : Tr w t F A O bl ino K) (hs : a.size ≤ 3000) (hs2 : b.size ≤ 3000) (hE : spE a = 0) (hE2 : spE b = 0) (o1 : Option Addr) (x1 : ByteArray) (q : Nat) (HFa : ∀ wb v, Tr wb t F A O bl ino K → Tx wb v (spN a) → Calls Tryz.prog 48 #[ptr t, v] wb fun e w' => e = .returned (.tuple #[.agg #[.pointer o1, .string x1, .pointer (some ⟨q, 0, none⟩)], .int .i64 0]) ∧ Below wb.heap.size wb w') (hl : ¬ (spN a).length = 0) (hl2 : ¬ (spN b).length = 0) (o2 : Option Addr) (x2 : ByteArray) (q2 : Option Addr) (n : Int) (hn : ¬ n = 0) (HFb : ∀ wb v, Tr wb t F A O bl ino K → Tx wb v (spN b) → Calls Tryz.prog 48 #[ptr t, v] wb fun e w' => e = .returned (.tuple #[.agg #[.pointer o2, .string x2, .pointer q2], .int .i64 n]) ∧ Below wb.heap.size wb w') :
    Calls Tryz.prog 22 #[ptr t, .string a, .string b] w fun e w' => e = .returned (.int .i64 n) ∧ Below w.heap.size w w' := by
  have HT : Hid (Tr w t F A O bl ino K) := h
  clear h
  have hla : (((spN a).length : Int) == 0) = false := by simp only [beq_eq_false_iff_ne, ne_eq]; omega
  clear hl
  have hlc : (((spN b).length : Int) == 0) = false := by simp only [beq_eq_false_iff_ne, ne_eq]; omega
  clear hl2
  have hq0 : decide (n = 0) = false := by simpa using hn
  have hsp := split_any a w hs
  rw [hE] at hsp
  go_enter Tryz.func22, Tryz.ntmps22
  go_wp2_with fail
  refine hsp.mono ?_
  rintro e w1 ⟨v1, rfl, hv1, B1⟩
  have H1 : Hid (Below w.heap.size w w1 ∧ Tx w1 v1 (spN a)) := ⟨B1, hv1⟩
  obtain ⟨a1, k1, rfl⟩ := hv1.form
  clear hsp hv1 B1 hE
  go_wp2_with fail
  have hsp := split_any b w1 hs2
  rw [hE2] at hsp
  refine hsp.mono ?_
  rintro e w2 ⟨v2, rfl, hv2, B2⟩
  have H2 : Hid (Below w.heap.size w w2 ∧ Tx w2 (.slice a1 (spN a).length k1) (spN a) ∧ Tx w2 v2 (spN b)) := ⟨H1.out.1.trans (B2.mono H1.out.1.size), H1.out.2.below B2, hv2⟩
  obtain ⟨a2, k2, rfl⟩ := hv2.form
  clear hsp hv2 B2 hE2 H1
  go_wp2_with fail
  refine (HFa w2 _ (HT.out.below H2.out.1) H2.out.2.1).mono ?_
  clear HFa
  rintro e w3 ⟨rfl, B3⟩
  have H3 : Hid (Below w.heap.size w w3 ∧ Tx w3 (.slice a2 (spN b).length k2) (spN b)) := ⟨H2.out.1.trans (B3.mono H2.out.1.size), H2.out.2.2.below B3⟩
  clear H2 B3
  go_wp2_with fail
  have B3 := below_alloc w3 (spO (.pointer o1) (.string x1) (.pointer (some ⟨q, 0, none⟩)))
  have S3 := Sp.alloc w3 (.pointer o1) (.string x1) (.pointer (some ⟨q, 0, none⟩))
  have B3' := H3.out.1.trans (B3.mono H3.out.1.size)
  have hC := HFb (w3.alloc (spO (.pointer o1) (.string x1) (.pointer (some ⟨q, 0, none⟩)))) _ (HT.out.below B3') (H3.out.2.below B3)
  refine hC.mono ?_
  clear HFb hC
  rintro e w4 ⟨rfl, B4⟩
  have S4 := S3.kept (Chg.ofBelowC B4) (fun h => h)
  have hz3 : w.heap.size ≤ w3.heap.size := H3.out.1.size
  have H4 : Hid (Below w.heap.size w w4 ∧ Sp w4 w3.heap.size (.pointer o1) (.string x1) (.pointer (some ⟨q, 0, none⟩))) := ⟨B3'.trans (B4.mono B3'.size), S4⟩
  clear H3 B3 B3' S3 B4 S4
  go_wp2_with fail
  go_ret
  exact ⟨rfl, H4.out.1.trans ((below_alloc _ _).mono H4.out.1.size)⟩
set_option maxHeartbeats 3200000 in
set_option maxRecDepth 100000 in
theorem ren7 (a b : ByteArray) (t : Nat) (F : Pth → Option Nd) (A : Pth → Nat) (O : Nat → Option (Pth × Nat)) (bl ino : Int) (K : Nat) (w : World) (h : Tr w t F A O bl ino K) (hs : a.size ≤ 3000) (hs2 : b.size ≤ 3000) (hE : spE a = 0) (hE2 : spE b = 0) (o1 : Option Addr) (x1 : ByteArray) (q : Nat) (HFa : ∀ wb v, Tr wb t F A O bl ino K → Tx wb v (spN a) → Calls Tryz.prog 48 #[ptr t, v] wb fun e w' => e = .returned (.tuple #[.agg #[.pointer o1, .string x1, .pointer (some ⟨q, 0, none⟩)], .int .i64 0]) ∧ Below wb.heap.size wb w') (hl : ¬ (spN a).length = 0) (hl2 : ¬ (spN b).length = 0) (o2 : Option Addr) (x2 : ByteArray) (HFb : ∀ wb v, Tr wb t F A O bl ino K → Tx wb v (spN b) → Calls Tryz.prog 48 #[ptr t, v] wb fun e w' => e = .returned (.tuple #[.agg #[.pointer o2, .string x2, .pointer (some ⟨q, 0, none⟩)], .int .i64 0]) ∧ Below wb.heap.size wb w') (HQ : ∀ wb, Below w.heap.size w wb → (binOp .eql 57 (.pointer (some ⟨q, 0, none⟩)) (.pointer (some ⟨q, 0, none⟩))).run Tryz.prog wb = .ok (.bool true) wb) :
    Calls Tryz.prog 22 #[ptr t, .string a, .string b] w fun e w' => e = .returned (.int .i64 0) ∧ Below w.heap.size w w' := by
  have HT : Hid (Tr w t F A O bl ino K) := h
  clear h
  have hla : (((spN a).length : Int) == 0) = false := by simp only [beq_eq_false_iff_ne, ne_eq]; omega
  clear hl
  have hlc : (((spN b).length : Int) == 0) = false := by simp only [beq_eq_false_iff_ne, ne_eq]; omega
  clear hl2
  have hsp := split_any a w hs
  rw [hE] at hsp
  go_enter Tryz.func22, Tryz.ntmps22
  go_wp2_with fail
  refine hsp.mono ?_
  rintro e w1 ⟨v1, rfl, hv1, B1⟩
  have H1 : Hid (Below w.heap.size w w1 ∧ Tx w1 v1 (spN a)) := ⟨B1, hv1⟩
  obtain ⟨a1, k1, rfl⟩ := hv1.form
  clear hsp hv1 B1 hE
  go_wp2_with fail
  have hsp := split_any b w1 hs2
  rw [hE2] at hsp
  refine hsp.mono ?_
  rintro e w2 ⟨v2, rfl, hv2, B2⟩
  have H2 : Hid (Below w.heap.size w w2 ∧ Tx w2 (.slice a1 (spN a).length k1) (spN a) ∧ Tx w2 v2 (spN b)) := ⟨H1.out.1.trans (B2.mono H1.out.1.size), H1.out.2.below B2, hv2⟩
  obtain ⟨a2, k2, rfl⟩ := hv2.form
  clear hsp hv2 B2 hE2 H1
  go_wp2_with fail
  refine (HFa w2 _ (HT.out.below H2.out.1) H2.out.2.1).mono ?_
  clear HFa
  rintro e w3 ⟨rfl, B3⟩
  have H3 : Hid (Below w.heap.size w w3 ∧ Tx w3 (.slice a2 (spN b).length k2) (spN b)) := ⟨H2.out.1.trans (B3.mono H2.out.1.size), H2.out.2.2.below B3⟩
  clear H2 B3
  go_wp2_with fail
  have B3 := below_alloc w3 (spO (.pointer o1) (.string x1) (.pointer (some ⟨q, 0, none⟩)))
  have S3 := Sp.alloc w3 (.pointer o1) (.string x1) (.pointer (some ⟨q, 0, none⟩))
  have B3' := H3.out.1.trans (B3.mono H3.out.1.size)
  have hC := HFb (w3.alloc (spO (.pointer o1) (.string x1) (.pointer (some ⟨q, 0, none⟩)))) _ (HT.out.below B3') (H3.out.2.below B3)
  refine hC.mono ?_
  clear HFb hC
  rintro e w4 ⟨rfl, B4⟩
  have S4 := S3.kept (Chg.ofBelowC B4) (fun h => h)
  have hz3 : w.heap.size ≤ w3.heap.size := H3.out.1.size
  have H4 : Hid (Below w.heap.size w w4 ∧ Sp w4 w3.heap.size (.pointer o1) (.string x1) (.pointer (some ⟨q, 0, none⟩))) := ⟨B3'.trans (B4.mono B3'.size), S4⟩
  clear H3 B3 B3' S3 B4 S4
  have B5 := below_alloc w4 (spO (.pointer o2) (.string x2) (.pointer (some ⟨q, 0, none⟩)))
  have S5 := Sp.alloc w4 (.pointer o2) (.string x2) (.pointer (some ⟨q, 0, none⟩))
  have R5 := H4.out.2.kept (Chg.ofBelowC B5) (fun h => h)
  have B5' := H4.out.1.trans (B5.mono H4.out.1.size)
  have hq := HQ _ B5'
  obtain ⟨r0, r1, r2⟩ := R5.c
  have H5 : Hid (Below w.heap.size w (w4.alloc (spO (.pointer o2) (.string x2) (.pointer (some ⟨q, 0, none⟩)))) ∧ Sp (w4.alloc (spO (.pointer o2) (.string x2) (.pointer (some ⟨q, 0, none⟩)))) w3.heap.size (.pointer o1) (.string x1) (.pointer (some ⟨q, 0, none⟩)) ∧ Sp (w4.alloc (spO (.pointer o2) (.string x2) (.pointer (some ⟨q, 0, none⟩)))) w4.heap.size (.pointer o2) (.string x2) (.pointer (some ⟨q, 0, none⟩))) := ⟨B5', R5, S5⟩
  clear B5 S5 R5 B5' H4 HQ
  go_wp2_with fail
  go_ret
  exact ⟨rfl, H5.out.1⟩
set_option maxHeartbeats 3200000 in
set_option maxRecDepth 100000 in
theorem ren8N (a b : ByteArray) (t : Nat) (F : Pth → Option Nd) (A : Pth → Nat) (O : Nat → Option (Pth × Nat)) (bl ino : Int) (K : Nat) (w : World) (h : Tr w t F A O bl ino K) (hs : a.size ≤ 3000) (hs2 : b.size ≤ 3000) (hE : spE a = 0) (hE2 : spE b = 0) (o1 : Option Addr) (x1 : ByteArray) (q : Nat) (HFa : ∀ wb v, Tr wb t F A O bl ino K → Tx wb v (spN a) → Calls Tryz.prog 48 #[ptr t, v] wb fun e w' => e = .returned (.tuple #[.agg #[.pointer o1, .string x1, .pointer (some ⟨q, 0, none⟩)], .int .i64 0]) ∧ Below wb.heap.size wb w') (hl : ¬ (spN a).length = 0) (hl2 : ¬ (spN b).length = 0) (o2 : Option Addr) (x2 : ByteArray) (HFb : ∀ wb v, Tr wb t F A O bl ino K → Tx wb v (spN b) → Calls Tryz.prog 48 #[ptr t, v] wb fun e w' => e = .returned (.tuple #[.agg #[.pointer o2, .string x2, .pointer none], .int .i64 0]) ∧ Below wb.heap.size wb w') (HQ : ∀ wb, Below w.heap.size w wb → (binOp .eql 57 (.pointer none) (.pointer (some ⟨q, 0, none⟩))).run Tryz.prog wb = .ok (.bool false) wb) (hU : unB a b = true) :
    Calls Tryz.prog 22 #[ptr t, .string a, .string b] w fun e w' => e = .returned (.int .i64 13) ∧ Below w.heap.size w w' := by
  have HT : Hid (Tr w t F A O bl ino K) := h
  clear h
  have hla : (((spN a).length : Int) == 0) = false := by simp only [beq_eq_false_iff_ne, ne_eq]; omega
  clear hl
  have hlc : (((spN b).length : Int) == 0) = false := by simp only [beq_eq_false_iff_ne, ne_eq]; omega
  clear hl2
  have hsp := split_any a w hs
  rw [hE] at hsp
  go_enter Tryz.func22, Tryz.ntmps22
  go_wp2_with fail
  refine hsp.mono ?_
  rintro e w1 ⟨v1, rfl, hv1, B1⟩
  have H1 : Hid (Below w.heap.size w w1 ∧ Tx w1 v1 (spN a)) := ⟨B1, hv1⟩
  obtain ⟨a1, k1, rfl⟩ := hv1.form
  clear hsp hv1 B1 hE
  go_wp2_with fail
  have hsp := split_any b w1 hs2
  rw [hE2] at hsp
  refine hsp.mono ?_
  rintro e w2 ⟨v2, rfl, hv2, B2⟩
  have H2 : Hid (Below w.heap.size w w2 ∧ Tx w2 (.slice a1 (spN a).length k1) (spN a) ∧ Tx w2 v2 (spN b)) := ⟨H1.out.1.trans (B2.mono H1.out.1.size), H1.out.2.below B2, hv2⟩
  obtain ⟨a2, k2, rfl⟩ := hv2.form
  clear hsp hv2 B2 hE2 H1
  go_wp2_with fail
  refine (HFa w2 _ (HT.out.below H2.out.1) H2.out.2.1).mono ?_
  clear HFa
  rintro e w3 ⟨rfl, B3⟩
  have H3 : Hid (Below w.heap.size w w3 ∧ Tx w3 (.slice a2 (spN b).length k2) (spN b)) := ⟨H2.out.1.trans (B3.mono H2.out.1.size), H2.out.2.2.below B3⟩
  clear H2 B3
  go_wp2_with fail
  have B3 := below_alloc w3 (spO (.pointer o1) (.string x1) (.pointer (some ⟨q, 0, none⟩)))
  have S3 := Sp.alloc w3 (.pointer o1) (.string x1) (.pointer (some ⟨q, 0, none⟩))
  have B3' := H3.out.1.trans (B3.mono H3.out.1.size)
  have hC := HFb (w3.alloc (spO (.pointer o1) (.string x1) (.pointer (some ⟨q, 0, none⟩)))) _ (HT.out.below B3') (H3.out.2.below B3)
  refine hC.mono ?_
  clear HFb hC
  rintro e w4 ⟨rfl, B4⟩
  have S4 := S3.kept (Chg.ofBelowC B4) (fun h => h)
  have hz3 : w.heap.size ≤ w3.heap.size := H3.out.1.size
  have H4 : Hid (Below w.heap.size w w4 ∧ Sp w4 w3.heap.size (.pointer o1) (.string x1) (.pointer (some ⟨q, 0, none⟩))) := ⟨B3'.trans (B4.mono B3'.size), S4⟩
  clear H3 B3 B3' S3 B4 S4
  have B5 := below_alloc w4 (spO (.pointer o2) (.string x2) (.pointer none))
  have S5 := Sp.alloc w4 (.pointer o2) (.string x2) (.pointer none)
  have R5 := H4.out.2.kept (Chg.ofBelowC B5) (fun h => h)
  have B5' := H4.out.1.trans (B5.mono H4.out.1.size)
  have hq := HQ _ B5'
  obtain ⟨r0, r1, r2⟩ := R5.c
  have H5 : Hid (Below w.heap.size w (w4.alloc (spO (.pointer o2) (.string x2) (.pointer none))) ∧ Sp (w4.alloc (spO (.pointer o2) (.string x2) (.pointer none))) w3.heap.size (.pointer o1) (.string x1) (.pointer (some ⟨q, 0, none⟩)) ∧ Sp (w4.alloc (spO (.pointer o2) (.string x2) (.pointer none))) w4.heap.size (.pointer o2) (.string x2) (.pointer none)) := ⟨B5', R5, S5⟩
  clear B5 S5 R5 B5' H4 HQ
  go_wp2_with fail
  have hu := under_any a b (w4.alloc (spO (.pointer o2) (.string x2) (.pointer none))) hs hs2
  rw [hU] at hu
  refine hu.mono ?_
  rintro e w6 ⟨rfl, B6⟩
  have H6 : Hid (Below w.heap.size w w6 ∧ Sp w6 w3.heap.size (.pointer o1) (.string x1) (.pointer (some ⟨q, 0, none⟩)) ∧ Sp w6 w4.heap.size (.pointer o2) (.string x2) (.pointer none)) := ⟨H5.out.1.trans (B6.mono H5.out.1.size), H5.out.2.1.kept (Chg.ofBelowC B6) (fun h => h), H5.out.2.2.kept (Chg.ofBelowC B6) (fun h => h)⟩
  obtain ⟨d0, d1, d2⟩ := H6.out.2.1.c
  obtain ⟨e0, e1, e2⟩ := H6.out.2.2.c
  clear hu B6 H5 hU r0 r1 r2 hq
  go_wp2_with fail
  go_ret
  exact ⟨rfl, H6.out.1⟩
set_option maxHeartbeats 3200000 in
set_option maxRecDepth 100000 in
theorem ren9N (a b : ByteArray) (t : Nat) (F : Pth → Option Nd) (A : Pth → Nat) (O : Nat → Option (Pth × Nat)) (bl ino : Int) (K : Nat) (w : World) (h : Tr w t F A O bl ino K) (hs : a.size ≤ 3000) (hs2 : b.size ≤ 3000) (hE : spE a = 0) (hE2 : spE b = 0) (o1 : Option Addr) (x1 : ByteArray) (q : Nat) (HFa : ∀ wb v, Tr wb t F A O bl ino K → Tx wb v (spN a) → Calls Tryz.prog 48 #[ptr t, v] wb fun e w' => e = .returned (.tuple #[.agg #[.pointer o1, .string x1, .pointer (some ⟨q, 0, none⟩)], .int .i64 0]) ∧ Below wb.heap.size wb w') (hl : ¬ (spN a).length = 0) (hl2 : ¬ (spN b).length = 0) (o2 : Option Addr) (x2 : ByteArray) (HFb : ∀ wb v, Tr wb t F A O bl ino K → Tx wb v (spN b) → Calls Tryz.prog 48 #[ptr t, v] wb fun e w' => e = .returned (.tuple #[.agg #[.pointer o2, .string x2, .pointer none], .int .i64 0]) ∧ Below wb.heap.size wb w') (HQ : ∀ wb, Below w.heap.size w wb → (binOp .eql 57 (.pointer none) (.pointer (some ⟨q, 0, none⟩))).run Tryz.prog wb = .ok (.bool false) wb) (hU : unB a b = false) (c : Int) (P : World → Prop) (HM : ∀ wb, Below w.heap.size w wb → Calls Tryz.prog 51 #[ptr t, .agg #[.pointer o1, .string x1, .pointer (some ⟨q, 0, none⟩)], .agg #[.pointer o2, .string x2, .pointer none]] wb fun e w' => e = .returned (.int .i64 c) ∧ P w') :
    Calls Tryz.prog 22 #[ptr t, .string a, .string b] w fun e w' => e = .returned (.int .i64 c) ∧ P w' := by
  have HT : Hid (Tr w t F A O bl ino K) := h
  clear h
  have hla : (((spN a).length : Int) == 0) = false := by simp only [beq_eq_false_iff_ne, ne_eq]; omega
  clear hl
  have hlc : (((spN b).length : Int) == 0) = false := by simp only [beq_eq_false_iff_ne, ne_eq]; omega
  clear hl2
  have hsp := split_any a w hs
  rw [hE] at hsp
  go_enter Tryz.func22, Tryz.ntmps22
  go_wp2_with fail
  refine hsp.mono ?_
  rintro e w1 ⟨v1, rfl, hv1, B1⟩
  have H1 : Hid (Below w.heap.size w w1 ∧ Tx w1 v1 (spN a)) := ⟨B1, hv1⟩
  obtain ⟨a1, k1, rfl⟩ := hv1.form
  clear hsp hv1 B1 hE
  go_wp2_with fail
  have hsp := split_any b w1 hs2
  rw [hE2] at hsp
  refine hsp.mono ?_
  rintro e w2 ⟨v2, rfl, hv2, B2⟩
  have H2 : Hid (Below w.heap.size w w2 ∧ Tx w2 (.slice a1 (spN a).length k1) (spN a) ∧ Tx w2 v2 (spN b)) := ⟨H1.out.1.trans (B2.mono H1.out.1.size), H1.out.2.below B2, hv2⟩
  obtain ⟨a2, k2, rfl⟩ := hv2.form
  clear hsp hv2 B2 hE2 H1
  go_wp2_with fail
  refine (HFa w2 _ (HT.out.below H2.out.1) H2.out.2.1).mono ?_
  clear HFa
  rintro e w3 ⟨rfl, B3⟩
  have H3 : Hid (Below w.heap.size w w3 ∧ Tx w3 (.slice a2 (spN b).length k2) (spN b)) := ⟨H2.out.1.trans (B3.mono H2.out.1.size), H2.out.2.2.below B3⟩
  clear H2 B3
  go_wp2_with fail
  have B3 := below_alloc w3 (spO (.pointer o1) (.string x1) (.pointer (some ⟨q, 0, none⟩)))
  have S3 := Sp.alloc w3 (.pointer o1) (.string x1) (.pointer (some ⟨q, 0, none⟩))
  have B3' := H3.out.1.trans (B3.mono H3.out.1.size)
  have hC := HFb (w3.alloc (spO (.pointer o1) (.string x1) (.pointer (some ⟨q, 0, none⟩)))) _ (HT.out.below B3') (H3.out.2.below B3)
  refine hC.mono ?_
  clear HFb hC
  rintro e w4 ⟨rfl, B4⟩
  have S4 := S3.kept (Chg.ofBelowC B4) (fun h => h)
  have hz3 : w.heap.size ≤ w3.heap.size := H3.out.1.size
  have H4 : Hid (Below w.heap.size w w4 ∧ Sp w4 w3.heap.size (.pointer o1) (.string x1) (.pointer (some ⟨q, 0, none⟩))) := ⟨B3'.trans (B4.mono B3'.size), S4⟩
  clear H3 B3 B3' S3 B4 S4
  have B5 := below_alloc w4 (spO (.pointer o2) (.string x2) (.pointer none))
  have S5 := Sp.alloc w4 (.pointer o2) (.string x2) (.pointer none)
  have R5 := H4.out.2.kept (Chg.ofBelowC B5) (fun h => h)
  have B5' := H4.out.1.trans (B5.mono H4.out.1.size)
  have hq := HQ _ B5'
  obtain ⟨r0, r1, r2⟩ := R5.c
  have H5 : Hid (Below w.heap.size w (w4.alloc (spO (.pointer o2) (.string x2) (.pointer none))) ∧ Sp (w4.alloc (spO (.pointer o2) (.string x2) (.pointer none))) w3.heap.size (.pointer o1) (.string x1) (.pointer (some ⟨q, 0, none⟩)) ∧ Sp (w4.alloc (spO (.pointer o2) (.string x2) (.pointer none))) w4.heap.size (.pointer o2) (.string x2) (.pointer none)) := ⟨B5', R5, S5⟩
  clear B5 S5 R5 B5' H4 HQ
  go_wp2_with fail
  have hu := under_any a b (w4.alloc (spO (.pointer o2) (.string x2) (.pointer none))) hs hs2
  rw [hU] at hu
  refine hu.mono ?_
  rintro e w6 ⟨rfl, B6⟩
  have H6 : Hid (Below w.heap.size w w6 ∧ Sp w6 w3.heap.size (.pointer o1) (.string x1) (.pointer (some ⟨q, 0, none⟩)) ∧ Sp w6 w4.heap.size (.pointer o2) (.string x2) (.pointer none)) := ⟨H5.out.1.trans (B6.mono H5.out.1.size), H5.out.2.1.kept (Chg.ofBelowC B6) (fun h => h), H5.out.2.2.kept (Chg.ofBelowC B6) (fun h => h)⟩
  obtain ⟨d0, d1, d2⟩ := H6.out.2.1.c
  obtain ⟨e0, e1, e2⟩ := H6.out.2.2.c
  clear hu B6 H5 hU r0 r1 r2 hq
  go_wp2_with fail
  refine (HM w6 H6.out.1).mono ?_
  rintro e w7 ⟨rfl, hP⟩
  have HP : Hid (P w7) := hP
  clear HM hP H6 d0 d1 d2 e0 e1 e2
  go_wp2_with fail
  go_ret
  exact ⟨rfl, HP.out⟩
set_option maxHeartbeats 3200000 in
set_option maxRecDepth 100000 in
theorem ren8S (a b : ByteArray) (t : Nat) (F : Pth → Option Nd) (A : Pth → Nat) (O : Nat → Option (Pth × Nat)) (bl ino : Int) (K : Nat) (w : World) (h : Tr w t F A O bl ino K) (hs : a.size ≤ 3000) (hs2 : b.size ≤ 3000) (hE : spE a = 0) (hE2 : spE b = 0) (o1 : Option Addr) (x1 : ByteArray) (q : Nat) (HFa : ∀ wb v, Tr wb t F A O bl ino K → Tx wb v (spN a) → Calls Tryz.prog 48 #[ptr t, v] wb fun e w' => e = .returned (.tuple #[.agg #[.pointer o1, .string x1, .pointer (some ⟨q, 0, none⟩)], .int .i64 0]) ∧ Below wb.heap.size wb w') (hl : ¬ (spN a).length = 0) (hl2 : ¬ (spN b).length = 0) (o2 : Option Addr) (x2 : ByteArray) (q3 : Nat) (HFb : ∀ wb v, Tr wb t F A O bl ino K → Tx wb v (spN b) → Calls Tryz.prog 48 #[ptr t, v] wb fun e w' => e = .returned (.tuple #[.agg #[.pointer o2, .string x2, .pointer (some ⟨q3, 0, none⟩)], .int .i64 0]) ∧ Below wb.heap.size wb w') (HQ : ∀ wb, Below w.heap.size w wb → (binOp .eql 57 (.pointer (some ⟨q3, 0, none⟩)) (.pointer (some ⟨q, 0, none⟩))).run Tryz.prog wb = .ok (.bool false) wb) (hU : unB a b = true) :
    Calls Tryz.prog 22 #[ptr t, .string a, .string b] w fun e w' => e = .returned (.int .i64 13) ∧ Below w.heap.size w w' := by
  have HT : Hid (Tr w t F A O bl ino K) := h
  clear h
  have hla : (((spN a).length : Int) == 0) = false := by simp only [beq_eq_false_iff_ne, ne_eq]; omega
  clear hl
  have hlc : (((spN b).length : Int) == 0) = false := by simp only [beq_eq_false_iff_ne, ne_eq]; omega
  clear hl2
  have hsp := split_any a w hs
  rw [hE] at hsp
  go_enter Tryz.func22, Tryz.ntmps22
  go_wp2_with fail
  refine hsp.mono ?_
  rintro e w1 ⟨v1, rfl, hv1, B1⟩
  have H1 : Hid (Below w.heap.size w w1 ∧ Tx w1 v1 (spN a)) := ⟨B1, hv1⟩
  obtain ⟨a1, k1, rfl⟩ := hv1.form
  clear hsp hv1 B1 hE
  go_wp2_with fail
  have hsp := split_any b w1 hs2
  rw [hE2] at hsp
  refine hsp.mono ?_
  rintro e w2 ⟨v2, rfl, hv2, B2⟩
  have H2 : Hid (Below w.heap.size w w2 ∧ Tx w2 (.slice a1 (spN a).length k1) (spN a) ∧ Tx w2 v2 (spN b)) := ⟨H1.out.1.trans (B2.mono H1.out.1.size), H1.out.2.below B2, hv2⟩
  obtain ⟨a2, k2, rfl⟩ := hv2.form
  clear hsp hv2 B2 hE2 H1
  go_wp2_with fail
  refine (HFa w2 _ (HT.out.below H2.out.1) H2.out.2.1).mono ?_
  clear HFa
  rintro e w3 ⟨rfl, B3⟩
  have H3 : Hid (Below w.heap.size w w3 ∧ Tx w3 (.slice a2 (spN b).length k2) (spN b)) := ⟨H2.out.1.trans (B3.mono H2.out.1.size), H2.out.2.2.below B3⟩
  clear H2 B3
  go_wp2_with fail
  have B3 := below_alloc w3 (spO (.pointer o1) (.string x1) (.pointer (some ⟨q, 0, none⟩)))
  have S3 := Sp.alloc w3 (.pointer o1) (.string x1) (.pointer (some ⟨q, 0, none⟩))
  have B3' := H3.out.1.trans (B3.mono H3.out.1.size)
  have hC := HFb (w3.alloc (spO (.pointer o1) (.string x1) (.pointer (some ⟨q, 0, none⟩)))) _ (HT.out.below B3') (H3.out.2.below B3)
  refine hC.mono ?_
  clear HFb hC
  rintro e w4 ⟨rfl, B4⟩
  have S4 := S3.kept (Chg.ofBelowC B4) (fun h => h)
  have hz3 : w.heap.size ≤ w3.heap.size := H3.out.1.size
  have H4 : Hid (Below w.heap.size w w4 ∧ Sp w4 w3.heap.size (.pointer o1) (.string x1) (.pointer (some ⟨q, 0, none⟩))) := ⟨B3'.trans (B4.mono B3'.size), S4⟩
  clear H3 B3 B3' S3 B4 S4
  have B5 := below_alloc w4 (spO (.pointer o2) (.string x2) (.pointer (some ⟨q3, 0, none⟩)))
  have S5 := Sp.alloc w4 (.pointer o2) (.string x2) (.pointer (some ⟨q3, 0, none⟩))
  have R5 := H4.out.2.kept (Chg.ofBelowC B5) (fun h => h)
  have B5' := H4.out.1.trans (B5.mono H4.out.1.size)
  have hq := HQ _ B5'
  obtain ⟨r0, r1, r2⟩ := R5.c
  have H5 : Hid (Below w.heap.size w (w4.alloc (spO (.pointer o2) (.string x2) (.pointer (some ⟨q3, 0, none⟩)))) ∧ Sp (w4.alloc (spO (.pointer o2) (.string x2) (.pointer (some ⟨q3, 0, none⟩)))) w3.heap.size (.pointer o1) (.string x1) (.pointer (some ⟨q, 0, none⟩)) ∧ Sp (w4.alloc (spO (.pointer o2) (.string x2) (.pointer (some ⟨q3, 0, none⟩)))) w4.heap.size (.pointer o2) (.string x2) (.pointer (some ⟨q3, 0, none⟩))) := ⟨B5', R5, S5⟩
  clear B5 S5 R5 B5' H4 HQ
  go_wp2_with fail
  have hu := under_any a b (w4.alloc (spO (.pointer o2) (.string x2) (.pointer (some ⟨q3, 0, none⟩)))) hs hs2
  rw [hU] at hu
  refine hu.mono ?_
  rintro e w6 ⟨rfl, B6⟩
  have H6 : Hid (Below w.heap.size w w6 ∧ Sp w6 w3.heap.size (.pointer o1) (.string x1) (.pointer (some ⟨q, 0, none⟩)) ∧ Sp w6 w4.heap.size (.pointer o2) (.string x2) (.pointer (some ⟨q3, 0, none⟩))) := ⟨H5.out.1.trans (B6.mono H5.out.1.size), H5.out.2.1.kept (Chg.ofBelowC B6) (fun h => h), H5.out.2.2.kept (Chg.ofBelowC B6) (fun h => h)⟩
  obtain ⟨d0, d1, d2⟩ := H6.out.2.1.c
  obtain ⟨e0, e1, e2⟩ := H6.out.2.2.c
  clear hu B6 H5 hU r0 r1 r2 hq
  go_wp2_with fail
  go_ret
  exact ⟨rfl, H6.out.1⟩
set_option maxHeartbeats 3200000 in
set_option maxRecDepth 100000 in
theorem ren9S (a b : ByteArray) (t : Nat) (F : Pth → Option Nd) (A : Pth → Nat) (O : Nat → Option (Pth × Nat)) (bl ino : Int) (K : Nat) (w : World) (h : Tr w t F A O bl ino K) (hs : a.size ≤ 3000) (hs2 : b.size ≤ 3000) (hE : spE a = 0) (hE2 : spE b = 0) (o1 : Option Addr) (x1 : ByteArray) (q : Nat) (HFa : ∀ wb v, Tr wb t F A O bl ino K → Tx wb v (spN a) → Calls Tryz.prog 48 #[ptr t, v] wb fun e w' => e = .returned (.tuple #[.agg #[.pointer o1, .string x1, .pointer (some ⟨q, 0, none⟩)], .int .i64 0]) ∧ Below wb.heap.size wb w') (hl : ¬ (spN a).length = 0) (hl2 : ¬ (spN b).length = 0) (o2 : Option Addr) (x2 : ByteArray) (q3 : Nat) (HFb : ∀ wb v, Tr wb t F A O bl ino K → Tx wb v (spN b) → Calls Tryz.prog 48 #[ptr t, v] wb fun e w' => e = .returned (.tuple #[.agg #[.pointer o2, .string x2, .pointer (some ⟨q3, 0, none⟩)], .int .i64 0]) ∧ Below wb.heap.size wb w') (HQ : ∀ wb, Below w.heap.size w wb → (binOp .eql 57 (.pointer (some ⟨q3, 0, none⟩)) (.pointer (some ⟨q, 0, none⟩))).run Tryz.prog wb = .ok (.bool false) wb) (hU : unB a b = false) (c : Int) (P : World → Prop) (HM : ∀ wb, Below w.heap.size w wb → Calls Tryz.prog 50 #[ptr t, .agg #[.pointer o1, .string x1, .pointer (some ⟨q, 0, none⟩)], .agg #[.pointer o2, .string x2, .pointer (some ⟨q3, 0, none⟩)]] wb fun e w' => e = .returned (.int .i64 c) ∧ P w') :
    Calls Tryz.prog 22 #[ptr t, .string a, .string b] w fun e w' => e = .returned (.int .i64 c) ∧ P w' := by
  have HT : Hid (Tr w t F A O bl ino K) := h
  clear h
  have hla : (((spN a).length : Int) == 0) = false := by simp only [beq_eq_false_iff_ne, ne_eq]; omega
  clear hl
  have hlc : (((spN b).length : Int) == 0) = false := by simp only [beq_eq_false_iff_ne, ne_eq]; omega
  clear hl2
  have hsp := split_any a w hs
  rw [hE] at hsp
  go_enter Tryz.func22, Tryz.ntmps22
  go_wp2_with fail
  refine hsp.mono ?_
  rintro e w1 ⟨v1, rfl, hv1, B1⟩
  have H1 : Hid (Below w.heap.size w w1 ∧ Tx w1 v1 (spN a)) := ⟨B1, hv1⟩
  obtain ⟨a1, k1, rfl⟩ := hv1.form
  clear hsp hv1 B1 hE
  go_wp2_with fail
  have hsp := split_any b w1 hs2
  rw [hE2] at hsp
  refine hsp.mono ?_
  rintro e w2 ⟨v2, rfl, hv2, B2⟩
  have H2 : Hid (Below w.heap.size w w2 ∧ Tx w2 (.slice a1 (spN a).length k1) (spN a) ∧ Tx w2 v2 (spN b)) := ⟨H1.out.1.trans (B2.mono H1.out.1.size), H1.out.2.below B2, hv2⟩
  obtain ⟨a2, k2, rfl⟩ := hv2.form
  clear hsp hv2 B2 hE2 H1
  go_wp2_with fail
  refine (HFa w2 _ (HT.out.below H2.out.1) H2.out.2.1).mono ?_
  clear HFa
  rintro e w3 ⟨rfl, B3⟩
  have H3 : Hid (Below w.heap.size w w3 ∧ Tx w3 (.slice a2 (spN b).length k2) (spN b)) := ⟨H2.out.1.trans (B3.mono H2.out.1.size), H2.out.2.2.below B3⟩
  clear H2 B3
  go_wp2_with fail
  have B3 := below_alloc w3 (spO (.pointer o1) (.string x1) (.pointer (some ⟨q, 0, none⟩)))
  have S3 := Sp.alloc w3 (.pointer o1) (.string x1) (.pointer (some ⟨q, 0, none⟩))
  have B3' := H3.out.1.trans (B3.mono H3.out.1.size)
  have hC := HFb (w3.alloc (spO (.pointer o1) (.string x1) (.pointer (some ⟨q, 0, none⟩)))) _ (HT.out.below B3') (H3.out.2.below B3)
  refine hC.mono ?_
  clear HFb hC
  rintro e w4 ⟨rfl, B4⟩
  have S4 := S3.kept (Chg.ofBelowC B4) (fun h => h)
  have hz3 : w.heap.size ≤ w3.heap.size := H3.out.1.size
  have H4 : Hid (Below w.heap.size w w4 ∧ Sp w4 w3.heap.size (.pointer o1) (.string x1) (.pointer (some ⟨q, 0, none⟩))) := ⟨B3'.trans (B4.mono B3'.size), S4⟩
  clear H3 B3 B3' S3 B4 S4
  have B5 := below_alloc w4 (spO (.pointer o2) (.string x2) (.pointer (some ⟨q3, 0, none⟩)))
  have S5 := Sp.alloc w4 (.pointer o2) (.string x2) (.pointer (some ⟨q3, 0, none⟩))
  have R5 := H4.out.2.kept (Chg.ofBelowC B5) (fun h => h)
  have B5' := H4.out.1.trans (B5.mono H4.out.1.size)
  have hq := HQ _ B5'
  obtain ⟨r0, r1, r2⟩ := R5.c
  have H5 : Hid (Below w.heap.size w (w4.alloc (spO (.pointer o2) (.string x2) (.pointer (some ⟨q3, 0, none⟩)))) ∧ Sp (w4.alloc (spO (.pointer o2) (.string x2) (.pointer (some ⟨q3, 0, none⟩)))) w3.heap.size (.pointer o1) (.string x1) (.pointer (some ⟨q, 0, none⟩)) ∧ Sp (w4.alloc (spO (.pointer o2) (.string x2) (.pointer (some ⟨q3, 0, none⟩)))) w4.heap.size (.pointer o2) (.string x2) (.pointer (some ⟨q3, 0, none⟩))) := ⟨B5', R5, S5⟩
  clear B5 S5 R5 B5' H4 HQ
  go_wp2_with fail
  have hu := under_any a b (w4.alloc (spO (.pointer o2) (.string x2) (.pointer (some ⟨q3, 0, none⟩)))) hs hs2
  rw [hU] at hu
  refine hu.mono ?_
  rintro e w6 ⟨rfl, B6⟩
  have H6 : Hid (Below w.heap.size w w6 ∧ Sp w6 w3.heap.size (.pointer o1) (.string x1) (.pointer (some ⟨q, 0, none⟩)) ∧ Sp w6 w4.heap.size (.pointer o2) (.string x2) (.pointer (some ⟨q3, 0, none⟩))) := ⟨H5.out.1.trans (B6.mono H5.out.1.size), H5.out.2.1.kept (Chg.ofBelowC B6) (fun h => h), H5.out.2.2.kept (Chg.ofBelowC B6) (fun h => h)⟩
  obtain ⟨d0, d1, d2⟩ := H6.out.2.1.c
  obtain ⟨e0, e1, e2⟩ := H6.out.2.2.c
  clear hu B6 H5 hU r0 r1 r2 hq
  go_wp2_with fail
  refine (HM w6 H6.out.1).mono ?_
  rintro e w7 ⟨rfl, hP⟩
  have HP : Hid (P w7) := hP
  clear HM hP H6 d0 d1 d2 e0 e1 e2
  go_wp2_with fail
  go_ret
  exact ⟨rfl, HP.out⟩
end Go.Proofs.YtlnjnimenihhnaaGreatDoor

/-
  Do: contracts.
-/
import Derived.Test.YtlnjnimenihhnaaGreatDoorTOp2
namespace Go.Proofs.YtlnjnimenihhnaaGreatDoor
open Go.RowKit Go.Maps

abbrev opO (k : Int) (p q : ByteArray) (dv : Value) (n : Int) : Obj := .cells #[.int .i64 k, .string p, .string q, dv, .int .i64 n] 35
set_option maxHeartbeats 3200000 in
set_option maxRecDepth 100000 in
theorem d_arg0 (t : Nat) (k : Int) (p q : ByteArray) (sa : Option Addr) (sl sc : Nat) (n : Int) (w : World) (hk : k < 1) :
    Calls Tryz.prog 9 #[ptr t, .agg #[.int .i64 k, .string p, .string q, .slice sa sl sc, .int .i64 n]] w fun e w' => e = .returned (.int .i64 1) ∧ Below w.heap.size w w' := by
  go_enter Tryz.func9, Tryz.ntmps9
  go_wp2_with fail
  go_ret
  exact ⟨rfl, below_alloc _ _⟩
set_option maxHeartbeats 3200000 in
set_option maxRecDepth 100000 in
theorem d_arg7 (t : Nat) (k : Int) (p q : ByteArray) (sa : Option Addr) (sl sc : Nat) (n : Int) (w : World) (hk : 7 < k) :
    Calls Tryz.prog 9 #[ptr t, .agg #[.int .i64 k, .string p, .string q, .slice sa sl sc, .int .i64 n]] w fun e w' => e = .returned (.int .i64 1) ∧ Below w.heap.size w w' := by
  have hk1 : ¬ k < 1 := by omega
  go_enter Tryz.func9, Tryz.ntmps9
  go_wp2_with fail
  go_ret
  exact ⟨rfl, below_alloc _ _⟩
set_option maxHeartbeats 3200000 in
set_option maxRecDepth 100000 in
theorem d_ren (t : Nat) (p q : ByteArray) (sa : Option Addr) (sl sc : Nat) (n : Int) (w : World) (c : Int) (P : World → Prop) (HM : ∀ wb, Below w.heap.size w wb → Calls Tryz.prog 22 #[ptr t, .string p, .string q] wb fun e w' => e = .returned (.int .i64 c) ∧ P w') :
    Calls Tryz.prog 9 #[ptr t, .agg #[.int .i64 7, .string p, .string q, .slice sa sl sc, .int .i64 n]] w fun e w' => e = .returned (.int .i64 c) ∧ P w' := by
  go_enter Tryz.func9, Tryz.ntmps9
  go_wp2_with fail
  refine (HM _ (below_alloc _ _)).mono ?_
  rintro e w1 ⟨rfl, hP⟩
  have HP : Hid (P w1) := hP
  clear HM hP
  go_wp2_with fail
  go_ret
  exact ⟨rfl, HP.out⟩
set_option maxHeartbeats 3200000 in
set_option maxRecDepth 100000 in
theorem d_bad1 (t : Nat) (p q : ByteArray) (sa : Option Addr) (sl sc : Nat) (n : Int) (w : World) (o0 : Option Addr) (x1 : ByteArray) (o2 : Option Addr) (c : Int) (hc : ¬ c = 0) (HF : ∀ wb, Below w.heap.size w wb → Calls Tryz.prog 23 #[ptr t, .string p] wb fun e w' => e = .returned (.tuple #[.agg #[.pointer o0, .string x1, .pointer o2], .int .i64 c]) ∧ Below wb.heap.size wb w') :
    Calls Tryz.prog 9 #[ptr t, .agg #[.int .i64 1, .string p, .string q, .slice sa sl sc, .int .i64 n]] w fun e w' => e = .returned (.int .i64 c) ∧ Below w.heap.size w w' := by
  have hc1 : decide (c = 0) = false := by simpa using hc
  have hc2 : (c == 0) = false := by simpa using hc
  have A0 := below_alloc w (opO 1 p q (.slice sa sl sc) n)
  have hb := heap_alloc_new w (opO 1 p q (.slice sa sl sc) n)
  go_enter Tryz.func9, Tryz.ntmps9
  go_wp2_with fail
  refine (HF _ A0).mono ?_
  clear HF
  rintro e w1 ⟨rfl, B1⟩
  have hb1 := ((Chg.ofBelowC B1).block w.heap.size (by simp) (fun h => h)).trans hb
  have B1' := A0.trans (B1.mono A0.size)
  have hlt : w.heap.size < w1.heap.size := by have := B1.size; simp at this; omega
  have B2 := below_alloc w1 (spO (.pointer o0) (.string x1) (.pointer o2))
  have S2 := Sp.alloc w1 (.pointer o0) (.string x1) (.pointer o2)
  have hb2 := ((Chg.ofBelowC B2).block w.heap.size hlt (fun h => h)).trans hb1
  have c0 : (w1.alloc (spO (.pointer o0) (.string x1) (.pointer o2))).cell? ⟨w.heap.size, 0, none⟩ = some (.int .i64 1) := by rw [cell_of_row _ _ _ _ _ _ hb2]; rfl
  have c3 : (w1.alloc (spO (.pointer o0) (.string x1) (.pointer o2))).cell? ⟨w.heap.size, 3, none⟩ = some (.slice sa sl sc) := by rw [cell_of_row _ _ _ _ _ _ hb2]; rfl
  have c4 : (w1.alloc (spO (.pointer o0) (.string x1) (.pointer o2))).cell? ⟨w.heap.size, 4, none⟩ = some (.int .i64 n) := by rw [cell_of_row _ _ _ _ _ _ hb2]; rfl
  have HB : Hid (Below w.heap.size w (w1.alloc (spO (.pointer o0) (.string x1) (.pointer o2)))) := B1'.trans (B2.mono B1'.size)
  clear A0 hb B1 hb1 B1' B2 hb2
  go_wp2_with fail
  go_ret
  exact ⟨rfl, HB.out⟩
set_option maxHeartbeats 3200000 in
set_option maxRecDepth 100000 in
theorem d_bad2 (t : Nat) (p q : ByteArray) (sa : Option Addr) (sl sc : Nat) (n : Int) (w : World) (o0 : Option Addr) (x1 : ByteArray) (o2 : Option Addr) (c : Int) (hc : ¬ c = 0) (HF : ∀ wb, Below w.heap.size w wb → Calls Tryz.prog 23 #[ptr t, .string p] wb fun e w' => e = .returned (.tuple #[.agg #[.pointer o0, .string x1, .pointer o2], .int .i64 c]) ∧ Below wb.heap.size wb w') :
    Calls Tryz.prog 9 #[ptr t, .agg #[.int .i64 2, .string p, .string q, .slice sa sl sc, .int .i64 n]] w fun e w' => e = .returned (.int .i64 c) ∧ Below w.heap.size w w' := by
  have hc1 : decide (c = 0) = false := by simpa using hc
  have hc2 : (c == 0) = false := by simpa using hc
  have A0 := below_alloc w (opO 2 p q (.slice sa sl sc) n)
  have hb := heap_alloc_new w (opO 2 p q (.slice sa sl sc) n)
  go_enter Tryz.func9, Tryz.ntmps9
  go_wp2_with fail
  refine (HF _ A0).mono ?_
  clear HF
  rintro e w1 ⟨rfl, B1⟩
  have hb1 := ((Chg.ofBelowC B1).block w.heap.size (by simp) (fun h => h)).trans hb
  have B1' := A0.trans (B1.mono A0.size)
  have hlt : w.heap.size < w1.heap.size := by have := B1.size; simp at this; omega
  have B2 := below_alloc w1 (spO (.pointer o0) (.string x1) (.pointer o2))
  have S2 := Sp.alloc w1 (.pointer o0) (.string x1) (.pointer o2)
  have hb2 := ((Chg.ofBelowC B2).block w.heap.size hlt (fun h => h)).trans hb1
  have c0 : (w1.alloc (spO (.pointer o0) (.string x1) (.pointer o2))).cell? ⟨w.heap.size, 0, none⟩ = some (.int .i64 2) := by rw [cell_of_row _ _ _ _ _ _ hb2]; rfl
  have c3 : (w1.alloc (spO (.pointer o0) (.string x1) (.pointer o2))).cell? ⟨w.heap.size, 3, none⟩ = some (.slice sa sl sc) := by rw [cell_of_row _ _ _ _ _ _ hb2]; rfl
  have c4 : (w1.alloc (spO (.pointer o0) (.string x1) (.pointer o2))).cell? ⟨w.heap.size, 4, none⟩ = some (.int .i64 n) := by rw [cell_of_row _ _ _ _ _ _ hb2]; rfl
  have HB : Hid (Below w.heap.size w (w1.alloc (spO (.pointer o0) (.string x1) (.pointer o2)))) := B1'.trans (B2.mono B1'.size)
  clear A0 hb B1 hb1 B1' B2 hb2
  go_wp2_with fail
  go_ret
  exact ⟨rfl, HB.out⟩
set_option maxHeartbeats 3200000 in
set_option maxRecDepth 100000 in
theorem d_bad3 (t : Nat) (p q : ByteArray) (sa : Option Addr) (sl sc : Nat) (n : Int) (w : World) (o0 : Option Addr) (x1 : ByteArray) (o2 : Option Addr) (c : Int) (hc : ¬ c = 0) (HF : ∀ wb, Below w.heap.size w wb → Calls Tryz.prog 23 #[ptr t, .string p] wb fun e w' => e = .returned (.tuple #[.agg #[.pointer o0, .string x1, .pointer o2], .int .i64 c]) ∧ Below wb.heap.size wb w') :
    Calls Tryz.prog 9 #[ptr t, .agg #[.int .i64 3, .string p, .string q, .slice sa sl sc, .int .i64 n]] w fun e w' => e = .returned (.int .i64 c) ∧ Below w.heap.size w w' := by
  have hc1 : decide (c = 0) = false := by simpa using hc
  have hc2 : (c == 0) = false := by simpa using hc
  have A0 := below_alloc w (opO 3 p q (.slice sa sl sc) n)
  have hb := heap_alloc_new w (opO 3 p q (.slice sa sl sc) n)
  go_enter Tryz.func9, Tryz.ntmps9
  go_wp2_with fail
  refine (HF _ A0).mono ?_
  clear HF
  rintro e w1 ⟨rfl, B1⟩
  have hb1 := ((Chg.ofBelowC B1).block w.heap.size (by simp) (fun h => h)).trans hb
  have B1' := A0.trans (B1.mono A0.size)
  have hlt : w.heap.size < w1.heap.size := by have := B1.size; simp at this; omega
  have B2 := below_alloc w1 (spO (.pointer o0) (.string x1) (.pointer o2))
  have S2 := Sp.alloc w1 (.pointer o0) (.string x1) (.pointer o2)
  have hb2 := ((Chg.ofBelowC B2).block w.heap.size hlt (fun h => h)).trans hb1
  have c0 : (w1.alloc (spO (.pointer o0) (.string x1) (.pointer o2))).cell? ⟨w.heap.size, 0, none⟩ = some (.int .i64 3) := by rw [cell_of_row _ _ _ _ _ _ hb2]; rfl
  have c3 : (w1.alloc (spO (.pointer o0) (.string x1) (.pointer o2))).cell? ⟨w.heap.size, 3, none⟩ = some (.slice sa sl sc) := by rw [cell_of_row _ _ _ _ _ _ hb2]; rfl
  have c4 : (w1.alloc (spO (.pointer o0) (.string x1) (.pointer o2))).cell? ⟨w.heap.size, 4, none⟩ = some (.int .i64 n) := by rw [cell_of_row _ _ _ _ _ _ hb2]; rfl
  have HB : Hid (Below w.heap.size w (w1.alloc (spO (.pointer o0) (.string x1) (.pointer o2)))) := B1'.trans (B2.mono B1'.size)
  clear A0 hb B1 hb1 B1' B2 hb2
  go_wp2_with fail
  go_ret
  exact ⟨rfl, HB.out⟩
set_option maxHeartbeats 3200000 in
set_option maxRecDepth 100000 in
theorem d_bad4 (t : Nat) (p q : ByteArray) (sa : Option Addr) (sl sc : Nat) (n : Int) (w : World) (o0 : Option Addr) (x1 : ByteArray) (o2 : Option Addr) (c : Int) (hc : ¬ c = 0) (HF : ∀ wb, Below w.heap.size w wb → Calls Tryz.prog 23 #[ptr t, .string p] wb fun e w' => e = .returned (.tuple #[.agg #[.pointer o0, .string x1, .pointer o2], .int .i64 c]) ∧ Below wb.heap.size wb w') :
    Calls Tryz.prog 9 #[ptr t, .agg #[.int .i64 4, .string p, .string q, .slice sa sl sc, .int .i64 n]] w fun e w' => e = .returned (.int .i64 c) ∧ Below w.heap.size w w' := by
  have hc1 : decide (c = 0) = false := by simpa using hc
  have hc2 : (c == 0) = false := by simpa using hc
  have A0 := below_alloc w (opO 4 p q (.slice sa sl sc) n)
  have hb := heap_alloc_new w (opO 4 p q (.slice sa sl sc) n)
  go_enter Tryz.func9, Tryz.ntmps9
  go_wp2_with fail
  refine (HF _ A0).mono ?_
  clear HF
  rintro e w1 ⟨rfl, B1⟩
  have hb1 := ((Chg.ofBelowC B1).block w.heap.size (by simp) (fun h => h)).trans hb
  have B1' := A0.trans (B1.mono A0.size)
  have hlt : w.heap.size < w1.heap.size := by have := B1.size; simp at this; omega
  have B2 := below_alloc w1 (spO (.pointer o0) (.string x1) (.pointer o2))
  have S2 := Sp.alloc w1 (.pointer o0) (.string x1) (.pointer o2)
  have hb2 := ((Chg.ofBelowC B2).block w.heap.size hlt (fun h => h)).trans hb1
  have c0 : (w1.alloc (spO (.pointer o0) (.string x1) (.pointer o2))).cell? ⟨w.heap.size, 0, none⟩ = some (.int .i64 4) := by rw [cell_of_row _ _ _ _ _ _ hb2]; rfl
  have c3 : (w1.alloc (spO (.pointer o0) (.string x1) (.pointer o2))).cell? ⟨w.heap.size, 3, none⟩ = some (.slice sa sl sc) := by rw [cell_of_row _ _ _ _ _ _ hb2]; rfl
  have c4 : (w1.alloc (spO (.pointer o0) (.string x1) (.pointer o2))).cell? ⟨w.heap.size, 4, none⟩ = some (.int .i64 n) := by rw [cell_of_row _ _ _ _ _ _ hb2]; rfl
  have HB : Hid (Below w.heap.size w (w1.alloc (spO (.pointer o0) (.string x1) (.pointer o2)))) := B1'.trans (B2.mono B1'.size)
  clear A0 hb B1 hb1 B1' B2 hb2
  go_wp2_with fail
  go_ret
  exact ⟨rfl, HB.out⟩
set_option maxHeartbeats 3200000 in
set_option maxRecDepth 100000 in
theorem d_bad5 (t : Nat) (p q : ByteArray) (sa : Option Addr) (sl sc : Nat) (n : Int) (w : World) (o0 : Option Addr) (x1 : ByteArray) (o2 : Option Addr) (c : Int) (hc : ¬ c = 0) (HF : ∀ wb, Below w.heap.size w wb → Calls Tryz.prog 23 #[ptr t, .string p] wb fun e w' => e = .returned (.tuple #[.agg #[.pointer o0, .string x1, .pointer o2], .int .i64 c]) ∧ Below wb.heap.size wb w') :
    Calls Tryz.prog 9 #[ptr t, .agg #[.int .i64 5, .string p, .string q, .slice sa sl sc, .int .i64 n]] w fun e w' => e = .returned (.int .i64 c) ∧ Below w.heap.size w w' := by
  have hc1 : decide (c = 0) = false := by simpa using hc
  have hc2 : (c == 0) = false := by simpa using hc
  have A0 := below_alloc w (opO 5 p q (.slice sa sl sc) n)
  have hb := heap_alloc_new w (opO 5 p q (.slice sa sl sc) n)
  go_enter Tryz.func9, Tryz.ntmps9
  go_wp2_with fail
  refine (HF _ A0).mono ?_
  clear HF
  rintro e w1 ⟨rfl, B1⟩
  have hb1 := ((Chg.ofBelowC B1).block w.heap.size (by simp) (fun h => h)).trans hb
  have B1' := A0.trans (B1.mono A0.size)
  have hlt : w.heap.size < w1.heap.size := by have := B1.size; simp at this; omega
  have B2 := below_alloc w1 (spO (.pointer o0) (.string x1) (.pointer o2))
  have S2 := Sp.alloc w1 (.pointer o0) (.string x1) (.pointer o2)
  have hb2 := ((Chg.ofBelowC B2).block w.heap.size hlt (fun h => h)).trans hb1
  have c0 : (w1.alloc (spO (.pointer o0) (.string x1) (.pointer o2))).cell? ⟨w.heap.size, 0, none⟩ = some (.int .i64 5) := by rw [cell_of_row _ _ _ _ _ _ hb2]; rfl
  have c3 : (w1.alloc (spO (.pointer o0) (.string x1) (.pointer o2))).cell? ⟨w.heap.size, 3, none⟩ = some (.slice sa sl sc) := by rw [cell_of_row _ _ _ _ _ _ hb2]; rfl
  have c4 : (w1.alloc (spO (.pointer o0) (.string x1) (.pointer o2))).cell? ⟨w.heap.size, 4, none⟩ = some (.int .i64 n) := by rw [cell_of_row _ _ _ _ _ _ hb2]; rfl
  have HB : Hid (Below w.heap.size w (w1.alloc (spO (.pointer o0) (.string x1) (.pointer o2)))) := B1'.trans (B2.mono B1'.size)
  clear A0 hb B1 hb1 B1' B2 hb2
  go_wp2_with fail
  go_ret
  exact ⟨rfl, HB.out⟩
set_option maxHeartbeats 3200000 in
set_option maxRecDepth 100000 in
theorem d_bad6 (t : Nat) (p q : ByteArray) (sa : Option Addr) (sl sc : Nat) (n : Int) (w : World) (o0 : Option Addr) (x1 : ByteArray) (o2 : Option Addr) (c : Int) (hc : ¬ c = 0) (HF : ∀ wb, Below w.heap.size w wb → Calls Tryz.prog 23 #[ptr t, .string p] wb fun e w' => e = .returned (.tuple #[.agg #[.pointer o0, .string x1, .pointer o2], .int .i64 c]) ∧ Below wb.heap.size wb w') :
    Calls Tryz.prog 9 #[ptr t, .agg #[.int .i64 6, .string p, .string q, .slice sa sl sc, .int .i64 n]] w fun e w' => e = .returned (.int .i64 c) ∧ Below w.heap.size w w' := by
  have hc1 : decide (c = 0) = false := by simpa using hc
  have hc2 : (c == 0) = false := by simpa using hc
  have A0 := below_alloc w (opO 6 p q (.slice sa sl sc) n)
  have hb := heap_alloc_new w (opO 6 p q (.slice sa sl sc) n)
  go_enter Tryz.func9, Tryz.ntmps9
  go_wp2_with fail
  refine (HF _ A0).mono ?_
  clear HF
  rintro e w1 ⟨rfl, B1⟩
  have hb1 := ((Chg.ofBelowC B1).block w.heap.size (by simp) (fun h => h)).trans hb
  have B1' := A0.trans (B1.mono A0.size)
  have hlt : w.heap.size < w1.heap.size := by have := B1.size; simp at this; omega
  have B2 := below_alloc w1 (spO (.pointer o0) (.string x1) (.pointer o2))
  have S2 := Sp.alloc w1 (.pointer o0) (.string x1) (.pointer o2)
  have hb2 := ((Chg.ofBelowC B2).block w.heap.size hlt (fun h => h)).trans hb1
  have c0 : (w1.alloc (spO (.pointer o0) (.string x1) (.pointer o2))).cell? ⟨w.heap.size, 0, none⟩ = some (.int .i64 6) := by rw [cell_of_row _ _ _ _ _ _ hb2]; rfl
  have c3 : (w1.alloc (spO (.pointer o0) (.string x1) (.pointer o2))).cell? ⟨w.heap.size, 3, none⟩ = some (.slice sa sl sc) := by rw [cell_of_row _ _ _ _ _ _ hb2]; rfl
  have c4 : (w1.alloc (spO (.pointer o0) (.string x1) (.pointer o2))).cell? ⟨w.heap.size, 4, none⟩ = some (.int .i64 n) := by rw [cell_of_row _ _ _ _ _ _ hb2]; rfl
  have HB : Hid (Below w.heap.size w (w1.alloc (spO (.pointer o0) (.string x1) (.pointer o2)))) := B1'.trans (B2.mono B1'.size)
  clear A0 hb B1 hb1 B1' B2 hb2
  go_wp2_with fail
  go_ret
  exact ⟨rfl, HB.out⟩
set_option maxHeartbeats 3200000 in
set_option maxRecDepth 100000 in
theorem d_create (t : Nat) (p q : ByteArray) (sa : Option Addr) (sl sc : Nat) (n : Int) (w : World) (o0 : Option Addr) (x1 : ByteArray) (o2 : Option Addr) (HF : ∀ wb, Below w.heap.size w wb → Calls Tryz.prog 23 #[ptr t, .string p] wb fun e w' => e = .returned (.tuple #[.agg #[.pointer o0, .string x1, .pointer o2], .int .i64 0]) ∧ Below wb.heap.size wb w') (c : Int) (P : World → Prop) (HM : ∀ wb, Below w.heap.size w wb → Calls Tryz.prog 24 #[ptr t, .agg #[.pointer o0, .string x1, .pointer o2], ptr wb.heap.size] (wb.alloc (ndO4 true none)) fun e w' => e = .returned (.int .i64 c) ∧ P w') :
    Calls Tryz.prog 9 #[ptr t, .agg #[.int .i64 1, .string p, .string q, .slice sa sl sc, .int .i64 n]] w fun e w' => e = .returned (.int .i64 c) ∧ P w' := by
  have A0 := below_alloc w (opO 1 p q (.slice sa sl sc) n)
  have hb := heap_alloc_new w (opO 1 p q (.slice sa sl sc) n)
  go_enter Tryz.func9, Tryz.ntmps9
  go_wp2_with fail
  refine (HF _ A0).mono ?_
  clear HF
  rintro e w1 ⟨rfl, B1⟩
  have hb1 := ((Chg.ofBelowC B1).block w.heap.size (by simp) (fun h => h)).trans hb
  have B1' := A0.trans (B1.mono A0.size)
  have hlt : w.heap.size < w1.heap.size := by have := B1.size; simp at this; omega
  have B2 := below_alloc w1 (spO (.pointer o0) (.string x1) (.pointer o2))
  have S2 := Sp.alloc w1 (.pointer o0) (.string x1) (.pointer o2)
  have hb2 := ((Chg.ofBelowC B2).block w.heap.size hlt (fun h => h)).trans hb1
  have c0 : (w1.alloc (spO (.pointer o0) (.string x1) (.pointer o2))).cell? ⟨w.heap.size, 0, none⟩ = some (.int .i64 1) := by rw [cell_of_row _ _ _ _ _ _ hb2]; rfl
  have c3 : (w1.alloc (spO (.pointer o0) (.string x1) (.pointer o2))).cell? ⟨w.heap.size, 3, none⟩ = some (.slice sa sl sc) := by rw [cell_of_row _ _ _ _ _ _ hb2]; rfl
  have c4 : (w1.alloc (spO (.pointer o0) (.string x1) (.pointer o2))).cell? ⟨w.heap.size, 4, none⟩ = some (.int .i64 n) := by rw [cell_of_row _ _ _ _ _ _ hb2]; rfl
  have HB : Hid (Below w.heap.size w (w1.alloc (spO (.pointer o0) (.string x1) (.pointer o2)))) := B1'.trans (B2.mono B1'.size)
  clear A0 hb B1 hb1 B1' B2 hb2
  go_wp2_with fail
  obtain ⟨w2, hw2⟩ : ∃ w2, (w1.alloc (spO (.pointer o0) (.string x1) (.pointer o2))) = w2 := ⟨_, rfl⟩
  rw [hw2] at S2 c0 c3 c4 HB
  rw [hw2]
  clear hw2
  obtain ⟨s0, s1, s2⟩ := S2.c
  have hz : w1.heap.size < w2.heap.size := S2.lt
  have BN := HB.out.trans ((below_drew w.heap.size w2))
  have NF : Hid (Calls Tryz.prog 25 #[] w2.drew fun e w3 => ∃ b0, e = .returned (ptr b0) ∧ w3.cell? ⟨w1.heap.size, 0, none⟩ = some (.pointer o0) ∧ w3.cell? ⟨w1.heap.size, 1, none⟩ = some (.string x1) ∧ w3.cell? ⟨w1.heap.size, 2, none⟩ = some (.pointer o2) ∧ Hid (Calls Tryz.prog 24 #[ptr t, .agg #[.pointer o0, .string x1, .pointer o2], ptr b0] w3 fun e w' => e = .returned (.int .i64 c) ∧ P w')) := by
    refine (newFile_any w2.drew).mono ?_
    rintro e w3 ⟨rfl, rfl⟩
    have hw := HM w2.drew BN
    have BB : Below w2.drew.heap.size w2.drew (w2.drew.alloc (ndO4 true none)) := below_alloc _ _
    have SS := (S2.kept (Chg.drew (fun _ => False) w2) (fun h => h)).kept (Chg.ofBelowC BB) (fun h => h)
    exact ⟨_, rfl, SS.c.1, SS.c.2.1, SS.c.2.2, hw⟩
  clear HM BN S2 hz
  go_region_with (first | (go_at_call 25; refine NF.out.mono ?_; clear NF; rintro e w3 ⟨b0, rfl, d0, d1, d2, HAD⟩) | (go_at_call 24; refine HAD.out.mono ?_; clear HAD; rintro e w4 ⟨rfl, hP⟩))
  all_goals
    have HP : Hid (P w4) := hP
    clear hP
    go_wp2_with fail
    go_ret
    exact ⟨rfl, HP.out⟩
set_option maxHeartbeats 3200000 in
set_option maxRecDepth 100000 in
theorem d_mkdir (t : Nat) (p q : ByteArray) (sa : Option Addr) (sl sc : Nat) (n : Int) (w : World) (o0 : Option Addr) (x1 : ByteArray) (o2 : Option Addr) (HF : ∀ wb, Below w.heap.size w wb → Calls Tryz.prog 23 #[ptr t, .string p] wb fun e w' => e = .returned (.tuple #[.agg #[.pointer o0, .string x1, .pointer o2], .int .i64 0]) ∧ Below wb.heap.size wb w') (c : Int) (P : World → Prop) (HM : ∀ wb, Below w.heap.size w wb → Calls Tryz.prog 24 #[ptr t, .agg #[.pointer o0, .string x1, .pointer o2], ptr (wb.heap.size + 1)] ((wb.alloc (.map #[] 0)).alloc (ndO4 false (some wb.heap.size))) fun e w' => e = .returned (.int .i64 c) ∧ P w') :
    Calls Tryz.prog 9 #[ptr t, .agg #[.int .i64 2, .string p, .string q, .slice sa sl sc, .int .i64 n]] w fun e w' => e = .returned (.int .i64 c) ∧ P w' := by
  have A0 := below_alloc w (opO 2 p q (.slice sa sl sc) n)
  have hb := heap_alloc_new w (opO 2 p q (.slice sa sl sc) n)
  go_enter Tryz.func9, Tryz.ntmps9
  go_wp2_with fail
  refine (HF _ A0).mono ?_
  clear HF
  rintro e w1 ⟨rfl, B1⟩
  have hb1 := ((Chg.ofBelowC B1).block w.heap.size (by simp) (fun h => h)).trans hb
  have B1' := A0.trans (B1.mono A0.size)
  have hlt : w.heap.size < w1.heap.size := by have := B1.size; simp at this; omega
  have B2 := below_alloc w1 (spO (.pointer o0) (.string x1) (.pointer o2))
  have S2 := Sp.alloc w1 (.pointer o0) (.string x1) (.pointer o2)
  have hb2 := ((Chg.ofBelowC B2).block w.heap.size hlt (fun h => h)).trans hb1
  have c0 : (w1.alloc (spO (.pointer o0) (.string x1) (.pointer o2))).cell? ⟨w.heap.size, 0, none⟩ = some (.int .i64 2) := by rw [cell_of_row _ _ _ _ _ _ hb2]; rfl
  have c3 : (w1.alloc (spO (.pointer o0) (.string x1) (.pointer o2))).cell? ⟨w.heap.size, 3, none⟩ = some (.slice sa sl sc) := by rw [cell_of_row _ _ _ _ _ _ hb2]; rfl
  have c4 : (w1.alloc (spO (.pointer o0) (.string x1) (.pointer o2))).cell? ⟨w.heap.size, 4, none⟩ = some (.int .i64 n) := by rw [cell_of_row _ _ _ _ _ _ hb2]; rfl
  have HB : Hid (Below w.heap.size w (w1.alloc (spO (.pointer o0) (.string x1) (.pointer o2)))) := B1'.trans (B2.mono B1'.size)
  clear A0 hb B1 hb1 B1' B2 hb2
  go_wp2_with fail
  obtain ⟨w2, hw2⟩ : ∃ w2, (w1.alloc (spO (.pointer o0) (.string x1) (.pointer o2))) = w2 := ⟨_, rfl⟩
  rw [hw2] at S2 c0 c3 c4 HB
  rw [hw2]
  clear hw2
  obtain ⟨s0, s1, s2⟩ := S2.c
  have hz : w1.heap.size < w2.heap.size := S2.lt
  have BN := HB.out.trans ((below_drew w.heap.size w2))
  have NF : Hid (Calls Tryz.prog 21 #[] w2.drew fun e w3 => ∃ b0, e = .returned (ptr b0) ∧ w3.cell? ⟨w1.heap.size, 0, none⟩ = some (.pointer o0) ∧ w3.cell? ⟨w1.heap.size, 1, none⟩ = some (.string x1) ∧ w3.cell? ⟨w1.heap.size, 2, none⟩ = some (.pointer o2) ∧ Hid (Calls Tryz.prog 24 #[ptr t, .agg #[.pointer o0, .string x1, .pointer o2], ptr b0] w3 fun e w' => e = .returned (.int .i64 c) ∧ P w')) := by
    refine (newDir_any w2.drew).mono ?_
    rintro e w3 ⟨rfl, rfl⟩
    have hw := HM w2.drew BN
    have BB : Below w2.drew.heap.size w2.drew ((w2.drew.alloc (.map #[] 0)).alloc (ndO4 false (some w2.drew.heap.size))) := (below_alloc _ _).trans ((below_alloc _ _).mono (below_alloc _ _).size)
    have SS := (S2.kept (Chg.drew (fun _ => False) w2) (fun h => h)).kept (Chg.ofBelowC BB) (fun h => h)
    exact ⟨_, rfl, SS.c.1, SS.c.2.1, SS.c.2.2, hw⟩
  clear HM BN S2 hz
  go_region_with (first | (go_at_call 21; refine NF.out.mono ?_; clear NF; rintro e w3 ⟨b0, rfl, d0, d1, d2, HAD⟩) | (go_at_call 24; refine HAD.out.mono ?_; clear HAD; rintro e w4 ⟨rfl, hP⟩))
  all_goals
    have HP : Hid (P w4) := hP
    clear hP
    go_wp2_with fail
    go_ret
    exact ⟨rfl, HP.out⟩
set_option maxHeartbeats 3200000 in
set_option maxRecDepth 100000 in
theorem d_append (t : Nat) (p q : ByteArray) (sa : Option Addr) (sl sc : Nat) (n : Int) (w : World) (o0 : Option Addr) (x1 : ByteArray) (o2 : Option Addr) (HF : ∀ wb, Below w.heap.size w wb → Calls Tryz.prog 23 #[ptr t, .string p] wb fun e w' => e = .returned (.tuple #[.agg #[.pointer o0, .string x1, .pointer o2], .int .i64 0]) ∧ Below wb.heap.size wb w') (c : Int) (P : World → Prop) (HM : ∀ wb, Below w.heap.size w wb → Calls Tryz.prog 26 #[ptr t, .pointer o2, .slice sa sl sc] wb fun e w' => e = .returned (.int .i64 c) ∧ P w') :
    Calls Tryz.prog 9 #[ptr t, .agg #[.int .i64 3, .string p, .string q, .slice sa sl sc, .int .i64 n]] w fun e w' => e = .returned (.int .i64 c) ∧ P w' := by
  have A0 := below_alloc w (opO 3 p q (.slice sa sl sc) n)
  have hb := heap_alloc_new w (opO 3 p q (.slice sa sl sc) n)
  go_enter Tryz.func9, Tryz.ntmps9
  go_wp2_with fail
  refine (HF _ A0).mono ?_
  clear HF
  rintro e w1 ⟨rfl, B1⟩
  have hb1 := ((Chg.ofBelowC B1).block w.heap.size (by simp) (fun h => h)).trans hb
  have B1' := A0.trans (B1.mono A0.size)
  have hlt : w.heap.size < w1.heap.size := by have := B1.size; simp at this; omega
  have B2 := below_alloc w1 (spO (.pointer o0) (.string x1) (.pointer o2))
  have S2 := Sp.alloc w1 (.pointer o0) (.string x1) (.pointer o2)
  have hb2 := ((Chg.ofBelowC B2).block w.heap.size hlt (fun h => h)).trans hb1
  have c0 : (w1.alloc (spO (.pointer o0) (.string x1) (.pointer o2))).cell? ⟨w.heap.size, 0, none⟩ = some (.int .i64 3) := by rw [cell_of_row _ _ _ _ _ _ hb2]; rfl
  have c3 : (w1.alloc (spO (.pointer o0) (.string x1) (.pointer o2))).cell? ⟨w.heap.size, 3, none⟩ = some (.slice sa sl sc) := by rw [cell_of_row _ _ _ _ _ _ hb2]; rfl
  have c4 : (w1.alloc (spO (.pointer o0) (.string x1) (.pointer o2))).cell? ⟨w.heap.size, 4, none⟩ = some (.int .i64 n) := by rw [cell_of_row _ _ _ _ _ _ hb2]; rfl
  have HB : Hid (Below w.heap.size w (w1.alloc (spO (.pointer o0) (.string x1) (.pointer o2)))) := B1'.trans (B2.mono B1'.size)
  clear A0 hb B1 hb1 B1' B2 hb2
  go_wp2_with fail
  refine (HM _ HB.out).mono ?_
  rintro e w3 ⟨rfl, hP⟩
  have HP : Hid (P w3) := hP
  clear HM hP c0 c3 c4 HB S2
  go_wp2_with fail
  go_ret
  exact ⟨rfl, HP.out⟩
set_option maxHeartbeats 3200000 in
set_option maxRecDepth 100000 in
theorem d_cut (t : Nat) (p q : ByteArray) (sa : Option Addr) (sl sc : Nat) (n : Int) (w : World) (o0 : Option Addr) (x1 : ByteArray) (o2 : Option Addr) (HF : ∀ wb, Below w.heap.size w wb → Calls Tryz.prog 23 #[ptr t, .string p] wb fun e w' => e = .returned (.tuple #[.agg #[.pointer o0, .string x1, .pointer o2], .int .i64 0]) ∧ Below wb.heap.size wb w') (c : Int) (P : World → Prop) (HM : ∀ wb, Below w.heap.size w wb → Calls Tryz.prog 27 #[ptr t, .pointer o2, .int .i64 n] wb fun e w' => e = .returned (.int .i64 c) ∧ P w') :
    Calls Tryz.prog 9 #[ptr t, .agg #[.int .i64 4, .string p, .string q, .slice sa sl sc, .int .i64 n]] w fun e w' => e = .returned (.int .i64 c) ∧ P w' := by
  have A0 := below_alloc w (opO 4 p q (.slice sa sl sc) n)
  have hb := heap_alloc_new w (opO 4 p q (.slice sa sl sc) n)
  go_enter Tryz.func9, Tryz.ntmps9
  go_wp2_with fail
  refine (HF _ A0).mono ?_
  clear HF
  rintro e w1 ⟨rfl, B1⟩
  have hb1 := ((Chg.ofBelowC B1).block w.heap.size (by simp) (fun h => h)).trans hb
  have B1' := A0.trans (B1.mono A0.size)
  have hlt : w.heap.size < w1.heap.size := by have := B1.size; simp at this; omega
  have B2 := below_alloc w1 (spO (.pointer o0) (.string x1) (.pointer o2))
  have S2 := Sp.alloc w1 (.pointer o0) (.string x1) (.pointer o2)
  have hb2 := ((Chg.ofBelowC B2).block w.heap.size hlt (fun h => h)).trans hb1
  have c0 : (w1.alloc (spO (.pointer o0) (.string x1) (.pointer o2))).cell? ⟨w.heap.size, 0, none⟩ = some (.int .i64 4) := by rw [cell_of_row _ _ _ _ _ _ hb2]; rfl
  have c3 : (w1.alloc (spO (.pointer o0) (.string x1) (.pointer o2))).cell? ⟨w.heap.size, 3, none⟩ = some (.slice sa sl sc) := by rw [cell_of_row _ _ _ _ _ _ hb2]; rfl
  have c4 : (w1.alloc (spO (.pointer o0) (.string x1) (.pointer o2))).cell? ⟨w.heap.size, 4, none⟩ = some (.int .i64 n) := by rw [cell_of_row _ _ _ _ _ _ hb2]; rfl
  have HB : Hid (Below w.heap.size w (w1.alloc (spO (.pointer o0) (.string x1) (.pointer o2)))) := B1'.trans (B2.mono B1'.size)
  clear A0 hb B1 hb1 B1' B2 hb2
  go_wp2_with fail
  refine (HM _ HB.out).mono ?_
  rintro e w3 ⟨rfl, hP⟩
  have HP : Hid (P w3) := hP
  clear HM hP c0 c3 c4 HB S2
  go_wp2_with fail
  go_ret
  exact ⟨rfl, HP.out⟩
set_option maxHeartbeats 3200000 in
set_option maxRecDepth 100000 in
theorem d_unlink (t : Nat) (p q : ByteArray) (sa : Option Addr) (sl sc : Nat) (n : Int) (w : World) (o0 : Option Addr) (x1 : ByteArray) (o2 : Option Addr) (HF : ∀ wb, Below w.heap.size w wb → Calls Tryz.prog 23 #[ptr t, .string p] wb fun e w' => e = .returned (.tuple #[.agg #[.pointer o0, .string x1, .pointer o2], .int .i64 0]) ∧ Below wb.heap.size wb w') (c : Int) (P : World → Prop) (HM : ∀ wb, Below w.heap.size w wb → Calls Tryz.prog 28 #[ptr t, .agg #[.pointer o0, .string x1, .pointer o2]] wb fun e w' => e = .returned (.int .i64 c) ∧ P w') :
    Calls Tryz.prog 9 #[ptr t, .agg #[.int .i64 5, .string p, .string q, .slice sa sl sc, .int .i64 n]] w fun e w' => e = .returned (.int .i64 c) ∧ P w' := by
  have A0 := below_alloc w (opO 5 p q (.slice sa sl sc) n)
  have hb := heap_alloc_new w (opO 5 p q (.slice sa sl sc) n)
  go_enter Tryz.func9, Tryz.ntmps9
  go_wp2_with fail
  refine (HF _ A0).mono ?_
  clear HF
  rintro e w1 ⟨rfl, B1⟩
  have hb1 := ((Chg.ofBelowC B1).block w.heap.size (by simp) (fun h => h)).trans hb
  have B1' := A0.trans (B1.mono A0.size)
  have hlt : w.heap.size < w1.heap.size := by have := B1.size; simp at this; omega
  have B2 := below_alloc w1 (spO (.pointer o0) (.string x1) (.pointer o2))
  have S2 := Sp.alloc w1 (.pointer o0) (.string x1) (.pointer o2)
  have hb2 := ((Chg.ofBelowC B2).block w.heap.size hlt (fun h => h)).trans hb1
  have c0 : (w1.alloc (spO (.pointer o0) (.string x1) (.pointer o2))).cell? ⟨w.heap.size, 0, none⟩ = some (.int .i64 5) := by rw [cell_of_row _ _ _ _ _ _ hb2]; rfl
  have c3 : (w1.alloc (spO (.pointer o0) (.string x1) (.pointer o2))).cell? ⟨w.heap.size, 3, none⟩ = some (.slice sa sl sc) := by rw [cell_of_row _ _ _ _ _ _ hb2]; rfl
  have c4 : (w1.alloc (spO (.pointer o0) (.string x1) (.pointer o2))).cell? ⟨w.heap.size, 4, none⟩ = some (.int .i64 n) := by rw [cell_of_row _ _ _ _ _ _ hb2]; rfl
  have HB : Hid (Below w.heap.size w (w1.alloc (spO (.pointer o0) (.string x1) (.pointer o2)))) := B1'.trans (B2.mono B1'.size)
  clear A0 hb B1 hb1 B1' B2 hb2
  go_wp2_with fail
  refine (HM _ HB.out).mono ?_
  rintro e w3 ⟨rfl, hP⟩
  have HP : Hid (P w3) := hP
  clear HM hP c0 c3 c4 HB S2
  go_wp2_with fail
  go_ret
  exact ⟨rfl, HP.out⟩
set_option maxHeartbeats 3200000 in
set_option maxRecDepth 100000 in
theorem d_rmdir (t : Nat) (p q : ByteArray) (sa : Option Addr) (sl sc : Nat) (n : Int) (w : World) (o0 : Option Addr) (x1 : ByteArray) (o2 : Option Addr) (HF : ∀ wb, Below w.heap.size w wb → Calls Tryz.prog 23 #[ptr t, .string p] wb fun e w' => e = .returned (.tuple #[.agg #[.pointer o0, .string x1, .pointer o2], .int .i64 0]) ∧ Below wb.heap.size wb w') (c : Int) (P : World → Prop) (HM : ∀ wb, Below w.heap.size w wb → Calls Tryz.prog 29 #[ptr t, .agg #[.pointer o0, .string x1, .pointer o2]] wb fun e w' => e = .returned (.int .i64 c) ∧ P w') :
    Calls Tryz.prog 9 #[ptr t, .agg #[.int .i64 6, .string p, .string q, .slice sa sl sc, .int .i64 n]] w fun e w' => e = .returned (.int .i64 c) ∧ P w' := by
  have A0 := below_alloc w (opO 6 p q (.slice sa sl sc) n)
  have hb := heap_alloc_new w (opO 6 p q (.slice sa sl sc) n)
  go_enter Tryz.func9, Tryz.ntmps9
  go_wp2_with fail
  refine (HF _ A0).mono ?_
  clear HF
  rintro e w1 ⟨rfl, B1⟩
  have hb1 := ((Chg.ofBelowC B1).block w.heap.size (by simp) (fun h => h)).trans hb
  have B1' := A0.trans (B1.mono A0.size)
  have hlt : w.heap.size < w1.heap.size := by have := B1.size; simp at this; omega
  have B2 := below_alloc w1 (spO (.pointer o0) (.string x1) (.pointer o2))
  have S2 := Sp.alloc w1 (.pointer o0) (.string x1) (.pointer o2)
  have hb2 := ((Chg.ofBelowC B2).block w.heap.size hlt (fun h => h)).trans hb1
  have c0 : (w1.alloc (spO (.pointer o0) (.string x1) (.pointer o2))).cell? ⟨w.heap.size, 0, none⟩ = some (.int .i64 6) := by rw [cell_of_row _ _ _ _ _ _ hb2]; rfl
  have c3 : (w1.alloc (spO (.pointer o0) (.string x1) (.pointer o2))).cell? ⟨w.heap.size, 3, none⟩ = some (.slice sa sl sc) := by rw [cell_of_row _ _ _ _ _ _ hb2]; rfl
  have c4 : (w1.alloc (spO (.pointer o0) (.string x1) (.pointer o2))).cell? ⟨w.heap.size, 4, none⟩ = some (.int .i64 n) := by rw [cell_of_row _ _ _ _ _ _ hb2]; rfl
  have HB : Hid (Below w.heap.size w (w1.alloc (spO (.pointer o0) (.string x1) (.pointer o2)))) := B1'.trans (B2.mono B1'.size)
  clear A0 hb B1 hb1 B1' B2 hb2
  go_wp2_with fail
  refine (HM _ HB.out).mono ?_
  rintro e w3 ⟨rfl, hP⟩
  have HP : Hid (P w3) := hP
  clear HM hP c0 c3 c4 HB S2
  go_wp2_with fail
  go_ret
  exact ⟨rfl, HP.out⟩

theorem fiE_zero {F : Pth → Option Nd} {s : ByteArray} (h : fiE F s = 0) : spE s = 0 ∧ folE F (spN s) = 0 := by
  unfold fiE at h
  by_cases g : spE s = 0
  · exact ⟨g, by rwa [if_pos g] at h⟩
  · rw [if_neg g] at h; exact absurd h g
/-- Do, over a tree. -/
theorem do_any {N : Nat} {w : World} {t : Nat} {T : Ts} {A : Pth → Nat} {O : Nat → Option (Pth × Nat)} {K : Nat} (h : Tr w t T.F A O T.bl T.ino K) (hT : Tab w) (hK : K ≤ 60000) (hO0 : O 0 = none) (o : Ac) (dv : Value) (hd : Bs w dv o.d) (hB : IsB o.d) (hdt : ∀ a n c, dv = .slice (some a) n c → 0 < n → ¬ a.block = t) (hp : o.p.size ≤ 3000) (hq : o.q.size ≤ 3000) (hN : N ≤ w.heap.size) :
    Calls Tryz.prog 9 #[ptr t, .agg #[.int .i64 o.k, .string o.p, .string o.q, dv, .int .i64 o.n]] w fun e w' => e = .returned (.int .i64 (doR T o).1) ∧ TrS N w w' t O (doR T o).2 (K + 2) := by
  obtain ⟨sa, sc, rfl⟩ := hd.form'
  obtain ⟨k, p, q, d, n⟩ := o
  dsimp only at *
  have BAD : ∀ c : Int, doR T ⟨k, p, q, d, n⟩ = (c, T) → (Calls Tryz.prog 9 #[ptr t, .agg #[.int .i64 k, .string p, .string q, .slice sa d.length sc, .int .i64 n]] w fun e w' => e = .returned (.int .i64 c) ∧ Below w.heap.size w w') → Calls Tryz.prog 9 #[ptr t, .agg #[.int .i64 k, .string p, .string q, .slice sa d.length sc, .int .i64 n]] w fun e w' => e = .returned (.int .i64 (doR T ⟨k, p, q, d, n⟩).1) ∧ TrS N w w' t O (doR T ⟨k, p, q, d, n⟩).2 (K + 2) := by
    intro c e hc
    rw [e]
    refine hc.mono ?_
    rintro e w' ⟨rfl, B⟩
    exact ⟨rfl, TrTo.refl h (by omega) B⟩
  by_cases h1 : k < 1
  · exact BAD 1 (by unfold doR; exact if_pos (.inl h1)) (d_arg0 t k p q sa _ sc n w h1)
  by_cases h7 : 7 < k
  · exact BAD 1 (by unfold doR; exact if_pos (.inr h7)) (d_arg7 t k p q sa _ sc n w h7)
  have hk17 : ¬ (k < 1 ∨ 7 < k) := fun e => e.elim h1 h7
  by_cases hk7 : k = 7
  · subst hk7
    have e : doR T ⟨7, p, q, d, n⟩ = renR T p q := by unfold doR; rw [if_neg hk17]; exact if_pos rfl
    rw [e]
    refine d_ren t p q sa _ sc n w _ (fun w' => TrS N w w' t O (renR T p q).2 (K + 2)) (fun wb hb => ?_)
    refine (ren_any (N := N) (h.below hb) (tab_below hT hb) hK hO0 p q hp hq).mono ?_
    rintro e w' ⟨rfl, g⟩
    exact ⟨rfl, TrTo.before g hb⟩
  by_cases hf : fiE T.F p = 0
  case neg =>
    have e : doR T ⟨k, p, q, d, n⟩ = (fiE T.F p, T) := by unfold doR; rw [if_neg hk17, if_neg hk7]; exact if_pos hf
    refine BAD _ e ?_
    have HF : ∀ wb, Below w.heap.size w wb → Calls Tryz.prog 23 #[ptr t, .string p] wb fun e w' => e = .returned (.tuple #[.agg #[.pointer none, .string ⟨#[]⟩, .pointer none], .int .i64 (fiE T.F p)]) ∧ Below wb.heap.size wb w' := fun wb hb => find_no (h.below hb) hp rfl hf
    have hk : k = 1 ∨ k = 2 ∨ k = 3 ∨ k = 4 ∨ k = 5 ∨ k = 6 := by omega
    rcases hk with rfl | rfl | rfl | rfl | rfl | rfl
    · exact d_bad1 t p q sa _ sc n w _ _ _ _ hf HF
    · exact d_bad2 t p q sa _ sc n w _ _ _ _ hf HF
    · exact d_bad3 t p q sa _ sc n w _ _ _ _ hf HF
    · exact d_bad4 t p q sa _ sc n w _ _ _ _ hf HF
    · exact d_bad5 t p q sa _ sc n w _ _ _ _ hf HF
    · exact d_bad6 t p q sa _ sc n w _ _ _ _ hf HF
  obtain ⟨hs, hfol⟩ := fiE_zero hf
  have HF : ∀ wb, Below w.heap.size w wb → Calls Tryz.prog 23 #[ptr t, .string p] wb fun e w' => e = .returned (.tuple #[.agg #[.pointer (upO A (spN p)), .string (lastN (spN p)), .pointer (ndO T.F A (spN p))], .int .i64 0]) ∧ Below wb.heap.size wb w' := fun wb hb => find_ok (h.below hb) hp hs hfol
  have e0 : doR T ⟨k, p, q, d, n⟩ = if k = 1 then addR T (spN p) (.file []) else if k = 2 then addR T (spN p) (.dir 0 []) else if k = 3 then extR T (spN p) d
    else if k = 4 then cutR T (spN p) n else if k = 5 then unlR T (spN p) else rmdR T (spN p) := by unfold doR; rw [if_neg hk17, if_neg hk7]; exact if_neg (fun e => e hf)
  rw [e0]
  have hnm : ¬ spN p = [] → nameB (lastN (spN p)) = true := last_name hs
  have OUT : ∀ wb b, Below w.heap.size w wb → wb.heap.size ≤ b → O b = none := fun wb b hb hle => by
    cases e : O b with
    | none => rfl
    | some z => have := h.lt b z e; have := hb.size; omega
  have hk : k = 1 ∨ k = 2 ∨ k = 3 ∨ k = 4 ∨ k = 5 ∨ k = 6 := by omega
  rcases hk with rfl | rfl | rfl | rfl | rfl | rfl
  · rw [if_pos rfl]
    refine d_create t p q sa _ sc n w _ _ _ HF _ (fun w' => TrS N w w' t O (addR T (spN p) (.file [])).2 (K + 2)) (fun wb hb => ?_)
    have hb2 := hb.trans ((below_alloc wb (ndO4 true none)).mono hb.size)
    refine (add_any (h.below hb2) (tab_below hT hb2) (by omega) hfol hnm (NewN.file wb N (Nat.le_trans hN hb.size)) (fun b r hr => OUT wb b hb ?_)).mono ?_
    · have hr' : (if b = wb.heap.size then some 0 else none) = some r := hr
      by_cases e : b = wb.heap.size
      · omega
      · rw [if_neg e] at hr'; cases hr'
    · rintro e w' ⟨rfl, g⟩
      exact ⟨rfl, TrTo.before (TrTo.more g (by omega)) hb2⟩
  · rw [if_neg (by decide), if_pos rfl]
    refine d_mkdir t p q sa _ sc n w _ _ _ HF _ (fun w' => TrS N w w' t O (addR T (spN p) (.dir 0 [])).2 (K + 2)) (fun wb hb => ?_)
    have hb1 := hb.trans ((below_alloc wb (.map #[] 0)).mono hb.size)
    have hb2 := hb1.trans ((below_alloc (wb.alloc (.map #[] 0)) (ndO4 false (some wb.heap.size))).mono hb1.size)
    refine (add_any (h.below hb2) (tab_below hT hb2) (by omega) hfol hnm (NewN.dir wb N (Nat.le_trans hN hb.size)) (fun b r hr => OUT wb b hb ?_)).mono ?_
    · have hr' : (if b = wb.heap.size + 1 then some 0 else if b + 1 = wb.heap.size + 1 then some 1 else none) = some r := hr
      by_cases e : b = wb.heap.size + 1
      · omega
      · rw [if_neg e] at hr'
        by_cases e2 : b + 1 = wb.heap.size + 1
        · omega
        · rw [if_neg e2] at hr'; cases hr'
    · rintro e w' ⟨rfl, g⟩
      exact ⟨rfl, TrTo.before (TrTo.more g (by omega)) hb2⟩
  · rw [if_neg (by decide), if_neg (by decide), if_pos rfl]
    refine d_append t p q sa _ sc n w _ _ _ HF _ (fun w' => TrS N w w' t O (extR T (spN p) d).2 (K + 2)) (fun wb hb => ?_)
    refine (ext_any (N := N) (h.below hb) (by omega) (spN p) _ d (hd.kept (Chg.ofBelowC hb) (fun _ _ _ _ _ h => h)) hB hdt (Nat.le_trans hN hb.size)).mono ?_
    rintro e w' ⟨rfl, g⟩
    exact ⟨rfl, TrTo.before (TrTo.more g (by omega)) hb⟩
  · rw [if_neg (by decide), if_neg (by decide), if_neg (by decide), if_pos rfl]
    refine d_cut t p q sa _ sc n w _ _ _ HF _ (fun w' => TrS N w w' t O (cutR T (spN p) n).2 (K + 2)) (fun wb hb => ?_)
    refine (cutT_any (N := N) (h.below hb) (by omega) (spN p) n (Nat.le_trans hN hb.size)).mono ?_
    rintro e w' ⟨rfl, g⟩
    exact ⟨rfl, TrTo.before (TrTo.more g (by omega)) hb⟩
  · rw [if_neg (by decide), if_neg (by decide), if_neg (by decide), if_neg (by decide), if_pos rfl]
    refine d_unlink t p q sa _ sc n w _ _ _ HF _ (fun w' => TrS N w w' t O (unlR T (spN p)).2 (K + 2)) (fun wb hb => ?_)
    refine (unl_any (h.below hb) (tab_below hT hb) (by omega) hfol N).mono ?_
    rintro e w' ⟨rfl, g⟩
    exact ⟨rfl, TrTo.before (TrTo.more g (by omega)) hb⟩
  · rw [if_neg (by decide), if_neg (by decide), if_neg (by decide), if_neg (by decide), if_neg (by decide)]
    refine d_rmdir t p q sa _ sc n w _ _ _ HF _ (fun w' => TrS N w w' t O (rmdR T (spN p)).2 (K + 2)) (fun wb hb => ?_)
    refine (rmd_any (h.below hb) (tab_below hT hb) (by omega) hfol N).mono ?_
    rintro e w' ⟨rfl, g⟩
    exact ⟨rfl, TrTo.before (TrTo.more g (by omega)) hb⟩
end Go.Proofs.YtlnjnimenihhnaaGreatDoor

namespace Go.Proofs.YtlnjnimenihhnaaGreatDoor
open Go.RowKit Go.Maps

/-- A tree as it may be. -/
structure Gd (T : Ts) : Prop where
  rdir : ∃ s ns, T.F [] = some (.dir s ns)
  up : ∀ p nm, (T.F (p ++ [nm])).isSome = true → ∃ s ns, T.F p = some (.dir s ns) ∧ nm ∈ ns
  dn : ∀ p s ns nm, T.F p = some (.dir s ns) → nm ∈ ns → (T.F (p ++ [nm])).isSome = true
  nms : ∀ p s ns, T.F p = some (.dir s ns) → ns.Nodup ∧ (∀ nm ∈ ns, nameB nm = true) ∧ ns.length ≤ s
  bl : 0 ≤ T.bl
theorem Tr.good {w : World} {t : Nat} {T : Ts} {A : Pth → Nat} {O : Nat → Option (Pth × Nat)} {K : Nat} (h : Tr w t T.F A O T.bl T.ino K) : Gd T :=
  ⟨h.rdir, h.up, h.dn, fun p s ns hp => ⟨(h.nms p s ns hp).1, (h.nms p s ns hp).2.1, (h.nms p s ns hp).2.2.1⟩, h.bb.1⟩
theorem Gd.pre {T : Ts} (h : Gd T) (p : Pth) : ∀ (n : Nat) (r : Pth), r.length = n → (T.F (p ++ r)).isSome = true → (T.F p).isSome = true
  | 0, r, hn, hs => by
    rw [List.eq_nil_of_length_eq_zero hn, List.append_nil] at hs
    exact hs
  | n + 1, r, hn, hs => by
    rcases List.eq_nil_or_concat r with rfl | ⟨r', x, rfl⟩
    · simp at hn
    · rw [List.concat_eq_append, ← List.append_assoc] at hs
      obtain ⟨s, ns, h1, _⟩ := h.up _ _ hs
      exact h.pre p n r' (by simpa using hn) (by rw [h1]; rfl)
theorem Gd.un {T : Ts} (h : Gd T) {p q : Pth} (hu : Un p q) (hs : (T.F q).isSome = true) : (T.F p).isSome = true := by
  obtain ⟨r, rfl⟩ := un_iff.1 hu
  exact h.pre p _ r rfl hs
theorem Gd.dirs {T : Ts} (h : Gd T) {p v : Pth} (hv : ¬ v = []) (hs : (T.F (p ++ v)).isSome = true) : ∃ s ns, T.F p = some (.dir s ns) := by
  cases v with
  | nil => exact absurd rfl hv
  | cons x r =>
    have e : p ++ x :: r = (p ++ [x]) ++ r := by simp
    rw [e] at hs
    obtain ⟨s, ns, h1, _⟩ := h.up p x (h.pre _ _ r rfl hs)
    exact ⟨s, ns, h1⟩
theorem folA_dirs (F : Pth → Option Nd) : ∀ (r p : Pth), (∀ u v, r = u ++ v → ¬ v = [] → ∃ s k, F (p ++ u) = some (.dir s k)) → folA F p r = 0
  | [], _, _ => rfl
  | x :: r, p, h => by
    obtain ⟨s, k, e⟩ := h [] (x :: r) rfl (by simp)
    rw [List.append_nil] at e
    unfold folA
    rw [e]
    refine folA_dirs F r (p ++ [x]) (fun u v e2 hv => ?_)
    obtain ⟨s, k, e3⟩ := h (x :: u) v (by rw [e2]; rfl) hv
    exact ⟨s, k, by simpa using e3⟩
theorem Gd.fol {T : Ts} (h : Gd T) {p : Pth} (hs : (T.F p).isSome = true) : folE T.F p = 0 :=
  folA_dirs T.F p [] (fun u v e hv => by
    subst e
    exact h.dirs hv hs)
theorem Gd.folD {T : Ts} (h : Gd T) {p : Pth} {s : Nat} {kn : List ByteArray} (x : ByteArray) (hs : T.F p = some (.dir s kn)) : folE T.F (p ++ [x]) = 0 := by
  refine folA_dirs T.F _ [] (fun u v e hv => ?_)
  rcases List.eq_nil_or_concat v with rfl | ⟨v', y, rfl⟩
  · exact absurd rfl hv
  · rw [List.concat_eq_append, ← List.append_assoc] at e
    obtain ⟨rfl, _⟩ := pth_inj e
    by_cases h0 : v' = []
    · subst h0
      exact ⟨s, kn, by simpa using hs⟩
    · exact h.dirs h0 (by simp only [List.nil_append]; rw [hs]; rfl)
theorem movR_same (T : Ts) (f g : Pth) (h : ¬ (movR T f g).1 = 0) : (movR T f g).2 = T := by
  revert h
  unfold movR
  split
  · split
    · simp
    · split <;> simp
  · simp
/-- What is there is none's parent: then nothing refuses. -/
theorem rep_zero {T : Ts} (hG : Gd T) {f g : Pth} (hf0 : ¬ f = []) (hg0 : ¬ g = []) (hf : (T.F f).isSome = true) {ng : Nd} (hg : T.F g = some ng) (hn : ∀ nm, T.F (g ++ [nm]) = none) : (movR (goneT T g) f g).1 = 0 := by
  have eg := pth_split hg0
  have ef := pth_split hf0
  obtain ⟨r, hr⟩ : ∃ r, g.dropLast = r := ⟨_, rfl⟩
  obtain ⟨y, hy⟩ : ∃ y, lastN g = y := ⟨_, rfl⟩
  obtain ⟨r2, hr2⟩ : ∃ r, f.dropLast = r := ⟨_, rfl⟩
  obtain ⟨x, hx⟩ : ∃ y, lastN f = y := ⟨_, rfl⟩
  rw [hr, hy] at eg
  rw [hr2, hx] at ef
  subst eg ef
  obtain ⟨s, kn, hF, hym⟩ := hG.up r y (by rw [hg]; rfl)
  obtain ⟨s2, kn2, hF2, _⟩ := hG.up r2 x hf
  rw [goneT_eq hF hg]
  have n1 : ¬ r2 = r ++ [y] := fun e => by rw [e, hn] at hf; cases hf
  have eA : setN (setN T.F r (some (.dir s (dele kn y)))) (r ++ [y]) none r = some (.dir s (dele kn y)) := by rw [setN_other _ _ (pth_ne r y), setN_same]
  unfold movR
  simp only [hr, hr2, eA]
  by_cases e : r2 = r
  · subst e
    rw [eA]
    simp
  · have eB : setN (setN T.F r (some (.dir s (dele kn y)))) (r ++ [y]) none r2 = some (.dir s2 kn2) := by rw [gone_at n1 e]; exact hF2
    rw [eB]
    simp only [e, if_false]
    have h1 := dele_in (hG.nms _ _ _ hF).1 hym
    have h2 := (hG.nms _ _ _ hF).2.2
    rw [furB_free (by omega)]
    have h3 := hG.bl
    have h4 := ng.blk_bd.1
    rw [if_neg (by omega)]
theorem repR_same {T : Ts} (hG : Gd T) {f g : Pth} (hf0 : ¬ f = []) (hg0 : ¬ g = []) (hf : (T.F f).isSome = true) (_hg : (T.F g).isSome = true) (h : ¬ (repR T f g).1 = 0) : (repR T f g).2 = T := by
  have hz : ∀ ng, T.F g = some ng → (∀ nm, ¬ ng.has nm) → (movR (goneT T g) f g).1 = 0 := fun ng hng hl => rep_zero hG hf0 hg0 hf hng (fun nm => by
    cases e : T.F (g ++ [nm]) with
    | none => rfl
    | some z =>
      obtain ⟨s, ns, h1, h2⟩ := hG.up g nm (by rw [e]; rfl)
      rw [hng] at h1; cases h1
      exact absurd h2 (hl nm))
  revert h
  unfold repR
  split
  · simp
  · simp
  · rename_i s0 k0 s kn e1 e2
    split
    · rename_i hk
      subst hk
      intro h
      exact absurd (hz _ e2 (fun nm h => by cases h)) h
    · simp
  · rename_i b1 b2 e1 e2
    intro h
    exact absurd (hz _ e2 (fun nm h => h)) h
  · simp
theorem renR_same {T : Ts} (hG : Gd T) (a b : ByteArray) (h : ¬ (renR T a b).1 = 0) : (renR T a b).2 = T := by
  revert h
  unfold renR
  split
  · simp
  split
  · simp
  split
  · simp
  split
  · simp
  rename_i h4
  split
  · simp
  rename_i h5
  split
  · simp
  split
  · simp
  split
  · simp
  split
  · rename_i h10
    intro h
    exact repR_same hG (fun e => h5 (.inl e)) (fun e => h5 (.inr e)) (by revert h4; cases (T.F (spN a)).isSome <;> simp) h10 h
  · exact movR_same _ _ _
/-- An act that is refused changes nothing. -/
theorem doR_same {T : Ts} (hG : Gd T) (o : Ac) (h : ¬ (doR T o).1 = 0) : (doR T o).2 = T := by
  revert h
  unfold doR
  split
  · simp
  split
  · exact renR_same hG _ _
  split
  · simp
  split
  · unfold addR
    split
    · simp
    · split <;> simp
    · simp
  split
  · unfold addR
    split
    · simp
    · split <;> simp
    · simp
  split
  · unfold extR
    split
    · simp
    · simp
    · split
      · simp
      · split <;> simp
  split
  · unfold cutR
    split
    · simp
    · simp
    · split <;> simp
  split
  · unfold unlR
    split <;> simp
  · unfold rmdR
    split
    · simp
    · simp
    · split <;> simp

/-- Are nodes the same, but for their slots? -/
def EqN : Option Nd → Option Nd → Prop
  | none, none => True
  | some (.file a), some (.file b) => a = b
  | some (.dir _ _), some (.dir _ _) => True
  | _, _ => False
theorem EqN.refl (x : Option Nd) : EqN x x := by
  cases x with
  | none => trivial
  | some nd => cases nd <;> simp [EqN]
/-- Are trees the same, from two paths on? -/
def EqT (F G : Pth → Option Nd) : Prop := ∀ q, EqN (F q) (G q)
theorem EqT.refl (F : Pth → Option Nd) : EqT F F := fun _ => EqN.refl _

theorem mov_F {T T1 : Ts} {f g : Pth} (h : movR T f g = (0, T1)) {sf sg : Nat} {kf kg : List ByteArray} (hf : T.F f.dropLast = some (.dir sf kf)) (hg : T.F g.dropLast = some (.dir sg kg)) (hG : Gd T) (hx : lastN f ∈ kf) :
    0 ≤ T1.bl ∧ ∃ F', T1.F = graft F' f g ∧ (∀ q, ¬ q = f.dropLast → ¬ q = g.dropLast → F' q = T.F q) ∧ (∃ s k, F' f.dropLast = some (.dir s k) ∧ (f.dropLast = g.dropLast ∨ k.length < s)) ∧ ∃ s k, F' g.dropLast = some (.dir s k) := by
  unfold movR at h
  rw [hf, hg] at h
  simp only at h
  by_cases e : f.dropLast = g.dropLast
  · rw [if_pos e] at h
    cases h
    refine ⟨hG.bl, _, rfl, fun q _ h2 => setN_other _ _ h2, ⟨_, _, by rw [e]; exact setN_same _ _ _, .inl e⟩, ⟨_, _, setN_same _ _ _⟩⟩
  · rw [if_neg e] at h
    split at h
    · cases h
    · rename_i hb
      cases h
      refine ⟨by show (0 : Int) ≤ T.bl - furB sg kg.length; omega, _, rfl, fun q h1 h2 => by rw [setN_other _ _ h2, setN_other _ _ h1], ⟨sf, dele kf (lastN f), by rw [setN_other _ _ e, setN_same], .inr ?_⟩, ⟨_, _, setN_same _ _ _⟩⟩
      have h1 := dele_in (hG.nms _ _ _ hf).1 hx
      have h2 := (hG.nms _ _ _ hf).2.2
      omega

/-- A name that moved moves back: all is as it was. -/
theorem mov_back {T T1 : Ts} {f g : Pth} (hG : Gd T) (hG1 : Gd T1) (hf0 : ¬ f = []) (hg0 : ¬ g = []) (hf : (T.F f).isSome = true) (hg : T.F g = none) (hgd : ∃ s k, T.F g.dropLast = some (.dir s k)) (hun : ¬ Un f g) (h : movR T f g = (0, T1)) :
    T1.F g = T.F f ∧ T1.F f = none ∧ (∃ s k, T1.F f.dropLast = some (.dir s k)) ∧ ¬ Un g f ∧ ∃ T2, movR T1 g f = (0, T2) ∧ EqT T2.F T.F := by
  obtain ⟨sg, kg, hgd⟩ := hgd
  have ef := pth_split hf0
  obtain ⟨sf, kf, hfd, hxm⟩ := hG.up f.dropLast (lastN f) (by rw [← ef]; exact hf)
  have eg := pth_split hg0
  have ngf : ¬ Un g f := fun e => by have := hG.un e hf; rw [hg] at this; cases this
  have lf : f.length = f.dropLast.length + 1 := by rw [List.length_dropLast]; have := List.length_pos_iff.2 hf0; omega
  have lg : g.length = g.dropLast.length + 1 := by rw [List.length_dropLast]; have := List.length_pos_iff.2 hg0; omega
  have n1 : ¬ Un f f.dropLast := fun e => by have := un_len e; omega
  have n2 : ¬ Un g g.dropLast := fun e => by have := un_len e; omega
  have n3 : ¬ Un g f.dropLast := fun e => by have := hG.un e (by rw [hfd]; rfl); rw [hg] at this; cases this
  have n4 : ¬ Un f g.dropLast := fun e => hun (by rw [eg]; exact un_more e _)
  obtain ⟨hb1, F', e1, q1, ⟨s3, k3, q2, q3⟩, s4, k4, q4⟩ := mov_F h hfd hgd hG hxm
  have a1 : T1.F g = T.F f := by
    rw [e1]
    have := graft_at F' f g []
    rw [List.append_nil, List.append_nil] at this
    rw [this]
    exact q1 f (fun e => by have := congrArg List.length e; omega) (fun e => n4 (by rw [← e]; exact un_self f))
  have a2 : T1.F f = none := by rw [e1]; exact graft_none F' ngf (un_self f)
  have a3 : T1.F f.dropLast = some (.dir s3 k3) := by rw [e1, graft_else F' n3 n1]; exact q2
  have a4 : T1.F g.dropLast = some (.dir s4 k4) := by rw [e1, graft_else F' n2 n4]; exact q4
  refine ⟨a1, a2, ⟨s3, k3, a3⟩, ngf, ?_⟩
  have hgm : lastN g ∈ k4 := by
    obtain ⟨s5, k5, h5, h6⟩ := hG1.up g.dropLast (lastN g) (by rw [← eg, a1]; exact hf)
    rw [a4] at h5; cases h5
    exact h6
  obtain ⟨T2, hT2⟩ : ∃ T2, movR T1 g f = (0, T2) := by
    unfold movR
    rw [a3, a4]
    simp only
    by_cases e : g.dropLast = f.dropLast
    · rw [if_pos e]; exact ⟨_, rfl⟩
    · rw [if_neg e]
      have : k3.length < s3 := q3.elim (fun h => absurd h.symm e) id
      rw [furB_free this, if_neg (by omega)]
      exact ⟨_, rfl⟩
  refine ⟨T2, hT2, ?_⟩
  obtain ⟨_, F2, e2, p1, ⟨s6, k6, p2, p3⟩, s7, k7, p4⟩ := mov_F hT2 a4 a3 hG1 hgm
  intro q
  rw [e2]
  by_cases u1 : Un f q
  · obtain ⟨r, rfl⟩ := un_iff.1 u1
    rw [graft_at, p1 (g ++ r) (fun e => n2 (by rw [← e]; exact un_app g r)) (fun e => n3 (by rw [← e]; exact un_app g r)), e1, graft_at, q1 (f ++ r) (fun e => n1 (by rw [← e]; exact un_app f r)) (fun e => n4 (by rw [← e]; exact un_app f r))]
    exact EqN.refl _
  · by_cases u2 : Un g q
    · rw [graft_none F2 u1 u2]
      cases e : T.F q with
      | none => trivial
      | some z => have := hG.un u2 (by rw [e]; rfl); rw [hg] at this; cases this
    · rw [graft_else F2 u1 u2]
      by_cases z1 : q = f.dropLast
      · rw [z1, p4, hfd]; trivial
      · by_cases z2 : q = g.dropLast
        · rw [z2, p2, hgd]; trivial
        · rw [p1 q z2 z1, e1, graft_else F' u2 u1, q1 q z1 z2]
          exact EqN.refl _
/-- What a Rename that is done, to where nothing was, comes to. -/
theorem ren_back {T T1 : Ts} (hG : Gd T) (hG1 : Gd T1) {a b : ByteArray} (h : renR T a b = (0, T1)) (hb : ¬ thE T.F b = 0) :
    thE T.F a = 0 ∧ thE T1.F b = 0 ∧ thE T1.F a = 8 ∧ (∃ nd, T.F (spN a) = some nd ∧ T1.F (spN b) = some nd) ∧ ¬ EqT T1.F T.F ∧ ∃ T2, renR T1 b a = (0, T2) ∧ EqT T2.F T.F := by
  unfold renR at h
  split at h
  · rename_i h1; exact absurd (Prod.mk.inj h).1 h1
  rename_i h1
  split at h
  · rename_i h2; exact absurd (Prod.mk.inj h).1 h2
  rename_i h2
  have h1 : spE a = 0 := by simpa using h1
  have h2 : spE b = 0 := by simpa using h2
  split at h
  · rename_i h3; exact absurd (Prod.mk.inj h).1 h3
  rename_i h3
  have h3 : folE T.F (spN a) = 0 := by simpa using h3
  split at h
  · cases h
  rename_i h4
  have h4 : (T.F (spN a)).isSome = true := by revert h4; cases (T.F (spN a)).isSome <;> simp
  split at h
  · cases h
  rename_i h5
  have f0 : ¬ spN a = [] := fun e => h5 (.inl e)
  have g0 : ¬ spN b = [] := fun e => h5 (.inr e)
  split at h
  · rename_i h6; exact absurd (Prod.mk.inj h).1 h6
  rename_i h6
  have h6 : folE T.F (spN b) = 0 := by simpa using h6
  have hgn : T.F (spN b) = none := by
    cases e : T.F (spN b) with
    | none => rfl
    | some z => exact absurd (by simp [thE, fiE, h2, h6, e]) hb
  split at h
  · rename_i h7; rw [h7, hgn] at h4; cases h4
  split at h
  · cases h
  rename_i h8
  rw [hgn] at h
  simp only [Option.isSome_none, Bool.false_eq_true, if_false] at h
  obtain ⟨a1, a2, ⟨s3, k3, a3⟩, ngf, T2, hT2, hE⟩ := mov_back hG hG1 f0 g0 h4 hgn (fol_dir h6 g0) h8 h
  have ea := pth_split f0
  have k1 : folE T1.F (spN a) = 0 := by rw [ea]; exact hG1.folD _ a3
  have k2 : folE T1.F (spN b) = 0 := hG1.fol (by rw [a1]; exact h4)
  obtain ⟨nd, hnd⟩ := Option.isSome_iff_exists.1 h4
  refine ⟨by simp [thE, fiE, h1, h3, h4], by simp [thE, fiE, h2, k2, a1, h4], by simp [thE, fiE, h1, k1, a2], ⟨nd, hnd, a1.trans hnd⟩, fun he => ?_, T2, ?_, hE⟩
  · have := he (spN a)
    rw [a2, hnd] at this
    exact this
  · unfold renR
    rw [if_neg (by omega), if_neg (by omega), if_neg (by omega), if_neg (by rw [a1, hnd]; simp), if_neg (fun e => e.elim g0 f0), if_neg (by omega), if_neg (fun e => by rw [← e, hgn] at h4; cases h4), if_neg ngf, a2]
    simp only [Option.isSome_none, Bool.false_eq_true, if_false]
    exact hT2
end Go.Proofs.YtlnjnimenihhnaaGreatDoor

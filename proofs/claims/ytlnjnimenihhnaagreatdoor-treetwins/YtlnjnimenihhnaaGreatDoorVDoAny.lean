/-
  The document's tree: Do.
-/
import Derived.Test.YtlnjnimenihhnaaGreatDoorVOps5
import Derived.Test.YtlnjnimenihhnaaGreatDoorVSplit
import Derived.Test.YtlnjnimenihhnaaGreatDoorTGood
namespace Go.Proofs.YtlnjnimenihhnaaGreatDoor
open Go.RowKit Go.Maps

section
variable {r : Nat} {p q0 : ByteArray} {da : Option Addr} {dn dc : Nat} {n : Int} {w : World}
set_option maxHeartbeats 6400000 in
set_option maxRecDepth 100000 in
theorem rdo_bad {k : Int} (h : k < 1 ∨ 7 < k) :
    Calls Tryz.prog 10 #[ptr r, .agg #[.int .i64 k, .string p, .string q0, .slice da dn dc, .int .i64 n]] w fun e w' => e = .returned (.int .i64 1) ∧ Below w.heap.size w w' := by
  have HB : Hid (Below w.heap.size w (w.alloc (opV k p q0 (.slice da dn dc) n))) := below_alloc w _
  by_cases h1 : k < 1
  · have d1 : decide (k < 1) = true := by simpa using h1
    go_enter Tryz.func10, Tryz.ntmps10
    go_wp2_with fail
    go_ret
    exact ⟨rfl, HB.out⟩
  · have h2 : 7 < k := by omega
    have d1 : decide (k < 1) = false := by simpa using h1
    have d2 : decide (7 < k) = true := by simpa using h2
    go_enter Tryz.func10, Tryz.ntmps10
    go_wp2_with fail
    go_ret
    exact ⟨rfl, HB.out⟩
set_option maxHeartbeats 6400000 in
set_option maxRecDepth 100000 in
theorem rdo_path {k : Int} (h1 : ¬ k < 1) (h2 : ¬ 7 < k) (hp : p.size ≤ 3000) (he : ¬ spE p = 0) :
    Calls Tryz.prog 10 #[ptr r, .agg #[.int .i64 k, .string p, .string q0, .slice da dn dc, .int .i64 n]] w fun e w' => e = .returned (.int .i64 (spE p)) ∧ Below w.heap.size w w' := by
  have g1 : decide (k < 1) = false := by simpa using h1
  have g2 : decide (7 < k) = false := by simpa using h2
  have g3 : (spE p == 0) = false := by simpa using he
  have g4 : decide (spE p = 0) = false := by simpa using he
  have B0 := below_alloc w (opV k p q0 (.slice da dn dc) n)
  obtain ⟨o0, o1, o2, o3, o4⟩ := opv_cells w k p q0 (.slice da dn dc) n
  obtain ⟨wa, HWA⟩ : ∃ wa, Hid (w.alloc (opV k p q0 (.slice da dn dc) n) = wa) := ⟨_, rfl⟩
  rw [HWA.out] at B0 o0 o1 o2 o3 o4
  have HB : Hid (Below w.heap.size w wa) := B0
  have HO : Hid (wa.cell? ⟨w.heap.size, 0, none⟩ = some (.int .i64 k) ∧ wa.cell? ⟨w.heap.size, 1, none⟩ = some (.string p) ∧ wa.cell? ⟨w.heap.size, 2, none⟩ = some (.string q0) ∧ wa.cell? ⟨w.heap.size, 3, none⟩ = some (.slice da dn dc) ∧ wa.cell? ⟨w.heap.size, 4, none⟩ = some (.int .i64 n)) := ⟨o0, o1, o2, o3, o4⟩
  have HS : Hid (Calls Tryz.prog 30 #[.string p] wa fun e w' => ∃ v, e = .returned (.tuple #[v, .int .i64 (spE p)]) ∧ Tx w' v (spN p) ∧ Below wa.heap.size wa w' ∧ ∀ a n c, v = .slice (some a) n c → wa.heap.size ≤ a.block) := rsplitN_any p wa hp
  clear B0
  go_enter Tryz.func10, Tryz.ntmps10
  go_wp2_with fail
  rw [HWA.out]
  go_wp2_with fail
  refine HS.out.mono ?_
  clear HS
  rintro e w1 ⟨v, rfl, hT, B1, hfa⟩
  obtain ⟨va, vc, rfl⟩ := hT.form
  obtain ⟨p0, p1, p2, p3, p4⟩ : w1.cell? ⟨w.heap.size, 0, none⟩ = some (.int .i64 k) ∧ w1.cell? ⟨w.heap.size, 1, none⟩ = some (.string p) ∧ w1.cell? ⟨w.heap.size, 2, none⟩ = some (.string q0) ∧ w1.cell? ⟨w.heap.size, 3, none⟩ = some (.slice da dn dc) ∧ w1.cell? ⟨w.heap.size, 4, none⟩ = some (.int .i64 n) := by
    have hc := Chg.ofBelowC B1
    exact ⟨hc.cell HO.out.1 (fun h => h), hc.cell HO.out.2.1 (fun h => h), hc.cell HO.out.2.2.1 (fun h => h), hc.cell HO.out.2.2.2.1 (fun h => h), hc.cell HO.out.2.2.2.2 (fun h => h)⟩
  have HB1 : Hid (Below w.heap.size w w1 ∧ (∀ a n c, Value.slice va (spN p).length vc = .slice (some a) n c → w.heap.size ≤ a.block) ∧ Tx w1 (.slice va (spN p).length vc) (spN p)) := ⟨HB.out.trans (B1.mono HB.out.size), fun a n c e => Nat.le_trans HB.out.size (hfa a n c e), hT⟩
  clear B1 HB HO o0 o1 o2 o3 o4 hT hfa
  go_wp2_with fail
  go_ret
  exact ⟨rfl, HB1.out.1⟩
set_option maxHeartbeats 6400000 in
set_option maxRecDepth 100000 in
theorem rdo_1 (hp : p.size ≤ 3000) (he : spE p = 0) {c : Int} (X : World → World → Prop)
    (HM : ∀ (va : Option Addr) (vc : Nat) (w1 : World), Below w.heap.size w w1 → Tx w1 (.slice va (spN p).length vc) (spN p) → (∀ a n c, Value.slice va (spN p).length vc = .slice (some a) n c → w.heap.size ≤ a.block) → Calls Tryz.prog 31 #[ptr r, .slice va (spN p).length vc, .bool false] w1 fun e w' => e = .returned (.int .i64 c) ∧ X w1 w') :
    Calls Tryz.prog 10 #[ptr r, .agg #[.int .i64 1, .string p, .string q0, .slice da dn dc, .int .i64 n]] w fun e w' => e = .returned (.int .i64 c) ∧ ∃ w1, Below w.heap.size w w1 ∧ X w1 w' := by
  have g3 : (spE p == 0) = true := by simpa using he
  have g4 : decide (spE p = 0) = true := by simpa using he
  have HMH : Hid (∀ (va : Option Addr) (vc : Nat) (w1 : World), Below w.heap.size w w1 → Tx w1 (.slice va (spN p).length vc) (spN p) → (∀ a n c, Value.slice va (spN p).length vc = .slice (some a) n c → w.heap.size ≤ a.block) → Calls Tryz.prog 31 #[ptr r, .slice va (spN p).length vc, .bool false] w1 fun e w' => e = .returned (.int .i64 c) ∧ Hid (X w1 w')) := HM
  clear HM
  have B0 := below_alloc w (opV 1 p q0 (.slice da dn dc) n)
  obtain ⟨o0, o1, o2, o3, o4⟩ := opv_cells w 1 p q0 (.slice da dn dc) n
  obtain ⟨wa, HWA⟩ : ∃ wa, Hid (w.alloc (opV 1 p q0 (.slice da dn dc) n) = wa) := ⟨_, rfl⟩
  rw [HWA.out] at B0 o0 o1 o2 o3 o4
  have HB : Hid (Below w.heap.size w wa) := B0
  have HO : Hid (wa.cell? ⟨w.heap.size, 0, none⟩ = some (.int .i64 1) ∧ wa.cell? ⟨w.heap.size, 1, none⟩ = some (.string p) ∧ wa.cell? ⟨w.heap.size, 2, none⟩ = some (.string q0) ∧ wa.cell? ⟨w.heap.size, 3, none⟩ = some (.slice da dn dc) ∧ wa.cell? ⟨w.heap.size, 4, none⟩ = some (.int .i64 n)) := ⟨o0, o1, o2, o3, o4⟩
  have HS : Hid (Calls Tryz.prog 30 #[.string p] wa fun e w' => ∃ v, e = .returned (.tuple #[v, .int .i64 (spE p)]) ∧ Tx w' v (spN p) ∧ Below wa.heap.size wa w' ∧ ∀ a n c, v = .slice (some a) n c → wa.heap.size ≤ a.block) := rsplitN_any p wa hp
  clear B0
  go_enter Tryz.func10, Tryz.ntmps10
  go_wp2_with fail
  rw [HWA.out]
  go_wp2_with fail
  refine HS.out.mono ?_
  clear HS
  rintro e w1 ⟨v, rfl, hT, B1, hfa⟩
  obtain ⟨va, vc, rfl⟩ := hT.form
  obtain ⟨p0, p1, p2, p3, p4⟩ : w1.cell? ⟨w.heap.size, 0, none⟩ = some (.int .i64 1) ∧ w1.cell? ⟨w.heap.size, 1, none⟩ = some (.string p) ∧ w1.cell? ⟨w.heap.size, 2, none⟩ = some (.string q0) ∧ w1.cell? ⟨w.heap.size, 3, none⟩ = some (.slice da dn dc) ∧ w1.cell? ⟨w.heap.size, 4, none⟩ = some (.int .i64 n) := by
    have hc := Chg.ofBelowC B1
    exact ⟨hc.cell HO.out.1 (fun h => h), hc.cell HO.out.2.1 (fun h => h), hc.cell HO.out.2.2.1 (fun h => h), hc.cell HO.out.2.2.2.1 (fun h => h), hc.cell HO.out.2.2.2.2 (fun h => h)⟩
  have HB1 : Hid (Below w.heap.size w w1 ∧ (∀ a n c, Value.slice va (spN p).length vc = .slice (some a) n c → w.heap.size ≤ a.block) ∧ Tx w1 (.slice va (spN p).length vc) (spN p)) := ⟨HB.out.trans (B1.mono HB.out.size), fun a n c e => Nat.le_trans HB.out.size (hfa a n c e), hT⟩
  clear B1 HB HO o0 o1 o2 o3 o4 hT hfa
  go_wp2_with fail
  refine (HMH.out va vc w1 HB1.out.1 HB1.out.2.2 HB1.out.2.1).mono ?_
  clear HMH
  rintro e w2 ⟨rfl, HX⟩
  go_wp2_with fail
  go_ret
  exact ⟨rfl, w1, HB1.out.1, HX.out⟩
set_option maxHeartbeats 6400000 in
set_option maxRecDepth 100000 in
theorem rdo_2 (hp : p.size ≤ 3000) (he : spE p = 0) {c : Int} (X : World → World → Prop)
    (HM : ∀ (va : Option Addr) (vc : Nat) (w1 : World), Below w.heap.size w w1 → Tx w1 (.slice va (spN p).length vc) (spN p) → (∀ a n c, Value.slice va (spN p).length vc = .slice (some a) n c → w.heap.size ≤ a.block) → Calls Tryz.prog 31 #[ptr r, .slice va (spN p).length vc, .bool true] w1 fun e w' => e = .returned (.int .i64 c) ∧ X w1 w') :
    Calls Tryz.prog 10 #[ptr r, .agg #[.int .i64 2, .string p, .string q0, .slice da dn dc, .int .i64 n]] w fun e w' => e = .returned (.int .i64 c) ∧ ∃ w1, Below w.heap.size w w1 ∧ X w1 w' := by
  have g3 : (spE p == 0) = true := by simpa using he
  have g4 : decide (spE p = 0) = true := by simpa using he
  have HMH : Hid (∀ (va : Option Addr) (vc : Nat) (w1 : World), Below w.heap.size w w1 → Tx w1 (.slice va (spN p).length vc) (spN p) → (∀ a n c, Value.slice va (spN p).length vc = .slice (some a) n c → w.heap.size ≤ a.block) → Calls Tryz.prog 31 #[ptr r, .slice va (spN p).length vc, .bool true] w1 fun e w' => e = .returned (.int .i64 c) ∧ Hid (X w1 w')) := HM
  clear HM
  have B0 := below_alloc w (opV 2 p q0 (.slice da dn dc) n)
  obtain ⟨o0, o1, o2, o3, o4⟩ := opv_cells w 2 p q0 (.slice da dn dc) n
  obtain ⟨wa, HWA⟩ : ∃ wa, Hid (w.alloc (opV 2 p q0 (.slice da dn dc) n) = wa) := ⟨_, rfl⟩
  rw [HWA.out] at B0 o0 o1 o2 o3 o4
  have HB : Hid (Below w.heap.size w wa) := B0
  have HO : Hid (wa.cell? ⟨w.heap.size, 0, none⟩ = some (.int .i64 2) ∧ wa.cell? ⟨w.heap.size, 1, none⟩ = some (.string p) ∧ wa.cell? ⟨w.heap.size, 2, none⟩ = some (.string q0) ∧ wa.cell? ⟨w.heap.size, 3, none⟩ = some (.slice da dn dc) ∧ wa.cell? ⟨w.heap.size, 4, none⟩ = some (.int .i64 n)) := ⟨o0, o1, o2, o3, o4⟩
  have HS : Hid (Calls Tryz.prog 30 #[.string p] wa fun e w' => ∃ v, e = .returned (.tuple #[v, .int .i64 (spE p)]) ∧ Tx w' v (spN p) ∧ Below wa.heap.size wa w' ∧ ∀ a n c, v = .slice (some a) n c → wa.heap.size ≤ a.block) := rsplitN_any p wa hp
  clear B0
  go_enter Tryz.func10, Tryz.ntmps10
  go_wp2_with fail
  rw [HWA.out]
  go_wp2_with fail
  refine HS.out.mono ?_
  clear HS
  rintro e w1 ⟨v, rfl, hT, B1, hfa⟩
  obtain ⟨va, vc, rfl⟩ := hT.form
  obtain ⟨p0, p1, p2, p3, p4⟩ : w1.cell? ⟨w.heap.size, 0, none⟩ = some (.int .i64 2) ∧ w1.cell? ⟨w.heap.size, 1, none⟩ = some (.string p) ∧ w1.cell? ⟨w.heap.size, 2, none⟩ = some (.string q0) ∧ w1.cell? ⟨w.heap.size, 3, none⟩ = some (.slice da dn dc) ∧ w1.cell? ⟨w.heap.size, 4, none⟩ = some (.int .i64 n) := by
    have hc := Chg.ofBelowC B1
    exact ⟨hc.cell HO.out.1 (fun h => h), hc.cell HO.out.2.1 (fun h => h), hc.cell HO.out.2.2.1 (fun h => h), hc.cell HO.out.2.2.2.1 (fun h => h), hc.cell HO.out.2.2.2.2 (fun h => h)⟩
  have HB1 : Hid (Below w.heap.size w w1 ∧ (∀ a n c, Value.slice va (spN p).length vc = .slice (some a) n c → w.heap.size ≤ a.block) ∧ Tx w1 (.slice va (spN p).length vc) (spN p)) := ⟨HB.out.trans (B1.mono HB.out.size), fun a n c e => Nat.le_trans HB.out.size (hfa a n c e), hT⟩
  clear B1 HB HO o0 o1 o2 o3 o4 hT hfa
  go_wp2_with fail
  refine (HMH.out va vc w1 HB1.out.1 HB1.out.2.2 HB1.out.2.1).mono ?_
  clear HMH
  rintro e w2 ⟨rfl, HX⟩
  go_wp2_with fail
  go_ret
  exact ⟨rfl, w1, HB1.out.1, HX.out⟩
set_option maxHeartbeats 6400000 in
set_option maxRecDepth 100000 in
theorem rdo_3 (hp : p.size ≤ 3000) (he : spE p = 0) {c : Int} (X : World → World → Prop)
    (HM : ∀ (va : Option Addr) (vc : Nat) (w1 : World), Below w.heap.size w w1 → Tx w1 (.slice va (spN p).length vc) (spN p) → (∀ a n c, Value.slice va (spN p).length vc = .slice (some a) n c → w.heap.size ≤ a.block) → Calls Tryz.prog 32 #[ptr r, .agg #[.int .i64 3, .string p, .string q0, .slice da dn dc, .int .i64 n], .slice va (spN p).length vc] w1 fun e w' => e = .returned (.int .i64 c) ∧ X w1 w') :
    Calls Tryz.prog 10 #[ptr r, .agg #[.int .i64 3, .string p, .string q0, .slice da dn dc, .int .i64 n]] w fun e w' => e = .returned (.int .i64 c) ∧ ∃ w1, Below w.heap.size w w1 ∧ X w1 w' := by
  have g3 : (spE p == 0) = true := by simpa using he
  have g4 : decide (spE p = 0) = true := by simpa using he
  have HMH : Hid (∀ (va : Option Addr) (vc : Nat) (w1 : World), Below w.heap.size w w1 → Tx w1 (.slice va (spN p).length vc) (spN p) → (∀ a n c, Value.slice va (spN p).length vc = .slice (some a) n c → w.heap.size ≤ a.block) → Calls Tryz.prog 32 #[ptr r, .agg #[.int .i64 3, .string p, .string q0, .slice da dn dc, .int .i64 n], .slice va (spN p).length vc] w1 fun e w' => e = .returned (.int .i64 c) ∧ Hid (X w1 w')) := HM
  clear HM
  have B0 := below_alloc w (opV 3 p q0 (.slice da dn dc) n)
  obtain ⟨o0, o1, o2, o3, o4⟩ := opv_cells w 3 p q0 (.slice da dn dc) n
  obtain ⟨wa, HWA⟩ : ∃ wa, Hid (w.alloc (opV 3 p q0 (.slice da dn dc) n) = wa) := ⟨_, rfl⟩
  rw [HWA.out] at B0 o0 o1 o2 o3 o4
  have HB : Hid (Below w.heap.size w wa) := B0
  have HO : Hid (wa.cell? ⟨w.heap.size, 0, none⟩ = some (.int .i64 3) ∧ wa.cell? ⟨w.heap.size, 1, none⟩ = some (.string p) ∧ wa.cell? ⟨w.heap.size, 2, none⟩ = some (.string q0) ∧ wa.cell? ⟨w.heap.size, 3, none⟩ = some (.slice da dn dc) ∧ wa.cell? ⟨w.heap.size, 4, none⟩ = some (.int .i64 n)) := ⟨o0, o1, o2, o3, o4⟩
  have HS : Hid (Calls Tryz.prog 30 #[.string p] wa fun e w' => ∃ v, e = .returned (.tuple #[v, .int .i64 (spE p)]) ∧ Tx w' v (spN p) ∧ Below wa.heap.size wa w' ∧ ∀ a n c, v = .slice (some a) n c → wa.heap.size ≤ a.block) := rsplitN_any p wa hp
  clear B0
  go_enter Tryz.func10, Tryz.ntmps10
  go_wp2_with fail
  rw [HWA.out]
  go_wp2_with fail
  refine HS.out.mono ?_
  clear HS
  rintro e w1 ⟨v, rfl, hT, B1, hfa⟩
  obtain ⟨va, vc, rfl⟩ := hT.form
  obtain ⟨p0, p1, p2, p3, p4⟩ : w1.cell? ⟨w.heap.size, 0, none⟩ = some (.int .i64 3) ∧ w1.cell? ⟨w.heap.size, 1, none⟩ = some (.string p) ∧ w1.cell? ⟨w.heap.size, 2, none⟩ = some (.string q0) ∧ w1.cell? ⟨w.heap.size, 3, none⟩ = some (.slice da dn dc) ∧ w1.cell? ⟨w.heap.size, 4, none⟩ = some (.int .i64 n) := by
    have hc := Chg.ofBelowC B1
    exact ⟨hc.cell HO.out.1 (fun h => h), hc.cell HO.out.2.1 (fun h => h), hc.cell HO.out.2.2.1 (fun h => h), hc.cell HO.out.2.2.2.1 (fun h => h), hc.cell HO.out.2.2.2.2 (fun h => h)⟩
  have HB1 : Hid (Below w.heap.size w w1 ∧ (∀ a n c, Value.slice va (spN p).length vc = .slice (some a) n c → w.heap.size ≤ a.block) ∧ Tx w1 (.slice va (spN p).length vc) (spN p)) := ⟨HB.out.trans (B1.mono HB.out.size), fun a n c e => Nat.le_trans HB.out.size (hfa a n c e), hT⟩
  clear B1 HB HO o0 o1 o2 o3 o4 hT hfa
  go_wp2_with fail
  refine (HMH.out va vc w1 HB1.out.1 HB1.out.2.2 HB1.out.2.1).mono ?_
  clear HMH
  rintro e w2 ⟨rfl, HX⟩
  go_wp2_with fail
  go_ret
  exact ⟨rfl, w1, HB1.out.1, HX.out⟩
set_option maxHeartbeats 6400000 in
set_option maxRecDepth 100000 in
theorem rdo_4 (hp : p.size ≤ 3000) (he : spE p = 0) {c : Int} (X : World → World → Prop)
    (HM : ∀ (va : Option Addr) (vc : Nat) (w1 : World), Below w.heap.size w w1 → Tx w1 (.slice va (spN p).length vc) (spN p) → (∀ a n c, Value.slice va (spN p).length vc = .slice (some a) n c → w.heap.size ≤ a.block) → Calls Tryz.prog 32 #[ptr r, .agg #[.int .i64 4, .string p, .string q0, .slice da dn dc, .int .i64 n], .slice va (spN p).length vc] w1 fun e w' => e = .returned (.int .i64 c) ∧ X w1 w') :
    Calls Tryz.prog 10 #[ptr r, .agg #[.int .i64 4, .string p, .string q0, .slice da dn dc, .int .i64 n]] w fun e w' => e = .returned (.int .i64 c) ∧ ∃ w1, Below w.heap.size w w1 ∧ X w1 w' := by
  have g3 : (spE p == 0) = true := by simpa using he
  have g4 : decide (spE p = 0) = true := by simpa using he
  have HMH : Hid (∀ (va : Option Addr) (vc : Nat) (w1 : World), Below w.heap.size w w1 → Tx w1 (.slice va (spN p).length vc) (spN p) → (∀ a n c, Value.slice va (spN p).length vc = .slice (some a) n c → w.heap.size ≤ a.block) → Calls Tryz.prog 32 #[ptr r, .agg #[.int .i64 4, .string p, .string q0, .slice da dn dc, .int .i64 n], .slice va (spN p).length vc] w1 fun e w' => e = .returned (.int .i64 c) ∧ Hid (X w1 w')) := HM
  clear HM
  have B0 := below_alloc w (opV 4 p q0 (.slice da dn dc) n)
  obtain ⟨o0, o1, o2, o3, o4⟩ := opv_cells w 4 p q0 (.slice da dn dc) n
  obtain ⟨wa, HWA⟩ : ∃ wa, Hid (w.alloc (opV 4 p q0 (.slice da dn dc) n) = wa) := ⟨_, rfl⟩
  rw [HWA.out] at B0 o0 o1 o2 o3 o4
  have HB : Hid (Below w.heap.size w wa) := B0
  have HO : Hid (wa.cell? ⟨w.heap.size, 0, none⟩ = some (.int .i64 4) ∧ wa.cell? ⟨w.heap.size, 1, none⟩ = some (.string p) ∧ wa.cell? ⟨w.heap.size, 2, none⟩ = some (.string q0) ∧ wa.cell? ⟨w.heap.size, 3, none⟩ = some (.slice da dn dc) ∧ wa.cell? ⟨w.heap.size, 4, none⟩ = some (.int .i64 n)) := ⟨o0, o1, o2, o3, o4⟩
  have HS : Hid (Calls Tryz.prog 30 #[.string p] wa fun e w' => ∃ v, e = .returned (.tuple #[v, .int .i64 (spE p)]) ∧ Tx w' v (spN p) ∧ Below wa.heap.size wa w' ∧ ∀ a n c, v = .slice (some a) n c → wa.heap.size ≤ a.block) := rsplitN_any p wa hp
  clear B0
  go_enter Tryz.func10, Tryz.ntmps10
  go_wp2_with fail
  rw [HWA.out]
  go_wp2_with fail
  refine HS.out.mono ?_
  clear HS
  rintro e w1 ⟨v, rfl, hT, B1, hfa⟩
  obtain ⟨va, vc, rfl⟩ := hT.form
  obtain ⟨p0, p1, p2, p3, p4⟩ : w1.cell? ⟨w.heap.size, 0, none⟩ = some (.int .i64 4) ∧ w1.cell? ⟨w.heap.size, 1, none⟩ = some (.string p) ∧ w1.cell? ⟨w.heap.size, 2, none⟩ = some (.string q0) ∧ w1.cell? ⟨w.heap.size, 3, none⟩ = some (.slice da dn dc) ∧ w1.cell? ⟨w.heap.size, 4, none⟩ = some (.int .i64 n) := by
    have hc := Chg.ofBelowC B1
    exact ⟨hc.cell HO.out.1 (fun h => h), hc.cell HO.out.2.1 (fun h => h), hc.cell HO.out.2.2.1 (fun h => h), hc.cell HO.out.2.2.2.1 (fun h => h), hc.cell HO.out.2.2.2.2 (fun h => h)⟩
  have HB1 : Hid (Below w.heap.size w w1 ∧ (∀ a n c, Value.slice va (spN p).length vc = .slice (some a) n c → w.heap.size ≤ a.block) ∧ Tx w1 (.slice va (spN p).length vc) (spN p)) := ⟨HB.out.trans (B1.mono HB.out.size), fun a n c e => Nat.le_trans HB.out.size (hfa a n c e), hT⟩
  clear B1 HB HO o0 o1 o2 o3 o4 hT hfa
  go_wp2_with fail
  refine (HMH.out va vc w1 HB1.out.1 HB1.out.2.2 HB1.out.2.1).mono ?_
  clear HMH
  rintro e w2 ⟨rfl, HX⟩
  go_wp2_with fail
  go_ret
  exact ⟨rfl, w1, HB1.out.1, HX.out⟩
set_option maxHeartbeats 6400000 in
set_option maxRecDepth 100000 in
theorem rdo_5 (hp : p.size ≤ 3000) (he : spE p = 0) {c : Int} (X : World → World → Prop)
    (HM : ∀ (va : Option Addr) (vc : Nat) (w1 : World), Below w.heap.size w w1 → Tx w1 (.slice va (spN p).length vc) (spN p) → (∀ a n c, Value.slice va (spN p).length vc = .slice (some a) n c → w.heap.size ≤ a.block) → Calls Tryz.prog 33 #[ptr r, .slice va (spN p).length vc, .bool false] w1 fun e w' => e = .returned (.int .i64 c) ∧ X w1 w') :
    Calls Tryz.prog 10 #[ptr r, .agg #[.int .i64 5, .string p, .string q0, .slice da dn dc, .int .i64 n]] w fun e w' => e = .returned (.int .i64 c) ∧ ∃ w1, Below w.heap.size w w1 ∧ X w1 w' := by
  have g3 : (spE p == 0) = true := by simpa using he
  have g4 : decide (spE p = 0) = true := by simpa using he
  have HMH : Hid (∀ (va : Option Addr) (vc : Nat) (w1 : World), Below w.heap.size w w1 → Tx w1 (.slice va (spN p).length vc) (spN p) → (∀ a n c, Value.slice va (spN p).length vc = .slice (some a) n c → w.heap.size ≤ a.block) → Calls Tryz.prog 33 #[ptr r, .slice va (spN p).length vc, .bool false] w1 fun e w' => e = .returned (.int .i64 c) ∧ Hid (X w1 w')) := HM
  clear HM
  have B0 := below_alloc w (opV 5 p q0 (.slice da dn dc) n)
  obtain ⟨o0, o1, o2, o3, o4⟩ := opv_cells w 5 p q0 (.slice da dn dc) n
  obtain ⟨wa, HWA⟩ : ∃ wa, Hid (w.alloc (opV 5 p q0 (.slice da dn dc) n) = wa) := ⟨_, rfl⟩
  rw [HWA.out] at B0 o0 o1 o2 o3 o4
  have HB : Hid (Below w.heap.size w wa) := B0
  have HO : Hid (wa.cell? ⟨w.heap.size, 0, none⟩ = some (.int .i64 5) ∧ wa.cell? ⟨w.heap.size, 1, none⟩ = some (.string p) ∧ wa.cell? ⟨w.heap.size, 2, none⟩ = some (.string q0) ∧ wa.cell? ⟨w.heap.size, 3, none⟩ = some (.slice da dn dc) ∧ wa.cell? ⟨w.heap.size, 4, none⟩ = some (.int .i64 n)) := ⟨o0, o1, o2, o3, o4⟩
  have HS : Hid (Calls Tryz.prog 30 #[.string p] wa fun e w' => ∃ v, e = .returned (.tuple #[v, .int .i64 (spE p)]) ∧ Tx w' v (spN p) ∧ Below wa.heap.size wa w' ∧ ∀ a n c, v = .slice (some a) n c → wa.heap.size ≤ a.block) := rsplitN_any p wa hp
  clear B0
  go_enter Tryz.func10, Tryz.ntmps10
  go_wp2_with fail
  rw [HWA.out]
  go_wp2_with fail
  refine HS.out.mono ?_
  clear HS
  rintro e w1 ⟨v, rfl, hT, B1, hfa⟩
  obtain ⟨va, vc, rfl⟩ := hT.form
  obtain ⟨p0, p1, p2, p3, p4⟩ : w1.cell? ⟨w.heap.size, 0, none⟩ = some (.int .i64 5) ∧ w1.cell? ⟨w.heap.size, 1, none⟩ = some (.string p) ∧ w1.cell? ⟨w.heap.size, 2, none⟩ = some (.string q0) ∧ w1.cell? ⟨w.heap.size, 3, none⟩ = some (.slice da dn dc) ∧ w1.cell? ⟨w.heap.size, 4, none⟩ = some (.int .i64 n) := by
    have hc := Chg.ofBelowC B1
    exact ⟨hc.cell HO.out.1 (fun h => h), hc.cell HO.out.2.1 (fun h => h), hc.cell HO.out.2.2.1 (fun h => h), hc.cell HO.out.2.2.2.1 (fun h => h), hc.cell HO.out.2.2.2.2 (fun h => h)⟩
  have HB1 : Hid (Below w.heap.size w w1 ∧ (∀ a n c, Value.slice va (spN p).length vc = .slice (some a) n c → w.heap.size ≤ a.block) ∧ Tx w1 (.slice va (spN p).length vc) (spN p)) := ⟨HB.out.trans (B1.mono HB.out.size), fun a n c e => Nat.le_trans HB.out.size (hfa a n c e), hT⟩
  clear B1 HB HO o0 o1 o2 o3 o4 hT hfa
  go_wp2_with fail
  refine (HMH.out va vc w1 HB1.out.1 HB1.out.2.2 HB1.out.2.1).mono ?_
  clear HMH
  rintro e w2 ⟨rfl, HX⟩
  go_wp2_with fail
  go_ret
  exact ⟨rfl, w1, HB1.out.1, HX.out⟩
set_option maxHeartbeats 6400000 in
set_option maxRecDepth 100000 in
theorem rdo_6 (hp : p.size ≤ 3000) (he : spE p = 0) {c : Int} (X : World → World → Prop)
    (HM : ∀ (va : Option Addr) (vc : Nat) (w1 : World), Below w.heap.size w w1 → Tx w1 (.slice va (spN p).length vc) (spN p) → (∀ a n c, Value.slice va (spN p).length vc = .slice (some a) n c → w.heap.size ≤ a.block) → Calls Tryz.prog 33 #[ptr r, .slice va (spN p).length vc, .bool true] w1 fun e w' => e = .returned (.int .i64 c) ∧ X w1 w') :
    Calls Tryz.prog 10 #[ptr r, .agg #[.int .i64 6, .string p, .string q0, .slice da dn dc, .int .i64 n]] w fun e w' => e = .returned (.int .i64 c) ∧ ∃ w1, Below w.heap.size w w1 ∧ X w1 w' := by
  have g3 : (spE p == 0) = true := by simpa using he
  have g4 : decide (spE p = 0) = true := by simpa using he
  have HMH : Hid (∀ (va : Option Addr) (vc : Nat) (w1 : World), Below w.heap.size w w1 → Tx w1 (.slice va (spN p).length vc) (spN p) → (∀ a n c, Value.slice va (spN p).length vc = .slice (some a) n c → w.heap.size ≤ a.block) → Calls Tryz.prog 33 #[ptr r, .slice va (spN p).length vc, .bool true] w1 fun e w' => e = .returned (.int .i64 c) ∧ Hid (X w1 w')) := HM
  clear HM
  have B0 := below_alloc w (opV 6 p q0 (.slice da dn dc) n)
  obtain ⟨o0, o1, o2, o3, o4⟩ := opv_cells w 6 p q0 (.slice da dn dc) n
  obtain ⟨wa, HWA⟩ : ∃ wa, Hid (w.alloc (opV 6 p q0 (.slice da dn dc) n) = wa) := ⟨_, rfl⟩
  rw [HWA.out] at B0 o0 o1 o2 o3 o4
  have HB : Hid (Below w.heap.size w wa) := B0
  have HO : Hid (wa.cell? ⟨w.heap.size, 0, none⟩ = some (.int .i64 6) ∧ wa.cell? ⟨w.heap.size, 1, none⟩ = some (.string p) ∧ wa.cell? ⟨w.heap.size, 2, none⟩ = some (.string q0) ∧ wa.cell? ⟨w.heap.size, 3, none⟩ = some (.slice da dn dc) ∧ wa.cell? ⟨w.heap.size, 4, none⟩ = some (.int .i64 n)) := ⟨o0, o1, o2, o3, o4⟩
  have HS : Hid (Calls Tryz.prog 30 #[.string p] wa fun e w' => ∃ v, e = .returned (.tuple #[v, .int .i64 (spE p)]) ∧ Tx w' v (spN p) ∧ Below wa.heap.size wa w' ∧ ∀ a n c, v = .slice (some a) n c → wa.heap.size ≤ a.block) := rsplitN_any p wa hp
  clear B0
  go_enter Tryz.func10, Tryz.ntmps10
  go_wp2_with fail
  rw [HWA.out]
  go_wp2_with fail
  refine HS.out.mono ?_
  clear HS
  rintro e w1 ⟨v, rfl, hT, B1, hfa⟩
  obtain ⟨va, vc, rfl⟩ := hT.form
  obtain ⟨p0, p1, p2, p3, p4⟩ : w1.cell? ⟨w.heap.size, 0, none⟩ = some (.int .i64 6) ∧ w1.cell? ⟨w.heap.size, 1, none⟩ = some (.string p) ∧ w1.cell? ⟨w.heap.size, 2, none⟩ = some (.string q0) ∧ w1.cell? ⟨w.heap.size, 3, none⟩ = some (.slice da dn dc) ∧ w1.cell? ⟨w.heap.size, 4, none⟩ = some (.int .i64 n) := by
    have hc := Chg.ofBelowC B1
    exact ⟨hc.cell HO.out.1 (fun h => h), hc.cell HO.out.2.1 (fun h => h), hc.cell HO.out.2.2.1 (fun h => h), hc.cell HO.out.2.2.2.1 (fun h => h), hc.cell HO.out.2.2.2.2 (fun h => h)⟩
  have HB1 : Hid (Below w.heap.size w w1 ∧ (∀ a n c, Value.slice va (spN p).length vc = .slice (some a) n c → w.heap.size ≤ a.block) ∧ Tx w1 (.slice va (spN p).length vc) (spN p)) := ⟨HB.out.trans (B1.mono HB.out.size), fun a n c e => Nat.le_trans HB.out.size (hfa a n c e), hT⟩
  clear B1 HB HO o0 o1 o2 o3 o4 hT hfa
  go_wp2_with fail
  refine (HMH.out va vc w1 HB1.out.1 HB1.out.2.2 HB1.out.2.1).mono ?_
  clear HMH
  rintro e w2 ⟨rfl, HX⟩
  go_wp2_with fail
  go_ret
  exact ⟨rfl, w1, HB1.out.1, HX.out⟩
set_option maxHeartbeats 6400000 in
set_option maxRecDepth 100000 in
theorem rdo_to (hp : p.size ≤ 3000) (hq : q0.size ≤ 3000) (he : spE p = 0) (he2 : ¬ spE q0 = 0) :
    Calls Tryz.prog 10 #[ptr r, .agg #[.int .i64 7, .string p, .string q0, .slice da dn dc, .int .i64 n]] w fun e w' => e = .returned (.int .i64 (spE q0)) ∧ Below w.heap.size w w' := by
  have g3 : (spE p == 0) = true := by simpa using he
  have g4 : decide (spE p = 0) = true := by simpa using he
  have g5 : (spE q0 == 0) = false := by simpa using he2
  have g6 : decide (spE q0 = 0) = false := by simpa using he2
  have B0 := below_alloc w (opV 7 p q0 (.slice da dn dc) n)
  obtain ⟨o0, o1, o2, o3, o4⟩ := opv_cells w 7 p q0 (.slice da dn dc) n
  obtain ⟨wa, HWA⟩ : ∃ wa, Hid (w.alloc (opV 7 p q0 (.slice da dn dc) n) = wa) := ⟨_, rfl⟩
  rw [HWA.out] at B0 o0 o1 o2 o3 o4
  have HB : Hid (Below w.heap.size w wa) := B0
  have HO : Hid (wa.cell? ⟨w.heap.size, 0, none⟩ = some (.int .i64 7) ∧ wa.cell? ⟨w.heap.size, 1, none⟩ = some (.string p) ∧ wa.cell? ⟨w.heap.size, 2, none⟩ = some (.string q0) ∧ wa.cell? ⟨w.heap.size, 3, none⟩ = some (.slice da dn dc) ∧ wa.cell? ⟨w.heap.size, 4, none⟩ = some (.int .i64 n)) := ⟨o0, o1, o2, o3, o4⟩
  have HS : Hid (Calls Tryz.prog 30 #[.string p] wa fun e w' => ∃ v, e = .returned (.tuple #[v, .int .i64 (spE p)]) ∧ Tx w' v (spN p) ∧ Below wa.heap.size wa w' ∧ ∀ a n c, v = .slice (some a) n c → wa.heap.size ≤ a.block) := rsplitN_any p wa hp
  clear B0
  go_enter Tryz.func10, Tryz.ntmps10
  go_wp2_with fail
  rw [HWA.out]
  go_wp2_with fail
  refine HS.out.mono ?_
  clear HS
  rintro e w1 ⟨v, rfl, hT, B1, hfa⟩
  obtain ⟨va, vc, rfl⟩ := hT.form
  obtain ⟨p0, p1, p2, p3, p4⟩ : w1.cell? ⟨w.heap.size, 0, none⟩ = some (.int .i64 7) ∧ w1.cell? ⟨w.heap.size, 1, none⟩ = some (.string p) ∧ w1.cell? ⟨w.heap.size, 2, none⟩ = some (.string q0) ∧ w1.cell? ⟨w.heap.size, 3, none⟩ = some (.slice da dn dc) ∧ w1.cell? ⟨w.heap.size, 4, none⟩ = some (.int .i64 n) := by
    have hc := Chg.ofBelowC B1
    exact ⟨hc.cell HO.out.1 (fun h => h), hc.cell HO.out.2.1 (fun h => h), hc.cell HO.out.2.2.1 (fun h => h), hc.cell HO.out.2.2.2.1 (fun h => h), hc.cell HO.out.2.2.2.2 (fun h => h)⟩
  have HB1 : Hid (Below w.heap.size w w1 ∧ (∀ a n c, Value.slice va (spN p).length vc = .slice (some a) n c → w.heap.size ≤ a.block) ∧ Tx w1 (.slice va (spN p).length vc) (spN p)) := ⟨HB.out.trans (B1.mono HB.out.size), fun a n c e => Nat.le_trans HB.out.size (hfa a n c e), hT⟩
  clear B1 HB HO o0 o1 o2 o3 o4 hT hfa
  go_wp2_with fail
  refine (rsplitN_any q0 w1 hq).mono ?_
  rintro e w2 ⟨v2, rfl, hT2, B2, hfa2⟩
  obtain ⟨vb, vd, rfl⟩ := hT2.form
  have HB2 : Hid (Below w.heap.size w w2 ∧ (∀ a n c, Value.slice va (spN p).length vc = .slice (some a) n c → w.heap.size ≤ a.block) ∧ Tx w2 (.slice va (spN p).length vc) (spN p) ∧ (∀ a n c, Value.slice vb (spN q0).length vd = .slice (some a) n c → w.heap.size ≤ a.block) ∧ Tx w2 (.slice vb (spN q0).length vd) (spN q0)) := ⟨HB1.out.1.trans (B2.mono HB1.out.1.size), HB1.out.2.1, HB1.out.2.2.below B2, fun a n c e => Nat.le_trans HB1.out.1.size (hfa2 a n c e), hT2⟩
  clear B2 HB1 hT2 hfa2 p0 p1 p2 p3 p4
  go_wp2_with fail
  go_ret
  exact ⟨rfl, HB2.out.1⟩
set_option maxHeartbeats 6400000 in
set_option maxRecDepth 100000 in
theorem rdo_7 (hp : p.size ≤ 3000) (hq : q0.size ≤ 3000) (he : spE p = 0) (he2 : spE q0 = 0) {c : Int} (X : World → World → Prop)
    (HM : ∀ (va : Option Addr) (vc : Nat) (vb : Option Addr) (vd : Nat) (w1 : World), Below w.heap.size w w1 → Tx w1 (.slice va (spN p).length vc) (spN p) → (∀ a n c, Value.slice va (spN p).length vc = .slice (some a) n c → w.heap.size ≤ a.block) → Tx w1 (.slice vb (spN q0).length vd) (spN q0) → (∀ a n c, Value.slice vb (spN q0).length vd = .slice (some a) n c → w.heap.size ≤ a.block) → Calls Tryz.prog 34 #[ptr r, .slice va (spN p).length vc, .slice vb (spN q0).length vd] w1 fun e w' => e = .returned (.int .i64 c) ∧ X w1 w') :
    Calls Tryz.prog 10 #[ptr r, .agg #[.int .i64 7, .string p, .string q0, .slice da dn dc, .int .i64 n]] w fun e w' => e = .returned (.int .i64 c) ∧ ∃ w1, Below w.heap.size w w1 ∧ X w1 w' := by
  have g3 : (spE p == 0) = true := by simpa using he
  have g4 : decide (spE p = 0) = true := by simpa using he
  have g5 : (spE q0 == 0) = true := by simpa using he2
  have g6 : decide (spE q0 = 0) = true := by simpa using he2
  have HMH : Hid (∀ (va : Option Addr) (vc : Nat) (vb : Option Addr) (vd : Nat) (w1 : World), Below w.heap.size w w1 → Tx w1 (.slice va (spN p).length vc) (spN p) → (∀ a n c, Value.slice va (spN p).length vc = .slice (some a) n c → w.heap.size ≤ a.block) → Tx w1 (.slice vb (spN q0).length vd) (spN q0) → (∀ a n c, Value.slice vb (spN q0).length vd = .slice (some a) n c → w.heap.size ≤ a.block) → Calls Tryz.prog 34 #[ptr r, .slice va (spN p).length vc, .slice vb (spN q0).length vd] w1 fun e w' => e = .returned (.int .i64 c) ∧ Hid (X w1 w')) := HM
  clear HM
  have B0 := below_alloc w (opV 7 p q0 (.slice da dn dc) n)
  obtain ⟨o0, o1, o2, o3, o4⟩ := opv_cells w 7 p q0 (.slice da dn dc) n
  obtain ⟨wa, HWA⟩ : ∃ wa, Hid (w.alloc (opV 7 p q0 (.slice da dn dc) n) = wa) := ⟨_, rfl⟩
  rw [HWA.out] at B0 o0 o1 o2 o3 o4
  have HB : Hid (Below w.heap.size w wa) := B0
  have HO : Hid (wa.cell? ⟨w.heap.size, 0, none⟩ = some (.int .i64 7) ∧ wa.cell? ⟨w.heap.size, 1, none⟩ = some (.string p) ∧ wa.cell? ⟨w.heap.size, 2, none⟩ = some (.string q0) ∧ wa.cell? ⟨w.heap.size, 3, none⟩ = some (.slice da dn dc) ∧ wa.cell? ⟨w.heap.size, 4, none⟩ = some (.int .i64 n)) := ⟨o0, o1, o2, o3, o4⟩
  have HS : Hid (Calls Tryz.prog 30 #[.string p] wa fun e w' => ∃ v, e = .returned (.tuple #[v, .int .i64 (spE p)]) ∧ Tx w' v (spN p) ∧ Below wa.heap.size wa w' ∧ ∀ a n c, v = .slice (some a) n c → wa.heap.size ≤ a.block) := rsplitN_any p wa hp
  clear B0
  go_enter Tryz.func10, Tryz.ntmps10
  go_wp2_with fail
  rw [HWA.out]
  go_wp2_with fail
  refine HS.out.mono ?_
  clear HS
  rintro e w1 ⟨v, rfl, hT, B1, hfa⟩
  obtain ⟨va, vc, rfl⟩ := hT.form
  obtain ⟨p0, p1, p2, p3, p4⟩ : w1.cell? ⟨w.heap.size, 0, none⟩ = some (.int .i64 7) ∧ w1.cell? ⟨w.heap.size, 1, none⟩ = some (.string p) ∧ w1.cell? ⟨w.heap.size, 2, none⟩ = some (.string q0) ∧ w1.cell? ⟨w.heap.size, 3, none⟩ = some (.slice da dn dc) ∧ w1.cell? ⟨w.heap.size, 4, none⟩ = some (.int .i64 n) := by
    have hc := Chg.ofBelowC B1
    exact ⟨hc.cell HO.out.1 (fun h => h), hc.cell HO.out.2.1 (fun h => h), hc.cell HO.out.2.2.1 (fun h => h), hc.cell HO.out.2.2.2.1 (fun h => h), hc.cell HO.out.2.2.2.2 (fun h => h)⟩
  have HB1 : Hid (Below w.heap.size w w1 ∧ (∀ a n c, Value.slice va (spN p).length vc = .slice (some a) n c → w.heap.size ≤ a.block) ∧ Tx w1 (.slice va (spN p).length vc) (spN p)) := ⟨HB.out.trans (B1.mono HB.out.size), fun a n c e => Nat.le_trans HB.out.size (hfa a n c e), hT⟩
  clear B1 HB HO o0 o1 o2 o3 o4 hT hfa
  go_wp2_with fail
  refine (rsplitN_any q0 w1 hq).mono ?_
  rintro e w2 ⟨v2, rfl, hT2, B2, hfa2⟩
  obtain ⟨vb, vd, rfl⟩ := hT2.form
  have HB2 : Hid (Below w.heap.size w w2 ∧ (∀ a n c, Value.slice va (spN p).length vc = .slice (some a) n c → w.heap.size ≤ a.block) ∧ Tx w2 (.slice va (spN p).length vc) (spN p) ∧ (∀ a n c, Value.slice vb (spN q0).length vd = .slice (some a) n c → w.heap.size ≤ a.block) ∧ Tx w2 (.slice vb (spN q0).length vd) (spN q0)) := ⟨HB1.out.1.trans (B2.mono HB1.out.1.size), HB1.out.2.1, HB1.out.2.2.below B2, fun a n c e => Nat.le_trans HB1.out.1.size (hfa2 a n c e), hT2⟩
  clear B2 HB1 hT2 hfa2 p0 p1 p2 p3 p4
  go_wp2_with fail
  refine (HMH.out va vc vb vd w2 HB2.out.1 HB2.out.2.2.1 HB2.out.2.1 HB2.out.2.2.2.2 HB2.out.2.2.2.1).mono ?_
  clear HMH
  rintro e w3 ⟨rfl, HX⟩
  go_wp2_with fail
  go_ret
  exact ⟨rfl, w2, HB2.out.1, HX.out⟩
end
end Go.Proofs.YtlnjnimenihhnaaGreatDoor

namespace Go.Proofs.YtlnjnimenihhnaaGreatDoor
open Go.RowKit Go.Maps

theorem Vto.after {w w1 w' : World} {r q : Nat} {G : Nat → Prop} {T' : Ts} {K : Nat} (hb : Below w.heap.size w w1) (h : Vto w1 w' r q G T' K) : Vto w w' r q G T' K := by
  obtain ⟨R', num', h1, h2, h3, h4, h5⟩ := h
  exact Vto.of hb h1 h2 h3 h4 h5
theorem Vto.below {w w' : World} {r q : Nat} {G : Nat → Prop} {R : Rs} {T : Ts} {num : Pth → Nat} {K : Nat} (h : Rt w r q G R) (hD : Dt T R num K) (hb : Below w.heap.size w w') : Vto w w' r q G T K := Vto.same h hD hb
set_option maxHeartbeats 1600000 in
theorem vdo_any {T : Ts} {R : Rs} {num : Pth → Nat} {K r q : Nat} {G : Nat → Prop} {w : World} (h : Rt w r q G R) (hD : Dt T R num K) (hK : K ≤ 60000) (o : Ac) (dv : Value) (hd : Bs w dv o.d) (hI : IsB o.d) (hdl : o.d.length ≤ 10000000) (har : ∀ a n c, dv = .slice (some a) n c → 0 < n → ¬ a.block = r) (hp : o.p.size ≤ 3000) (hq : o.q.size ≤ 3000) {c : Int} {T' : Ts} (hr : doR T o = (c, T')) :
    Calls Tryz.prog 10 #[ptr r, .agg #[.int .i64 o.k, .string o.p, .string o.q, dv, .int .i64 o.n]] w fun e w' => e = .returned (.int .i64 c) ∧ Vto w w' r q G T' K := by
  obtain ⟨k, p, q0, d, n⟩ := o
  have hdf : ∃ a dc, dv = .slice a d.length dc := by
    rcases hd with ⟨rfl, h⟩ | ⟨a, c, rfl, _⟩
    · exact ⟨none, 0, by rw [show d = [] from h]; rfl⟩
    · exact ⟨some a, c, rfl⟩
  obtain ⟨da, dc, rfl⟩ := hdf
  have hlt := h.lt
  have far : ∀ (va : Option Addr) (vc m : Nat), (∀ a n c, Value.slice va m vc = .slice (some a) n c → w.heap.size ≤ a.block) → Far (.slice va m vc) r q := fun va vc m hf a n c e => by
    have := hf a n c e
    omega
  have nms : ∀ s : ByteArray, spE s = 0 → (spN s).length ≤ 1000 ∧ (spN s).all nameB = true := fun s hs => ⟨Nat.le_trans (spN_len s) (by omega), (spN_all hs).1⟩
  unfold doR at hr
  by_cases hk : k < 1 ∨ 7 < k
  · rw [if_pos hk] at hr
    cases hr
    refine (rdo_bad hk).mono ?_
    rintro e w' ⟨rfl, B⟩
    exact ⟨rfl, Vto.same h hD B⟩
  · rw [if_neg hk] at hr
    by_cases he : spE p = 0
    · by_cases h7 : k = 7
      · subst h7
        rw [if_pos rfl] at hr
        by_cases he2 : spE q0 = 0
        · rw [renR_names T p q0 he he2] at hr
          refine (rdo_7 hp hq he he2 (fun w1 w' => Vto w1 w' r q G T' K) (fun va vc vb vd w1 hb hT1 hf1 hT2 hf2 => vrename_any (h.below hb) hD hK _ _ _ _ hT1 hT2 (far va vc _ hf1) (far vb vd _ hf2) (nms p he).1 (nms q0 he2).1 (nms p he).2 (nms q0 he2).2 hr)).mono ?_
          rintro e w' ⟨rfl, w1, B, V⟩
          exact ⟨rfl, V.after B⟩
        · unfold renR at hr
          rw [if_neg (by simp [he]), if_pos he2] at hr
          cases hr
          refine (rdo_to hp hq he he2).mono ?_
          rintro e w' ⟨rfl, B⟩
          exact ⟨rfl, Vto.same h hD B⟩
      · rw [if_neg h7] at hr
        have hfi : fiE T.F p = folE T.F (spN p) := by unfold fiE; rw [if_pos he]
        rw [hfi] at hr
        have h16 : k = 1 ∨ k = 2 ∨ k = 3 ∨ k = 4 ∨ k = 5 ∨ k = 6 := by omega
        rcases h16 with rfl | rfl | rfl | rfl | rfl | rfl
        · have e : mkR T (spN p) false = (c, T') := by rw [← hr]; rfl
          refine (rdo_1 hp he (fun w1 w' => Vto w1 w' r q G T' K) (fun va vc w1 hb hT hf => vmake_any w1 (h.below hb) hD hK _ _ hT (far va vc _ hf) (nms p he).1 (nms p he).2 false e)).mono ?_
          rintro e w' ⟨rfl, w1, B, V⟩
          exact ⟨rfl, V.after B⟩
        · have e : mkR T (spN p) true = (c, T') := by rw [← hr]; rfl
          refine (rdo_2 hp he (fun w1 w' => Vto w1 w' r q G T' K) (fun va vc w1 hb hT hf => vmake_any w1 (h.below hb) hD hK _ _ hT (far va vc _ hf) (nms p he).1 (nms p he).2 true e)).mono ?_
          rintro e w' ⟨rfl, w1, B, V⟩
          exact ⟨rfl, V.after B⟩
        · have e : dtR T (spN p) 3 d n = (c, T') := by rw [← hr]; rfl
          refine (rdo_3 hp he (fun w1 w' => Vto w1 w' r q G T' K) (fun va vc w1 hb hT hf => vdata_any (h.below hb) hD hK _ _ hT (nms p he).1 (nms p he).2 3 (.inl rfl) p q0 _ d (hd.kept (Chg.ofBelowC hb) (fun _ _ _ _ _ h => h)) hI hdl har n e)).mono ?_
          rintro e w' ⟨rfl, w1, B, V⟩
          exact ⟨rfl, V.after B⟩
        · have e : dtR T (spN p) 4 d n = (c, T') := by rw [← hr]; rfl
          refine (rdo_4 hp he (fun w1 w' => Vto w1 w' r q G T' K) (fun va vc w1 hb hT hf => vdata_any (h.below hb) hD hK _ _ hT (nms p he).1 (nms p he).2 4 (.inr rfl) p q0 _ d (hd.kept (Chg.ofBelowC hb) (fun _ _ _ _ _ h => h)) hI hdl har n e)).mono ?_
          rintro e w' ⟨rfl, w1, B, V⟩
          exact ⟨rfl, V.after B⟩
        · have e : rmvR T (spN p) false = (c, T') := by rw [← hr]; rfl
          refine (rdo_5 hp he (fun w1 w' => Vto w1 w' r q G T' K) (fun va vc w1 hb hT hf => vremove_any (h.below hb) hD hK _ _ hT (far va vc _ hf) (nms p he).1 (nms p he).2 false e)).mono ?_
          rintro e w' ⟨rfl, w1, B, V⟩
          exact ⟨rfl, V.after B⟩
        · have e : rmvR T (spN p) true = (c, T') := by rw [← hr]; rfl
          refine (rdo_6 hp he (fun w1 w' => Vto w1 w' r q G T' K) (fun va vc w1 hb hT hf => vremove_any (h.below hb) hD hK _ _ hT (far va vc _ hf) (nms p he).1 (nms p he).2 true e)).mono ?_
          rintro e w' ⟨rfl, w1, B, V⟩
          exact ⟨rfl, V.after B⟩
    · have hcT : c = spE p ∧ T' = T := by
        by_cases h7 : k = 7
        · subst h7
          rw [if_pos rfl] at hr
          unfold renR at hr
          rw [if_pos he] at hr
          cases hr
          exact ⟨rfl, rfl⟩
        · have hfi : fiE T.F p = spE p := by unfold fiE; rw [if_neg he]
          rw [if_neg h7, hfi, if_pos he] at hr
          cases hr
          exact ⟨rfl, rfl⟩
      obtain ⟨rfl, rfl⟩ := hcT
      refine (rdo_path (k := k) (fun h => hk (.inl h)) (fun h => hk (.inr h)) hp he).mono ?_
      rintro e w' ⟨rfl, B⟩
      exact ⟨rfl, Vto.same h hD B⟩
end Go.Proofs.YtlnjnimenihhnaaGreatDoor

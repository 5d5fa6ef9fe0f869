/-
  What New does, of the package and of the document's own; what known of the laws does.
-/
import Derived.Test.YtmlhjcjonfalhaaBRef
namespace Go.Proofs.Ytmlhjcjonfalhaa
open Go.RowKit

def noughts (n : Nat) : List Int := List.replicate n 0
theorem noughts_len (n : Nat) : (noughts n).length = n := by simp [noughts]
theorem noughts_by (n : Nat) : IsBy (noughts n) := fun x hx => by
  have := List.eq_of_mem_replicate hx
  omega
theorem noughts_bit (n k : Nat) : bitN (noughts n) k = false := by
  unfold bitN byt
  have : (noughts n).getD (k / 8) 0 = 0 := by
    by_cases h : k / 8 < n
    · simp [noughts, List.getD, h]
    · simp [noughts, List.getD, h]
  rw [this]
  exact Nat.zero_testBit _
theorem infoB : (Try.prog.info? 5).map (fun i => (i.zero, i.size, i.bytes)) = some (some (.int .u8 0), 1, 1) := by kernel_rfl
theorem infoB_parts : ∃ i, Try.prog.info? 5 = some i ∧ i.zero = some (.int .u8 0) ∧ i.size = 1 ∧ i.bytes = 1 := by
  have h := infoB
  cases hi : Try.prog.info? 5 with
  | none => rw [hi] at h; cases h
  | some i =>
    rw [hi] at h
    simp at h
    exact ⟨i, rfl, h.1, h.2.1, h.2.2⟩
theorem made_noughts (n : Nat) : (madeCells (Value.int .u8 0).cells (n * 1)).toList = bcells (noughts n) := by
  rw [Nat.mul_one]
  apply List.ext_getElem
  · simp [size_madeCells, bcells, noughts]
  · intro i h1 h2
    simp [madeCells, Value.cells, bcells, noughts, Nat.mod_one]
theorem Chg.ofNone {w w' : World} (h : w.grownBy w' none) : Chg (fun _ => False) w w' := ⟨h.os, h.tape, h.output, h.size, fun k hk _ => h.block k hk (by simp)⟩

set_option maxHeartbeats 1000000 in
theorem newB_no (n : Int) (w : World) (h : n < 0 ∨ 1048576 < n) : Calls Try.prog 20 #[.int .i64 n] w fun e w' => e = .returned (.tuple #[.slice none 0 0, .int .i64 1]) ∧ w' = w := by
  by_cases h0 : n < 0
  · have hd : decide (n < 0) = true := by simpa using h0
    clear h
    go_enter Try.func20, Try.ntmps20
    go_wp2
    go_ret2
    exact ⟨rfl, rfl⟩
  · have hd : decide (n < 0) = false := by simpa using h0
    have h1 : 1048576 < n := by omega
    have hd2 : decide (1048576 < n) = true := by simpa using h1
    clear h
    go_enter Try.func20, Try.ntmps20
    go_wp2
    go_ret2
    exact ⟨rfl, rfl⟩
set_option maxHeartbeats 1000000 in
theorem newB_ok (k : Nat) (w : World) (h : k ≤ 1048576) : Calls Try.prog 20 #[.int .i64 (k : Int)] w fun e w' => e = .returned (.tuple #[.slice (some ⟨w.heap.size, 0, none⟩) ((k + 7) / 8) ((k + 7) / 8), .int .i64 0]) ∧ Mp w' w.heap.size (.slice (some ⟨w.heap.size, 0, none⟩) ((k + 7) / 8) ((k + 7) / 8)) (noughts ((k + 7) / 8)) ∧ Chg (fun _ => False) w w' := by
  obtain ⟨i0, hi, hz0, hz1, hz2⟩ := infoB_parts
  have hd : decide ((k : Int) < 0) = false := by simp
  have hd2 : decide (1048576 < (k : Int)) = false := by simp; omega
  go_enter Try.func20, Try.ntmps20
  go_wp2_with (refine wpList_make_full _ rfl _ _ 25 rfl w.heap.size 5 i0 (.int .u8 0) 1 Try.underlying25 hi hz0 hz1 .i64 .i64 _ _ ((k + 7) / 8) rfl rfl (by omega) (by omega) (by rw [hz2]; omega) (by unfold maxLen; omega) (Nat.le_refl _) ?_; intro w1 own1 grow1)
  rw [made_noughts] at own1
  obtain ⟨g, hg, hgb⟩ := Mp.ofOwns own1
  obtain rfl := hgb w.heap.size rfl
  have HM : Hid (Mp w1 w.heap.size (.slice (some ⟨w.heap.size, 0, none⟩) ((k + 7) / 8) ((k + 7) / 8)) (noughts ((k + 7) / 8)) ∧ Chg (fun _ => False) w w1) := ⟨hg, Chg.ofNone grow1⟩
  clear own1 grow1 hg hgb
  go_wp2
  go_ret2
  exact ⟨rfl, HM.out⟩
set_option maxHeartbeats 1000000 in
theorem rnew_no (n : Int) (w : World) (h : n < 0 ∨ 1048576 < n) : Calls Try.prog 21 #[.int .i64 n] w fun e w' => e = .returned (.tuple #[.slice none 0 0, .int .i64 1]) ∧ w' = w := by
  by_cases h0 : n < 0
  · have hd : decide (n < 0) = true := by simpa using h0
    clear h
    go_enter Try.func21, Try.ntmps21
    go_wp2
    go_ret2
    exact ⟨rfl, rfl⟩
  · have hd : decide (n < 0) = false := by simpa using h0
    have h1 : 1048576 < n := by omega
    have hd2 : decide (1048576 < n) = true := by simpa using h1
    clear h
    go_enter Try.func21, Try.ntmps21
    go_wp2
    go_ret2
    exact ⟨rfl, rfl⟩
set_option maxHeartbeats 1000000 in
theorem rnew_ok (k : Nat) (w : World) (h : k ≤ 1048576) : Calls Try.prog 21 #[.int .i64 (k : Int)] w fun e w' => e = .returned (.tuple #[.slice (some ⟨w.heap.size, 0, none⟩) ((k + 7) / 8) ((k + 7) / 8), .int .i64 0]) ∧ Mp w' w.heap.size (.slice (some ⟨w.heap.size, 0, none⟩) ((k + 7) / 8) ((k + 7) / 8)) (noughts ((k + 7) / 8)) ∧ Chg (fun _ => False) w w' := by
  obtain ⟨i0, hi, hz0, hz1, hz2⟩ := infoB_parts
  have hd : decide ((k : Int) < 0) = false := by simp
  have hd2 : decide (1048576 < (k : Int)) = false := by simp; omega
  go_enter Try.func21, Try.ntmps21
  go_wp2_with (refine wpList_make_full _ rfl _ _ 22 rfl w.heap.size 5 i0 (.int .u8 0) 1 Try.underlying22 hi hz0 hz1 .i64 .i64 _ _ ((k + 7) / 8) rfl rfl (by omega) (by omega) (by rw [hz2]; omega) (by unfold maxLen; omega) (Nat.le_refl _) ?_; intro w1 own1 grow1)
  rw [made_noughts] at own1
  obtain ⟨g, hg, hgb⟩ := Mp.ofOwns own1
  obtain rfl := hgb w.heap.size rfl
  have HM : Hid (Mp w1 w.heap.size (.slice (some ⟨w.heap.size, 0, none⟩) ((k + 7) / 8) ((k + 7) / 8)) (noughts ((k + 7) / 8)) ∧ Chg (fun _ => False) w w1) := ⟨hg, Chg.ofNone grow1⟩
  clear own1 grow1 hg hgb
  go_wp2
  go_ret2
  exact ⟨rfl, HM.out⟩

theorem known_bit3 : bitI (noughts 2) 3 = false := by decide +kernel
theorem known_flip : flipN (noughts 2) 3 = [8, 0] := by decide +kernel
theorem known_run : runI [8, 0] 2 10 4 = some 4 := by decide +kernel
theorem known_cnt : cntI [8, 0] 0 10 = 1 := by decide +kernel
theorem known_by : IsBy [8, 0] := by unfold IsBy; decide +kernel
theorem known_has : bitI [8, 0] 3 = true := by decide +kernel
theorem known_str : strB [8, 0] = ⟨#[8, 0]⟩ := by decide +kernel
set_option maxHeartbeats 4000000 in
theorem knownB (w : World) : Calls Try.prog 8 #[] w fun e w' => e = .returned (.bool true) ∧ Chg (fun _ => False) w w' := by
  have l2 : (noughts 2).length = 2 := rfl
  go_enter Try.func8, Try.ntmps8
  go_wp2_with fail
  refine (newB_ok 10 w (by decide)).mono ?_
  rintro e w1 ⟨rfl, h1, hc1⟩
  have H1 : Hid (Mp w1 w.heap.size (.slice (some ⟨w.heap.size, 0, none⟩) 2 2) (noughts 2) ∧ Chg (fun _ => False) w w1) := ⟨h1, hc1⟩
  clear h1 hc1
  go_wp2_with fail
  refine (set_new _ _ _ 3 _ H1.out.1 (noughts_by 2) (by decide) (by decide) known_bit3).mono ?_
  rintro e w2 ⟨rfl, h2, hc2⟩
  rw [known_flip] at h2
  have H2 : Hid (Mp w2 w.heap.size (.slice (some ⟨w.heap.size, 0, none⟩) 2 2) [8, 0] ∧ Chg (fun _ => False) w w2) := ⟨h2, H1.out.2.trans hc2 (fun i hi e => by omega)⟩
  clear h2 hc2 H1
  go_wp2_with fail
  refine (set_not _ _ 3 _ H2.out.1.bs known_by (by decide) (.inr known_has)).mono ?_
  rintro e w3 ⟨rfl, n3, rfl⟩
  go_wp2_with fail
  refine (run_any _ _ 2 10 4 _ (H2.out.1.bs.drewN n3) known_by (by decide) (by decide) (by decide) (by decide)).mono ?_
  rw [known_run]
  unfold placed runV
  rintro e w4 ⟨rfl, n4, rfl⟩
  go_wp2_with fail
  refine (has_any _ _ 3 _ (H2.out.1.bs.drewN _) known_by (by decide)).mono ?_
  rw [known_has]
  rintro e w5 ⟨rfl, n5, rfl⟩
  go_wp2_with fail
  refine (count_any _ _ 0 10 _ (H2.out.1.bs.drewN _) known_by (by decide) (by decide)).mono ?_
  rw [known_cnt]
  rintro e w6 ⟨rfl, n6, rfl⟩
  have hstr := fun m => run_strM (H2.out.1.bs.drewN m)
  have es := known_str
  go_wp2
  go_ret
  exact ⟨rfl, H2.out.2.trans (Chg.drewN _ _ _) (fun _ _ h => h)⟩
end Go.Proofs.Ytmlhjcjonfalhaa

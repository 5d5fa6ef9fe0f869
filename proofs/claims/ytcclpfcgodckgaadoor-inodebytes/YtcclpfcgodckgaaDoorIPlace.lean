/-
  Where, Blocks, Inner, All of package inode and of the reference: contracts.
-/
import Derived.Test.YtcclpfcgodckgaaDoorIDec2
import Derived.BigQuiet
import Derived.Deep.QuietTactic
namespace Go.Proofs.YtcclpfcgodckgaaDoor
open Go.RowKit

/-- Where a block stands, by its number. -/
def plL (i : Int) : Int := if i < 136 then (if i < 8 then 0 else 1) else 2
def plA (i : Int) : Int := if i < 8 then i else if i < 136 then i - 8 else (i - 136) / 128
def plB (i : Int) : Int := if i < 136 then 0 else (i - 136) % 128
def inPl (i : Int) : Prop := 0 ≤ i ∧ i < 16520
instance (i : Int) : Decidable (inPl i) := by unfold inPl; infer_instance
abbrev plV (l a b : Int) : Value := .agg #[.int .i64 l, .int .i64 a, .int .i64 b]
abbrev plO (T : TypeId) (l a b : Int) : Obj := .cells #[.int .i64 l, .int .i64 a, .int .i64 b] T

set_option maxHeartbeats 800000 in
theorem where_neg (i : Int) (w : World) (h0 : i < 0) :
    Calls Tryd.prog 12 #[.int .i64 i] w fun e w' => e = .returned (.tuple #[plV (0) (0) (0), .int .i64 1]) ∧ w' = w.alloc (plO 37 (0) (0) (0)) := by
  have k : decide (i < 0) = true := by simpa using h0
  go_enter Tryd.func12, Tryd.ntmps12
  go_wp2_with fail
  refine bodyPost_ret (v := .tuple #[plV (0) (0) (0), .int .i64 1]) (by simp [results, Tryd.results12, go_sem]) rfl ⟨rfl, rfl⟩
set_option maxHeartbeats 800000 in
theorem where_big (i : Int) (w : World) (h0 : 16520 ≤ i) :
    Calls Tryd.prog 12 #[.int .i64 i] w fun e w' => e = .returned (.tuple #[plV (0) (0) (0), .int .i64 1]) ∧ w' = w.alloc (plO 37 (0) (0) (0)) := by
  have k0 : decide (i < 0) = false := by simp; omega
  have k0' : ¬ i < 0 := by omega
  go_enter Tryd.func12, Tryd.ntmps12
  go_wp2_with fail
  refine bodyPost_ret (v := .tuple #[plV (0) (0) (0), .int .i64 1]) (by simp [results, Tryd.results12, go_sem]) rfl ⟨rfl, rfl⟩
set_option maxHeartbeats 800000 in
theorem where_dir (i : Int) (w : World) (h0 : 0 ≤ i) (h1 : i < 8) :
    Calls Tryd.prog 12 #[.int .i64 i] w fun e w' => e = .returned (.tuple #[plV (0) (i) (0), .int .i64 0]) ∧ w' = w.alloc (plO 37 (0) (i) (0)) := by
  have k0' : ¬ i < 0 := by omega
  have k1 : ¬ 16520 ≤ i := by omega
  go_enter Tryd.func12, Tryd.ntmps12
  go_wp2_with fail
  refine bodyPost_ret (v := .tuple #[plV (0) (i) (0), .int .i64 0]) (by simp [results, Tryd.results12, go_sem]) rfl ⟨rfl, rfl⟩
set_option maxHeartbeats 800000 in
theorem where_one (i : Int) (w : World) (h0 : 8 ≤ i) (h1 : i < 136) :
    Calls Tryd.prog 12 #[.int .i64 i] w fun e w' => e = .returned (.tuple #[plV (1) (i - 8) (0), .int .i64 0]) ∧ w' = w.alloc (plO 37 (1) (i - 8) (0)) := by
  have k0' : ¬ i < 0 := by omega
  have k1 : ¬ 16520 ≤ i := by omega
  have k2 : ¬ i < 8 := by omega
  go_enter Tryd.func12, Tryd.ntmps12
  go_wp2_with fail
  refine bodyPost_ret (v := .tuple #[plV (1) (i - 8) (0), .int .i64 0]) (by simp [results, Tryd.results12, go_sem]) rfl ⟨rfl, rfl⟩
set_option maxHeartbeats 800000 in
theorem where_two (i : Int) (w : World) (h0 : 136 ≤ i) (h1 : i < 16520) :
    Calls Tryd.prog 12 #[.int .i64 i] w fun e w' => e = .returned (.tuple #[plV (2) ((i - 136) / 128) ((i - 136) % 128), .int .i64 0]) ∧ w' = w.alloc (plO 37 (2) ((i - 136) / 128) ((i - 136) % 128)) := by
  have k0' : ¬ i < 0 := by omega
  have k1 : ¬ 16520 ≤ i := by omega
  have k2 : ¬ i < 8 := by omega
  have k3 : ¬ i < 136 := by omega
  go_enter Tryd.func12, Tryd.ntmps12
  go_wp2_with fail
  refine bodyPost_ret (v := .tuple #[plV (2) ((i - 136) / 128) ((i - 136) % 128), .int .i64 0]) (by simp [results, Tryd.results12, go_sem]) rfl ⟨rfl, rfl⟩
theorem where_out (i : Int) (w : World) (h : ¬ inPl i) :
    Calls Tryd.prog 12 #[.int .i64 i] w fun e w' => e = .returned (.tuple #[plV 0 0 0, .int .i64 1]) ∧ w' = w.alloc (plO 37 0 0 0) := by
  unfold inPl at h
  by_cases h0 : i < 0
  · exact where_neg i w h0
  · exact where_big i w (by omega)
theorem where_in (i : Int) (w : World) (h : inPl i) :
    Calls Tryd.prog 12 #[.int .i64 i] w fun e w' => e = .returned (.tuple #[plV (plL i) (plA i) (plB i), .int .i64 0]) ∧ w' = w.alloc (plO 37 (plL i) (plA i) (plB i)) := by
  obtain ⟨h0, h1⟩ := h
  unfold plL plA plB
  by_cases h8 : i < 8
  · rw [if_pos h8, if_pos h8, if_pos (by omega), if_pos (by omega)]
    exact where_dir i w h0 h8
  · by_cases h136 : i < 136
    · rw [if_neg h8, if_neg h8, if_pos h136, if_pos h136, if_pos h136]
      exact where_one i w (by omega) h136
    · rw [if_neg h136, if_neg h8, if_neg h136, if_neg h136]
      exact where_two i w (by omega) h1
set_option maxHeartbeats 800000 in
theorem refWhere_neg (i : Int) (w : World) (h0 : i < 0) :
    Calls Tryd.prog 13 #[.int .i64 i] w fun e w' => e = .returned (.tuple #[plV (0) (0) (0), .int .i64 1]) ∧ w' = w.alloc (plO 40 (0) (0) (0)) := by
  have k : decide (i < 0) = true := by simpa using h0
  go_enter Tryd.func13, Tryd.ntmps13
  go_wp2_with fail
  refine bodyPost_ret (v := .tuple #[plV (0) (0) (0), .int .i64 1]) (by simp [results, Tryd.results13, go_sem]) rfl ⟨rfl, rfl⟩
set_option maxHeartbeats 800000 in
theorem refWhere_big (i : Int) (w : World) (h0 : 16520 ≤ i) :
    Calls Tryd.prog 13 #[.int .i64 i] w fun e w' => e = .returned (.tuple #[plV (0) (0) (0), .int .i64 1]) ∧ w' = w.alloc (plO 40 (0) (0) (0)) := by
  have k0 : decide (i < 0) = false := by simp; omega
  have k0' : ¬ i < 0 := by omega
  go_enter Tryd.func13, Tryd.ntmps13
  go_wp2_with fail
  refine bodyPost_ret (v := .tuple #[plV (0) (0) (0), .int .i64 1]) (by simp [results, Tryd.results13, go_sem]) rfl ⟨rfl, rfl⟩
set_option maxHeartbeats 800000 in
theorem refWhere_dir (i : Int) (w : World) (h0 : 0 ≤ i) (h1 : i < 8) :
    Calls Tryd.prog 13 #[.int .i64 i] w fun e w' => e = .returned (.tuple #[plV (0) (i) (0), .int .i64 0]) ∧ w' = w.alloc (plO 40 (0) (i) (0)) := by
  have k0' : ¬ i < 0 := by omega
  have k1 : ¬ 16520 ≤ i := by omega
  go_enter Tryd.func13, Tryd.ntmps13
  go_wp2_with fail
  refine bodyPost_ret (v := .tuple #[plV (0) (i) (0), .int .i64 0]) (by simp [results, Tryd.results13, go_sem]) rfl ⟨rfl, rfl⟩
set_option maxHeartbeats 800000 in
theorem refWhere_one (i : Int) (w : World) (h0 : 8 ≤ i) (h1 : i < 136) :
    Calls Tryd.prog 13 #[.int .i64 i] w fun e w' => e = .returned (.tuple #[plV (1) (i - 8) (0), .int .i64 0]) ∧ w' = w.alloc (plO 40 (1) (i - 8) (0)) := by
  have k0' : ¬ i < 0 := by omega
  have k1 : ¬ 16520 ≤ i := by omega
  have k2 : ¬ i < 8 := by omega
  go_enter Tryd.func13, Tryd.ntmps13
  go_wp2_with fail
  refine bodyPost_ret (v := .tuple #[plV (1) (i - 8) (0), .int .i64 0]) (by simp [results, Tryd.results13, go_sem]) rfl ⟨rfl, rfl⟩
set_option maxHeartbeats 800000 in
theorem refWhere_two (i : Int) (w : World) (h0 : 136 ≤ i) (h1 : i < 16520) :
    Calls Tryd.prog 13 #[.int .i64 i] w fun e w' => e = .returned (.tuple #[plV (2) ((i - 136) / 128) ((i - 136) % 128), .int .i64 0]) ∧ w' = w.alloc (plO 40 (2) ((i - 136) / 128) ((i - 136) % 128)) := by
  have e1 : (i - 136) / 128 = (i - 8 - 128) / 128 := by omega
  have e2 : (i - 136) % 128 = (i - 8) % 128 := by omega
  rw [e1, e2]
  clear e1 e2
  have k0' : ¬ i < 0 := by omega
  have k1 : ¬ 16520 ≤ i := by omega
  have k2 : ¬ i < 8 := by omega
  have k3 : ¬ i < 136 := by omega
  go_enter Tryd.func13, Tryd.ntmps13
  go_wp2_with fail
  refine bodyPost_ret (v := .tuple #[plV (2) ((i - 8 - 128) / 128) ((i - 8) % 128), .int .i64 0]) (by simp [results, Tryd.results13, go_sem]) rfl ⟨rfl, rfl⟩
theorem refWhere_out (i : Int) (w : World) (h : ¬ inPl i) :
    Calls Tryd.prog 13 #[.int .i64 i] w fun e w' => e = .returned (.tuple #[plV 0 0 0, .int .i64 1]) ∧ w' = w.alloc (plO 40 0 0 0) := by
  unfold inPl at h
  by_cases h0 : i < 0
  · exact refWhere_neg i w h0
  · exact refWhere_big i w (by omega)
theorem refWhere_in (i : Int) (w : World) (h : inPl i) :
    Calls Tryd.prog 13 #[.int .i64 i] w fun e w' => e = .returned (.tuple #[plV (plL i) (plA i) (plB i), .int .i64 0]) ∧ w' = w.alloc (plO 40 (plL i) (plA i) (plB i)) := by
  obtain ⟨h0, h1⟩ := h
  unfold plL plA plB
  by_cases h8 : i < 8
  · rw [if_pos h8, if_pos h8, if_pos (by omega), if_pos (by omega)]
    exact refWhere_dir i w h0 h8
  · by_cases h136 : i < 136
    · rw [if_neg h8, if_neg h8, if_pos h136, if_pos h136, if_pos h136]
      exact refWhere_one i w (by omega) h136
    · rw [if_neg h136, if_neg h8, if_neg h136, if_neg h136]
      exact refWhere_two i w (by omega) h1
end Go.Proofs.YtcclpfcgodckgaaDoor

/-
  A pool as a value and in memory; what Maps, Right, size, place of it do.
-/
import Derived.Test.YtnnaemlipahamaaGreatBPure
import Derived.Test.YtnnaemlipahamaaGreatBits
import Derived.Deep.RegionHeld
namespace Go.Proofs.YtnnaemlipahamaaGreat
open Go.RowKit

/-- A pool. -/
def PV (M F n : Int) : Value := .agg #[.int .i64 M, .int .i64 F, .int .i64 n]
/-- .. and as it is laid. -/
def PO (M F n : Int) : Obj := .cells #[.int .i64 M, .int .i64 F, .int .i64 n] 42
structure PAt (w : World) (b : Nat) (M F n : Int) : Prop where
  c0 : w.cell? ⟨b, 0, none⟩ = some (.int .i64 M)
  c1 : w.cell? ⟨b, 1, none⟩ = some (.int .i64 F)
  c2 : w.cell? ⟨b, 2, none⟩ = some (.int .i64 n)
theorem PAt.kept {S : Nat → Prop} {w w' : World} {b : Nat} {M F n : Int} (h : PAt w b M F n) (hc : Chg S w w') (hn : ¬ S b) : PAt w' b M F n :=
  ⟨hc.cell h.c0 hn, hc.cell h.c1 hn, hc.cell h.c2 hn⟩
theorem PAt.box (w : World) (M F n : Int) : PAt (w.alloc (PO M F n)) w.heap.size M F n := by
  unfold PO
  exact ⟨by rw [World.cell?_alloc_at _ _ _ _ rfl]; rfl, by rw [World.cell?_alloc_at _ _ _ _ rfl]; rfl, by rw [World.cell?_alloc_at _ _ _ _ rfl]; rfl⟩

theorem maps_yes (M F : Int) (n : Nat) (w : World) (h1 : 1 ≤ n) (_h2 : n ≤ 16384) :
    Calls Tryz.prog 67 #[PV M F n] w fun e w' => e = .returned (.int .i64 (mapsN n : Int)) ∧ w' = w.alloc (PO M F n) := by
  have k1 : decide ((n : Int) < 1) = false := by simp; omega
  have e1 : (mapsN n : Int) = ((n : Int) - 1) / 4096 + 1 := by unfold mapsN; omega
  rw [e1]
  unfold PV PO
  go_enter Tryz.func67, Tryz.ntmps67
  go_wp2
  go_ret
  exact ⟨rfl, rfl⟩

theorem mapsN_le {n : Nat} (h : n ≤ 16384) : mapsN n ≤ 4 := by unfold mapsN; omega
theorem mapsN_pos (n : Nat) : 1 ≤ mapsN n := by unfold mapsN; omega

set_option maxHeartbeats 1600000 in
theorem right_yes (M F n K : Nat) (w : World) (hF : F ≤ 1073741824) (h1 : 1 ≤ n) (h2 : n ≤ 16384) (hM : M + mapsN n ≤ K) (hK : K ≤ 16384) :
    Calls Tryz.prog 66 #[PV M F n, .int .i64 (K : Int)] w fun e w' => e = .returned (.bool true) ∧ Chg (fun _ => False) w w' := by
  have k1 : decide ((M : Int) < 0) = false := by simp
  have k2 : decide ((F : Int) < 0) = false := by simp
  have k3 : decide ((1073741824 : Int) < F) = false := by simp; omega
  have k4 : decide ((n : Int) < 1) = false := by simp; omega
  have k5 : decide ((16384 : Int) < n) = false := by simp; omega
  have hm4 := mapsN_le h2
  have k6 : decide ((mapsN n : Int) ≤ K) = true := by simp; omega
  have k7 : decide ((M : Int) ≤ (K : Int) - (mapsN n : Int)) = true := by simp; omega
  have MP : Hid (∀ w : World, Calls Tryz.prog 67 #[.agg #[.int .i64 (M : Int), .int .i64 (F : Int), .int .i64 (n : Int)]] w fun e w' => e = .returned (.int .i64 (mapsN n : Int)) ∧ w' = w.alloc (PO M F n)) := fun w => maps_yes M F n w h1 h2
  have hb := PAt.box w M F n
  obtain ⟨m, hm⟩ : ∃ m, mapsN n = m := ⟨_, rfl⟩
  rw [hm] at k6 k7 hm4 hM MP
  clear hm
  have k6' : decide (m ≤ K) = true := by simp; omega
  have wr : IntKind.i64.wrap ((K : Int) - (m : Int)) = (K : Int) - (m : Int) := by rw [IntKind.wrap_i64]; omega
  unfold PV
  unfold PO at hb
  have hb0 := hb.c0
  have hb1 := hb.c1
  have hb2 := hb.c2
  go_enter Tryz.func66, Tryz.ntmps66
  go_wp2_with fail
  go_region_with (first | (go_at_call 67; refine (MP.out _).mono ?_; rintro e w2 ⟨rfl, rfl⟩))
  all_goals go_wp2
  all_goals go_ret
  all_goals exact ⟨by simp [Act.put], ((Chg.alloc (fun _ => False) _ _).trans (Chg.drew (fun _ => False) _) (fun _ _ h => h)).trans ((Chg.alloc (fun _ => False) _ _).trans (Chg.alloc (fun _ => False) _ _) (fun _ _ h => h)) (fun _ _ h => h)⟩

set_option maxHeartbeats 1600000 in
theorem right_no (M F n : Int) (K : Nat) (w : World) (hw : M ≤ 9223372036854775807) (h4 : 4 ≤ K) (hK : K ≤ 16384) (h : ¬ (0 ≤ M ∧ 0 ≤ F ∧ F ≤ 1073741824 ∧ 1 ≤ n ∧ n ≤ 16384 ∧ M + (mapsN n.toNat : Int) ≤ (K : Int))) :
    Calls Tryz.prog 66 #[PV M F n, .int .i64 (K : Int)] w fun e w' => e = .returned (.bool false) ∧ Chg (fun _ => False) w w' := by
  have hb := PAt.box w M F n
  unfold PV
  unfold PO at hb
  by_cases g1 : M < 0
  · clear h hb hK h4 hw
    have k1 : decide (M < 0) = true := by simpa using g1
    go_enter Tryz.func66, Tryz.ntmps66
    go_wp2
    go_ret
    exact ⟨rfl, Chg.alloc (fun _ => False) _ _⟩
  have k1 : decide (M < 0) = false := by simpa using g1
  by_cases g2 : F < 0
  · clear h hb hK h4 hw
    have k2 : decide (F < 0) = true := by simpa using g2
    go_enter Tryz.func66, Tryz.ntmps66
    go_wp2
    go_ret
    exact ⟨rfl, Chg.alloc (fun _ => False) _ _⟩
  have k2 : decide (F < 0) = false := by simpa using g2
  by_cases g3 : 1073741824 < F
  · clear h hb hK h4 hw
    have k3 : decide (1073741824 < F) = true := by simpa using g3
    go_enter Tryz.func66, Tryz.ntmps66
    go_wp2
    go_ret
    exact ⟨rfl, Chg.alloc (fun _ => False) _ _⟩
  have k3 : decide (1073741824 < F) = false := by simpa using g3
  by_cases g4 : n < 1
  · clear h hb hK h4 hw
    have k4 : decide (n < 1) = true := by simpa using g4
    go_enter Tryz.func66, Tryz.ntmps66
    go_wp2
    go_ret
    exact ⟨rfl, Chg.alloc (fun _ => False) _ _⟩
  have k4 : decide (n < 1) = false := by simpa using g4
  by_cases g5 : 16384 < n
  · clear h hb hK h4 hw
    have k5 : decide (16384 < n) = true := by simpa using g5
    go_enter Tryz.func66, Tryz.ntmps66
    go_wp2
    go_ret
    exact ⟨rfl, Chg.alloc (fun _ => False) _ _⟩
  have k5 : decide (16384 < n) = false := by simpa using g5
  obtain ⟨N, rfl⟩ : ∃ N : Nat, n = (N : Int) := ⟨n.toNat, by omega⟩
  have MP : Hid (∀ w : World, Calls Tryz.prog 67 #[.agg #[.int .i64 M, .int .i64 F, .int .i64 (N : Int)]] w fun e w' => e = .returned (.int .i64 (mapsN N : Int)) ∧ w' = w.alloc (PO M F N)) := fun w => maps_yes M F N w (by omega) (by omega)
  have hm4 : mapsN N ≤ 4 := mapsN_le (by omega)
  rw [Int.toNat_natCast] at h
  obtain ⟨m, hm⟩ : ∃ m, mapsN N = m := ⟨_, rfl⟩
  rw [hm] at hm4 h MP
  clear hm
  have hlt : (K : Int) - (m : Int) < M := by omega
  have k6 : decide (m ≤ K) = true := by simp; omega
  have k7 : decide (M ≤ (K : Int) - (m : Int)) = false := by simp; omega
  have wr : IntKind.i64.wrap ((K : Int) - (m : Int)) = (K : Int) - (m : Int) := by rw [IntKind.wrap_i64]; omega
  have hb0 := hb.c0
  have hb1 := hb.c1
  have hb2 := hb.c2
  clear h g1 g2 g3 g4 g5 hb
  go_enter Tryz.func66, Tryz.ntmps66
  go_wp2_with fail
  go_region_with (first | (go_at_call 67; refine (MP.out _).mono ?_; rintro e w2 ⟨rfl, rfl⟩))
  all_goals go_wp2
  all_goals go_ret
  all_goals exact ⟨by simp [Act.put], ((Chg.alloc (fun _ => False) _ _).trans (Chg.drew (fun _ => False) _) (fun _ _ h => h)).trans ((Chg.alloc (fun _ => False) _ _).trans (Chg.alloc (fun _ => False) _ _) (fun _ _ h => h)) (fun _ _ h => h)⟩

theorem size_any (M F : Int) (n i : Nat) (w : World) (h1 : 1 ≤ n) (h2 : n ≤ 16384) (hi : i < mapsN n) :
    Calls Tryz.prog 35 #[PV M F n, .int .i64 (i : Int)] w fun e w' => e = .returned (.int .i64 (sizeN n i : Int)) ∧ w' = w.alloc (PO M F n) := by
  have hin : i * 4096 < n := by unfold mapsN at hi; omega
  have e1 : (sizeN n i : Int) = min ((n : Int) - (i : Int) * 4096) 4096 := by unfold sizeN; omega
  rw [e1]
  clear e1 hi
  unfold PV PO
  go_enter Tryz.func35, Tryz.ntmps35
  go_wp2
  all_goals
    go_ret
    first
      | (rw [Int.min_eq_right (by omega)]; exact ⟨rfl, rfl⟩)
      | (rw [Int.min_eq_left (by omega)]; exact ⟨rfl, rfl⟩)

theorem and_4095 (k : Nat) : bits .and .i64 (k : Int) 4095 = ((k % 4096 : Nat) : Int) := by
  have := and_low (k : Int) 12 (by decide)
  rw [show ((2 ^ 12 - 1 : Nat) : Int) = 4095 from rfl] at this
  rw [this]; omega
theorem place_any (M : Int) (F n k : Nat) (w : World) (hk : k < 16384) (_hF : F ≤ 1073741824) :
    Calls Tryz.prog 112 #[PV M F n, .int .i64 ((F + k : Nat) : Int)] w fun e w' => e = .returned (.tuple #[.int .i64 ((k / 4096 : Nat) : Int), .int .i64 ((k % 4096 : Nat) : Int)]) ∧ w' = w.alloc (PO M F n) := by
  have e1 : ((F + k : Nat) : Int) - (F : Int) = (k : Int) := by omega
  have e2 : ((k / 4096 : Nat) : Int) = (k : Int) / 4096 := by omega
  have e3 := and_4095 k
  rw [e2]
  clear e2
  generalize k % 4096 = r at *
  generalize F + k = fk at *
  unfold PV PO
  go_enter Tryz.func112, Tryz.ntmps112
  go_wp2
  go_ret2
  exact ⟨rfl, rfl⟩
end Go.Proofs.YtnnaemlipahamaaGreat

/-
  Encode of the document's slots.
-/
import Derived.Test.YtbhfmceapffhnaaDoorDEnc
import Derived.Test.YtbhfmceapffhnaaDoorKRefF
import Derived.Test.YtbhfmceapffhnaaDoorKRefSeal
namespace Go.Proofs.YtbhfmceapffhnaaDoor
open Go.RowKit

set_option maxHeartbeats 1600000 in
set_option maxRecDepth 100000 in
theorem rencode_any (x : En) (N : Nat) (w : World) (hN : N ≤ w.heap.size) (hs : x.nm.size ≤ 1000000000) :
    Calls Tryd.prog 30 #[x.v] w fun e w' => ∃ u, e = .returned u ∧ FreshN N w w' u (encB x) := by
  have L := leTo_len
  have HF : Hid (frontE x = [] ++ leTo (x.nm.size : Int) 1 ++ leTo 0 1 ++ leTo x.ino 2 ++ fixB (nmB x.nm) 56) := by simp [Hid, frontE]
  go_enter Tryd.func30, Tryd.ntmps30
  have B0 : Below w.heap.size w (w.alloc (.cells #[.string x.nm, .int .i64 x.ino] 47)) := (Below.refl _ _).alloc (Nat.le_refl _) _
  have z0 : w.heap.size < (w.alloc (.cells #[.string x.nm, .int .i64 x.ino] 47)).heap.size := by simp
  have a0 : (w.alloc (.cells #[.string x.nm, .int .i64 x.ino] 47)).cell? ⟨w.heap.size, 0, none⟩ = some (.string x.nm) := by
    rw [cell_of_row _ w.heap.size _ _ _ _ (heap_alloc_new w _)]; rfl
  have b0 : (w.alloc (.cells #[.string x.nm, .int .i64 x.ino] 47)).cell? ⟨w.heap.size, 1, none⟩ = some (.int .i64 x.ino) := by
    rw [cell_of_row _ w.heap.size _ _ _ _ (heap_alloc_new w _)]; rfl
  obtain ⟨w0, hw0⟩ : ∃ w0, w.alloc (.cells #[.string x.nm, .int .i64 x.ino] 47) = w0 := ⟨_, rfl⟩
  rw [hw0] at B0 z0 a0 b0
  have a1 : WrT 85 w0.heap.size (w0.alloc (.cells #[.slice none 0 0] 85)) w0.heap.size (.slice none 0 0) [] := ⟨Nat.le_refl _, heap_alloc_new w0 _, World.ownsRow_nil _ _ _ _, by simp [Value.ownBlock]⟩
  have B1 : Below w0.heap.size w0 (w0.alloc (.cells #[.slice none 0 0] 85)) := (Below.refl _ _).alloc (Nat.le_refl _) _
  have k1 := (B1.cell (p := ⟨w.heap.size, 0, none⟩) z0).trans a0
  go_wp2_with fail
  refine (refNumber_any w0.heap.size _ (x.nm.size : Int) 1 _ _ _ a1 (by omega) (by simp)).mono ?_
  rintro e w2 ⟨rfl, v2, h2⟩
  have B2 := B1.trans (h2.belowW a1)
  have a2 := h2.wr
  clear a1 B1 k1 h2
  go_wp2_with fail
  refine (refNumber_any w0.heap.size _ 0 1 _ _ _ a2 (by omega) (by simp [L])).mono ?_
  rintro e w3 ⟨rfl, v3, h3⟩
  have B3 := B2.trans (h3.belowW a2)
  have a3 := h3.wr
  have k3 := (B3.cell (p := ⟨w.heap.size, 1, none⟩) z0).trans b0
  clear a2 B2 h3
  go_wp2_with fail
  refine (refNumber_any w0.heap.size _ x.ino 2 _ _ _ a3 (by omega) (by simp [L])).mono ?_
  rintro e w4 ⟨rfl, v4, h4⟩
  have B4 := B3.trans (h4.belowW a3)
  have a4 := h4.wr
  have k4 := (B4.cell (p := ⟨w.heap.size, 0, none⟩) z0).trans a0
  clear a3 B3 k3 h4
  generalize hX : [] ++ leTo (x.nm.size : Int) 1 ++ leTo 0 1 ++ leTo x.ino 2 = X at *
  have hXl : X.length = 4 := by rw [← hX]; simp [L]
  clear hX L
  obtain ⟨u, w5, hr5, b5, B5⟩ := convS x.nm w4 hs
  have hub : Apart u v4 w0.heap.size := by
    have hrr := hr5
    rw [run_bytes_of_string (P := Tryd.prog) w4 9 52 5 x.nm Tryd.underlying9 Tryd.underlying52 Tryd.underlying5] at hrr
    injection hrr with e1 e2
    subst e1
    intro a n c e _
    injection e with e
    injection e with e
    subst e
    refine ⟨by have := a4.lt; show w4.heap.size ≠ _; omega, fun h => ?_⟩
    exact Nat.lt_irrefl _ (a4.own.lt _ h).2
  have a5 := a4.keep (Chg.ofBelowC B5) (fun k h => h)
  have Bn5 := B4.trans (B5.mono B4.size)
  go_wp2_with fail
  refine (refFixed_any w0.heap.size _ _ u 56 X (nmB x.nm) _ a5 b5 hub (by omega) (by omega)).mono ?_
  rintro e w6 ⟨rfl, v6, h6⟩
  have B6 := Bn5.trans (h6.belowW a5)
  have a6 := h6.wr
  rw [← HF.out] at a6
  have c6 := a6.cell
  clear h6 a5 b5 B5 Bn5 hr5 a4 B4 k4 hub
  have C6 : Chg (fun _ => False) w w6 := Chg.ofBelowC (B0.trans (B6.mono B0.size))
  go_wp2_with fail
  refine (refSeal_any w.heap.size v6 (frontE x) _ (Bs.ofOwns a6.own) (frontE_isB x) C6.size (by rw [frontE_len]; omega)).mono ?_
  rintro e w8 ⟨y, rfl, h8⟩
  have H8 : FreshN N w w8 y (encB x) := ⟨own_monoC h8.1 hN, C6.trans h8.2.1 (fun _ _ h => h), fun k hk => Nat.le_trans C6.size (h8.2.2 k hk)⟩
  clear h8
  go_wp2_with fail
  go_ret
  exact ⟨y, rfl, H8⟩
end Go.Proofs.YtbhfmceapffhnaaDoor

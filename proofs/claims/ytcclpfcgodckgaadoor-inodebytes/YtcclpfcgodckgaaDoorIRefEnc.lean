/-
  The contract of Encode of the reference (package mailbagref7).
-/
import Derived.Test.YtcclpfcgodckgaaDoorIEnc
import Derived.Test.YtcclpfcgodckgaaDoorKRefW
import Derived.Deep.LoopGhost
namespace Go.Proofs.YtcclpfcgodckgaaDoor
open Go.RowKit

/-- The reference's writer. -/
abbrev Wf (N : Nat) (w : World) (p : Nat) (v : Value) (xs : List Int) : Prop := WrT 56 N w p v xs
set_option maxHeartbeats 1600000 in
set_option maxRecDepth 100000 in
theorem refEncode_any (n : Nd) (N : Nat) (w : World) (hN : N ≤ w.heap.size) :
    Calls Tryd.prog 9 #[n.v] w fun e w' => ∃ u, e = .returned u ∧ FreshN N w w' u n.bytes := by
  have HF : Hid (n.front = [] ++ leTo n.kd 1 ++ leTo 0 1 ++ leTo n.lk 2 ++ leTo n.sz 4 ++ fours n.ds ++ leTo n.on 4 ++ leTo n.tw 4) := by simp [Hid, Nd.front]
  have L := leTo_len
  go_enter Tryd.func9, Tryd.ntmps9
  go_wp2_with fail
  have n0 := NdAt.box w n 29
  have B0 : Below w.heap.size w (w.alloc (n.o 29)) := (Below.refl _ _).alloc (Nat.le_refl _) _
  have Z0 : Hid ((w.alloc (n.o 29)).heap.size = w.heap.size + 1) := by simp [Hid]
  generalize w.alloc (n.o 29) = w0 at *
  have a1 : Wf (w.heap.size + 1) (w0.alloc (.cells #[.slice none 0 0] 56)) (w.heap.size + 1) (.slice none 0 0) [] := by
    rw [← Z0.out]
    exact ⟨Nat.le_refl _, heap_alloc_new w0 _, World.ownsRow_nil _ _ _ _, by simp [Value.ownBlock]⟩
  have B1 : Below (w.heap.size + 1) w0 (w0.alloc (.cells #[.slice none 0 0] 56)) := (Below.refl _ _).alloc (by rw [Z0.out]; exact Nat.le_refl _) _
  generalize w0.alloc (.cells #[.slice none 0 0] 56) = w1 at *
  have n1 := n0.below B1 (by omega)
  have f1 := n1.c0
  go_wp2_with fail
  refine (refNumber_any (w.heap.size + 1) _ n.kd 1 _ _ _ a1 (by omega) (by simp)).mono ?_
  rintro e w2 ⟨rfl, v2, h2⟩
  have B2 := B1.trans (h2.belowW a1)
  have a2 := h2.wr
  have n2 := n0.below B2 (by omega)
  clear a1 B1 n1 h2
  go_wp2_with fail
  refine (refNumber_any (w.heap.size + 1) _ 0 1 _ _ _ a2 (by omega) (by simp [L])).mono ?_
  rintro e w3 ⟨rfl, v3, h3⟩
  have B3 := B2.trans (h3.belowW a2)
  have a3 := h3.wr
  have n3 := n0.below B3 (by omega)
  clear a2 B2 n2 h3
  have f3 := n3.c1
  go_wp2_with fail
  refine (refNumber_any (w.heap.size + 1) _ n.lk 2 _ _ _ a3 (by omega) (by simp [L])).mono ?_
  rintro e w4 ⟨rfl, v4, h4⟩
  have B4 := B3.trans (h4.belowW a3)
  have a4 := h4.wr
  have n4 := n0.below B4 (by omega)
  clear a3 B3 n3 h4
  have f4 := n4.c2
  go_wp2_with fail
  refine (refNumber_any (w.heap.size + 1) _ n.sz 4 _ _ _ a4 (by omega) (by simp [L])).mono ?_
  rintro e w5 ⟨rfl, v5, h5⟩
  have B5 := B4.trans (h5.belowW a4)
  have a5 := h5.wr
  have n5 := n0.below B5 (by omega)
  clear a4 B4 n4 h5
  go_wp2_with fail
  generalize hX : [] ++ leTo n.kd 1 ++ leTo 0 1 ++ leTo n.lk 2 ++ leTo n.sz 4 = X at *
  have hXl : X.length = 8 := by rw [← hX]; simp [L]
  clear hX
  go_loopw [4] (fun i wr => ∃ k : Nat, k ≤ 8 ∧ i = .int .i64 k ∧ ∃ v', Wf (w.heap.size + 1) wr (w.heap.size + 1) v' (X ++ fours (n.ds.take k)) ∧ Below (w.heap.size + 1) w0 wr) (fun i _ => 8 - (intOf i).toNat)
  case atStart => exact ⟨0, Nat.zero_le _, rfl, v5, by simpa [fours] using a5, B5⟩
  case round =>
    obtain ⟨k, hk, rfl, v6, a6, B6⟩ := hrel
    have hfl := fours_len (n.ds.take k)
    by_cases hlt : k < 8
    · have ix := (n0.below B6 (by omega)).dir k hlt
      have HS : Hid (fours (n.ds.take (k + 1)) = fours (n.ds.take k) ++ leTo (n.ds.getD k 0) 4) := fours_take n.ds k (by rw [Nd.ds_len]; exact hlt)
      have hlk : (n.ds.take k).length ≤ 8 := by simp; omega
      have g1 : (k : Int) < 8 := by omega
      generalize n.ds.getD k 0 = d at *
      go_wp2_with fail
      refine (refNumber_any (w.heap.size + 1) _ d 4 _ _ _ a6 (by omega) (by simp; omega)).mono ?_
      rintro e w7 ⟨rfl, v7, h7⟩
      have B7 := B6.trans (h7.belowW a6)
      have a7 := h7.wr
      rw [List.append_assoc, ← HS.out] at a7
      clear a6 B6 h7 HS
      go_wp2
      go_roundw
      case rel => exact ⟨k + 1, by omega, by go_num, v7, a7, B7⟩
      case measure => simp [intOf]; omega
    · obtain rfl : k = 8 := by omega
      have e8 : n.ds.take 8 = n.ds := List.take_of_length_le (by rw [Nd.ds_len]; omega)
      rw [e8] at a6 hfl
      rw [Nd.ds_len] at hfl
      have n6 := n0.below B6 (by omega)
      have f6 := n6.c11
      clear B5 n5 a5 e8
      go_wp2_with fail
      refine (refNumber_any (w.heap.size + 1) _ n.on 4 _ _ _ a6 (by omega) (by simp; omega)).mono ?_
      rintro e w7 ⟨rfl, v7, h7⟩
      have B7 := B6.trans (h7.belowW a6)
      have a7 := h7.wr
      have n7 := n0.below B7 (by omega)
      have f7 := n7.c12
      clear a6 B6 n6 f6 h7
      go_wp2_with fail
      refine (refNumber_any (w.heap.size + 1) _ n.tw 4 _ _ _ a7 (by omega) (by simp [L]; omega)).mono ?_
      rintro e w8 ⟨rfl, v8, h8⟩
      have B8 := B7.trans (h8.belowW a7)
      have a8 := h8.wr
      rw [← HF.out] at a8
      clear a7 B7 n7 f7 h8 n0
      have hfr := n.front_len
      have hbl := n.body_len
      go_wp2_with fail
      go_loopg [] 12 (fun gg wr => ∃ (k : Nat) (v' : Value), k ≤ 12 ∧ 12 - k ≤ gg ∧ Wf (w.heap.size + 1) wr (w.heap.size + 1) v' (n.front ++ List.replicate k 0) ∧ Below (w.heap.size + 1) w0 wr)
      case atStart => exact ⟨0, v8, by omega, by omega, by simpa using a8, B8⟩
      case round =>
        obtain ⟨k, v9, hk12, hg, a9, B9⟩ := hrel
        have hl9 : (n.front ++ List.replicate k 0).length = 48 + k := by simp [hfr]
        obtain ⟨ag, cg, hv9⟩ := a9.slice
        rw [hl9] at hv9
        subst hv9
        have cl := a9.cell
        by_cases hlt2 : k < 12
        · have HR : Hid (n.front ++ List.replicate k 0 ++ leTo 0 1 = n.front ++ List.replicate (k + 1) 0) := by
            rw [Hid, List.append_assoc, leTo_one, List.replicate_succ']
            rfl
          have g2 : decide (((48 + k : Nat) : Int) < 60) = true := by simp; omega
          have g2' : ((48 + k : Nat) : Int) < 60 := by omega
          clear a8 B8
          go_wp2_with fail
          refine (refNumber_any (w.heap.size + 1) _ 0 1 _ _ _ a9 (by omega) (by omega)).mono ?_
          rintro e w10 ⟨rfl, v10, h10⟩
          have B10 := B9.trans (h10.belowW a9)
          have a10 := h10.wr
          rw [HR.out] at a10
          clear a9 B9 h10 HR cl
          go_wp2
          go_roundg (12 - (k + 1))
          case rel => exact ⟨k + 1, v10, by omega, by omega, a10, B10⟩
          all_goals omega
        · obtain rfl : k = 12 := by omega
          have B12 := B0.trans (B9.mono (by omega))
          have r12 := Bs.ofOwns a9.own
          have hbe : Bs wr (.slice ag (48 + 12) cg) n.body := r12
          clear a8 B8 a9 B9 r12
          go_wp2_with fail
          refine (refSeal_any N _ n.body _ hbe n.body_isB (by have := B12.size; omega) (by omega)).mono ?_
          rintro e w13 ⟨u13, rfl, F13⟩
          have C13 : Chg (fun _ => False) w w13 := (Chg.ofBelowC B12).trans F13.2.1 (fun _ _ h => h)
          have F : FreshN N w w13 u13 n.bytes := ⟨F13.1, C13, fun k hk => by have h1 := F13.2.2 k hk; have h2 := B12.size; omega⟩
          clear F13 C13 hbe B12
          go_wp2
          go_ret
          exact ⟨u13, rfl, F⟩
end Go.Proofs.YtcclpfcgodckgaaDoor

/-
  The contract of Encode of package inode.
-/
import Derived.Test.YtcclpfcgodckgaaDoorIPure
namespace Go.Proofs.YtcclpfcgodckgaaDoor
open Go.RowKit

theorem idx8 (n : Nd) (k : Nat) (hk : k < 8) (w : World) : (Instr.index 22 (.agg #[.int .i64 n.d0, .int .i64 n.d1, .int .i64 n.d2, .int .i64 n.d3, .int .i64 n.d4, .int .i64 n.d5, .int .i64 n.d6, .int .i64 n.d7]) (.int .i64 (k : Int))).run Tryd.prog w = .ok (.int .i64 (n.ds.getD k 0)) w := by
  have i0 : ∀ w : World, (Instr.index 22 (.agg #[.int .i64 n.d0, .int .i64 n.d1, .int .i64 n.d2, .int .i64 n.d3, .int .i64 n.d4, .int .i64 n.d5, .int .i64 n.d6, .int .i64 n.d7]) (.int .i64 0)).run Tryd.prog w = .ok (.int .i64 n.d0) w := fun _ => by kernel_rfl
  have i1 : ∀ w : World, (Instr.index 22 (.agg #[.int .i64 n.d0, .int .i64 n.d1, .int .i64 n.d2, .int .i64 n.d3, .int .i64 n.d4, .int .i64 n.d5, .int .i64 n.d6, .int .i64 n.d7]) (.int .i64 1)).run Tryd.prog w = .ok (.int .i64 n.d1) w := fun _ => by kernel_rfl
  have i2 : ∀ w : World, (Instr.index 22 (.agg #[.int .i64 n.d0, .int .i64 n.d1, .int .i64 n.d2, .int .i64 n.d3, .int .i64 n.d4, .int .i64 n.d5, .int .i64 n.d6, .int .i64 n.d7]) (.int .i64 2)).run Tryd.prog w = .ok (.int .i64 n.d2) w := fun _ => by kernel_rfl
  have i3 : ∀ w : World, (Instr.index 22 (.agg #[.int .i64 n.d0, .int .i64 n.d1, .int .i64 n.d2, .int .i64 n.d3, .int .i64 n.d4, .int .i64 n.d5, .int .i64 n.d6, .int .i64 n.d7]) (.int .i64 3)).run Tryd.prog w = .ok (.int .i64 n.d3) w := fun _ => by kernel_rfl
  have i4 : ∀ w : World, (Instr.index 22 (.agg #[.int .i64 n.d0, .int .i64 n.d1, .int .i64 n.d2, .int .i64 n.d3, .int .i64 n.d4, .int .i64 n.d5, .int .i64 n.d6, .int .i64 n.d7]) (.int .i64 4)).run Tryd.prog w = .ok (.int .i64 n.d4) w := fun _ => by kernel_rfl
  have i5 : ∀ w : World, (Instr.index 22 (.agg #[.int .i64 n.d0, .int .i64 n.d1, .int .i64 n.d2, .int .i64 n.d3, .int .i64 n.d4, .int .i64 n.d5, .int .i64 n.d6, .int .i64 n.d7]) (.int .i64 5)).run Tryd.prog w = .ok (.int .i64 n.d5) w := fun _ => by kernel_rfl
  have i6 : ∀ w : World, (Instr.index 22 (.agg #[.int .i64 n.d0, .int .i64 n.d1, .int .i64 n.d2, .int .i64 n.d3, .int .i64 n.d4, .int .i64 n.d5, .int .i64 n.d6, .int .i64 n.d7]) (.int .i64 6)).run Tryd.prog w = .ok (.int .i64 n.d6) w := fun _ => by kernel_rfl
  have i7 : ∀ w : World, (Instr.index 22 (.agg #[.int .i64 n.d0, .int .i64 n.d1, .int .i64 n.d2, .int .i64 n.d3, .int .i64 n.d4, .int .i64 n.d5, .int .i64 n.d6, .int .i64 n.d7]) (.int .i64 7)).run Tryd.prog w = .ok (.int .i64 n.d7) w := fun _ => by kernel_rfl
  have hc : k = 0 ∨ k = 1 ∨ k = 2 ∨ k = 3 ∨ k = 4 ∨ k = 5 ∨ k = 6 ∨ k = 7 := by omega
  rcases hc with rfl | rfl | rfl | rfl | rfl | rfl | rfl | rfl
  · exact i0 w
  · exact i1 w
  · exact i2 w
  · exact i3 w
  · exact i4 w
  · exact i5 w
  · exact i6 w
  · exact i7 w

/-- A node as it is laid. -/
abbrev Nd.o (n : Nd) (T : TypeId) : Obj := .cells #[.int .i64 n.kd, .int .i64 n.lk, .int .i64 n.sz, .int .i64 n.d0, .int .i64 n.d1, .int .i64 n.d2, .int .i64 n.d3, .int .i64 n.d4, .int .i64 n.d5, .int .i64 n.d6, .int .i64 n.d7, .int .i64 n.on, .int .i64 n.tw] T
structure NdAt (w : World) (b : Nat) (n : Nd) : Prop where
  c0 : w.cell? ⟨b, 0, none⟩ = some (.int .i64 n.kd)
  c1 : w.cell? ⟨b, 1, none⟩ = some (.int .i64 n.lk)
  c2 : w.cell? ⟨b, 2, none⟩ = some (.int .i64 n.sz)
  c3 : w.cell? ⟨b, 3, none⟩ = some (.int .i64 n.d0)
  c4 : w.cell? ⟨b, 4, none⟩ = some (.int .i64 n.d1)
  c5 : w.cell? ⟨b, 5, none⟩ = some (.int .i64 n.d2)
  c6 : w.cell? ⟨b, 6, none⟩ = some (.int .i64 n.d3)
  c7 : w.cell? ⟨b, 7, none⟩ = some (.int .i64 n.d4)
  c8 : w.cell? ⟨b, 8, none⟩ = some (.int .i64 n.d5)
  c9 : w.cell? ⟨b, 9, none⟩ = some (.int .i64 n.d6)
  c10 : w.cell? ⟨b, 10, none⟩ = some (.int .i64 n.d7)
  c11 : w.cell? ⟨b, 11, none⟩ = some (.int .i64 n.on)
  c12 : w.cell? ⟨b, 12, none⟩ = some (.int .i64 n.tw)
theorem NdAt.kept {S : Nat → Prop} {w w' : World} {b : Nat} {n : Nd} (h : NdAt w b n) (hc : Chg S w w') (hn : ¬ S b) : NdAt w' b n :=
  ⟨hc.cell h.c0 hn, hc.cell h.c1 hn, hc.cell h.c2 hn, hc.cell h.c3 hn, hc.cell h.c4 hn, hc.cell h.c5 hn, hc.cell h.c6 hn, hc.cell h.c7 hn, hc.cell h.c8 hn, hc.cell h.c9 hn, hc.cell h.c10 hn, hc.cell h.c11 hn, hc.cell h.c12 hn⟩
theorem NdAt.lt {w : World} {b : Nat} {n : Nd} (h : NdAt w b n) : b < w.heap.size := World.block_lt_of_cell? w _ h.c0
theorem NdAt.below {w w' : World} {N b : Nat} {n : Nd} (h : NdAt w b n) (hb : Below N w w') (hn : b < N) : NdAt w' b n :=
  ⟨(hb.cell (p := ⟨b, 0, none⟩) hn).trans h.c0, (hb.cell (p := ⟨b, 1, none⟩) hn).trans h.c1, (hb.cell (p := ⟨b, 2, none⟩) hn).trans h.c2, (hb.cell (p := ⟨b, 3, none⟩) hn).trans h.c3, (hb.cell (p := ⟨b, 4, none⟩) hn).trans h.c4, (hb.cell (p := ⟨b, 5, none⟩) hn).trans h.c5, (hb.cell (p := ⟨b, 6, none⟩) hn).trans h.c6, (hb.cell (p := ⟨b, 7, none⟩) hn).trans h.c7, (hb.cell (p := ⟨b, 8, none⟩) hn).trans h.c8, (hb.cell (p := ⟨b, 9, none⟩) hn).trans h.c9, (hb.cell (p := ⟨b, 10, none⟩) hn).trans h.c10, (hb.cell (p := ⟨b, 11, none⟩) hn).trans h.c11, (hb.cell (p := ⟨b, 12, none⟩) hn).trans h.c12⟩
theorem NdAt.ofBlk {w : World} {b : Nat} {n : Nd} {T : TypeId} {fr : Nat × Nat} (h : w.heap[b]? = some (.cells #[.int .i64 n.kd, .int .i64 n.lk, .int .i64 n.sz, .int .i64 n.d0, .int .i64 n.d1, .int .i64 n.d2, .int .i64 n.d3, .int .i64 n.d4, .int .i64 n.d5, .int .i64 n.d6, .int .i64 n.d7, .int .i64 n.on, .int .i64 n.tw] T fr)) : NdAt w b n := by
  refine ⟨?_, ?_, ?_, ?_, ?_, ?_, ?_, ?_, ?_, ?_, ?_, ?_, ?_⟩ <;> (rw [cell_of_row w b _ _ _ _ h]; rfl)
theorem NdAt.box (w : World) (n : Nd) (T : TypeId) : NdAt (w.alloc (n.o T)) w.heap.size n := NdAt.ofBlk (heap_alloc_new w _)

theorem NdAt.dir {w : World} {b : Nat} {n : Nd} (h : NdAt w b n) (k : Nat) (hk : k < 8) : w.cell? ⟨b, 3 + k, none⟩ = some (.int .i64 (n.ds.getD k 0)) := by
  have hc : k = 0 ∨ k = 1 ∨ k = 2 ∨ k = 3 ∨ k = 4 ∨ k = 5 ∨ k = 6 ∨ k = 7 := by omega
  rcases hc with rfl | rfl | rfl | rfl | rfl | rfl | rfl | rfl
  · exact h.c3
  · exact h.c4
  · exact h.c5
  · exact h.c6
  · exact h.c7
  · exact h.c8
  · exact h.c9
  · exact h.c10

set_option maxHeartbeats 1600000 in
set_option maxRecDepth 100000 in
theorem encode_any (n : Nd) (N : Nat) (w : World) (hT : Tab w) (hN : N ≤ w.heap.size) :
    Calls Tryd.prog 8 #[n.v] w fun e w' => ∃ u, e = .returned u ∧ FreshN N w w' u n.bytes := by
  have hN0 : 0 < w.heap.size := by have := World.block_lt_of_cell? w _ (hT 0 (by omega)); simpa using this
  have HF : Hid (n.front = [] ++ leTo n.kd 1 ++ leTo 0 1 ++ leTo n.lk 2 ++ leTo n.sz 4 ++ fours n.ds ++ leTo n.on 4 ++ leTo n.tw 4) := by simp [Hid, Nd.front]
  have L := leTo_len
  go_enter Tryd.func8, Tryd.ntmps8
  go_wp2_with fail
  have n0 := NdAt.box w n 24
  have B0 : Below w.heap.size w (w.alloc (n.o 24)) := (Below.refl _ _).alloc (Nat.le_refl _) _
  have z0 : w.heap.size < (w.alloc (n.o 24)).heap.size := by simp
  generalize w.alloc (n.o 24) = w0 at *
  refine (newWriter_any w0.heap.size w0 (Nat.le_refl _)).mono ?_
  rintro e w1 ⟨rfl, a1, hw1⟩
  have B1 : Below w0.heap.size w0 w1 := by rw [hw1]; exact (Below.refl _ _).alloc (Nat.le_refl _) _
  have n1 := n0.below B1 (by omega)
  clear hw1
  have f1 := n1.c0
  go_wp2_with fail
  refine (u8_any w0.heap.size _ n.kd _ _ _ a1 (by simp)).mono ?_
  rintro e w2 ⟨rfl, v2, h2⟩
  have B2 := B1.trans (h2.belowW a1)
  have n2 := n0.below B2 (by omega)
  have a2 := h2.wr
  clear a1 B1 n1 f1 h2
  go_wp2_with fail
  refine (u8_any w0.heap.size _ 0 _ _ _ a2 (by simp [L])).mono ?_
  rintro e w3 ⟨rfl, v3, h3⟩
  have B3 := B2.trans (h3.belowW a2)
  have n3 := n0.below B3 (by omega)
  have a3 := h3.wr
  clear a2 B2 n2 h3
  have f3 := n3.c1
  go_wp2_with fail
  refine (u16_any w0.heap.size _ n.lk _ _ _ a3 (by simp [L])).mono ?_
  rintro e w4 ⟨rfl, v4, h4⟩
  have B4 := B3.trans (h4.belowW a3)
  have n4 := n0.below B4 (by omega)
  have a4 := h4.wr
  clear a3 B3 n3 f3 h4
  have f4 := n4.c2
  go_wp2_with fail
  refine (u32_any w0.heap.size _ n.sz _ _ _ a4 (by simp [L])).mono ?_
  rintro e w5 ⟨rfl, v5, h5⟩
  have B5 := B4.trans (h5.belowW a4)
  have n5 := n0.below B5 (by omega)
  have a5 := h5.wr
  clear a4 B4 n4 f4 h5
  have g3 := n5.c3
  have g4 := n5.c4
  have g5 := n5.c5
  have g6 := n5.c6
  have g7 := n5.c7
  have g8 := n5.c8
  have g9 := n5.c9
  have g10 := n5.c10
  go_wp2_with fail
  generalize hX : [] ++ leTo n.kd 1 ++ leTo 0 1 ++ leTo n.lk 2 ++ leTo n.sz 4 = X at *
  have hXl : X.length = 8 := by rw [← hX]; simp [L]
  clear hX
  go_loopw [24] (fun i wr => ∃ k : Nat, k ≤ 8 ∧ i = .int .i64 k ∧ ∃ v', Wr w0.heap.size wr w0.heap.size v' (X ++ fours (n.ds.take k)) ∧ Below w0.heap.size w0 wr) (fun i _ => 8 - (intOf i).toNat)
  case atStart => exact ⟨0, Nat.zero_le _, rfl, v5, by simpa [fours] using a5, B5⟩
  case round =>
    obtain ⟨k, hk, rfl, v6, a6, B6⟩ := hrel
    have hfl := fours_len (n.ds.take k)
    by_cases hlt : k < 8
    · have ix := fun w => idx8 n k hlt w
      have HS : Hid (fours (n.ds.take (k + 1)) = fours (n.ds.take k) ++ leTo (n.ds.getD k 0) 4) := fours_take n.ds k (by rw [Nd.ds_len]; exact hlt)
      have hlk : (n.ds.take k).length ≤ 8 := by simp; omega
      have g1 : (k : Int) < 8 := by omega
      generalize n.ds.getD k 0 = d at *
      go_wp2_with fail
      refine (u32_any w0.heap.size _ d _ _ _ a6 (by simp; omega)).mono ?_
      rintro e w7 ⟨rfl, v7, h7⟩
      have B7 := B6.trans (h7.belowW a6)
      have a7 := h7.wr
      rw [List.append_assoc, ← HS.out] at a7
      clear a6 B6 h7 HS
      go_wp2
      go_roundw
      case rel => exact ⟨k + 1, by omega, by go_num, v7, a7, B7⟩
      case measure => simp [intOf]; omega
    · obtain rfl : k = 8 := by omega
      have e8 : n.ds.take 8 = n.ds := List.take_of_length_le (by rw [Nd.ds_len]; omega)
      rw [e8] at a6 hfl
      rw [Nd.ds_len] at hfl
      have n6 := n0.below B6 (by omega)
      have f6 := n6.c11
      clear g3 g4 g5 g6 g7 g8 g9 g10 B5 n5 a5 e8
      go_wp2_with fail
      refine (u32_any w0.heap.size _ n.on _ _ _ a6 (by simp; omega)).mono ?_
      rintro e w7 ⟨rfl, v7, h7⟩
      have B7 := B6.trans (h7.belowW a6)
      have a7 := h7.wr
      have n7 := n0.below B7 (by omega)
      have f7 := n7.c12
      clear a6 B6 n6 f6 h7
      go_wp2_with fail
      refine (u32_any w0.heap.size _ n.tw _ _ _ a7 (by simp [L]; omega)).mono ?_
      rintro e w8 ⟨rfl, v8, h8⟩
      have B8 := B7.trans (h8.belowW a7)
      have a8 := h8.wr
      rw [← HF.out] at a8
      clear a7 B7 n7 f7 h8 n0
      go_wp2_with fail
      refine (newWriter_any w0.heap.size w8 B8.size).mono ?_
      rintro e w9 ⟨rfl, b9, hw9⟩
      have C9 : Chg (fun _ => False) w8 w9 := by rw [hw9]; exact Chg.alloc _ _ _
      have a9 := a8.keep C9 (fun _ h => h)
      have B9 := B8.trans (C9.below B8.size (fun _ h => h.elim))
      clear a8 B8 C9 hw9
      have hfr := n.front_len
      go_wp2_with fail
      refine (done_any w0.heap.size _ _ _ _ a9 (by omega)).mono ?_
      rintro e w10 ⟨u10, rfl, h10⟩
      have B10 := B9.trans (h10.2.1.below a9.N (fun _ h => h.elim))
      have b10 := b9.keep h10.2.1 (fun _ h => h)
      have r10 := Bs.ofOwns h10.1
      clear a9 b9 B9 h10
      go_wp2_with fail
      refine (fixed_any w0.heap.size _ _ _ 60 _ n.front _ b10 r10 (by simp)).mono ?_
      rintro e w11 ⟨rfl, v11, h11⟩
      have B11 := B10.trans (h11.belowW b10)
      have b11 := h11.wr
      rw [List.nil_append, n.fix] at b11
      have hbl := n.body_len
      clear b10 r10 B10 h11
      go_wp2_with fail
      refine (done_any w0.heap.size _ _ _ _ b11 (by omega)).mono ?_
      rintro e w12 ⟨u12, rfl, h12⟩
      have B12 := B0.trans ((B11.trans (h12.2.1.below b11.N (fun _ h => h.elim))).mono (by omega))
      have r12 := Bs.ofOwns h12.1
      clear b11 B11 h12
      go_wp2_with fail
      refine (seal_any N _ n.body _ r12 n.body_isB (hT.below B12 hN0) (by have := B12.size; omega) (by omega)).mono ?_
      rintro e w13 ⟨u13, rfl, F13⟩
      have C13 : Chg (fun _ => False) w w13 := (Chg.ofBelowC B12).trans F13.2.1 (fun _ _ h => h)
      have F : FreshN N w w13 u13 n.bytes := ⟨F13.1, C13, fun k hk => by have h1 := F13.2.2 k hk; have h2 := B12.size; omega⟩
      clear F13 C13 r12 B12
      go_wp2
      go_ret
      exact ⟨u13, rfl, F⟩
end Go.Proofs.YtcclpfcgodckgaaDoor

/-
  known answers true.
-/
import Derived.Test.YtcclpfcgodckgaaDoorIDecode2
import Derived.Test.YtcclpfcgodckgaaDoorIBlocks
import Derived.Deep.RegionHeld
namespace Go.Proofs.YtcclpfcgodckgaaDoor
open Go.RowKit

/-- A node that may be, and whose numbers fit, is read again. -/
theorem dec_enc (n : Nd) (hr : readN n.body = n) (hok : n.ok) : decN n.bytes = n ∧ decE n.bytes = 0 := by
  have hl := n.bytes_len
  have hbl := n.body_len
  have ht : n.bytes.take 60 = n.body := by
    unfold Nd.bytes
    rw [← hbl]
    exact List.take_left
  have ho : openE n.bytes = 0 := (open_sealed n.body).1
  have hx : readN (n.bytes.take 60) = n := by rw [ht, hr]
  constructor
  · unfold decN
    rw [hx, if_pos ⟨hl, ho, hok, rfl⟩]
  · unfold decE
    rw [hx, if_neg (by omega), if_neg (by omega), if_pos ho, if_pos ⟨hok, rfl⟩]
def Nd.K : Nd := ⟨1, 2, 3, 0, 0, 0, 0, 0, 0, 0, 0, 0, 9⟩
theorem readK : readN Nd.K.body = Nd.K := by kernel_rfl
theorem decK : decN Nd.K.bytes = Nd.K ∧ decE Nd.K.bytes = 0 := dec_enc Nd.K readK ⟨by decide, by decide⟩

theorem where436 (w : World) : Calls Tryd.prog 12 #[.int .i64 436] w fun e w' => e = .returned (.tuple #[plV 2 2 44, .int .i64 0]) ∧ w' = w.alloc (plO 37 2 2 44) :=
  where_two 436 w (by decide) (by decide)
theorem blk513 : blkN 513 = 2 := by decide
theorem inn4608 : innN 4608 = 1 := by decide
theorem stoodP : Tryd.prog.stoodInHeld 37 = false := by kernel_rfl
theorem fieldsP : Tryd.prog.underlying 37 = some (.struct (Tryd.prog.fieldsOf 37)) := by kernel_rfl
theorem eqInP (l a b l' a' b' : Int) (w : World) : (Op.equalIn 10000 37 (plV l a b) (plV l' a' b')).run Tryd.prog w = .ok (decide (l = l' ∧ a = a' ∧ b = b')) w := by
  rw [run_equalIn_struct w 9999 37 _ _ fieldsP stoodP]
  have p0 : ∀ (l a b : Int) (w : World), (part 3 #[.int .i64 l, .int .i64 a, .int .i64 b] 0).run Tryd.prog w = .ok (.int .i64 l) w := fun _ _ _ _ => by kernel_rfl
  have p1 : ∀ (l a b : Int) (w : World), (part 3 #[.int .i64 l, .int .i64 a, .int .i64 b] 1).run Tryd.prog w = .ok (.int .i64 a) w := fun _ _ _ _ => by kernel_rfl
  have p2 : ∀ (l a b : Int) (w : World), (part 3 #[.int .i64 l, .int .i64 a, .int .i64 b] 2).run Tryd.prog w = .ok (.int .i64 b) w := fun _ _ _ _ => by kernel_rfl
  have e : ∀ (a b : Int) (w : World), (Op.equalIn 9999 3 (.int .i64 a) (.int .i64 b)).run Tryd.prog w = .ok (a == b) w := fun a b w => by rw [run_equalIn_int w 9998 3 .i64 .i64 a b Tryd.underlying3]
  by_cases h0 : l = l'
  · by_cases h1 : a = a'
    · by_cases h2 : b = b'
      · simp [Program.fieldsOf, Tryd.underlying37, Op.eqFields, p0, p1, p2, e, h0, h1, h2]
      · have b2 : (b == b') = false := by simp [h2]
        simp [Program.fieldsOf, Tryd.underlying37, Op.eqFields, p0, p1, p2, e, h0, h1, h2]
    · have b1 : (a == a') = false := by simp [h1]
      simp [Program.fieldsOf, Tryd.underlying37, Op.eqFields, p0, p1, e, h0, h1]
  · have b0 : (l == l') = false := by simp [h0]
    simp [Program.fieldsOf, Tryd.underlying37, Op.eqFields, p0, e, h0]
theorem eqlP (l a b : Int) (w : World) : (binOp .eql 37 (plV l a b) (plV l a b)).run Tryd.prog w = .ok (.bool true) w := by
  rw [run_eql_struct, eqInP]; simp

set_option maxHeartbeats 1600000 in
set_option maxRecDepth 100000 in
theorem iknown_any (w : World) (hT : Tab w) :
    Calls Tryd.prog 7 #[] w fun e w' => e = .returned (.bool true) ∧ Chg (fun _ => False) w w' := by
  have hN0 : 0 < w.heap.size := by have := World.block_lt_of_cell? w _ (hT 0 (by omega)); simpa using this
  go_enter Tryd.func7, Tryd.ntmps7
  go_wp2_with fail
  refine (encode_any Nd.K w.heap.size w hT (Nat.le_refl _)).mono ?_
  rintro e w1 ⟨u, rfl, F1⟩
  have T1 := hT.below (F1.2.1.below (Nat.le_refl _) (fun _ h => h.elim)) hN0
  go_wp2_with fail
  refine (decode_any u _ w1 (Bs.ofOwns F1.1) Nd.K.bytes_isB T1).mono ?_
  rintro e w2 ⟨rfl, C2⟩
  have C12 := F1.2.1.trans C2 (fun _ _ h => h)
  rw [decK.1, decK.2]
  clear F1 T1 C2
  go_wp2_with fail
  have n3 : NdAt (w2.alloc (.cells #[.int .i64 Nd.K.kd, .int .i64 Nd.K.lk, .int .i64 Nd.K.sz, .int .i64 Nd.K.d0, .int .i64 Nd.K.d1, .int .i64 Nd.K.d2, .int .i64 Nd.K.d3, .int .i64 Nd.K.d4, .int .i64 Nd.K.d5, .int .i64 Nd.K.d6, .int .i64 Nd.K.d7, .int .i64 Nd.K.on, .int .i64 Nd.K.tw] 24)) w2.heap.size Nd.K := NdAt.box w2 Nd.K _
  have C3 : Chg (fun _ => False) w (w2.alloc (.cells #[.int .i64 Nd.K.kd, .int .i64 Nd.K.lk, .int .i64 Nd.K.sz, .int .i64 Nd.K.d0, .int .i64 Nd.K.d1, .int .i64 Nd.K.d2, .int .i64 Nd.K.d3, .int .i64 Nd.K.d4, .int .i64 Nd.K.d5, .int .i64 Nd.K.d6, .int .i64 Nd.K.d7, .int .i64 Nd.K.on, .int .i64 Nd.K.tw] 24)) := C12.trans (Chg.alloc _ _ _) (fun _ _ h => h)
  generalize w2.alloc (.cells #[.int .i64 Nd.K.kd, .int .i64 Nd.K.lk, .int .i64 Nd.K.sz, .int .i64 Nd.K.d0, .int .i64 Nd.K.d1, .int .i64 Nd.K.d2, .int .i64 Nd.K.d3, .int .i64 Nd.K.d4, .int .i64 Nd.K.d5, .int .i64 Nd.K.d6, .int .i64 Nd.K.d7, .int .i64 Nd.K.on, .int .i64 Nd.K.tw] 24) = w3 at *
  refine (where436 w3).mono ?_
  rintro e w4 ⟨rfl, hw4⟩
  have C34 : Chg (fun _ => False) w3 w4 := by rw [hw4]; exact Chg.alloc _ _ _
  have n4 := n3.kept C34 (fun h => h)
  have C4 := C3.trans C34 (fun _ _ h => h)
  have n5 := n4.kept (Chg.alloc (fun _ => False) w4 (.cells #[.int .i64 2, .int .i64 2, .int .i64 44] 37)) (fun h => h)
  have f1 : (w4.alloc (.cells #[.int .i64 2, .int .i64 2, .int .i64 44] 37)).cell? ⟨w2.heap.size, 1, none⟩ = some (.int .i64 2) := n5.c1
  have f12 : (w4.alloc (.cells #[.int .i64 2, .int .i64 2, .int .i64 44] 37)).cell? ⟨w2.heap.size, 12, none⟩ = some (.int .i64 9) := n5.c12
  have pq := fun w => eqlP 2 2 44 w
  have hg : Tryd.prog.eqGuardType Tryd.prog.depth 37 = false := by kernel_rfl
  clear hw4 n3 C3 C34 C12 n4 n5
  go_wp2_with fail
  refine (blocks_any 513 _).mono ?_
  rintro e w5 ⟨rfl, hw5⟩
  have C5 : Chg (fun _ => False) w w5 := by rw [hw5]; exact C4.trans (Chg.alloc _ _ _) (fun _ _ h => h)
  rw [blk513]
  clear hw5
  go_wp2_with fail
  refine (inner_any 4608 _).mono ?_
  rintro e w6 ⟨rfl, C6⟩
  rw [inn4608]
  go_wp2
  go_ret
  exact ⟨rfl, C5.trans C6 (fun _ _ h => h)⟩
end Go.Proofs.YtcclpfcgodckgaaDoor

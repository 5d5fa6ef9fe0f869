/-
  The contract of Decode of the reference (package mailbagref7): its reading.
-/
import Derived.Test.YtcclpfcgodckgaaDoorIRefEnc
import Derived.Test.YtcclpfcgodckgaaDoorIEq
import Derived.Deep.RegionHeld
namespace Go.Proofs.YtcclpfcgodckgaaDoor
open Go.RowKit

set_option maxHeartbeats 1600000 in
set_option maxRecDepth 100000 in
theorem refDecode_short (v : Value) (bs : List Int) (w : World) (hb : Bs w v bs) (h : bs.length < 64) :
    Calls Tryd.prog 11 #[v] w fun e w' => e = .returned (.tuple #[Nd.no.v, .int .i64 2]) ∧ Chg (fun _ => False) w w' := by
  obtain ⟨ab, cb, rfl, hcb⟩ := hb.formC
  have k1 : decide ((bs.length : Int) < 64) = true := by simp; omega
  have k1' : (bs.length : Int) < 64 := by omega
  clear hb
  go_enter Tryd.func11, Tryd.ntmps11
  go_wp2_with fail
  refine bodyPost_ret (v := .tuple #[Nd.no.v, .int .i64 2]) (by simp [results, Tryd.results11, go_sem, Nd.no]) rfl ⟨rfl, Chg.alloc _ _ _⟩

set_option maxHeartbeats 1600000 in
set_option maxRecDepth 100000 in
theorem refDecode_long (v : Value) (bs : List Int) (w : World) (hb : Bs w v bs) (h : 64 < bs.length) :
    Calls Tryd.prog 11 #[v] w fun e w' => e = .returned (.tuple #[Nd.no.v, .int .i64 5]) ∧ Chg (fun _ => False) w w' := by
  obtain ⟨ab, cb, rfl, hcb⟩ := hb.formC
  have k1 : decide ((bs.length : Int) < 64) = false := by simp; omega
  have k2 : decide ((64 : Int) < (bs.length : Int)) = true := by simp; omega
  have k1' : ¬ (bs.length : Int) < 64 := by omega
  have k2' : (64 : Int) < (bs.length : Int) := by omega
  clear hb
  go_enter Tryd.func11, Tryd.ntmps11
  go_wp2_with fail
  refine bodyPost_ret (v := .tuple #[Nd.no.v, .int .i64 5]) (by simp [results, Tryd.results11, go_sem, Nd.no]) rfl ⟨rfl, Chg.alloc _ _ _⟩

set_option maxHeartbeats 1600000 in
set_option maxRecDepth 100000 in
theorem refDecode_sum (v : Value) (bs : List Int) (w : World) (hb : Bs w v bs) (hB : IsB bs) (h : bs.length = 64) (ho : openE bs ≠ 0) :
    Calls Tryd.prog 11 #[v] w fun e w' => e = .returned (.tuple #[Nd.no.v, .int .i64 (openE bs)]) ∧ Chg (fun _ => False) w w' := by
  obtain ⟨ab, cb, rfl, hcb⟩ := hb.formC
  have HL : Hid (bs.length = 64) := h
  rw [h] at hb
  rw [h]
  clear h hcb
  have c0 : Chg (fun _ => False) w (w.alloc (.cells #[.int .i64 0, .int .i64 0, .int .i64 0, .int .i64 0, .int .i64 0, .int .i64 0, .int .i64 0, .int .i64 0, .int .i64 0, .int .i64 0, .int .i64 0, .int .i64 0, .int .i64 0] 29)) := Chg.alloc _ _ _
  have s0 : NdB 29 (w.alloc (.cells #[.int .i64 0, .int .i64 0, .int .i64 0, .int .i64 0, .int .i64 0, .int .i64 0, .int .i64 0, .int .i64 0, .int .i64 0, .int .i64 0, .int .i64 0, .int .i64 0, .int .i64 0] 29)) w.heap.size Nd.no := heap_alloc_new w _
  go_enter Tryd.func11, Tryd.ntmps11
  go_wp2_with fail
  generalize w.alloc (.cells #[.int .i64 0, .int .i64 0, .int .i64 0, .int .i64 0, .int .i64 0, .int .i64 0, .int .i64 0, .int .i64 0, .int .i64 0, .int .i64 0, .int .i64 0, .int .i64 0, .int .i64 0] 29) = w0 at *
  refine (refOpen_any w0.heap.size _ bs w0 (hb.kept c0 (fun _ _ _ _ _ h => h)) hB (Nat.le_refl _) (by rw [HL.out]; omega)).mono ?_
  rintro e w1 ⟨u, rfl, F1⟩
  have s1 := s0.kept F1.2.1 (fun h => h)
  have C1 := c0.trans F1.2.1 (fun _ _ h => h)
  have k3 : (openE bs == 0) = false := by simpa using ho
  obtain ⟨c0', c1', c2', c3', c4', c5', c6', c7', c8', c9', c10', c11', c12'⟩ := s1.at
  have fr := s1.fr
  have P := s1.put Nd.no
  obtain ⟨ee, HEE⟩ : ∃ ee, Hid (openE bs = ee) := ⟨_, rfl⟩
  rw [HEE.out] at k3
  rw [HEE.out]
  clear F1 s0 hb hB c0 ho
  go_wp2_with fail
  obtain ⟨P1, P2⟩ := P
  have C2 := C1.trans P2 (fun i hi e => by omega)
  clear c0' c1' c2' c3' c4' c5' c6' c7' c8' c9' c10' c11' c12' P2 s1 fr
  unfold putNd at P1 C2
  simp only [Nd.no] at P1 C2
  generalize World.setCell _ ⟨w.heap.size, 12, none⟩ _ = w12 at *
  obtain ⟨c0, c1, c2, c3, c4, c5, c6, c7, c8, c9, c10, c11, c12⟩ := P1.at
  refine bodyPost_ret (v := .tuple #[Nd.no.v, .int .i64 ee]) (by simp [results, Tryd.results11, go_sem, Nd.no, c0, c1, c2, c3, c4, c5, c6, c7, c8, c9, c10, c11, c12]) rfl ⟨by rw [HEE.out], C2⟩
end Go.Proofs.YtcclpfcgodckgaaDoor

/-
  Cut of package file: sizes that are refused.
-/
import Derived.Test.YtnnaemlipahamaaGreatFApp1
namespace Go.Proofs.YtnnaemlipahamaaGreat
open Go.RowKit Go.Maps

section
variable {w : World} {nd : Nd}
set_option maxHeartbeats 800000 in
theorem cut_bad (size : Int) (M F n : Int) (q sz : Nat) (hsz : nd.sz = (sz : Int)) (hbad : size < 0 ∨ (sz : Int) < size) :
    Calls Tryz.prog 18 #[.pointer (some ⟨q, 0, none⟩), PV M F n, nd.v, .int .i64 size] w fun e w' => e = .returned (.tuple #[Nd.no.v, .int .i64 1]) ∧ Chg (fun _ => False) w w' := by
  obtain ⟨W0, hW0⟩ : ∃ W0, ((w.alloc (PO M F n)).alloc (nd.o 29)).alloc (Nd.no.o 29) = W0 := ⟨_, rfl⟩
  have hc0 : Chg (fun _ => False) w W0 := hW0 ▸ ((Chg.alloc (fun _ => False) w _).al _).al _
  have hr0 : NdB 29 W0 (w.heap.size + 2) Nd.no := hW0 ▸ heap_new' (by simp)
  obtain ⟨kd, lk, zz, e0, e1, e2, e3, e4, e5, e6, e7, on, tw⟩ := nd
  obtain rfl : zz = (sz : Int) := hsz
  rw [← hW0] at hc0 hr0
  have HC : Hid (Chg (fun _ => False) w (((w.alloc (PO M F n)).alloc (Nd.o ⟨kd, lk, (sz : Int), e0, e1, e2, e3, e4, e5, e6, e7, on, tw⟩ 29)).alloc (Nd.no.o 29))) := hc0
  have c := hr0.at
  have HR : Hid (NdAt (((w.alloc (PO M F n)).alloc (Nd.o ⟨kd, lk, (sz : Int), e0, e1, e2, e3, e4, e5, e6, e7, on, tw⟩ 29)).alloc (Nd.no.o 29)) (w.heap.size + 2) Nd.no) := c
  clear hc0 hr0 c hW0
  unfold PO at HC HR
  unfold PV
  by_cases hneg : size < 0
  · have k0 : decide (size < 0) = true := by simpa using hneg
    clear hbad
    go_enter Tryz.func18, Tryz.ntmps18
    go_wp2_with fail
    obtain ⟨c0, c1, c2, c3, c4, c5, c6, c7, c8, c9, c10, c11, c12⟩ := HR.out
    refine bodyPost_ret (v := .tuple #[Nd.no.v, .int .i64 1]) (by simp [results, Tryz.results18, go_sem, Nd.no]) rfl ⟨rfl, HC.out⟩
  · have k0 : decide (size < 0) = false := by simpa using hneg
    have k1 : (sz : Int) < size := by omega
    have k2 : decide ((sz : Int) < size) = true := by simpa using k1
    clear hbad
    go_enter Tryz.func18, Tryz.ntmps18
    go_wp2_with fail
    refine bodyPost_ret (v := .tuple #[Nd.no.v, .int .i64 1]) (by simp [results, Tryz.results18, go_sem, Nd.no]) rfl ⟨rfl, HC.out⟩
end
end Go.Proofs.YtnnaemlipahamaaGreat

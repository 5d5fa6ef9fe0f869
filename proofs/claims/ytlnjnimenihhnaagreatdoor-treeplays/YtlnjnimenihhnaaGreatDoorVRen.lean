/-
  The document's tree: Rename that is refused.
-/
import Derived.Test.YtlnjnimenihhnaaGreatDoorVOver
import Derived.Test.YtlnjnimenihhnaaGreatDoorVRem2
namespace Go.Proofs.YtlnjnimenihhnaaGreatDoor
open Go.RowKit Go.Maps

set_option maxHeartbeats 6400000 in
set_option maxRecDepth 100000 in
theorem rren_err {r : Nat} {va vb : Option Addr} {N1 c1 N2 c2 : Nat} (w : World) {k ec : Int} (he : ¬ ec = 0)
    (HL : Calls Tryz.prog 59 #[ptr r, .slice va N1 c1] w fun e w'' => e = .returned (.tuple #[.int .i64 k, .int .i64 ec]) ∧ Below w.heap.size w w'') :
    Calls Tryz.prog 34 #[ptr r, .slice va N1 c1, .slice vb N2 c2] w fun e w' => e = .returned (.int .i64 ec) ∧ Below w.heap.size w w' := by
  have HWL : Hid (Calls Tryz.prog 59 #[ptr r, .slice va N1 c1] w fun e w'' => e = .returned (.tuple #[.int .i64 k, .int .i64 ec]) ∧ Below w.heap.size w w'') := HL
  have e1 : (ec == 0) = false := by simpa using he
  have e2 : decide (ec = 0) = false := by simpa using he
  clear HL
  go_enter Tryz.func34, Tryz.ntmps34
  go_wp2_with fail
  refine HWL.out.mono ?_
  clear HWL
  rintro e w1 ⟨rfl, B1⟩
  have HB1 : Hid (Below w.heap.size w w1) := B1
  clear B1
  go_wp2_with fail
  go_ret
  exact ⟨rfl, HB1.out⟩
set_option maxHeartbeats 6400000 in
set_option maxRecDepth 100000 in
theorem rren_busy1 {r : Nat} {va vb : Option Addr} {N1 c1 N2 c2 : Nat} (w : World) {k : Int} (h0 : N1 = 0)
    (HL : Calls Tryz.prog 59 #[ptr r, .slice va N1 c1] w fun e w'' => e = .returned (.tuple #[.int .i64 k, .int .i64 0]) ∧ Below w.heap.size w w'') :
    Calls Tryz.prog 34 #[ptr r, .slice va N1 c1, .slice vb N2 c2] w fun e w' => e = .returned (.int .i64 13) ∧ Below w.heap.size w w' := by
  subst h0
  have HWL : Hid (Calls Tryz.prog 59 #[ptr r, .slice va 0 c1] w fun e w'' => e = .returned (.tuple #[.int .i64 k, .int .i64 0]) ∧ Below w.heap.size w w'') := HL
  clear HL
  go_enter Tryz.func34, Tryz.ntmps34
  go_wp2_with fail
  refine HWL.out.mono ?_
  clear HWL
  rintro e w1 ⟨rfl, B1⟩
  have HB1 : Hid (Below w.heap.size w w1) := B1
  clear B1
  go_wp2_with fail
  go_ret
  exact ⟨rfl, HB1.out⟩
set_option maxHeartbeats 6400000 in
set_option maxRecDepth 100000 in
theorem rren_busy2 {r : Nat} {va vb : Option Addr} {N1 c1 N2 c2 : Nat} (w : World) {k : Int} (h0 : ¬ N1 = 0) (h1 : N2 = 0)
    (HL : Calls Tryz.prog 59 #[ptr r, .slice va N1 c1] w fun e w'' => e = .returned (.tuple #[.int .i64 k, .int .i64 0]) ∧ Below w.heap.size w w'') :
    Calls Tryz.prog 34 #[ptr r, .slice va N1 c1, .slice vb N2 c2] w fun e w' => e = .returned (.int .i64 13) ∧ Below w.heap.size w w' := by
  subst h1
  have HWL : Hid (Calls Tryz.prog 59 #[ptr r, .slice va N1 c1] w fun e w'' => e = .returned (.tuple #[.int .i64 k, .int .i64 0]) ∧ Below w.heap.size w w'') := HL
  clear HL
  have w8 : ¬ (N1 : Int) = 0 := by omega
  have w9 : ((N1 : Int) == 0) = false := by simp; omega
  have w13 : decide ((N1 : Int) = 0) = false := by simp; omega
  go_enter Tryz.func34, Tryz.ntmps34
  go_wp2_with fail
  refine HWL.out.mono ?_
  clear HWL
  rintro e w1 ⟨rfl, B1⟩
  have HB1 : Hid (Below w.heap.size w w1) := B1
  clear B1
  go_wp2_with fail
  go_ret
  exact ⟨rfl, HB1.out⟩
set_option maxHeartbeats 6400000 in
set_option maxRecDepth 100000 in
theorem rren_err2 {r _q : Nat} {_G : Nat → Prop} {_R : Rs} (n1 n2 N1 N2 c1 c2 b1 b2 o1 o2 : Nat) (hN1 : N1 = n1 + 1) (hN2 : N2 = n2 + 1) (hc1 : n1 < c1) (hc2 : n2 < c2) (hn1 : n1 ≤ 1000) (hn2 : n2 ≤ 1000) (w : World) {k tt ec : Int} (he : ¬ ec = 0)
    (HL : ∀ w', Below w.heap.size w w' → Calls Tryz.prog 59 #[ptr r, .slice (some ⟨b1, o1, none⟩) N1 c1] w' fun e w'' => e = .returned (.tuple #[.int .i64 (k), .int .i64 0]) ∧ Below w'.heap.size w' w'')
    (HM : ∀ w', Below w.heap.size w w' → Calls Tryz.prog 59 #[ptr r, .slice (some ⟨b2, o2, none⟩) n2 c2] w' fun e w'' => e = .returned (.tuple #[.int .i64 (tt), .int .i64 ec]) ∧ Below w'.heap.size w' w'') :
    Calls Tryz.prog 34 #[ptr r, .slice (some ⟨b1, o1, none⟩) N1 c1, .slice (some ⟨b2, o2, none⟩) N2 c2] w fun e w' => e = .returned (.int .i64 ec) ∧ Below w.heap.size w w' := by
  have HWL : Hid (∀ w', Below w.heap.size w w' → Calls Tryz.prog 59 #[ptr r, .slice (some ⟨b1, o1, none⟩) N1 c1] w' fun e w'' => e = .returned (.tuple #[.int .i64 (k), .int .i64 0]) ∧ Below w'.heap.size w' w'') := HL
  have HWM : Hid (∀ w', Below w.heap.size w w' → Calls Tryz.prog 59 #[ptr r, .slice (some ⟨b2, o2, none⟩) n2 c2] w' fun e w'' => e = .returned (.tuple #[.int .i64 (tt), .int .i64 ec]) ∧ Below w'.heap.size w' w'') := HM
  have i1 : (n1 : Int) < (N1 : Int) := by omega
  have i2 : n1 ≤ N1 := by omega
  have i3 : N1 ≤ c1 := by omega
  have i4 : (n2 : Int) < (N2 : Int) := by omega
  have i5 : n2 ≤ N2 := by omega
  have i6 : N2 ≤ c2 := by omega
  have w7 : (N1 : Int) - 1 = n1 := by omega
  have w8 : ¬ (N1 : Int) = 0 := by omega
  have w9 : ((N1 : Int) == 0) = false := by simp; omega
  have w10 : (N2 : Int) - 1 = n2 := by omega
  have w11 : ¬ (N2 : Int) = 0 := by omega
  have w12 : ((N2 : Int) == 0) = false := by simp; omega
  have w13 : decide ((N1 : Int) = 0) = false := by simp; omega
  have w14 : decide ((N2 : Int) = 0) = false := by simp; omega
  have e1 : (ec == 0) = false := by simpa using he
  have e2 : decide (ec = 0) = false := by simpa using he
  clear HL HM hN1 hN2
  go_enter Tryz.func34, Tryz.ntmps34
  go_wp2_with fail
  refine (HWL.out w (Below.refl _ _)).mono ?_
  clear HWL
  rintro e w1 ⟨rfl, B1⟩
  have HB1 : Hid (Below w.heap.size w w1) := B1
  clear B1
  go_wp2_with fail
  refine (HWM.out w1 HB1.out).mono ?_
  clear HWM
  rintro e w2 ⟨rfl, B2⟩
  have HB2 : Hid (Below w.heap.size w w2) := HB1.out.trans (B2.mono HB1.out.size)
  clear B2
  clear w7 w8 w9 w10 w11 w12 w13 w14
  go_wp2_with fail
  go_ret
  exact ⟨rfl, HB2.out⟩
set_option maxHeartbeats 6400000 in
set_option maxRecDepth 100000 in
theorem rren_file {r q : Nat} {G : Nat → Prop} {R : Rs} (n1 n2 N1 N2 c1 c2 b1 b2 o1 o2 : Nat) (hN1 : N1 = n1 + 1) (hN2 : N2 = n2 + 1) (hc1 : n1 < c1) (hc2 : n2 < c2) (hn1 : n1 ≤ 1000) (hn2 : n2 ≤ 1000) (w : World) {bs : List Int} {k : Int} {tt : Nat} (h : Rt w r q G R) (hto : R.at tt = .file bs)
    (HL : ∀ w', Below w.heap.size w w' → Calls Tryz.prog 59 #[ptr r, .slice (some ⟨b1, o1, none⟩) N1 c1] w' fun e w'' => e = .returned (.tuple #[.int .i64 (k), .int .i64 0]) ∧ Below w'.heap.size w' w'')
    (HM : ∀ w', Below w.heap.size w w' → Calls Tryz.prog 59 #[ptr r, .slice (some ⟨b2, o2, none⟩) n2 c2] w' fun e w'' => e = .returned (.tuple #[.int .i64 (tt : Nat), .int .i64 0]) ∧ Below w'.heap.size w' w'') :
    Calls Tryz.prog 34 #[ptr r, .slice (some ⟨b1, o1, none⟩) N1 c1, .slice (some ⟨b2, o2, none⟩) N2 c2] w fun e w' => e = .returned (.int .i64 11) ∧ Below w.heap.size w w' := by
  have HWL : Hid (∀ w', Below w.heap.size w w' → Calls Tryz.prog 59 #[ptr r, .slice (some ⟨b1, o1, none⟩) N1 c1] w' fun e w'' => e = .returned (.tuple #[.int .i64 (k), .int .i64 0]) ∧ Below w'.heap.size w' w'') := HL
  have HWM : Hid (∀ w', Below w.heap.size w w' → Calls Tryz.prog 59 #[ptr r, .slice (some ⟨b2, o2, none⟩) n2 c2] w' fun e w'' => e = .returned (.tuple #[.int .i64 (tt : Nat), .int .i64 0]) ∧ Below w'.heap.size w' w'') := HM
  have i1 : (n1 : Int) < (N1 : Int) := by omega
  have i2 : n1 ≤ N1 := by omega
  have i3 : N1 ≤ c1 := by omega
  have i4 : (n2 : Int) < (N2 : Int) := by omega
  have i5 : n2 ≤ N2 := by omega
  have i6 : N2 ≤ c2 := by omega
  have w7 : (N1 : Int) - 1 = n1 := by omega
  have w8 : ¬ (N1 : Int) = 0 := by omega
  have w9 : ((N1 : Int) == 0) = false := by simp; omega
  have w10 : (N2 : Int) - 1 = n2 := by omega
  have w11 : ¬ (N2 : Int) = 0 := by omega
  have w12 : ((N2 : Int) == 0) = false := by simp; omega
  have w13 : decide ((N1 : Int) = 0) = false := by simp; omega
  have w14 : decide ((N2 : Int) = 0) = false := by simp; omega
  have HR : Hid (Rt w r q G R) := h
  clear HL HM hN1 hN2 h
  go_enter Tryz.func34, Tryz.ntmps34
  go_wp2_with fail
  refine (HWL.out w (Below.refl _ _)).mono ?_
  clear HWL
  rintro e w1 ⟨rfl, B1⟩
  have HB1 : Hid (Below w.heap.size w w1) := B1
  clear B1
  go_wp2_with fail
  refine (HWM.out w1 HB1.out).mono ?_
  clear HWM
  rintro e w2 ⟨rfl, B2⟩
  have HB2 : Hid (Below w.heap.size w w2) := HB1.out.trans (B2.mono HB1.out.size)
  clear B2
  obtain ⟨tl, tc, ta, td, tL, t0, t1, t2, t3, _, _, _, _⟩ := (HR.out.below HB2.out).fileAt hto
  have qt : (tt : Int) < R.L.length := by omega
  clear w7 w8 w9 w10 w11 w12 w13 w14
  go_wp2_with fail
  go_ret
  exact ⟨rfl, HB2.out⟩
end Go.Proofs.YtlnjnimenihhnaaGreatDoor

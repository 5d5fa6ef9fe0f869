/-
  The document's tree: Unlink, Rmdir.
-/
import Derived.Test.YtlnjnimenihhnaaGreatDoorVData2
import Derived.Test.YtlnjnimenihhnaaGreatDoorDRefNames
namespace Go.Proofs.YtlnjnimenihhnaaGreatDoor
open Go.RowKit Go.Maps

section
variable {r : Nat} {va : Option Addr} {vn vc : Nat} {w : World}
set_option maxHeartbeats 1600000 in
set_option maxRecDepth 100000 in
theorem rrem_err {m ec : Int} (d : Bool) (he : ¬ ec = 0)
    (HW : Calls Tryz.prog 59 #[ptr r, .slice va vn vc] w fun e w'' => e = .returned (.tuple #[.int .i64 m, .int .i64 ec]) ∧ Below w.heap.size w w'') :
    Calls Tryz.prog 33 #[ptr r, .slice va vn vc, .bool d] w fun e w' => e = .returned (.int .i64 ec) ∧ Below w.heap.size w w' := by
  have HWH : Hid (Calls Tryz.prog 59 #[ptr r, .slice va vn vc] w fun e w'' => e = .returned (.tuple #[.int .i64 m, .int .i64 ec]) ∧ Below w.heap.size w w'') := HW
  have e1 : (ec == 0) = false := by simpa using he
  have e2 : decide (ec = 0) = false := by simpa using he
  clear HW
  go_enter Tryz.func33, Tryz.ntmps33
  go_wp2_with fail
  refine HWH.out.mono ?_
  clear HWH
  rintro e w1 ⟨rfl, B1⟩
  have HB1 : Hid (Below w.heap.size w w1) := B1
  clear B1
  go_wp2_with fail
  go_ret
  exact ⟨rfl, HB1.out⟩
set_option maxHeartbeats 1600000 in
set_option maxRecDepth 100000 in
theorem rrem_11 {q m : Nat} {G : Nat → Prop} {R : Rs} {bs : List Int} (h : Rt w r q G R) (hm : R.at m = .file bs)
    (HW : Calls Tryz.prog 59 #[ptr r, .slice va vn vc] w fun e w'' => e = .returned (.tuple #[.int .i64 (m : Nat), .int .i64 0]) ∧ Below w.heap.size w w'') :
    Calls Tryz.prog 33 #[ptr r, .slice va vn vc, .bool true] w fun e w' => e = .returned (.int .i64 11) ∧ Below w.heap.size w w' := by
  have HWH : Hid (Calls Tryz.prog 59 #[ptr r, .slice va vn vc] w fun e w'' => e = .returned (.tuple #[.int .i64 (m : Nat), .int .i64 0]) ∧ Below w.heap.size w w'') := HW
  have HR : Hid (Rt w r q G R) := h
  clear HW h
  go_enter Tryz.func33, Tryz.ntmps33
  go_wp2_with fail
  refine HWH.out.mono ?_
  clear HWH
  rintro e w1 ⟨rfl, B1⟩
  have HB1 : Hid (Below w.heap.size w w1) := B1
  obtain ⟨hml, cc, a1, d1, cL, c0, c1, c2, c3, _, _, _, _⟩ := (HR.out.below B1).fileAt hm
  have q2 : (m : Int) < R.L.length := by omega
  clear B1 HR
  go_wp2_with fail
  go_ret
  exact ⟨rfl, HB1.out⟩
set_option maxHeartbeats 1600000 in
set_option maxRecDepth 100000 in
theorem rrem_10 {q m : Nat} {G : Nat → Prop} {R : Rs} {es : List En} (h : Rt w r q G R) (hm : R.at m = .dir es)
    (HW : Calls Tryz.prog 59 #[ptr r, .slice va vn vc] w fun e w'' => e = .returned (.tuple #[.int .i64 (m : Nat), .int .i64 0]) ∧ Below w.heap.size w w'') :
    Calls Tryz.prog 33 #[ptr r, .slice va vn vc, .bool false] w fun e w' => e = .returned (.int .i64 10) ∧ Below w.heap.size w w' := by
  have HWH : Hid (Calls Tryz.prog 59 #[ptr r, .slice va vn vc] w fun e w'' => e = .returned (.tuple #[.int .i64 (m : Nat), .int .i64 0]) ∧ Below w.heap.size w w'') := HW
  have HR : Hid (Rt w r q G R) := h
  clear HW h
  go_enter Tryz.func33, Tryz.ntmps33
  go_wp2_with fail
  refine HWH.out.mono ?_
  clear HWH
  rintro e w1 ⟨rfl, B1⟩
  have HB1 : Hid (Below w.heap.size w w1) := B1
  obtain ⟨hml, cc, a1, d1, cL, c0, c1, c2, c3, _, _, _⟩ := (HR.out.below B1).dirAt hm
  have q2 : (m : Int) < R.L.length := by omega
  clear B1 HR
  go_wp2_with fail
  go_ret
  exact ⟨rfl, HB1.out⟩
set_option maxHeartbeats 1600000 in
set_option maxRecDepth 100000 in
theorem rrem_root {q m : Nat} {G : Nat → Prop} {R : Rs} {es : List En} (h : Rt w r q G R) (hm : R.at m = .dir es) (h0 : vn = 0)
    (HW : Calls Tryz.prog 59 #[ptr r, .slice va vn vc] w fun e w'' => e = .returned (.tuple #[.int .i64 (m : Nat), .int .i64 0]) ∧ Below w.heap.size w w'') :
    Calls Tryz.prog 33 #[ptr r, .slice va vn vc, .bool true] w fun e w' => e = .returned (.int .i64 13) ∧ Below w.heap.size w w' := by
  subst h0
  have HWH : Hid (Calls Tryz.prog 59 #[ptr r, .slice va 0 vc] w fun e w'' => e = .returned (.tuple #[.int .i64 (m : Nat), .int .i64 0]) ∧ Below w.heap.size w w'') := HW
  have HR : Hid (Rt w r q G R) := h
  clear HW h
  go_enter Tryz.func33, Tryz.ntmps33
  go_wp2_with fail
  refine HWH.out.mono ?_
  clear HWH
  rintro e w1 ⟨rfl, B1⟩
  have HB1 : Hid (Below w.heap.size w w1) := B1
  obtain ⟨hml, cc, a1, d1, cL, c0, c1, c2, c3, _, _, _⟩ := (HR.out.below B1).dirAt hm
  have q2 : (m : Int) < R.L.length := by omega
  clear B1 HR
  go_wp2_with fail
  go_ret
  exact ⟨rfl, HB1.out⟩
set_option maxHeartbeats 1600000 in
set_option maxRecDepth 100000 in
theorem rrem_busy {q m : Nat} {G : Nat → Prop} {R : Rs} {es : List En} (h : Rt w r q G R) (hm : R.at m = .dir es) (h0 : ¬ vn = 0) (hel : es.length ≤ 100000) (hne : 0 < (namesL es).length)
    (HW : Calls Tryz.prog 59 #[ptr r, .slice va vn vc] w fun e w'' => e = .returned (.tuple #[.int .i64 (m : Nat), .int .i64 0]) ∧ Below w.heap.size w w'') :
    Calls Tryz.prog 33 #[ptr r, .slice va vn vc, .bool true] w fun e w' => e = .returned (.int .i64 13) ∧ Below w.heap.size w w' := by
  have HWH : Hid (Calls Tryz.prog 59 #[ptr r, .slice va vn vc] w fun e w'' => e = .returned (.tuple #[.int .i64 (m : Nat), .int .i64 0]) ∧ Below w.heap.size w w'') := HW
  have HR : Hid (Rt w r q G R) := h
  have n1 : ¬ (vn : Int) = 0 := by omega
  have n2 : ((vn : Int) == 0) = false := by simp; omega
  have n3 : decide ((vn : Int) = 0) = false := by simp; omega
  have n4 : (0 : Int) < (namesL es).length := by omega
  clear HW h h0
  go_enter Tryz.func33, Tryz.ntmps33
  go_wp2_with fail
  refine HWH.out.mono ?_
  clear HWH
  rintro e w1 ⟨rfl, B1⟩
  have HB1 : Hid (Below w.heap.size w w1) := B1
  obtain ⟨hml, cc, a1, d1, cL, c0, c1, c2, c3, hE, _, _⟩ := (HR.out.below B1).dirAt hm
  have q2 : (m : Int) < R.L.length := by omega
  have HN : Hid (Calls Tryz.prog 66 #[.slice a1 es.length d1] w1 fun e w' => ∃ a c, e = .returned (.slice a (namesL es).length c) ∧ Below w1.heap.size w1 w') := (rnames_any _ es w1 hE (by omega)).mono (by
    rintro e w' ⟨u, rfl, ho, hb⟩
    obtain ⟨a, c, rfl⟩ := own_sl1 ho
    exact ⟨a, c, rfl, hb⟩)
  clear B1 HR hE
  go_wp2_with fail
  refine HN.out.mono ?_
  clear HN
  rintro e w2 ⟨a, c, rfl, B2⟩
  have HB2 : Hid (Below w.heap.size w w2) := HB1.out.trans (B2.mono HB1.out.size)
  clear B2
  go_wp2_with fail
  go_ret
  exact ⟨rfl, HB2.out⟩
end
end Go.Proofs.YtlnjnimenihhnaaGreatDoor

namespace Go.Proofs.YtlnjnimenihhnaaGreatDoor
open Go.RowKit Go.Maps

set_option maxHeartbeats 1600000 in
set_option maxRecDepth 100000 in
theorem rover_10 {r q a b : Nat} {G : Nat → Prop} {R : Rs} {fa : List Int} {eb : List En} (w : World) (h : Rt w r q G R) (ha : R.at a = .file fa) (hb : R.at b = .dir eb) :
    Calls Tryz.prog 69 #[ptr r, .int .i64 (a : Nat), .int .i64 (b : Nat)] w fun e w' => e = .returned (.int .i64 10) ∧ Below w.heap.size w w' := by
  obtain ⟨al, ac, aa, ad, aL, a0, a1, a2, a3, aE, _, _, _⟩ := h.fileAt ha
  obtain ⟨bl, bc, ba, bd, bL, b0, b1, b2, b3, bE, _, _⟩ := h.dirAt hb
  have qa : (a : Int) < R.L.length := by omega
  have qb : (b : Int) < R.L.length := by omega
  clear h aE bE aL a0 a2 a3 b0 b2 b3
  go_enter Tryz.func69, Tryz.ntmps69
  go_wp2_with fail
  go_ret
  exact ⟨rfl, Below.refl _ _⟩
set_option maxHeartbeats 1600000 in
set_option maxRecDepth 100000 in
theorem rover_11 {r q a b : Nat} {G : Nat → Prop} {R : Rs} {ea : List En} {fb : List Int} (w : World) (h : Rt w r q G R) (ha : R.at a = .dir ea) (hb : R.at b = .file fb) :
    Calls Tryz.prog 69 #[ptr r, .int .i64 (a : Nat), .int .i64 (b : Nat)] w fun e w' => e = .returned (.int .i64 11) ∧ Below w.heap.size w w' := by
  obtain ⟨al, ac, aa, ad, aL, a0, a1, a2, a3, aE, _, _⟩ := h.dirAt ha
  obtain ⟨bl, bc, ba, bd, bL, b0, b1, b2, b3, bE, _, _, _⟩ := h.fileAt hb
  have qa : (a : Int) < R.L.length := by omega
  have qb : (b : Int) < R.L.length := by omega
  clear h aE bE aL a0 a2 a3 b0 b2 b3
  go_enter Tryz.func69, Tryz.ntmps69
  go_wp2_with fail
  go_ret
  exact ⟨rfl, Below.refl _ _⟩
set_option maxHeartbeats 1600000 in
set_option maxRecDepth 100000 in
theorem rover_ff {r q a b : Nat} {G : Nat → Prop} {R : Rs} {fa : List Int} {fb : List Int} (w : World) (h : Rt w r q G R) (ha : R.at a = .file fa) (hb : R.at b = .file fb) :
    Calls Tryz.prog 69 #[ptr r, .int .i64 (a : Nat), .int .i64 (b : Nat)] w fun e w' => e = .returned (.int .i64 0) ∧ Below w.heap.size w w' := by
  obtain ⟨al, ac, aa, ad, aL, a0, a1, a2, a3, aE, _, _, _⟩ := h.fileAt ha
  obtain ⟨bl, bc, ba, bd, bL, b0, b1, b2, b3, bE, _, _, _⟩ := h.fileAt hb
  have qa : (a : Int) < R.L.length := by omega
  have qb : (b : Int) < R.L.length := by omega
  clear h aE bE aL a0 a2 a3 b0 b2 b3
  go_enter Tryz.func69, Tryz.ntmps69
  go_wp2_with fail
  go_ret
  exact ⟨rfl, Below.refl _ _⟩
set_option maxHeartbeats 1600000 in
set_option maxRecDepth 100000 in
theorem rover_13 {r q a b : Nat} {G : Nat → Prop} {R : Rs} {ea : List En} {eb : List En} (w : World) (h : Rt w r q G R) (ha : R.at a = .dir ea) (hb : R.at b = .dir eb) (hel : eb.length ≤ 100000) (hn : 0 < (namesL eb).length) :
    Calls Tryz.prog 69 #[ptr r, .int .i64 (a : Nat), .int .i64 (b : Nat)] w fun e w' => e = .returned (.int .i64 13) ∧ Below w.heap.size w w' := by
  obtain ⟨al, ac, aa, ad, aL, a0, a1, a2, a3, aE, _, _⟩ := h.dirAt ha
  obtain ⟨bl, bc, ba, bd, bL, b0, b1, b2, b3, bE, _, _⟩ := h.dirAt hb
  have qa : (a : Int) < R.L.length := by omega
  have qb : (b : Int) < R.L.length := by omega
  have HN : Hid (Calls Tryz.prog 66 #[.slice ba eb.length bd] w fun e w' => ∃ a c, e = .returned (.slice a (namesL eb).length c) ∧ Below w.heap.size w w') := (rnames_any _ eb w bE (by omega)).mono (by
    rintro e w' ⟨u, rfl, ho, hb⟩
    obtain ⟨a, c, rfl⟩ := own_sl1 ho
    exact ⟨a, c, rfl, hb⟩)
  have n4 : (0 : Int) < (namesL eb).length := by omega
  clear h aE bE aL a0 a2 a3 b0 b2
  go_enter Tryz.func69, Tryz.ntmps69
  go_wp2_with fail
  refine HN.out.mono ?_
  clear HN
  rintro e w2 ⟨a', c', rfl, B2⟩
  have HB2 : Hid (Below w.heap.size w w2) := B2
  clear B2
  go_wp2_with fail
  go_ret
  exact ⟨rfl, HB2.out⟩
set_option maxHeartbeats 1600000 in
set_option maxRecDepth 100000 in
theorem rover_dd {r q a b : Nat} {G : Nat → Prop} {R : Rs} {ea : List En} {eb : List En} (w : World) (h : Rt w r q G R) (ha : R.at a = .dir ea) (hb : R.at b = .dir eb) (hel : eb.length ≤ 100000) (hn : (namesL eb).length = 0) :
    Calls Tryz.prog 69 #[ptr r, .int .i64 (a : Nat), .int .i64 (b : Nat)] w fun e w' => e = .returned (.int .i64 0) ∧ Below w.heap.size w w' := by
  obtain ⟨al, ac, aa, ad, aL, a0, a1, a2, a3, aE, _, _⟩ := h.dirAt ha
  obtain ⟨bl, bc, ba, bd, bL, b0, b1, b2, b3, bE, _, _⟩ := h.dirAt hb
  have qa : (a : Int) < R.L.length := by omega
  have qb : (b : Int) < R.L.length := by omega
  have HN : Hid (Calls Tryz.prog 66 #[.slice ba eb.length bd] w fun e w' => ∃ a c, e = .returned (.slice a (namesL eb).length c) ∧ Below w.heap.size w w') := (rnames_any _ eb w bE (by omega)).mono (by
    rintro e w' ⟨u, rfl, ho, hb⟩
    obtain ⟨a, c, rfl⟩ := own_sl1 ho
    exact ⟨a, c, rfl, hb⟩)
  rw [hn] at HN
  clear h aE bE aL a0 a2 a3 b0 b2
  go_enter Tryz.func69, Tryz.ntmps69
  go_wp2_with fail
  refine HN.out.mono ?_
  clear HN
  rintro e w2 ⟨a', c', rfl, B2⟩
  have HB2 : Hid (Below w.heap.size w w2) := B2
  clear B2
  go_wp2_with fail
  go_ret
  exact ⟨rfl, HB2.out⟩
end Go.Proofs.YtlnjnimenihhnaaGreatDoor

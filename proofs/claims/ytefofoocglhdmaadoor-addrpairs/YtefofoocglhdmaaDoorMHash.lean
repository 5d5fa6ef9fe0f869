/-
  Hash.
-/
import Derived.Test.YtefofoocglhdmaaDoorMRef9
import Derived.Test.YtefofoocglhdmaaDoorKRefSum
namespace Go.Proofs.YtefofoocglhdmaaDoor
open Go.RowKit

theorem iB_isB (l : List UInt8) : IsB (iB l) := fun x hx => by
  unfold iB at hx
  obtain ⟨b, _, rfl⟩ := List.mem_map.1 hx
  have := b.toNat_lt
  omega
/-- What is summed. -/
def hsh (a d : List UInt8) : List UInt8 := a ++ 0 :: low d
theorem Tab.more {w w' : World} (h : Tab w) (hb : Below w.heap.size w w') : Tab w' := fun j hj => (Chg.ofBelowT hb).cell (h j hj) (fun h => h)

set_option maxHeartbeats 6400000 in
theorem hash_any (a d : ByteArray) (w : World) (ha : a.size ≤ 1000000) (hd : d.size ≤ 1000000) (hT : Tab w) :
    Calls Tryd.prog 27 #[adV a d] w fun e w' => e = .returned (.int .u32 ((sumV (iB (hsh a.data.toList d.data.toList)) : Nat) : Int)) ∧ Below w.heap.size w w' := by
  have hA0 := Ad.new w a d
  have hB0 := alloc_below w (.cells #[.string a, .string d] 24)
  obtain ⟨D, hD⟩ : ∃ D, w.heap.size = D := ⟨_, rfl⟩
  obtain ⟨W, hW⟩ : ∃ W, w.alloc (.cells #[.string a, .string d] 24) = W := ⟨_, rfl⟩
  rw [hW] at hA0 hB0
  rw [hD] at hA0
  obtain ⟨T, hTd⟩ : ∃ T, bl (low d.data.toList) = T := ⟨_, rfl⟩
  have hTs : T.size ≤ 1000000 := by rw [← hTd, bl_size, low_len, ← sz_list]; exact hd
  obtain ⟨S, hS⟩ : ∃ S, a ++ ⟨#[0]⟩ ++ T = S := ⟨_, rfl⟩
  have hSl : S.data.toList = hsh a.data.toList d.data.toList := by rw [← hS, ← hTd]; unfold hsh; simp
  have hSs : S.size ≤ 1099511627776 := by rw [← hS, ByteArray.size_append, ByteArray.size_append]; show a.size + 1 + T.size ≤ _; omega
  have b1 : ¬ 9223372036854775807 < a.size + 1 := by omega
  have b2 : ¬ 9223372036854775807 < a.size + 1 + T.size := by omega
  have HL : Hid (∀ w, Calls Tryd.prog 18 #[.string d] w fun e w' => e = .returned (.string T) ∧ Below w.heap.size w w') := fun w => by
    have := lower_any d w (by omega)
    rw [hTd] at this
    exact this
  have HTW : Hid (Tab W) := hT.more hB0
  have HA0 := toHid hA0
  have HB0 := toHid hB0
  have HCv : Hid (∀ w, ∃ c w', (convert 9 43 (.string S)).run Tryd.prog w = .ok (.slice (some ⟨w.heap.size, 0, none⟩) S.size c) w' ∧ Below w.heap.size w w' ∧ (Below W.heap.size W w → Calls Tryd.prog 44 #[.slice (some ⟨w.heap.size, 0, none⟩) S.size c] w' fun e w' => e = .returned (.int .u32 ((sumV (iB (hsh a.data.toList d.data.toList)) : Nat) : Int)) ∧ Below W.heap.size W w')) := fun w1 => by
    obtain ⟨c, w2, r1, hB, hR, hc1, hc2⟩ := conv_row w1 S hSs
    refine ⟨c, w2, r1, hB, fun hBw => ?_⟩
    have hbs := hR.bs c (by rw [← sz_list]; exact hc1) hc2
    rw [← sz_list, hSl] at hbs
    have hB2 := hBw.trans (hB.mono hBw.size)
    have hs := sum_any _ _ w2 hbs (iB_isB _) (HTW.out.more hB2) (by rw [iB_len, ← hSl, ← sz_list]; exact hSs)
    exact hs.mono fun e w' ⟨h1, h2⟩ => ⟨h1, by rw [h2]; exact hB2⟩
  have c0 := hA0.c0
  have c1 := hA0.c1
  clear hA0 hB0 hT ha hd hTd hTs hSl hSs
  have HW := toHid hW
  have HD := toHid hD
  have HS := toHid hS
  go_enter Tryd.func27, Tryd.ntmps27
  go_upto_region 1 with fail
  try rw [HW.out]
  try rw [HD.out]
  clear hW hD
  have HBD : Hid (Below W.heap.size W W.drew) := (Chg.drew (fun _ => False) W).below (Nat.le_refl _) fun _ h => h.elim
  go_region_with (first
    | (go_at_call 18; refine (HL.out _).mono ?_; rintro e w3 ⟨rfl, hB3⟩; have HB3 := toHid (HBD.out.trans (hB3.mono HBD.out.size)); have y0 := (HA0.out.more HB3.out).c0; have y1 := (HA0.out.more HB3.out).c1; obtain ⟨c4, w4, r4, hB4, K4⟩ := HCv.out w3; have K5 := toHid (K4 HB3.out); clear K4 hB3)
    | (go_at_call 44; with_reducible refine K5.out.mono ?_; rintro e w5 ⟨rfl, hB5⟩))
  all_goals
    go_wp2_with fail
    go_ret
    exact ⟨rfl, HB0.out.trans (hB5.mono HB0.out.size)⟩
end Go.Proofs.YtefofoocglhdmaaDoor

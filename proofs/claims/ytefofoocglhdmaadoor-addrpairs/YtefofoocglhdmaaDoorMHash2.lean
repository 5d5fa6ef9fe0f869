/-
  Hash of the document.
-/
import Derived.Test.YtefofoocglhdmaaDoorMHash
namespace Go.Proofs.YtefofoocglhdmaaDoor
open Go.RowKit

set_option maxHeartbeats 25600000 in
set_option maxRecDepth 100000 in
theorem rhash_any (a d : ByteArray) (w : World) (ha : a.size ≤ 1000000) (hd : d.size ≤ 1000000) :
    Calls Tryd.prog 28 #[adV a d] w fun e w' => e = .returned (.int .u32 ((sumV (iB (hsh a.data.toList d.data.toList)) : Nat) : Int)) ∧ Below w.heap.size w w' := by
  have hA0 := Ad.new w a d
  have hB0 := alloc_below w (.cells #[.string a, .string d] 24)
  obtain ⟨D, hD⟩ : ∃ D, w.heap.size = D := ⟨_, rfl⟩
  obtain ⟨W, hW⟩ : ∃ W, w.alloc (.cells #[.string a, .string d] 24) = W := ⟨_, rfl⟩
  rw [hW] at hA0 hB0
  rw [hD] at hA0
  obtain ⟨T, hTd⟩ : ∃ T, bl (low d.data.toList) = T := ⟨_, rfl⟩
  have hTs : T.size ≤ 1000000 := by rw [← hTd, bl_size, low_len, ← sz_list]; exact hd
  obtain ⟨S, hS⟩ : ∃ S, a ++ ⟨#[0]⟩ ++ T = S := ⟨_, rfl⟩
  have hSl : S.data.toList = hsh a.data.toList d.data.toList := by rw [← hS, ← hTd]; unfold hsh; simp
  have hSs : S.size ≤ 1099511627776 := by rw [← hS, ByteArray.size_append, ByteArray.size_append]; show a.size + 1 + T.size ≤ _; omega
  have b1 : ¬ 9223372036854775807 < a.size + 1 := by omega
  have b2 : ¬ 9223372036854775807 < a.size + 1 + T.size := by omega
  have HL : Hid (∀ w, Calls Tryd.prog 19 #[.string d] w fun e w' => e = .returned (.string T) ∧ Below w.heap.size w w') := fun w => by
    have := rlower_any d w (by omega)
    rw [hTd] at this
    exact this
  have HA0 := toHid hA0
  have HB0 := toHid hB0
  have HCv : Hid (∀ w, ∃ c w', (convert 9 43 (.string S)).run Tryd.prog w = .ok (.slice (some ⟨w.heap.size, 0, none⟩) S.size c) w' ∧ Below w.heap.size w w' ∧ (Below W.heap.size W w → Calls Tryd.prog 45 #[.slice (some ⟨w.heap.size, 0, none⟩) S.size c] w' fun e w' => e = .returned (.int .u32 ((sumV (iB (hsh a.data.toList d.data.toList)) : Nat) : Int)) ∧ Below W.heap.size W w')) := fun w1 => by
    obtain ⟨c, w2, r1, hB, hR, hc1, hc2⟩ := conv_row w1 S hSs
    refine ⟨c, w2, r1, hB, fun hBw => ?_⟩
    have hbs := hR.bs c (by rw [← sz_list]; exact hc1) hc2
    rw [← sz_list, hSl] at hbs
    have hB2 := hBw.trans (hB.mono hBw.size)
    have hs := refSum_any _ _ w2 hbs (iB_isB _) (by rw [iB_len, ← hSl, ← sz_list]; exact hSs)
    exact hs.mono fun e w' ⟨h1, h2⟩ => ⟨h1, by rw [h2]; exact hB2⟩
  have c0 := hA0.c0
  have c1 := hA0.c1
  clear hA0 hB0 ha hd hTd hTs hSl hSs
  have HW := toHid hW
  have HD := toHid hD
  have HS := toHid hS
  go_enter Tryd.func28, Tryd.ntmps28
  go_upto_region 1 with fail
  try rw [HW.out]
  try rw [HD.out]
  clear hW hD
  have e0 : strC [0] = ⟨#[0]⟩ := strC_iB [0]
  have HBD : Hid (Below W.heap.size W W.drew) := (Chg.drew (fun _ => False) W).below (Nat.le_refl _) fun _ h => h.elim
  have HB1 : Hid (Below W.heap.size W (W.alloc (.cells #[.int .u8 0] 5))) := alloc_below W _
  have HB1d : Hid (Below W.heap.size W (W.alloc (.cells #[.int .u8 0] 5)).drew) := HB1.out.trans ((Chg.drew (fun _ => False) (W.alloc (.cells #[.int .u8 0] 5))).below HB1.out.size fun _ h => h.elim)
  have d0 := (HA0.out.more HB1.out).c0
  have d1 := (HA0.out.more HB1.out).c1
  have U1 : Bs (W.alloc (.cells #[.int .u8 0] 5)).drew (.slice (some ⟨W.heap.size, 0, none⟩) 1 1) [0] := (Bs.one W 0).kept (Chg.drew (fun _ => False) _) (fun _ _ _ _ _ h => h)
  have f1 := run_strC U1
  rw [e0] at f1
  have HU1 := toHid U1
  have HF0 : Hid (∀ w : World, (convert 43 9 (.slice (some ⟨w.heap.size, 0, none⟩) 1 1)).run Tryd.prog (w.alloc (.cells #[.int .u8 0] 5)) = .ok (.string ⟨#[0]⟩) (w.alloc (.cells #[.int .u8 0] 5))) := fun w => by
    have := run_strC (Bs.one w 0)
    rw [e0] at this
    exact this
  have HE0 := toHid e0
  clear U1 e0
  go_region_with (first
    | (go_at_call 19; with_reducible refine (HL.out W.drew).mono ?_; rintro e w3 ⟨rfl, hB3⟩; have HB3 := toHid (HBD.out.trans (hB3.mono HBD.out.size)); have HB4 := toHid (HB3.out.alloc HB3.out.size (.cells #[.int .u8 0] 5)); have y0 := (HA0.out.more HB3.out).c0; have y1 := (HA0.out.more HB3.out).c1; have x0 := (HA0.out.more HB4.out).c0; have x1 := (HA0.out.more HB4.out).c1; have f3 := HF0.out w3; obtain ⟨c4, w4, r4, hB4, K4⟩ := HCv.out (w3.alloc (.cells #[.int .u8 0] 5)); rw [show (w3.alloc (.cells #[.int .u8 0] 5)).heap.size = w3.heap.size + 1 by simp] at r4 K4; have K5 := toHid (K4 HB4.out); clear K4 hB3)
    | (go_at_call 19; with_reducible refine (HL.out (W.alloc (.cells #[.int .u8 0] 5)).drew).mono ?_; rintro e w3 ⟨rfl, hB3⟩; have HB3 := toHid (HB1d.out.trans (hB3.mono HB1d.out.size)); have y0 := (HA0.out.more HB3.out).c0; have y1 := (HA0.out.more HB3.out).c1; have f3 := run_strC (HU1.out.kept (Chg.ofBelowT hB3) (fun _ _ _ _ _ h => h)); rw [HE0.out] at f3; obtain ⟨c4, w4, r4, hB4, K4⟩ := HCv.out w3; have K5 := toHid (K4 HB3.out); clear K4 hB3)
    | (go_at_call 45; with_reducible refine K5.out.mono ?_; rintro e w5 ⟨rfl, hB5⟩))
  all_goals
    go_wp2_with fail
    go_ret
    exact ⟨rfl, HB0.out.trans (hB5.mono HB0.out.size)⟩
end Go.Proofs.YtefofoocglhdmaaDoor

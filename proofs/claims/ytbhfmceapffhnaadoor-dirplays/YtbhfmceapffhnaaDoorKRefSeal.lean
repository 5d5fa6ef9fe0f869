/-
  Contracts of the reference's Seal and Open.
-/
import Derived.Test.YtbhfmceapffhnaaDoorKSeal
namespace Go.Proofs.YtbhfmceapffhnaaDoor
open Go.RowKit
attribute [local go_sem ↓] Go.wp_at_zero Go.wp_at_succ






set_option maxHeartbeats 1600000 in
set_option maxRecDepth 100000 in
theorem refSeal_any (N : Nat) (v : Value) (bs : List Int) (w : World) (hb : Bs w v bs) (hB : IsB bs) (hN : N ≤ w.heap.size) (hlen : bs.length ≤ 1000000) :
    Calls Tryd.prog 49 #[v] w fun e w' => ∃ u, e = .returned u ∧ FreshN N w w' u (bs ++ leTo (sumV bs) 4) := by
  obtain ⟨i0, hi, hz0, hz1, hz2⟩ := info_parts cinfo5
  obtain ⟨ab, cb, rfl, hcb⟩ := hb.formC
  have hsm := sumV_lt bs
  have hl0 : ([] : List Int).length + bs.length ≤ 1099511627776 := by simp; omega
  have hb1 : Bs (w.alloc (.cells #[] 5)) (.slice ab bs.length cb) bs := hb.kept (Chg.alloc (fun _ => False) w _) (fun _ _ _ _ _ h => h)
  have ho1 := lit_own w w.heap.size (Nat.le_refl _)
  have hz1' : w.heap.size ≤ (w.alloc (.cells #[] 5)).heap.size := by simp
  go_enter Tryd.func49, Tryd.ntmps49
  go_wp2_with fail
  refine (refSum_any _ bs _ hb hB (by omega)).mono ?_
  rintro e w1 ⟨rfl, rfl⟩
  generalize hq : sumV bs = sm at *
  have HQ : Hid (sumV bs = sm) := hq
  clear hq
  have hl4 : bs.length + ([(sm : Int) % 256, (sm : Int) / 256 % 256, (sm : Int) / 65536 % 256, (sm : Int) / 16777216] : List Int).length ≤ 1099511627776 := by simp; omega
  go_wp2_with (first | (at_builtin; refine wpList_app rfl (.tmp 6) (.tmp 7) 52 rfl w1.heap.size i0 Tryd.underlying52 hi hz0 hz1 hz2 (.slice (some ⟨w1.heap.size, 0, none⟩) 0 0) _ 0 [] bs rfl ho1 rfl hb1 hl0 hz1' ?_; intro v2 w2 hown hgrow hat; simp only [Nat.zero_add, List.nil_append] at hown; have hC := lit_grown hgrow; have hbl := Bs.litC w2 [(sm : Int) % 256, (sm : Int) / 256 % 256, (sm : Int) / 65536 % 256, (sm : Int) / 16777216] (0, 0) (by simp); have hz2' : w1.heap.size ≤ (w2.alloc (.cells (bcells [(sm : Int) % 256, (sm : Int) / 256 % 256, (sm : Int) / 65536 % 256, (sm : Int) / 16777216]).toArray 5 (0, 0))).heap.size := Nat.le_trans hC.size (by simp)) | (at_builtin; go_must (refine wpList_app rfl (.tmp 8) (.tmp 20) 52 rfl w1.heap.size i0 Tryd.underlying52 hi hz0 hz1 hz2 v2 (.slice (some ⟨w2.heap.size, 0, none⟩) 4 4) bs.length bs [(sm : Int) % 256, (sm : Int) / 256 % 256, (sm : Int) / 65536 % 256, (sm : Int) / 16777216] rfl (hown.alloc _) rfl hbl hl4 hz2' ?_; intro v3 w3 hown3 hgrow3 hat3)))
  have hC3 : Chg (fun _ => False) w1 w3 := by
    refine ⟨hgrow3.os.trans hC.os, hgrow3.tape.trans hC.tape, hgrow3.output.trans hC.output, Nat.le_trans hC.size (Nat.le_trans (by simp) hgrow3.size), fun k hk _ => ?_⟩
    have hk2 : k < w2.heap.size := Nat.lt_of_lt_of_le hk hC.size
    rw [hgrow3.block k (by simp; omega) (by intro e; have := (hown.lt k e.symm).1; omega), Below.heap_alloc w2 _ k hk2]
    exact hC.block k hk (fun h => h)
  have F : FreshN N w1 w3 v3 (bs ++ leTo sm 4) := by
    have e4 : (sm : Int) / 16777216 % 256 = (sm : Int) / 16777216 := by omega
    rw [leTo_four, e4]
    refine ⟨own_monoC ?_ hN, hC3, fun k hk => (hown3.lt k hk).1⟩
    have e : (bs ++ [(sm : Int) % 256, (sm : Int) / 256 % 256, (sm : Int) / 65536 % 256, (sm : Int) / 16777216]).length = bs.length + 4 := by simp
    rw [e]
    exact hown3
  clear hown hgrow hat hbl hown3 hgrow3 hat3 hC hC3 hz2' hb1 ho1
  go_wp2
  go_ret
  rw [HQ.out]
  exact ⟨v3, rfl, F⟩

/-- What the reference's Open compares: the sealed body against the bytes. -/
theorem open_eq (bs : List Int) (hB : IsB bs) (n : Nat) (hn : bs.length = n + 4) : (valB (bs.drop n) = (sumV (bs.take n) : Int)) ↔ bs.take n ++ leTo (sumV (bs.take n)) 4 = bs := by
  have hsm := sumV_lt (bs.take n)
  have hv : valB (leTo (sumV (bs.take n)) 4) = (sumV (bs.take n) : Int) := by
    rw [valB_leTo]
    have : (256 : Int) ^ 4 = 4294967296 := by decide
    rw [this]; omega
  constructor
  · intro h
    have e := valB_inj (bs.drop n) (leTo (sumV (bs.take n)) 4) (by simp [leTo_len]; omega) (hB.drop n) (isB_leTo _ _) (by rw [h, hv])
    rw [← e, List.take_append_drop]
  · intro h
    have h2 : bs.drop n = leTo (sumV (bs.take n)) 4 := by
      have hl : (bs.take n).length = n := by simp; omega
      have h3 := congrArg (List.drop n) h
      rw [List.drop_append_of_le_length (by omega), List.drop_of_length_le (by omega), List.nil_append] at h3
      exact h3.symm
    rw [h2, hv]

set_option maxHeartbeats 1600000 in
set_option maxRecDepth 100000 in
theorem refOpen_any (N : Nat) (v : Value) (bs : List Int) (w : World) (hb : Bs w v bs) (hB : IsB bs) (hN : N ≤ w.heap.size) (hlen : bs.length ≤ 1000000) :
    Calls Tryd.prog 54 #[v] w fun e w' => ∃ u, e = .returned (.tuple #[u, .int .i64 (openE bs)]) ∧ FreshN N w w' u (openV bs) := by
  obtain ⟨i0, hi, hz0, hz1, hz2⟩ := info_parts cinfo5
  obtain ⟨ab, cb, rfl, hcb⟩ := hb.formC
  by_cases h4 : bs.length < 4
  · have e1 : openE bs = 2 := by simp [openE, h4]
    have e2 : openV bs = [] := by simp [openV, e1]
    rw [e1, e2]
    have k1 : (bs.length : Int) - 4 < 0 := by omega
    clear e1 e2 hb
    go_enter Tryd.func54, Tryd.ntmps54
    go_wp2
    go_ret2
    exact ⟨_, rfl, World.ownsRow_nil _ _ _ _, Chg.refl _ _, fun k hk => by cases hk⟩
  · obtain ⟨n, hn⟩ : ∃ n, bs.length = n + 4 := ⟨bs.length - 4, by omega⟩
    have en : bs.length - 4 = n := by omega
    have hbody : Bs w (.slice ab n cb) (bs.take n) := Bs.low hb (by omega)
    have hoe := open_eq bs hB n hn
    have e0 : openE bs = if valB (bs.drop n) ≠ (sumV (bs.take n) : Int) then 4 else 0 := by simp [openE, h4, en]
    have eV0 : openV bs = if openE bs = 0 then bs.take n else [] := by rw [openV, en]
    have hsI : IsB (bs.take n ++ leTo (sumV (bs.take n)) 4) := isB_app (hB.take n) (isB_leTo _ _)
    have hlt2 : ([] : List Int).length + (bs.take n).length ≤ 1099511627776 := by simp; omega
    have hlt3 : (bs.take n).length ≤ 1000000 := by simp; omega
    have g0 : (bs.length : Int) - 4 = (n : Int) := by omega
    have g1 : (n : Int) ≤ (cb : Int) := by omega
    have hbd : Bs w.drew (.slice ab n cb) (bs.take n) := hbody
    have sB : (convert 52 9 (.slice ab bs.length cb)).run Tryd.prog w.drew = .ok (.string (strC bs)) w.drew := run_strC (w := w.drew) hb
    have hNd : N ≤ w.drew.heap.size := hN
    have hn1 : bs.length ≤ n + 4 := by omega
    have hn2 : n + 4 ≤ bs.length := by omega
    clear hn
    by_cases hxy : valB (bs.drop n) = (sumV (bs.take n) : Int)
    · have e1 : openE bs = 0 := by rw [e0]; simp [hxy]
      have e2 : openV bs = bs.take n := by rw [eV0, if_pos e1]
      have hS := hoe.1 hxy
      have HE : Hid (openE bs = 0 ∧ openV bs = bs.take n) := ⟨e1, e2⟩
      have HS : Hid (bs.take n ++ leTo (sumV (bs.take n)) 4 = bs) := hS
      clear e1 e2 e0 eV0 hoe hxy hS en hsI
      go_enter Tryd.func54, Tryd.ntmps54
      go_wp2_with fail
      go_region_with ((go_at_call 49; refine (refSeal_any N _ (bs.take n) _ hbd (hB.take n) hNd hlt3).mono ?_; rintro e w2 ⟨u2, rfl, F2⟩; rw [HS.out] at F2; have s2 := run_strC (Bs.ofOwns F2.1); have C2 : Chg (fun _ => False) w w2 := (Chg.drew _ w).trans F2.2.1 (fun _ _ h => h); have s3 := run_strC (hb.kept C2 (fun _ _ _ _ _ h => h))))
      all_goals
        have hb2 : Bs (w2.alloc (.cells #[] 5)) (.slice ab n cb) (bs.take n) := (hbody.kept C2 (fun _ _ _ _ _ h => h)).kept (Chg.alloc (fun _ => False) w2 _) (fun _ _ _ _ _ h => h)
        have ho2 := lit_own w2 w2.heap.size (Nat.le_refl _)
        have hz2' : w2.heap.size ≤ (w2.alloc (.cells #[] 5)).heap.size := by simp
        go_wp2_with (at_builtin; go_must (refine wpList_app rfl (.tmp 18) (.tmp 21) 52 rfl w2.heap.size i0 Tryd.underlying52 hi hz0 hz1 hz2 (.slice (some ⟨w2.heap.size, 0, none⟩) 0 0) _ 0 [] (bs.take n) rfl ho2 rfl hb2 hlt2 hz2' ?_; intro v3 w3 hown hgrow hat; simp only [Nat.zero_add, List.nil_append] at hown))
        have C3 : Chg (fun _ => False) w w3 := C2.trans (lit_grown hgrow) (fun _ _ h => h)
        have F : FreshN N w w3 v3 (bs.take n) := ⟨own_monoC hown (by have := C2.size; omega), C3, fun k hk => Nat.le_trans C2.size (hown.lt k hk).1⟩
        clear hown hgrow hat hb2 ho2 s2 s3
        try go_wp2
        go_ret2
        rw [HE.out.1, HE.out.2]
        exact ⟨v3, rfl, F⟩
    · have e1 : openE bs = 4 := by rw [e0]; simp [hxy]
      have e2 : openV bs = [] := by rw [eV0, e1]; rfl
      have hS : bs.take n ++ leTo (sumV (bs.take n)) 4 ≠ bs := fun h => hxy (hoe.2 h)
      have k9 := strC_ne _ _ hsI hB hS
      have HE : Hid (openE bs = 4 ∧ openV bs = []) := ⟨e1, e2⟩
      clear e1 e2 e0 eV0 hoe hxy en hsI hS
      go_enter Tryd.func54, Tryd.ntmps54
      go_wp2_with fail
      go_region_with ((go_at_call 49; refine (refSeal_any N _ (bs.take n) _ hbd (hB.take n) hNd hlt3).mono ?_; rintro e w2 ⟨u2, rfl, F2⟩; have s2 := run_strC (Bs.ofOwns F2.1); have C2 : Chg (fun _ => False) w w2 := (Chg.drew _ w).trans F2.2.1 (fun _ _ h => h); have s3 := run_strC (hb.kept C2 (fun _ _ _ _ _ h => h))))
      all_goals
        go_wp2
        go_ret2
        rw [HE.out.1, HE.out.2]
        exact ⟨_, rfl, World.ownsRow_nil _ _ _ _, C2, fun k hk => by cases hk⟩
end Go.Proofs.YtbhfmceapffhnaaDoor

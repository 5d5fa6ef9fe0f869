/-
  CodecSeals answers true for every argument, in every world that holds codec's table; nothing that was there has changed.
-/
import Derived.Test.YtdninfmmikaimaaDoorSealFacts
import Derived.Deep.DeepCutAuto
import Derived.Deep.RegionHeld
namespace Go.Proofs.YtdninfmmikaimaaDoor
open Go.RowKit
attribute [local go_sem ↓] Go.wp_at_zero Go.wp_at_succ

set_option maxHeartbeats 8000000 in
set_option maxRecDepth 100000 in
theorem law_seals_in (b raw : Value) (bs rs : List Int) (bit : Int) (w : World) (hT : Tab w) (hb : Bs w b bs) (hB : IsB bs) (hr : Bs w raw rs) (hR : IsB rs) (h1 : bs.length ≤ 4096) (h2 : rs.length ≤ 4096) :
    Calls Tryd.prog 6 #[b, raw, .int .i64 bit] w fun e w' => e = .returned (.bool true) ∧ Below w.heap.size w w' := by
  have hN0 : 0 < w.heap.size := by have := World.block_lt_of_cell? w _ (hT 0 (by omega)); simpa using this
  obtain ⟨ab, cb, rfl, hcb⟩ := hb.form
  obtain ⟨ar, cr, rfl, hcr⟩ := hr.form
  have k1 : decide ((4096 : Int) < (bs.length : Int)) = false := by simp; omega
  have k2 : decide ((4096 : Int) < (rs.length : Int)) = false := by simp; omega
  obtain ⟨eo, vo⟩ := open_sealed bs
  have hSB : IsB (bs ++ leTo (sumV bs) 4) := isB_app hB (isB_leTo _ _)
  have hSl : (bs ++ leTo (sumV bs) 4).length = bs.length + 4 := by simp [leTo_len]
  go_enter Tryd.func6, Tryd.ntmps6
  go_wp2_with fail
  refine (known_any w hT).mono ?_
  rintro e w1 ⟨rfl, B1⟩
  go_wp2_with fail
  refine (seal_any w.heap.size _ bs _ (hb.under B1) hB (hT.below B1 hN0) B1.size (by omega)).mono ?_
  rintro e w2 ⟨us, rfl, F2⟩
  have B2 := B1.trans (F2.2.1.below B1.size (fun _ h => h.elim))
  have S2 := Bs.ofOwns F2.1
  go_wp2_with fail
  refine (open_any w.heap.size us _ _ S2 hSB (hT.below B2 hN0) B2.size (by omega)).mono ?_
  rintro e w3 ⟨ux, rfl, F3⟩
  rw [vo] at F3
  rw [eo]
  have B3 := B2.trans (F3.2.1.below B2.size (fun _ h => h.elim))
  have S3 := S2.kept F3.2.1 (fun _ _ _ _ _ h => h)
  have X3 := Bs.ofOwns F3.1
  go_wp2_with fail
  refine (open_any w.heap.size _ rs _ (hr.under B3) hR (hT.below B3 hN0) B3.size (by omega)).mono ?_
  rintro e w4 ⟨uy, rfl, F4⟩
  have B4 := B3.trans (F4.2.1.below B3.size (fun _ h => h.elim))
  have S4 := S3.kept F4.2.1 (fun _ _ _ _ _ h => h)
  have X4 := X3.kept F4.2.1 (fun _ _ _ _ _ h => h)
  have Y4 := Bs.ofOwns F4.1
  go_wp2_with fail
  refine (refOpen_any w.heap.size _ rs _ (hr.under B4) hR B4.size (by omega)).mono ?_
  rintro e w5 ⟨uz, rfl, F5⟩
  have B5 := B4.trans (F5.2.1.below B4.size (fun _ h => h.elim))
  have S5 := S4.kept F5.2.1 (fun _ _ _ _ _ h => h)
  have X5 := X4.kept F5.2.1 (fun _ _ _ _ _ h => h)
  have Y5 := Y4.kept F5.2.1 (fun _ _ _ _ _ h => h)
  have Z5 := Bs.ofOwns F5.1
  have b5 := hb.under B5
  have T5 := hT.below B5 hN0
  clear F2 F3 F4 F5 S2 S3 S4 X3 X4 Y4 B1 B2 B3 B4 hr hR
  have s1 : (convert 28 9 us).run Tryd.prog w5.drew = .ok (.string (strOf (bs ++ leTo (sumV bs) 4))) w5.drew := run_str (w := w5.drew) S5
  have s2 : (convert 28 9 ux).run Tryd.prog w5.drew = .ok (.string (strOf bs)) w5.drew := run_str (w := w5.drew) X5
  have s3 : (convert 28 9 uy).run Tryd.prog w5.drew = .ok (.string (strOf (openV rs))) w5.drew := run_str (w := w5.drew) Y5
  have s4 : (convert 28 9 uz).run Tryd.prog w5.drew = .ok (.string (strOf (openV rs))) w5.drew := run_str (w := w5.drew) Z5
  have s5 : (convert 28 9 (.slice ab bs.length cb)).run Tryd.prog w5.drew = .ok (.string (strOf bs)) w5.drew := run_str (w := w5.drew) b5
  have b5d : Bs w5.drew (.slice ab bs.length cb) bs := b5
  have N5 : w.heap.size ≤ w5.drew.heap.size := B5.size
  have HSL : Hid ((bs ++ leTo (sumV bs) 4).length = bs.length + 4) := hSl
  have hlb : bs.length ≤ 1000000 := by omega
  have hlb2 : bs.length ≤ 1099511627776 := by omega
  clear eo vo hSl
  generalize openE rs = er at *
  have HT0 : Hid (Tab w) := hT
  obtain ⟨t1, q1⟩ : ∃ t, strOf (bs ++ leTo (sumV bs) 4) = t := ⟨_, rfl⟩
  obtain ⟨t2, q2⟩ : ∃ t, strOf bs = t := ⟨_, rfl⟩
  obtain ⟨t3, q3⟩ : ∃ t, strOf (openV rs) = t := ⟨_, rfl⟩
  obtain ⟨sm, q4⟩ : ∃ t, sumV bs = t := ⟨_, rfl⟩
  have H35 := seals_call (N := w.heap.size) (w := w) q1 q2 q3 q4 S5 X5 Y5 Z5 b5 T5 B5 B5.size hB hlb
  rw [q1] at s1
  rw [q2] at s2 s5
  rw [q3] at s3 s4
  have HC : Hid (Calls Tryd.prog 35 #[.slice ab bs.length cb] w5.drew _) := H35
  clear q1 q2 q3 q4 hcb hcr hT hb H35 S5 X5 Y5 Z5 b5 T5 B5 b5d N5 hlb2
  go_wp2_with fail
  go_cut [80] (fun s80 wc => s80 = .bool false ∧ Bs wc us (bs ++ leTo (sumV bs) 4) ∧ Below w.heap.size w wc)
  case first =>
    clear HT0 HSL hSB hB hlb hN0 h1 h2 k1 k2
    go_region_held (fun w' => (convert 28 9 us).run Tryd.prog w' = .ok (.string t1) w' ∧ (convert 28 9 ux).run Tryd.prog w' = .ok (.string t2) w' ∧ (convert 28 9 uy).run Tryd.prog w' = .ok (.string t3) w' ∧ (convert 28 9 uz).run Tryd.prog w' = .ok (.string t3) w' ∧ (convert 28 9 (.slice ab bs.length cb)).run Tryd.prog w' = .ok (.string t2) w')
      (first | assumption | exact ⟨s1, s2, s3, s4, s5⟩ | exact ⟨x1, x3, x5, x6, x4⟩)
      (first | (go_at_call 35; refine HC.out.mono ?_; rintro e w6 ⟨ur, rfl, x1, x2, x3, x4, x5, x6, H36, H37, HQ⟩) | (go_at_call 36; refine H36.out.mono ?_; rintro e w7 ⟨rfl, h7⟩; subst h7) | (go_at_call 37; refine H37.out.mono ?_; rintro e w7 ⟨rfl, h7⟩; subst h7))
    all_goals (go_wp2_with fail; go_meet; exact ⟨rfl, HQ.out.1, HQ.out.2⟩)
  case rest =>
    obtain ⟨rfl, S6, B6⟩ := hcut
    clear s1 s2 s3 s4 s5 HC
    obtain ⟨ua, uc, hus, huc⟩ := S6.form
    rw [HSL.out] at hus huc
    subst hus
    have hbS : Bs (wc.alloc (.cells #[] 5)) (.slice ua (bs.length + 4) uc) (bs ++ leTo (sumV bs) 4) := S6.kept (Chg.alloc (fun _ => False) wc _) (fun _ _ _ _ _ h => h)
    have hoS := lit_own wc w.heap.size B6.size
    have hzS : w.heap.size ≤ (wc.alloc (.cells #[] 5)).heap.size := Nat.le_trans B6.size (by simp)
    have hlS : ([] : List Int).length + (bs ++ leTo (sumV bs) 4).length ≤ 1099511627776 := by rw [HSL.out]; simp; omega
    obtain ⟨i0, hi, hz0, hz1, hz2⟩ := info_parts info5
    have d0 : (0 : Int) < 8 * ((bs.length : Int) + 4) := by omega
    have d1 := Int.tmod_lt_of_pos bit d0
    have d2 : -(8 * ((bs.length : Int) + 4)) < bit.tmod (8 * ((bs.length : Int) + 4)) := by
      have h9 := Int.tmod_lt_of_pos (-bit) d0
      rw [Int.neg_tmod] at h9
      omega
    by_cases hneg : bit.tmod (8 * ((bs.length : Int) + 4)) < 0
    · have kn : decide (bit.tmod (8 * ((bs.length : Int) + 4)) < 0) = true := by simpa using hneg
      obtain ⟨K, hK⟩ := Int.eq_ofNat_of_zero_le (show 0 ≤ bit.tmod (8 * ((bs.length : Int) + 4)) + 8 * ((bs.length : Int) + 4) by omega)
      obtain ⟨ii, jj, hii, hjj, hKi⟩ : ∃ ii jj : Nat, ii < bs.length + 4 ∧ jj < 8 ∧ K = 8 * ii + jj := ⟨K / 8, K % 8, by omega, by omega, by omega⟩
      have hr1 : (K : Int) / 8 = (ii : Int) := by omega
      have hr2 : (K : Int) % 8 = (jj : Int) := by omega
      clear hKi d1 d2
      have hgi : (ii : Int) < (bs.length : Int) + 4 := by omega
      go_wp2_with (at_builtin; go_must (refine wpList_app rfl (.tmp 93) (.tmp 94) 28 rfl w.heap.size i0 Tryd.underlying28 hi hz0 hz1 hz2 (.slice (some ⟨wc.heap.size, 0, none⟩) 0 0) _ 0 [] (bs ++ leTo (sumV bs) 4) rfl hoS rfl hbS hlS hzS ?_; intro v7 w7 hown hgrow hat; obtain ⟨g, cap, x, rfl, c7, f7, hx, B7, H7⟩ := flip_facts hB HSL.out hown hgrow B6 hii))
      obtain ⟨y, hy, y0, y1, yne⟩ := turned_bit x jj hx hjj
      have h2j : (2 : Int) ^ jj % 256 = 2 ^ jj := pow_small jj hjj
      rw [h2j, hy]
      obtain ⟨T, o1, o2, o3, o4, o5, o6⟩ := H7 y ⟨y0, y1⟩ yne
      have T9 := HT0.out.below o6 hN0
      clear hown hgrow hat c7 f7 B7 H7 hy
      refine (open_any w.heap.size _ T _ o1 o2 T9 o6.size (by omega)).mono ?_
      rintro e w9 ⟨u9, rfl, F9⟩
      rw [o3]
      rw [o4] at F9
      obtain ⟨a9, c9, rfl⟩ := own_slice F9.1
      have B9 := o6.trans (F9.2.1.below o6.size (fun _ h => h.elim))
      clear F9 o1 o2 o3 o4 T9
      go_wp2
      go_ret
      exact ⟨rfl, B9⟩
    · skip
      obtain ⟨K, hK⟩ := Int.eq_ofNat_of_zero_le (show 0 ≤ bit.tmod (8 * ((bs.length : Int) + 4)) by omega)
      obtain ⟨ii, jj, hii, hjj, hKi⟩ : ∃ ii jj : Nat, ii < bs.length + 4 ∧ jj < 8 ∧ K = 8 * ii + jj := ⟨K / 8, K % 8, by omega, by omega, by omega⟩
      have hr1 : (K : Int) / 8 = (ii : Int) := by omega
      have hr2 : (K : Int) % 8 = (jj : Int) := by omega
      clear hKi d1 d2
      have hgi : (ii : Int) < (bs.length : Int) + 4 := by omega
      go_wp2_with (at_builtin; go_must (refine wpList_app rfl (.tmp 93) (.tmp 94) 28 rfl w.heap.size i0 Tryd.underlying28 hi hz0 hz1 hz2 (.slice (some ⟨wc.heap.size, 0, none⟩) 0 0) _ 0 [] (bs ++ leTo (sumV bs) 4) rfl hoS rfl hbS hlS hzS ?_; intro v7 w7 hown hgrow hat; obtain ⟨g, cap, x, rfl, c7, f7, hx, B7, H7⟩ := flip_facts hB HSL.out hown hgrow B6 hii))
      obtain ⟨y, hy, y0, y1, yne⟩ := turned_bit x jj hx hjj
      have h2j : (2 : Int) ^ jj % 256 = 2 ^ jj := pow_small jj hjj
      rw [h2j, hy]
      obtain ⟨T, o1, o2, o3, o4, o5, o6⟩ := H7 y ⟨y0, y1⟩ yne
      have T9 := HT0.out.below o6 hN0
      clear hown hgrow hat c7 f7 B7 H7 hy
      refine (open_any w.heap.size _ T _ o1 o2 T9 o6.size (by omega)).mono ?_
      rintro e w9 ⟨u9, rfl, F9⟩
      rw [o3]
      rw [o4] at F9
      obtain ⟨a9, c9, rfl⟩ := own_slice F9.1
      have B9 := o6.trans (F9.2.1.below o6.size (fun _ h => h.elim))
      clear F9 o1 o2 o3 o4 T9
      go_wp2
      go_ret
      exact ⟨rfl, B9⟩

/-- CodecSeals answers true. -/
theorem law_seals (b raw : Value) (bs rs : List Int) (bit : Int) (w : World) (hT : Tab w) (hb : Bs w b bs) (hB : IsB bs) (hr : Bs w raw rs) (hR : IsB rs) :
    Calls Tryd.prog 6 #[b, raw, .int .i64 bit] w fun e w' => e = .returned (.bool true) ∧ Below w.heap.size w w' := by
  by_cases h1 : bs.length ≤ 4096
  · by_cases h2 : rs.length ≤ 4096
    · exact law_seals_in b raw bs rs bit w hT hb hB hr hR h1 h2
    · obtain ⟨ab, cb, rfl, _⟩ := hb.form
      obtain ⟨ar, cr, rfl, _⟩ := hr.form
      have k1 : decide ((4096 : Int) < (bs.length : Int)) = false := by simp; omega
      have k2 : decide ((4096 : Int) < (rs.length : Int)) = true := by simp; omega
      clear hb hB hr hR h1 h2
      go_enter Tryd.func6, Tryd.ntmps6
      go_wp2_with fail
      refine (known_any w hT).mono ?_
      rintro e w1 ⟨rfl, B1⟩
      go_wp2
      go_ret
      exact ⟨rfl, B1⟩
  · obtain ⟨ab, cb, rfl, _⟩ := hb.form
    obtain ⟨ar, cr, rfl, _⟩ := hr.form
    have k1 : decide ((4096 : Int) < (bs.length : Int)) = true := by simp; omega
    clear hb hB hr hR h1
    go_enter Tryd.func6, Tryd.ntmps6
    go_wp2_with fail
    refine (known_any w hT).mono ?_
    rintro e w1 ⟨rfl, B1⟩
    go_wp2
    go_ret
    exact ⟨rfl, B1⟩
end Go.Proofs.YtdninfmmikaimaaDoor

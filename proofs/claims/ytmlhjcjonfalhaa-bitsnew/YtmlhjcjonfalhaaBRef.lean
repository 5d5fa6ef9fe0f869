/-
  What the document's own maps of bits (chapter 5) do: Has, Put, Count, Run, First.
-/
import Derived.Test.YtmlhjcjonfalhaaBRun
namespace Go.Proofs.Ytmlhjcjonfalhaa
open Go.RowKit

theorem shr_bitZ (x k : Nat) (hx : x < 256) : (bits .and .u8 ((x : Int) / 2 ^ (k % 8)) 1 == 1) = x.testBit (k % 8) := by
  have e := shr_bit x k hx
  have e2 : ((x / 2 ^ (k % 8) : Nat) : Int) = (x : Int) / 2 ^ (k % 8) := by simp
  rw [e2] at e
  rw [e]
  cases x.testBit (k % 8) <;> rfl
theorem xor_bitZ (x k : Nat) (hx : x < 256) : bits .xor .u8 (x : Int) (2 ^ (k % 8)) = ((x ^^^ 2 ^ (k % 8) : Nat) : Int) := by
  have e := xor_bit x k hx
  unfold msk at e
  rw [Int.natCast_pow] at e
  exact e
set_option maxHeartbeats 1000000 in
theorem rhas_in (v : Value) (xs : List Int) (k : Nat) (w : World) (h : Bs w v xs) (hb : IsBy xs) (hl : xs.length ≤ 1099511627776) (hk : k < 8 * xs.length) : Calls Try.prog 17 #[v, .int .i64 (k : Int)] w fun e w' => e = .returned (.bool (bitN xs k)) ∧ w' = w := by
  rcases h with ⟨rfl, rfl⟩ | ⟨a, c, rfl, hc, hm, hcell⟩
  · simp at hk
  have hj : k / 8 < xs.length := by omega
  have hi : (k : Int) / 8 < (xs.length : Int) := by omega
  have hi0 : (0 : Int) ≤ (k : Int) / 8 := by omega
  have ht : ((k : Int) / 8).toNat = k / 8 := by omega
  have hk8 : (k : Int) < 8 * (xs.length : Int) := by omega
  have h1 := hcell (k / 8) hj
  rw [(hb.byt (k / 8)).1] at h1
  have hx := (hb.byt (k / 8)).2
  obtain ⟨x, ex⟩ : ∃ x, byt xs (k / 8) = x := ⟨_, rfl⟩
  rw [ex] at h1 hx
  have HB : Hid (bitN xs k = (bits .and .u8 ((x : Int) / 2 ^ (k % 8)) 1 == 1)) := by show bitN xs k = _; rw [shr_bitZ x k hx]; unfold bitN; rw [ex]
  clear hcell hc hm hb ex
  go_enter Try.func17, Try.ntmps17
  go_wp2
  go_ret
  rw [HB.out]
  exact ⟨rfl, rfl⟩
set_option maxHeartbeats 1000000 in
theorem rhas_out (v : Value) (xs : List Int) (i : Int) (w : World) (h : Bs w v xs) (hl : xs.length ≤ 1099511627776) (hi : i < 0 ∨ 8 * (xs.length : Int) ≤ i) : Calls Try.prog 17 #[v, .int .i64 i] w fun e w' => e = .returned (.bool false) ∧ w' = w := by
  obtain ⟨a, c, rfl, hc⟩ := h.formB
  clear h hc
  by_cases h0 : i < 0
  · have hd : decide (0 ≤ i) = false := by simp; omega
    clear hi
    go_enter Try.func17, Try.ntmps17
    go_wp2
    go_ret
    exact ⟨rfl, rfl⟩
  · have hd : decide (0 ≤ i) = true := by simp; omega
    have hd2 : decide (i < 8 * (xs.length : Int)) = false := by simp; omega
    clear hi
    go_enter Try.func17, Try.ntmps17
    go_wp2
    go_ret
    exact ⟨rfl, rfl⟩
theorem rhas_any (v : Value) (xs : List Int) (i : Int) (w : World) (h : Bs w v xs) (hb : IsBy xs) (hl : xs.length ≤ 1099511627776) : Calls Try.prog 17 #[v, .int .i64 i] w fun e w' => e = .returned (.bool (bitI xs i)) ∧ w' = w := by
  by_cases hi : i < 0 ∨ 8 * (xs.length : Int) ≤ i
  · rw [bitI_out hi]; exact rhas_out v xs i w h hl hi
  · obtain ⟨k, rfl⟩ := Int.eq_ofNat_of_zero_le (show 0 ≤ i by omega)
    rw [bitI_nat]
    exact rhas_in v xs k w h hb hl (by omega)
set_option maxHeartbeats 1000000 in
theorem put_not (v : Value) (xs : List Int) (i : Int) (on : Bool) (w : World) (h : Bs w v xs) (hb : IsBy xs) (hl : xs.length ≤ 1099511627776) (hi : (i < 0 ∨ 8 * (xs.length : Int) ≤ i) ∨ bitI xs i = on) : Calls Try.prog 10 #[v, .int .i64 i, .bool on] w fun e w' => e = .returned (.bool false) ∧ w' = w := by
  have H : Hid (Bs w v xs) := h
  obtain ⟨a, c, rfl, hc⟩ := h.formB
  clear h hc
  by_cases h0 : i < 0
  · have hd : decide (i < 0) = true := by simpa using h0
    clear hi
    go_enter Try.func10, Try.ntmps10
    go_wp2
    go_ret
    exact ⟨rfl, rfl⟩
  have hd : decide (i < 0) = false := by simpa using h0
  by_cases h8 : 8 * (xs.length : Int) ≤ i
  · have hd2 : decide (8 * (xs.length : Int) ≤ i) = true := by simpa using h8
    clear hi
    go_enter Try.func10, Try.ntmps10
    go_wp2
    go_ret
    exact ⟨rfl, rfl⟩
  have hd2 : decide (8 * (xs.length : Int) ≤ i) = false := by simpa using h8
  have HB : Hid (bitI xs i = on) := by
    rcases hi with (hi | hi) | hi
    · omega
    · omega
    · exact hi
  clear hi
  go_enter Try.func10, Try.ntmps10
  go_wp2_with fail
  refine (rhas_any _ xs i _ H.out hb hl).mono ?_
  rw [HB.out]
  rintro e w' ⟨rfl, rfl⟩
  have ho : (on == on) = true := by simp
  go_wp2
  all_goals (go_ret; exact ⟨rfl, rfl⟩)
set_option maxHeartbeats 2000000 in
theorem put_new (g : Nat) (v : Value) (xs : List Int) (k : Nat) (on : Bool) (w : World) (h : Mp w g v xs) (hb : IsBy xs) (hl : xs.length ≤ 1099511627776) (hk : k < 8 * xs.length) (h0 : bitN xs k = !on) : Calls Try.prog 10 #[v, .int .i64 (k : Int), .bool on] w fun e w' => e = .returned (.bool true) ∧ Mp w' g v (flipN xs k) ∧ Chg (fun b => b = g) w w' := by
  have H : Hid (Mp w g v xs) := h
  rcases h with ⟨rfl, rfl⟩ | ⟨c, cur, ty, rfl, hblk, hc, hm, hcell⟩
  · simp at hk
  have hj : k / 8 < xs.length := by omega
  have hi : (k : Int) / 8 < (xs.length : Int) := by omega
  have hi0 : (0 : Int) ≤ (k : Int) / 8 := by omega
  have ht : ((k : Int) / 8).toNat = k / 8 := by omega
  have hd : decide ((k : Int) < 0) = false := by simp
  have hd2 : decide (8 * (xs.length : Int) ≤ (k : Int)) = false := by simp; omega
  have hx := (hb.byt (k / 8)).2
  have ex0 := (hb.byt (k / 8)).1
  obtain ⟨x, ex⟩ : ∃ x, byt xs (k / 8) = x := ⟨_, rfl⟩
  have e1 := xor_bitZ x k (by rw [← ex]; exact hx)
  have e2 := pow_mod8 (k % 8) (by omega)
  obtain ⟨y, ey⟩ : ∃ y : Int, ((x ^^^ 2 ^ (k % 8) : Nat) : Int) = y := ⟨_, rfl⟩
  rw [ey] at e1
  have h1 : (w.cell? ⟨g, k / 8, none⟩ = some (.int .u8 (x : Int))) := by
    rw [cell_of_row _ _ _ _ _ _ hblk, hcell (k / 8) hj, ex0, ex]
  have hf : w.frozen? ⟨g, k / 8, none⟩ = false := frozen_of_row w g _ _ _ hblk
  have HP : Hid (Mp w g (.slice (some ⟨g, 0, none⟩) xs.length c) xs ∧ flipN xs k = xs.set (k / 8) y) := ⟨H.out, by unfold flipN; rw [ex, ey]⟩
  have HB : Hid (bitI xs (k : Int) = !on) := by show bitI xs (k : Int) = !on; rw [bitI_nat]; exact h0
  clear hcell hm hc hblk ex0 ex ey h0 H hx
  go_enter Try.func10, Try.ntmps10
  go_wp2_with fail
  refine (rhas_any _ xs _ _ HP.out.1.bs hb hl).mono ?_
  rw [HB.out]
  rintro e w1 ⟨rfl, rfl⟩
  have ho : ((!on) == on) = false := by cases on <;> rfl
  go_wp2
  go_ret
  refine ⟨rfl, ?_, ?_⟩
  · rw [HP.out.2]
    exact HP.out.1.set hj y
  · exact Chg.setCell (S := fun b => b = g) _ _ _ rfl
theorem ends_nat (v : Value) (xs : List Int) (i j : Int) (w : World) (h : Bs w v xs) (hl : xs.length ≤ 1099511627776) : ∃ B : Int, B ≤ 8 * (xs.length : Int) ∧ hiB xs j = B.toNat ∧
    Calls Try.prog 25 #[v, .int .i64 i, .int .i64 j] w fun e w' => e = .returned (.tuple #[.int .i64 (loB i : Int), .int .i64 B]) ∧ w' = w := by
  refine ⟨min j (8 * (xs.length : Int)), by omega, rfl, ?_⟩
  have e : ((loB i : Nat) : Int) = max i 0 := by unfold loB; omega
  rw [e]
  obtain ⟨a, c, rfl, hc⟩ := h.formB
  clear h hc e
  go_enter Try.func25, Try.ntmps25
  go_wp2
  all_goals
    go_ret2
    refine ⟨?_, rfl⟩
    congr 3
    simp
    omega
set_option maxHeartbeats 2000000 in
theorem rcount_any (v : Value) (xs : List Int) (i j : Int) (w : World) (h : Bs w v xs) (hb : IsBy xs) (hl : xs.length ≤ 1099511627776) (hi : i ≤ 9223372036854775807) : Calls Try.prog 19 #[v, .int .i64 i, .int .i64 j] w fun e w' => e = .returned (.int .i64 (cntI xs i j : Int)) ∧ w' = w := by
  have H : Hid (Bs w v xs) := h
  obtain ⟨B, hB, eB, hw⟩ := ends_nat v xs i j w h hl
  obtain ⟨a, c, rfl, hc⟩ := h.formB
  have HC : Hid (cntI xs i j = cnt xs (loB i) (B.toNat - loB i)) := by show cntI xs i j = _; unfold cntI; rw [eB]
  have hA : loB i ≤ 9223372036854775807 := by unfold loB; omega
  generalize loB i = A at *
  clear h hc eB
  go_enter Try.func19, Try.ntmps19
  go_wp2_with fail
  refine hw.mono ?_
  rintro e w' ⟨rfl, rfl⟩
  clear hw
  go_wp2_with fail
  go_loopw [7, 8] (fun x y wr => ∃ t : Nat, t ≤ B.toNat - A ∧ x = .int .i64 ((cnt xs A t : Nat) : Int) ∧ y = .int .i64 ((A + t : Nat) : Int) ∧ wr = w') (fun _ y _ => B.toNat - (intOf y).toNat)
  case atStart => exact ⟨0, by omega, rfl, rfl, rfl⟩
  case round =>
    obtain ⟨t, ht, rfl, rfl, rfl⟩ := hrel
    have hct := cnt_le xs A t
    by_cases hlt : ((A + t : Nat) : Int) < B
    · have ha := rhas_any _ xs ((A + t : Nat) : Int) _ H.out hb hl
      rw [bitI_nat] at ha
      have hs := cnt_succ xs A t
      cases hbit : bitN xs (A + t) with
      | true =>
        rw [hbit] at ha hs
        have HS : Hid (cnt xs A (t + 1) = cnt xs A t + 1) := hs
        clear hs hbit
        go_wp2_with fail
        refine ha.mono ?_
        rintro e w1 ⟨rfl, rfl⟩
        clear ha
        go_wp2
        go_roundw
        case rel => exact ⟨t + 1, by omega, by rw [HS.out]; go_num, by go_num, by trivial⟩
        case measure => simp [intOf]; omega
      | false =>
        rw [hbit] at ha hs
        have HS : Hid (cnt xs A (t + 1) = cnt xs A t) := hs
        clear hs hbit
        go_wp2_with fail
        refine ha.mono ?_
        rintro e w1 ⟨rfl, rfl⟩
        clear ha
        go_wp2
        go_roundw
        case rel => exact ⟨t + 1, by omega, by rw [HS.out], by go_num, by trivial⟩
        case measure => simp [intOf]; omega
    · go_wp2
      go_ret
      refine ⟨?_, rfl⟩
      rw [HC.out]
      have : B.toNat - A = t := by omega
      rw [this]
      rfl
set_option maxHeartbeats 2000000 in
theorem rrun_any (v : Value) (xs : List Int) (i j q : Int) (w : World) (h : Bs w v xs) (hb : IsBy xs) (hl : xs.length ≤ 1099511627776) (hi : i ≤ 9223372036854775807) (hq : q ≤ 9223372036854775807) (hq0 : -9223372036854775808 ≤ q) : Calls Try.prog 15 #[v, .int .i64 i, .int .i64 j, .int .i64 q] w fun e w' => e = .returned (placed (runI xs i j q)) ∧ w' = w := by
  have H : Hid (Bs w v xs) := h
  obtain ⟨B, hB, eB, hw⟩ := ends_nat v xs i j w h hl
  obtain ⟨a, c, rfl, hc⟩ := h.formB
  by_cases hq1 : q < 1
  · have hd : decide (q < 1) = true := by simpa using hq1
    rw [runI_no hq1]
    clear h hc eB
    go_enter Try.func15, Try.ntmps15
    go_wp2_with fail
    refine hw.mono ?_
    rintro e w' ⟨rfl, rfl⟩
    clear hw
    go_wp2
    go_ret2
    exact ⟨rfl, rfl⟩
  have hd : decide (q < 1) = false := by simpa using hq1
  have HC : Hid (runI xs i j q = runF xs q (B.toNat - loB i) (loB i) 0) := by show runI xs i j q = _; rw [runI_yes hq1, eB]
  have hA : loB i ≤ 9223372036854775807 := by unfold loB; omega
  generalize loB i = A at *
  clear h hc eB
  go_enter Try.func15, Try.ntmps15
  go_wp2_with fail
  refine hw.mono ?_
  rintro e w' ⟨rfl, rfl⟩
  clear hw
  go_wp2_with fail
  go_loopw [10, 11] (fun x y wr => ∃ t k s : Nat, t ≤ B.toNat - A ∧ Hid (s + k = A + t) ∧ (k : Int) < q ∧ x = .int .i64 (k : Int) ∧ y = .int .i64 ((s + k : Nat) : Int) ∧ wr = w' ∧ Hid (runF xs q (B.toNat - A) A 0 = runF xs q (B.toNat - A - t) (s + k) k)) (fun _ y _ => B.toNat - (intOf y).toNat)
  case atStart => exact ⟨0, 0, A, by omega, rfl, by omega, rfl, rfl, rfl, rfl⟩
  case round =>
    obtain ⟨t, k, s, ht, HK, hkq, rfl, rfl, rfl, HR⟩ := hrel
    have hsa := Int.le_of_eq (congrArg Nat.cast HK.out : ((s + k : Nat) : Int) = ((A + t : Nat) : Int))
    have hsb := Int.le_of_eq (congrArg Nat.cast HK.out.symm : ((A + t : Nat) : Int) = ((s + k : Nat) : Int))
    by_cases hlt : ((s + k : Nat) : Int) < B
    · have ha := rhas_any _ xs ((s + k : Nat) : Int) _ H.out hb hl
      rw [bitI_nat] at ha
      cases hbit : bitN xs (s + k) with
      | true =>
        rw [hbit] at ha
        have HS : Hid (runF xs q (B.toNat - A) A 0 = runF xs q (B.toNat - A - (t + 1)) (s + k + 1 + 0) 0) := by
          exact runF_next1 HR.out (by omega) hbit
        clear HR hbit
        go_wp2_with fail
        refine ha.mono ?_
        rintro e w1 ⟨rfl, rfl⟩
        clear ha
        go_wp2
        go_roundw
        case rel => exact ⟨t + 1, 0, s + k + 1, by omega, (by show _ = _; omega), by omega, by go_num, by go_num, by trivial, HS⟩
        case measure => simp [intOf]; omega
      | false =>
        rw [hbit] at ha
        by_cases hend : (k : Int) + 1 = q
        · have HS : Hid (runI xs i j q = some s) := by
            exact HC.out.trans (runF_next3 HR.out (by omega) hbit hend)
          clear HR hbit HC
          have kt : ((k : Int) + 1 == q) = true := by simp; omega
          go_wp2_with fail
          refine ha.mono ?_
          rintro e w1 ⟨rfl, rfl⟩
          clear ha
          go_wp2
          go_ret2
          rw [HS.out]
          refine ⟨?_, rfl⟩
          have es : (s : Int) + (k : Int) - q + 1 = (s : Int) := by omega
          simp [placed, runV, es]
        · have HS : Hid (runF xs q (B.toNat - A) A 0 = runF xs q (B.toNat - A - (t + 1)) (s + (k + 1)) (k + 1)) := by
            exact runF_next2 HR.out (by omega) hbit hend
          clear HR hbit
          have kt : ((k : Int) + 1 == q) = false := by simp; omega
          go_wp2_with fail
          refine ha.mono ?_
          rintro e w1 ⟨rfl, rfl⟩
          clear ha
          go_wp2
          go_roundw
          case rel => exact ⟨t + 1, k + 1, s, by omega, (by show _ = _; omega), by omega, by go_num, by go_num, by trivial, HS⟩
          case measure => simp [intOf]; omega
    · have HS : Hid (runI xs i j q = none) := by
        exact HC.out.trans (runF_stop HR.out (by omega))
      clear HR HC
      go_wp2
      go_ret2
      rw [HS.out]
      exact ⟨rfl, rfl⟩
/-- First: a row of one. -/
theorem rfirst_any (v : Value) (xs : List Int) (i j : Int) (w : World) (h : Bs w v xs) (hb : IsBy xs) (hl : xs.length ≤ 1099511627776) (hi : i ≤ 9223372036854775807) : Calls Try.prog 13 #[v, .int .i64 i, .int .i64 j] w fun e w' => e = .returned (placed (runI xs i j 1)) ∧ w' = w := by
  have hr := rrun_any v xs i j 1 w h hb hl hi (by decide) (by decide)
  unfold placed at hr ⊢
  generalize runV (runI xs i j 1) = r at *
  generalize (runI xs i j 1).isSome = o at *
  obtain ⟨a, c, rfl, hc⟩ := h.formB
  clear h hc
  go_enter Try.func13, Try.ntmps13
  go_wp2_with fail
  refine hr.mono ?_
  rintro e w' ⟨rfl, rfl⟩
  clear hr
  go_wp2
  go_ret2
  exact ⟨rfl, rfl⟩
end Go.Proofs.Ytmlhjcjonfalhaa

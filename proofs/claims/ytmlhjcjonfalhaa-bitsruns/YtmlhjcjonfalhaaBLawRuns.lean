/-
  BitsRuns answers true for every slice of bytes and every three numbers.
-/
import Derived.Test.YtmlhjcjonfalhaaBCopy
namespace Go.Proofs.Ytmlhjcjonfalhaa
open Go.RowKit

/-- t bits from s on turned. -/
def fl (xs : List Int) (s : Nat) : Nat → List Int
  | 0 => xs
  | t + 1 => flipN (fl xs s t) (s + t)
theorem fl_len (xs : List Int) (s t : Nat) : (fl xs s t).length = xs.length := by
  induction t with
  | zero => rfl
  | succ t ih => show (flipN (fl xs s t) (s + t)).length = _; rw [flipN_len, ih]
theorem fl_by {xs : List Int} (h : IsBy xs) (s t : Nat) : IsBy (fl xs s t) := by
  induction t with
  | zero => exact h
  | succ t ih => exact ih.flip _
theorem fl_bit {xs : List Int} {s n : Nat} (hs : s + n ≤ 8 * xs.length) (hz : ∀ m, s ≤ m → m < s + n → bitN xs m = false) (t : Nat) (ht : t ≤ n) (m : Nat) : bitN (fl xs s t) m = if s ≤ m ∧ m < s + t then true else bitN xs m := by
  induction t generalizing m with
  | zero => rw [if_neg (by omega)]; rfl
  | succ t ih =>
    show bitN (flipN (fl xs s t) (s + t)) m = _
    rw [bitN_flip (by rw [fl_len]; omega)]
    by_cases e : m = s + t
    · rw [if_pos e, ih (by omega), if_neg (by omega), hz _ (by omega) (by omega), if_pos (by omega)]; rfl
    · rw [if_neg e, ih (by omega)]
      by_cases h1 : s ≤ m ∧ m < s + t
      · rw [if_pos h1, if_pos (by omega)]
      · rw [if_neg h1, if_neg (by omega)]
theorem fl_next {xs : List Int} {s n : Nat} (hs : s + n ≤ 8 * xs.length) (hz : ∀ m, s ≤ m → m < s + n → bitN xs m = false) (t : Nat) (ht : t < n) : bitN (fl xs s t) (s + t) = false := by
  rw [fl_bit hs hz t (by omega), if_neg (by omega), hz _ (by omega) (by omega)]
theorem fl_cnt {xs : List Int} {s n : Nat} (hs : s + n ≤ 8 * xs.length) (hz : ∀ m, s ≤ m → m < s + n → bitN xs m = false) (t : Nat) (ht : t ≤ n) : cnt (fl xs s t) 0 (8 * xs.length) = cnt xs 0 (8 * xs.length) + t := by
  induction t with
  | zero => rfl
  | succ t ih =>
    show cnt (flipN (fl xs s t) (s + t)) 0 _ = _
    rw [cnt_flip (by rw [fl_len]; omega) (fl_next hs hz t (by omega)) (by omega) (by omega), ih (by omega)]
    omega
theorem cntI_all {xs : List Int} (h : xs.length ≤ 60) : cntI xs 0 480 = cnt xs 0 (8 * xs.length) := by
  have e2 : hiB xs 480 = 8 * xs.length := by unfold hiB; omega
  unfold cntI
  rw [e2]
  rfl
/-- What is found, and taken. -/
theorem runs_facts {xs : List Int} {a b : Int} {n s : Nat} (hl : xs.length ≤ 60) (hn : 1 ≤ n) (h : runI xs a b (n : Int) = some s) :
    a ≤ (s : Int) ∧ (s : Int) ≤ b - n ∧ s + n ≤ 8 * xs.length ∧ cntI xs (s : Int) ((s : Int) + (n : Int)) = 0 ∧ (∀ m, s ≤ m → m < s + n → bitN xs m = false) ∧
      ((runI (fl xs s n) a b (n : Int) = none) ∨ ∃ j, runI (fl xs s n) a b (n : Int) = some j ∧ s < j) := by
  rw [runI_yes (by omega)] at h
  obtain ⟨h1, h2, h3⟩ := runF_some h (by omega) (by omega) (fun j _ _ => by omega)
  have hf : 0 < hiB xs b - loB a := by
    cases hd : hiB xs b - loB a with
    | zero => rw [hd] at h; cases h
    | succ m => omega
  have hle := hiB_le xs b
  have hs : s + n ≤ hiB xs b := by omega
  have hsb : ((hiB xs b : Nat) : Int) ≤ b := by unfold hiB at hf ⊢; omega
  have hla : a ≤ ((loB a : Nat) : Int) := by unfold loB; omega
  refine ⟨by omega, by omega, by omega, ?_, h3, ?_⟩
  · have e1 : loB (s : Int) = s := by simp [loB]
    have e2 : hiB xs ((s : Int) + (n : Int)) = s + n := by unfold hiB; omega
    unfold cntI
    rw [e1, e2]
    exact cnt_zero (fun j hj => h3 _ (by omega) (by omega))
  · cases hr : runI (fl xs s n) a b (n : Int) with
    | none => exact .inl rfl
    | some j =>
      refine .inr ⟨j, rfl, ?_⟩
      rw [runI_yes (by omega)] at hr
      have eh : hiB (fl xs s n) b = hiB xs b := by unfold hiB; rw [fl_len]
      rw [eh] at hr
      obtain ⟨g1, g2, g3⟩ := runF_some hr (by omega) (by omega) (fun j _ _ => by omega)
      have hb : ∀ m, j ≤ m → m < j + n → ¬ (s ≤ m ∧ m < s + n) ∧ bitN xs m = false := by
        intro m m1 m2
        have := g3 m m1 m2
        rw [fl_bit (by omega) h3 n (by omega)] at this
        by_cases hm : s ≤ m ∧ m < s + n
        · rw [if_pos hm] at this; cases this
        · rw [if_neg hm] at this; exact ⟨hm, this⟩
      obtain ⟨s', e1, e2⟩ := runF_least (xs := xs) (n := n) (f := hiB xs b - loB a) (i := loB a) (k := 0) (j := j) (by omega) (by omega) (by omega) (by omega) (fun m m1 m2 => (hb m m1 m2).2)
      rw [h] at e1
      obtain rfl : s = s' := by simpa using e1
      have := (hb j (by omega) (by omega)).1
      omega

/-- What a round has. -/
structure Rn (w wr : World) (g : Nat) (v : Value) (xs : List Int) : Prop where
  mp : Mp wr g v xs
  chg : Chg (fun _ => False) w wr
  new : w.heap.size ≤ g
theorem Rn.next {w wr w2 : World} {g : Nat} {v : Value} {xs ys : List Int} (h : Rn w wr g v xs) (hm : Mp w2 g v ys) (hc : Chg (fun b => b = g) wr w2) : Rn w w2 g v ys :=
  ⟨hm, h.chg.trans hc (fun i hi e => by have := h.new; omega), h.new⟩
theorem Rn.quiet {w wr : World} {g : Nat} {v : Value} {xs : List Int} (h : Rn w wr g v xs) (n : Nat) : Rn w (wr.drewN n) g v xs :=
  ⟨h.mp.kept (Chg.drewN (fun _ => False) wr n) (fun h => h), h.chg.trans (Chg.drewN _ wr n) (fun _ _ h => h), h.new⟩

set_option maxHeartbeats 8000000 in
theorem law_bruns_in (v : Value) (bs : List Int) (a b : Int) (n : Nat) (w : World) (hv : Bs w v bs) (hb : IsBy bs) (ha : a ≤ 9223372036854775807) (hb0 : b ≤ 9223372036854775807) (hl : bs.length ≤ 60) (hn : 1 ≤ n) (hn4 : n ≤ 480) : Calls Try.prog 5 #[v, .int .i64 a, .int .i64 b, .int .i64 (n : Int)] w fun e w' => e = .returned (.bool true) ∧ Chg (fun _ => False) w w' := by
  have H : Hid (Bs w v bs) := hv
  obtain ⟨va, vc, rfl, hvc⟩ := hv.formB
  clear hv hvc
  have k1 : decide (60 < (bs.length : Int)) = false := by simp; omega
  have k2 : decide ((n : Int) < 1) = false := by simp; omega
  have k3 : decide (480 < (n : Int)) = false := by simp; omega
  go_enter Try.func5, Try.ntmps5
  go_wp2_with fail
  refine (knownB w).mono ?_
  rintro e w1 ⟨rfl, hc⟩
  obtain ⟨g, ma, mc, w2, hr, hm, hc2, hg, _⟩ := copied (H.out.kept hc (fun _ _ _ _ _ h => h)) (by omega)
  have HC : Hid (Rn w w2 g (.slice ma bs.length mc) bs) := ⟨hm, hc.trans hc2 (fun _ _ h => h), by have := hc.size; omega⟩
  clear hc hm hc2 hg H
  go_wp2_with (at_builtin; go_must (refine Lib.wpList_append_run _ rfl _ _ _ _ rfl _ _ rfl rfl _ _ hr ?_))
  clear hr
  go_wp2_with fail
  refine (run_any _ bs a b (n : Int) _ HC.out.mp.bs hb (by omega) ha (by omega) (by omega)).mono ?_
  cases hrun : runI bs a b (n : Int) with
  | none =>
    unfold placed runV
    rintro e w3 ⟨rfl, n3, rfl⟩
    clear hrun
    go_wp2
    go_ret
    exact ⟨rfl, (HC.out.quiet n3).chg⟩
  | some s =>
    unfold placed runV
    rintro e w3 ⟨rfl, n3, rfl⟩
    obtain ⟨f1, f2, f3, f4, f5, f6⟩ := runs_facts hl hn hrun
    have HF : Hid (cntI bs (s : Int) ((s : Int) + (n : Int)) = 0 ∧ s + n ≤ 8 * bs.length ∧ ∀ m, s ≤ m → m < s + n → bitN bs m = false) := ⟨f4, f3, f5⟩
    have k4 : decide ((s : Int) < a) = false := by simp; omega
    have k5 : decide ((s : Int) < 0) = false := by simp
    have k6 : decide (b - (n : Int) < (s : Int)) = false := by simp; omega
    have hs480 : s + n ≤ 480 := by omega
    have hbn : 0 ≤ b - (n : Int) := by omega
    clear f1 f2 f4 f5 hrun
    go_wp2_with fail
    refine (count_any _ bs _ _ _ (HC.out.mp.bs.drewN _) hb (by omega) (by omega)).mono ?_
    rw [HF.out.1]
    rintro e w4 ⟨rfl, n4, rfl⟩
    go_wp2_with fail
    refine (count_any _ bs _ _ _ (HC.out.mp.bs.drewN _) hb (by omega) (by omega)).mono ?_
    rintro e w5 ⟨rfl, n5, rfl⟩
    obtain ⟨was, hwas⟩ : ∃ k, cntI bs 0 480 = k := ⟨_, rfl⟩
    have hw480 : was ≤ 480 := by rw [← hwas, cntI_all hl]; have := cnt_le bs 0 (8 * bs.length); omega
    rw [hwas]
    have HW : Hid (cntI (fl bs s n) 0 480 = was + n) := by
      show _ = _
      rw [cntI_all (by rw [fl_len]; exact hl), fl_len, fl_cnt HF.out.2.1 HF.out.2.2 n (Nat.le_refl _), ← cntI_all hl, hwas]
    clear hwas
    have HS : Hid (Rn w (w2.drewN (n3 + n4 + n5)) g (.slice ma bs.length mc) bs) := HC.out.quiet _
    clear HC
    go_wp2_with fail
    go_loopw [13] (fun x wr => ∃ t : Nat, t ≤ n ∧ x = .int .i64 ((s + t : Nat) : Int) ∧ Hid (Rn w wr g (.slice ma bs.length mc) (fl bs s t))) (fun x _ => s + n - (intOf x).toNat)
    case atStart => exact ⟨0, by omega, rfl, HS⟩
    case round =>
      obtain ⟨t, ht, rfl, HR⟩ := hrel
      clear HS
      by_cases hlt : t < n
      · have k7 : ((s + t : Nat) : Int) < (s : Int) + (n : Int) := by omega
        go_wp2_with fail
        refine (set_new g _ (fl bs s t) (s + t) _ HR.out.mp (fl_by hb s t) (by rw [fl_len]; omega) (by rw [fl_len]; omega) (fl_next HF.out.2.1 HF.out.2.2 t hlt)).mono ?_
        rintro e w6 ⟨rfl, h6, c6⟩
        have H6 : Hid (Rn w w6 g (.slice ma bs.length mc) (fl bs s (t + 1))) := HR.out.next h6 c6
        clear h6 c6 HR
        go_wp2
        go_roundw
        case rel => exact ⟨t + 1, by omega, by go_num, H6⟩
        case measure => simp [intOf]; omega
      · obtain rfl : t = n := by omega
        have k7 : ¬ (((s + t : Nat) : Int) < (s : Int) + (t : Int)) := by omega
        go_wp2_with fail
        refine (run_any _ (fl bs s t) a b (t : Int) _ HR.out.mp.bs (fl_by hb s t) (by rw [fl_len]; omega) ha (by omega) (by omega)).mono ?_
        rcases f6 with f6 | ⟨j, f6, f7⟩
        · rw [f6]
          unfold placed runV
          rintro e w6 ⟨rfl, n6, rfl⟩
          clear f6
          go_wp2_with fail
          refine (count_any _ (fl bs s t) _ _ _ (HR.out.mp.bs.drewN _) (fl_by hb s t) (by rw [fl_len]; omega) (by omega)).mono ?_
          rw [HW.out]
          rintro e w7 ⟨rfl, n7, rfl⟩
          have k8 : (((was + t : Nat) : Int) == (was : Int) + (t : Int)) = true := by simp
          go_wp2
          go_ret
          exact ⟨by simp, (HR.out.quiet _).chg⟩
        · rw [f6]
          unfold placed runV
          rintro e w6 ⟨rfl, n6, rfl⟩
          clear f6
          have k9 : decide ((s : Int) < (j : Int)) = true := by simp; omega
          go_wp2_with fail
          refine (count_any _ (fl bs s t) _ _ _ (HR.out.mp.bs.drewN _) (fl_by hb s t) (by rw [fl_len]; omega) (by omega)).mono ?_
          rw [HW.out]
          rintro e w7 ⟨rfl, n7, rfl⟩
          have k8 : (((was + t : Nat) : Int) == (was : Int) + (t : Int)) = true := by simp
          go_wp2
          go_ret
          exact ⟨by simp, (HR.out.quiet _).chg⟩
set_option maxHeartbeats 8000000 in
theorem law_bruns (v : Value) (bs : List Int) (a b n : Int) (w : World) (hv : Bs w v bs) (hb : IsBy bs) (ha : a ≤ 9223372036854775807) (hb0 : b ≤ 9223372036854775807) : Calls Try.prog 5 #[v, .int .i64 a, .int .i64 b, .int .i64 n] w fun e w' => e = .returned (.bool true) ∧ Chg (fun _ => False) w w' := by
  have H : Hid (Bs w v bs ∧ IsBy bs) := ⟨hv, hb⟩
  obtain ⟨va, vc, rfl, hvc⟩ := hv.formB
  clear hv hvc hb
  by_cases g1 : 60 < bs.length
  · have k1 : decide (60 < (bs.length : Int)) = true := by simp; omega
    clear g1
    go_enter Try.func5, Try.ntmps5
    go_wp2_with fail
    refine (knownB w).mono ?_
    rintro e w1 ⟨rfl, hc⟩
    have HC : Hid (Chg (fun _ => False) w w1) := hc
    clear hc
    go_wp2
    go_ret
    exact ⟨rfl, HC.out⟩
  have k1 : decide (60 < (bs.length : Int)) = false := by simp; omega
  by_cases g2 : n < 1
  · have k2 : decide (n < 1) = true := by simpa using g2
    clear g1 g2
    go_enter Try.func5, Try.ntmps5
    go_wp2_with fail
    refine (knownB w).mono ?_
    rintro e w1 ⟨rfl, hc⟩
    have HC : Hid (Chg (fun _ => False) w w1) := hc
    clear hc
    go_wp2
    go_ret
    exact ⟨rfl, HC.out⟩
  have k2 : decide (n < 1) = false := by simpa using g2
  by_cases g3 : 480 < n
  · have k3 : decide (480 < n) = true := by simpa using g3
    clear g1 g2 g3
    go_enter Try.func5, Try.ntmps5
    go_wp2_with fail
    refine (knownB w).mono ?_
    rintro e w1 ⟨rfl, hc⟩
    have HC : Hid (Chg (fun _ => False) w w1) := hc
    clear hc
    go_wp2
    go_ret
    exact ⟨rfl, HC.out⟩
  obtain ⟨N, rfl⟩ := Int.eq_ofNat_of_zero_le (show 0 ≤ n by omega)
  exact law_bruns_in _ bs a b N w H.out.1 H.out.2 ha hb0 (by omega) (by omega) (by omega)
end Go.Proofs.Ytmlhjcjonfalhaa

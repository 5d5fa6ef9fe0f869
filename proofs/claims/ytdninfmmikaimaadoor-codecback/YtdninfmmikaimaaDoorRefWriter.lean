/-
  Contracts of the reference's writer (package mailbagref1): Number, Fixed and Bytes lay the same bytes as codec's.
-/
import Derived.Test.YtdninfmmikaimaaDoorLawFixed
namespace Go.Proofs.YtdninfmmikaimaaDoor
open Go.RowKit
attribute [local go_sem ↓] Go.wp_at_zero Go.wp_at_succ

theorem pow_dvd64 (k : Nat) (hk : k < 8) : (18446744073709551616 : Int) = 256 ^ k * (256 * 256 ^ (7 - k)) := by
  have hc : k = 0 ∨ k = 1 ∨ k = 2 ∨ k = 3 ∨ k = 4 ∨ k = 5 ∨ k = 6 ∨ k = 7 := by omega
  rcases hc with rfl | rfl | rfl | rfl | rfl | rfl | rfl | rfl <;> decide
theorem low64 (n : Int) (k : Nat) (hk : k < 8) : n % 18446744073709551616 / 256 ^ k % 256 = n / 256 ^ k % 256 := by
  have hp : (0 : Int) < 256 ^ k := Int.pow_pos (by decide)
  have e : n % 18446744073709551616 = n - 18446744073709551616 * (n / 18446744073709551616) := Int.emod_def ..
  rw [e]
  have h2 : n - 18446744073709551616 * (n / 18446744073709551616) = n + 256 ^ k * (-(256 * 256 ^ (7 - k) * (n / 18446744073709551616))) := by
    have h3 : (18446744073709551616 : Int) * (n / 18446744073709551616) = 256 ^ k * (256 * 256 ^ (7 - k)) * (n / 18446744073709551616) := by rw [← pow_dvd64 k hk]
    rw [h3, Int.mul_neg, ← Int.sub_eq_add_neg, Int.mul_assoc (256 ^ k)]
  rw [h2, Int.add_mul_ediv_left _ _ (Int.ne_of_gt hp)]
  have h4 : -(256 * 256 ^ (7 - k) * (n / 18446744073709551616)) = 256 * (-(256 ^ (7 - k) * (n / 18446744073709551616))) := by
    rw [Int.mul_neg, Int.mul_assoc]
  rw [h4, Int.add_mul_emod_self_left]

set_option maxHeartbeats 800000 in
set_option maxRecDepth 100000 in
theorem refNumber_any (N p : Nat) (n : Int) (size : Nat) (v : Value) (xs : List Int) (w : World) (hw : WrT 30 N w p v xs) (hsz : size ≤ 8) (hlen : xs.length + size ≤ 1099511627776) :
    Calls Tryd.prog 13 #[.pointer (some ⟨p, 0, none⟩), .int .i64 n, .int .i64 size] w fun e w' => e = .returned (.tuple #[]) ∧ ∃ v', WrToT 30 N p w v w' v' (xs ++ leTo n size) := by
  obtain ⟨i0, hi, hz0, hz1, hz2⟩ := info_parts info5
  go_enter Tryd.func13, Tryd.ntmps13
  go_wp2
  go_loopw [6, 7] (fun m i wr => ∃ k : Nat, k ≤ size ∧ i = .int .i64 k ∧ m = .int .u64 (n % 18446744073709551616 / 256 ^ k) ∧ ∃ v', WrToT 30 N p w v wr v' (xs ++ leTo n k)) (fun _ i _ => size - (intOf i).toNat)
  case atStart => exact ⟨0, Nat.zero_le _, rfl, by simp [IntKind.wrap_u64], v, by simpa [leTo] using WrToT.refl hw⟩
  case round =>
    obtain ⟨k, hk, rfl, rfl, v', hto⟩ := hrel
    have hcl := hto.wr.cell
    have hfr := hto.wr.frozen
    by_cases hlt : k < size
    · have hll := leTo_len n k
      have HL : Hid (n % 18446744073709551616 / 256 ^ k % 256 = n / 256 ^ k % 256) := low64 n k (by omega)
      have hd : Hid (n % 18446744073709551616 / 256 ^ k / 256 = n % 18446744073709551616 / 256 ^ (k + 1)) := div_pow _ k
      have hb0 : 0 ≤ n % 18446744073709551616 / 256 ^ k := Int.ediv_nonneg (by omega) (Int.pow_nonneg (by decide))
      have hb1 : n % 18446744073709551616 / 256 ^ k < 18446744073709551616 := Int.lt_of_le_of_lt (Int.ediv_le_self _ (by omega)) (by omega)
      generalize n % 18446744073709551616 / 256 ^ k = m at *
      go_wp2_with (at_builtin; go_must (refine wpList_app rfl (.tmp 19) (.tmp 22) 28 rfl N i0 Tryd.underlying28 hi hz0 hz1 hz2 _ _ _ _ _ rfl (hto.wr.own.alloc _) rfl (Bs.one _ _) ?c1 ?c2 ?next))
      case c1 => simp; omega
      case c2 => have := hto.wr.lt; have := hto.wr.le; simp; omega
      case next =>
        intro v2 w1 hown hgrow hat
        obtain ⟨ht2, hc1, hf1⟩ := hto.wr.push hgrow hown hat
        obtain ⟨g, cap, hv2⟩ := own_form hown (by simp)
        rw [HL.out, ← leTo_succ] at ht2
        have ht3 := hto.trans ht2
        subst hv2
        clear hown hgrow hat ht2 hcl hfr hto HL
        go_wp2
        go_roundw
        case rel => exact ⟨k + 1, by omega, by go_num, by rw [hd.out], _, ht3⟩
        case measure => simp [intOf]; omega
    · go_wp2
      go_end0
      have e : k = size := by omega
      subst e
      exact ⟨rfl, v', hto⟩

set_option maxHeartbeats 800000 in
theorem refBytes_any (N p : Nat) (v b : Value) (xs bs : List Int) (w : World) (hw : WrT 30 N w p v xs) (hb : Bs w b bs) (ha : Apart b v p) (hlen : xs.length + bs.length + 4 ≤ 1099511627776) :
    Calls Tryd.prog 19 #[.pointer (some ⟨p, 0, none⟩), b] w fun e w' => e = .returned (.tuple #[]) ∧ ∃ v', WrToT 30 N p w v w' v' (xs ++ leTo bs.length 4 ++ bs) := by
  obtain ⟨i0, hi, hz0, hz1, hz2⟩ := info_parts info5
  obtain ⟨ab, cb, hbv⟩ : ∃ a c, b = .slice a bs.length c := by
    rcases hb with ⟨rfl, rfl⟩ | ⟨a, c, rfl, _⟩
    · exact ⟨none, 0, rfl⟩
    · exact ⟨_, _, rfl⟩
  subst hbv
  go_enter Tryd.func19, Tryd.ntmps19
  go_wp2_with fail
  refine (refNumber_any N p bs.length 4 v xs _ hw (by omega) (by omega)).mono ?_
  rintro e w1 ⟨rfl, v1, h1⟩
  have hb1 := h1.bs hb ha
  have hcl := h1.wr.cell
  have hfr := h1.wr.frozen
  have hll := leTo_len bs.length 4
  go_wp2_with (at_builtin; go_must (refine wpList_app rfl (.tmp 12) (.tmp 13) 28 rfl N i0 Tryd.underlying28 hi hz0 hz1 hz2 _ _ _ _ _ rfl h1.wr.own rfl hb1 ?c1 ?c2 ?next))
  case c1 => simp; omega
  case c2 => have := h1.wr.lt; have := h1.wr.le; omega
  case next =>
    intro v2 w2 hown hgrow hat
    obtain ⟨ht2, hc1, hf1⟩ := h1.wr.pushAt hgrow hown hat
    obtain ⟨g, cap, hv2⟩ := own_form hown (by omega)
    have ht3 := h1.trans ht2
    subst hv2
    clear hown hgrow hat ht2 hcl hfr h1
    go_wp2
    go_end0
    exact ⟨rfl, _, by simpa using ht3⟩

theorem grown_undrew {w w' : World} {row : Option Nat} (h : w.drew.grownBy w' row) : w.grownBy w' row := ⟨h.os, h.tape, h.output, h.size, h.block⟩
theorem fixB_take (bs : List Int) (size : Int) (k : Nat) (hk : k < (min size 65536).toNat) : (fixB bs size).take (k + 1) = (fixB bs size).take k ++ [if k < bs.length then bs.getD k 0 else 0] := by
  have hl : k < (fixB bs size).length := by rw [fixB_len]; exact hk
  rw [List.take_succ_eq_append_getElem hl, ← fixB_get bs size k hk]
  simp [List.getD, hl]

set_option maxHeartbeats 800000 in
set_option maxRecDepth 100000 in
theorem refFixed_any (N p : Nat) (v b : Value) (size : Int) (xs bs : List Int) (w : World) (hw : WrT 30 N w p v xs) (hb : Bs w b bs) (ha : Apart b v p) (hs : size ≤ 65536) (hlen : xs.length + 65536 ≤ 1099511627776) :
    Calls Tryd.prog 17 #[.pointer (some ⟨p, 0, none⟩), b, .int .i64 size] w fun e w' => e = .returned (.tuple #[]) ∧ ∃ v', WrToT 30 N p w v w' v' (xs ++ fixB bs size) := by
  obtain ⟨i0, hi, hz0, hz1, hz2⟩ := info_parts info5
  obtain ⟨ab, cb, rfl, hcb⟩ := hb.form
  have k1 : decide ((65536 : Int) < size) = false := by simp; omega
  have hfl := fixB_len bs size
  go_enter Tryd.func17, Tryd.ntmps17
  go_wp2
  go_loopw [6] (fun i wr => ∃ k : Nat, k ≤ size.toNat ∧ i = .int .i64 k ∧ ∃ v', WrToT 30 N p w v wr v' (xs ++ (fixB bs size).take k)) (fun i _ => size.toNat - (intOf i).toNat)
  case atStart => exact ⟨0, Nat.zero_le _, rfl, v, by simpa using WrToT.refl hw⟩
  case round =>
    obtain ⟨k, hk, rfl, v', hto⟩ := hrel
    have hcl := hto.wr.cell
    have hfr := hto.wr.frozen
    have hb1 := hto.bs hb ha
    by_cases hlt : (k : Int) < size
    · have hln : (xs ++ (fixB bs size).take k).length < xs.length + 65536 := by simp; omega
      have HF : Hid ((fixB bs size).take (k + 1) = (fixB bs size).take k ++ [if k < bs.length then bs.getD k 0 else 0]) := fixB_take bs size k (by omega)
      have hN : N ≤ wr.heap.size := by have := hto.wr.lt; have := hto.wr.le; omega
      generalize hY : xs ++ (fixB bs size).take k = ys at *
      have HY : Hid (xs ++ (fixB bs size).take k = ys) := hY
      clear hY hfl
      by_cases hkb : k < bs.length
      · rw [if_pos hkb] at HF
        obtain ⟨bb, off, rfl, hcs⟩ := hb1.at hkb
        have hcb := hcs k hkb
        clear hcs hb1 hb ha
        generalize bs.getD k 0 = x at *
        have g3 : (k : Int) < (bs.length : Int) := by omega
        have hd := WrToT.drew hto.wr
        have hl1 : ys.length + ([x] : List Int).length ≤ 1099511627776 := by simp; omega
        have hbo : Bs (wr.alloc (.cells #[.int .u8 x] 5)).drew (.slice (some ⟨wr.heap.size, 0, none⟩) 1 1) [x] := Bs.one wr x
        have hN' : N ≤ (wr.alloc (.cells #[.int .u8 x] 5)).drew.heap.size := by simp; omega
        have ho' : (wr.alloc (.cells #[.int .u8 x] 5)).drew.ownsRow N 5 1 v' ys.length (bcells ys) := hto.wr.own.alloc _
        have hcl2 : (wr.alloc (.cells #[.int .u8 x] 5)).cell? ⟨p, 0, none⟩ = some v' := (Chg.alloc (fun _ => False) wr _).cell hcl (fun h => h)
        go_wp2
        go_region_law ((refine step_app (by rfl) (.tmp 22) (.tmp 27) 28 (by rfl) N i0 Tryd.underlying28 hi hz0 hz1 hz2 v' (.slice (some ⟨wr.heap.size, 0, none⟩) 1 1) ys.length ys [x] (by rfl) ho' (by rfl) hbo hl1 hN' ?_; intro v2 w2 hown hgrow hat; obtain ⟨ht2, hc1, hf1⟩ := hto.wr.push (grown_undrew hgrow) hown (by simpa using hat); obtain ⟨g, cap, rfl⟩ := own_slice hown))
        all_goals
          have ht3 := hto.trans ht2
          have ht4 : WrToT 30 N p w v (w2.setCell ⟨p, 0, none⟩ (.slice g (ys.length + ([x] : List Int).length) cap)) (.slice g (ys.length + ([x] : List Int).length) cap) (xs ++ (fixB bs size).take (k + 1)) := by rw [HF.out, ← List.append_assoc, HY.out]; exact ht3
          clear hown hgrow hat ht2 hc1 hf1 hd hcl hcl2 hfr hto ho' hbo ht3
          go_wp2
          go_roundw
          case rel => exact ⟨k + 1, by omega, by go_num, _, ht4⟩
          case measure => simp [intOf]; omega
      · rw [if_neg hkb] at HF
        clear hb1 hb ha
        have g3 : ¬ ((k : Int) < (bs.length : Int)) := by omega
        have hl1 : ys.length + ([0] : List Int).length ≤ 1099511627776 := by simp; omega
        go_wp2_with (at_builtin; go_must (refine wpList_app rfl (.tmp 35) (.tmp 36) 28 rfl N i0 Tryd.underlying28 hi hz0 hz1 hz2 _ _ _ _ _ rfl (hto.wr.own.alloc _) rfl (Bs.one _ _) hl1 ?c2 ?next))
        case c2 => omega
        case next =>
          intro v2 w2 hown hgrow hat
          obtain ⟨ht2, hc1, hf1⟩ := hto.wr.push hgrow hown (by simpa using hat)
          obtain ⟨g, cap, rfl⟩ := own_slice hown
          have ht3 := hto.trans ht2
          have ht4 : WrToT 30 N p w v (w2.setCell ⟨p, 0, none⟩ (.slice g (ys.length + 1) cap)) (.slice g (ys.length + 1) cap) (xs ++ (fixB bs size).take (k + 1)) := by rw [HF.out, ← List.append_assoc, HY.out]; exact ht3
          clear hown hgrow hat ht2 hcl hfr hto ht3
          go_wp2
          go_roundw
          case rel => exact ⟨k + 1, by omega, by go_num, _, ht4⟩
          case measure => simp [intOf]; omega
    · have e : (fixB bs size).take k = fixB bs size := List.take_of_length_le (by omega)
      rw [e] at hto
      clear hb1 hb ha
      go_wp2
      go_end0
      exact ⟨rfl, v', hto⟩
end Go.Proofs.YtdninfmmikaimaaDoor

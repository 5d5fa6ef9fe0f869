/-
  The contract of the reference's writer (package mailbagref1): Number lays the same bytes as codec's.
-/
import Derived.Test.YtbhfmceapffhnaaDoorKHelp
namespace Go.Proofs.YtbhfmceapffhnaaDoor
open Go.RowKit
attribute [local go_sem ↓] Go.wp_at_zero Go.wp_at_succ

theorem pow_dvd64 (k : Nat) (hk : k < 8) : (18446744073709551616 : Int) = 256 ^ k * (256 * 256 ^ (7 - k)) := by
  have hc : k = 0 ∨ k = 1 ∨ k = 2 ∨ k = 3 ∨ k = 4 ∨ k = 5 ∨ k = 6 ∨ k = 7 := by omega
  rcases hc with rfl | rfl | rfl | rfl | rfl | rfl | rfl | rfl <;> decide
theorem low64 (n : Int) (k : Nat) (hk : k < 8) : n % 18446744073709551616 / 256 ^ k % 256 = n / 256 ^ k % 256 := by
  have hp : (0 : Int) < 256 ^ k := Int.pow_pos (by decide)
  have e : n % 18446744073709551616 = n - 18446744073709551616 * (n / 18446744073709551616) := Int.emod_def ..
  rw [e]
  have h2 : n - 18446744073709551616 * (n / 18446744073709551616) = n + 256 ^ k * (-(256 * 256 ^ (7 - k) * (n / 18446744073709551616))) := by
    have h3 : (18446744073709551616 : Int) * (n / 18446744073709551616) = 256 ^ k * (256 * 256 ^ (7 - k)) * (n / 18446744073709551616) := by rw [← pow_dvd64 k hk]
    rw [h3, Int.mul_neg, ← Int.sub_eq_add_neg, Int.mul_assoc (256 ^ k)]
  rw [h2, Int.add_mul_ediv_left _ _ (Int.ne_of_gt hp)]
  have h4 : -(256 * 256 ^ (7 - k) * (n / 18446744073709551616)) = 256 * (-(256 ^ (7 - k) * (n / 18446744073709551616))) := by
    rw [Int.mul_neg, Int.mul_assoc]
  rw [h4, Int.add_mul_emod_self_left]
theorem refNumber_any (N p : Nat) (n : Int) (size : Nat) (v : Value) (xs : List Int) (w : World) (hw : WrT 85 N w p v xs) (hsz : size ≤ 8) (hlen : xs.length + size ≤ 1099511627776) :
    Calls Tryd.prog 47 #[.pointer (some ⟨p, 0, none⟩), .int .i64 n, .int .i64 size] w fun e w' => e = .returned (.tuple #[]) ∧ ∃ v', WrToT 85 N p w v w' v' (xs ++ leTo n size) := by
  obtain ⟨i0, hi, hz0, hz1, hz2⟩ := info_parts cinfo5
  go_enter Tryd.func47, Tryd.ntmps47
  go_wp2
  go_loopw [6, 7] (fun m i wr => ∃ k : Nat, k ≤ size ∧ i = .int .i64 k ∧ m = .int .u64 (n % 18446744073709551616 / 256 ^ k) ∧ ∃ v', WrToT 85 N p w v wr v' (xs ++ leTo n k)) (fun _ i _ => size - (intOf i).toNat)
  case atStart => exact ⟨0, Nat.zero_le _, rfl, by simp [IntKind.wrap_u64], v, by simpa [leTo] using WrToT.refl hw⟩
  case round =>
    obtain ⟨k, hk, rfl, rfl, v', hto⟩ := hrel
    have hcl := hto.wr.cell
    have hfr := hto.wr.frozen
    by_cases hlt : k < size
    · have hll := leTo_len n k
      have HL : Hid (n % 18446744073709551616 / 256 ^ k % 256 = n / 256 ^ k % 256) := low64 n k (by omega)
      have hd : Hid (n % 18446744073709551616 / 256 ^ k / 256 = n % 18446744073709551616 / 256 ^ (k + 1)) := div_pow _ k
      have hb0 : 0 ≤ n % 18446744073709551616 / 256 ^ k := Int.ediv_nonneg (by omega) (Int.pow_nonneg (by decide))
      have hb1 : n % 18446744073709551616 / 256 ^ k < 18446744073709551616 := Int.lt_of_le_of_lt (Int.ediv_le_self _ (by omega)) (by omega)
      generalize n % 18446744073709551616 / 256 ^ k = m at *
      go_wp2_with (at_builtin; go_must (refine wpList_app rfl (.tmp 19) (.tmp 22) 52 rfl N i0 Tryd.underlying52 hi hz0 hz1 hz2 _ _ _ _ _ rfl (hto.wr.own.alloc _) rfl (Bs.one _ _) ?c1 ?c2 ?next))
      case c1 => simp; omega
      case c2 => have := hto.wr.lt; have := hto.wr.le; simp; omega
      case next =>
        intro v2 w1 hown hgrow hat
        obtain ⟨ht2, hc1, hf1⟩ := hto.wr.push hgrow hown hat
        obtain ⟨g, cap, hv2⟩ := own_form hown (by simp)
        rw [HL.out, ← leTo_succ] at ht2
        have ht3 := hto.trans ht2
        subst hv2
        clear hown hgrow hat ht2 hcl hfr hto HL
        go_wp2
        go_roundw
        case rel => exact ⟨k + 1, by omega, by go_num, by rw [hd.out], _, ht3⟩
        case measure => simp [intOf]; omega
    · go_wp2
      go_end0
      have e : k = size := by omega
      subst e
      exact ⟨rfl, v', hto⟩
end Go.Proofs.YtbhfmceapffhnaaDoor

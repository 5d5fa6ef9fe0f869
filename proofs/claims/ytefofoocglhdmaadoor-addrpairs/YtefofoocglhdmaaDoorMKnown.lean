/-
  known.
-/
import Derived.Test.YtefofoocglhdmaaDoorMPP
namespace Go.Proofs.YtefofoocglhdmaaDoor
open Go.RowKit

theorem k_path : pathR [60, 64, 120, 46, 121, 44, 64, 122, 58, 34, 97, 32, 98, 34, 64, 72, 111, 115, 116, 46, 101, 120, 97, 109, 112, 108, 101, 62, 32, 107] = ([97, 32, 98], [72, 111, 115, 116, 46, 101, 120, 97, 109, 112, 108, 101], [32, 107], 0) := by decide +kernel
theorem k_parse : parseR [60, 97, 46, 98, 64, 99, 62] = ([97, 46, 98], [99], 0) := by decide +kernel
theorem k_print : prn [97, 32, 98] [72, 111, 115, 116, 46, 101, 120, 97, 109, 112, 108, 101] = [60, 34, 97, 32, 98, 34, 64, 72, 111, 115, 116, 46, 101, 120, 97, 109, 112, 108, 101, 62] := by decide +kernel
theorem k_same : samB [97, 46, 98] [99] [97, 46, 98] [67] = true := by decide +kernel
theorem k_dom1 : domB [91, 49, 46, 50, 46, 51, 46, 52, 93] = true := by decide +kernel
theorem k_dom2 : domB [45, 97] = false := by decide +kernel

set_option maxHeartbeats 3200000 in
theorem known_any (N : Nat) (w : World) (hV : Vr N w) : Calls Tryd.prog 9 #[] w fun e w' => e = .returned (.bool true) ∧ Below w.heap.size w w' := by
  have H1 : Hid (∀ w1, Vr N w1 → Calls Tryd.prog 10 #[.string ⟨#[60, 64, 120, 46, 121, 44, 64, 122, 58, 34, 97, 32, 98, 34, 64, 72, 111, 115, 116, 46, 101, 120, 97, 109, 112, 108, 101, 62, 32, 107]⟩] w1 fun e w' => e = .returned (.tuple #[adV ⟨#[97, 32, 98]⟩ ⟨#[72, 111, 115, 116, 46, 101, 120, 97, 109, 112, 108, 101]⟩, .string ⟨#[32, 107]⟩, .int .i64 0]) ∧ Below w1.heap.size w1 w') := fun w1 h1 => by
    have := Path_any N ⟨#[60, 64, 120, 46, 121, 44, 64, 122, 58, 34, 97, 32, 98, 34, 64, 72, 111, 115, 116, 46, 101, 120, 97, 109, 112, 108, 101, 62, 32, 107]⟩ w1 (by decide) h1
    rw [show (⟨#[60, 64, 120, 46, 121, 44, 64, 122, 58, 34, 97, 32, 98, 34, 64, 72, 111, 115, 116, 46, 101, 120, 97, 109, 112, 108, 101, 62, 32, 107]⟩ : ByteArray).data.toList = [60, 64, 120, 46, 121, 44, 64, 122, 58, 34, 97, 32, 98, 34, 64, 72, 111, 115, 116, 46, 101, 120, 97, 109, 112, 108, 101, 62, 32, 107] from rfl, k_path] at this
    exact this
  have H2 : Hid (∀ w1, Vr N w1 → Calls Tryd.prog 12 #[.string ⟨#[60, 97, 46, 98, 64, 99, 62]⟩] w1 fun e w' => e = .returned (.tuple #[adV ⟨#[97, 46, 98]⟩ ⟨#[99]⟩, .int .i64 0]) ∧ Below w1.heap.size w1 w') := fun w1 h1 => by
    have := Parse_any N ⟨#[60, 97, 46, 98, 64, 99, 62]⟩ w1 (by decide) h1
    rw [show (⟨#[60, 97, 46, 98, 64, 99, 62]⟩ : ByteArray).data.toList = [60, 97, 46, 98, 64, 99, 62] from rfl, k_parse] at this
    exact this
  have H3 : Hid (∀ w1, Vr N w1 → Calls Tryd.prog 25 #[adV ⟨#[97, 32, 98]⟩ ⟨#[72, 111, 115, 116, 46, 101, 120, 97, 109, 112, 108, 101]⟩] w1 fun e w' => e = .returned (.string ⟨#[60, 34, 97, 32, 98, 34, 64, 72, 111, 115, 116, 46, 101, 120, 97, 109, 112, 108, 101, 62]⟩) ∧ Below w1.heap.size w1 w') := fun w1 h1 => by
    have := print_any N ⟨#[97, 32, 98]⟩ ⟨#[72, 111, 115, 116, 46, 101, 120, 97, 109, 112, 108, 101]⟩ w1 (by decide) (by decide) h1
    rw [show (⟨#[97, 32, 98]⟩ : ByteArray).data.toList = [97, 32, 98] from rfl, show (⟨#[72, 111, 115, 116, 46, 101, 120, 97, 109, 112, 108, 101]⟩ : ByteArray).data.toList = [72, 111, 115, 116, 46, 101, 120, 97, 109, 112, 108, 101] from rfl, k_print] at this
    exact this
  have H4 : Hid (∀ w1, Calls Tryd.prog 21 #[adV ⟨#[97, 46, 98]⟩ ⟨#[99]⟩, adV ⟨#[97, 46, 98]⟩ ⟨#[67]⟩] w1 fun e w' => e = .returned (.bool true) ∧ Below w1.heap.size w1 w') := fun w1 => by
    have := same_any ⟨#[97, 46, 98]⟩ ⟨#[99]⟩ ⟨#[97, 46, 98]⟩ ⟨#[67]⟩ w1 (by decide) (by decide)
    rw [show samB (⟨#[97, 46, 98]⟩ : ByteArray).data.toList (⟨#[99]⟩ : ByteArray).data.toList (⟨#[97, 46, 98]⟩ : ByteArray).data.toList (⟨#[67]⟩ : ByteArray).data.toList = true from k_same] at this
    exact this
  have H5 : Hid (∀ w1, Vr N w1 → Calls Tryd.prog 14 #[.string ⟨#[91, 49, 46, 50, 46, 51, 46, 52, 93]⟩] w1 fun e w' => e = .returned (.bool true) ∧ Below w1.heap.size w1 w') := fun w1 h1 => by
    have := domain_any N ⟨#[91, 49, 46, 50, 46, 51, 46, 52, 93]⟩ w1 (by decide) h1
    rw [show domB (⟨#[91, 49, 46, 50, 46, 51, 46, 52, 93]⟩ : ByteArray).data.toList = true from k_dom1] at this
    exact this
  have H6 : Hid (∀ w1, Vr N w1 → Calls Tryd.prog 14 #[.string ⟨#[45, 97]⟩] w1 fun e w' => e = .returned (.bool false) ∧ Below w1.heap.size w1 w') := fun w1 h1 => by
    have := domain_any N ⟨#[45, 97]⟩ w1 (by decide) h1
    rw [show domB (⟨#[45, 97]⟩ : ByteArray).data.toList = false from k_dom2] at this
    exact this
  have HV : Hid (Vr N w) := hV
  clear hV
  go_enter Tryd.func9, Tryd.ntmps9
  go_wp2_with (first
    | (go_at_call 10; refine (H1.out _ HV.out).mono ?_; rintro e w1 ⟨rfl, hB1⟩; have B := hB1; have A1 := Ad.new w1 ⟨#[97, 32, 98]⟩ ⟨#[72, 111, 115, 116, 46, 101, 120, 97, 109, 112, 108, 101]⟩; have B1 := alloc_below w1 (.cells #[.string ⟨#[97, 32, 98]⟩, .string ⟨#[72, 111, 115, 116, 46, 101, 120, 97, 109, 112, 108, 101]⟩] 24); have HB1 := toHid (hB1.trans (B1.mono hB1.size)); clear B B1 hB1)
    | (go_at_call 12; refine (H2.out _ (HV.out.new HB1.out)).mono ?_; rintro e w2 ⟨rfl, hB2⟩; have A2 := Ad.new w2 ⟨#[97, 46, 98]⟩ ⟨#[99]⟩; have B2 := alloc_below w2 (.cells #[.string ⟨#[97, 46, 98]⟩, .string ⟨#[99]⟩] 24); have A1' := (A1.more hB2).more B2; have HB2 := toHid ((HB1.out.trans (hB2.mono HB1.out.size)).trans (B2.mono (Nat.le_trans HB1.out.size hB2.size))); have c0 := A1'.c0; have c1 := A1'.c1; have d0 := A2.c0; have d1 := A2.c1; clear hB2 B2)
    | (go_at_call 25; refine (H3.out _ (HV.out.new HB2.out)).mono ?_; rintro e w3 ⟨rfl, hB3⟩; have d0 := (A2.more hB3).c0; have d1 := (A2.more hB3).c1; have HB3 := toHid (HB2.out.trans (hB3.mono HB2.out.size)); clear hB3)
    | (go_at_call 21; refine (H4.out _).mono ?_; rintro e w4 ⟨rfl, hB4⟩; have HB4 := toHid (HB3.out.trans (hB4.mono HB3.out.size)); clear hB4)
    | (go_at_call 14; with_reducible refine (H5.out _ (HV.out.new HB4.out)).mono ?_; rintro e w5 ⟨rfl, hB5⟩; have HB5 := toHid (HB4.out.trans (hB5.mono HB4.out.size)); clear hB5)
    | (go_at_call 14; with_reducible refine (H6.out _ (HV.out.new HB5.out)).mono ?_; rintro e w6 ⟨rfl, hB6⟩; have HB6 := toHid (HB5.out.trans (hB6.mono HB5.out.size)); clear hB6))
  go_ret
  exact ⟨rfl, HB6.out⟩
end Go.Proofs.YtefofoocglhdmaaDoor

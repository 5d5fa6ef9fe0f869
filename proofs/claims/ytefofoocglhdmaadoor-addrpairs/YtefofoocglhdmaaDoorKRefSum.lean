/-
  The contract of the reference's Sum: it answers as codec's does.
-/
import Derived.Test.YtefofoocglhdmaaDoorKCrc
namespace Go.Proofs.YtefofoocglhdmaaDoor
open Go.RowKit


/-- k bits of the division. -/
def bitsN : Nat → Nat → Nat
  | 0, c => c
  | k + 1, c => bitN (bitsN k c)
theorem stepN_bits (c x : Nat) : stepN c x = bitsN 8 (c ^^^ x) := by
  unfold stepN
  rw [half_bits, half_bits]
  rfl
/-- The sum of bytes. -/
def sumV (bs : List Int) : Nat := 4294967295 - crcN 4294967295 bs
theorem bit_forms (s : Nat) (hs : s < 4294967296) : bits .and .u32 (s : Int) 1 = ((s % 2 : Nat) : Int) ∧ (s % 2 = 1 → bits .xor .u32 ((s : Int) / 2) 3988292384 = ((bitN s : Nat) : Int)) ∧ (s % 2 = 0 → (s : Int) / 2 = ((bitN s : Nat) : Int)) ∧ bitN s < 4294967296 := by
  refine ⟨?_, fun h => ?_, fun h => ?_, bitN_lt s hs⟩
  · have h1 := u32_and_nat s 1 hs (by omega)
    have e : s &&& 1 = s % 2 := Nat.and_one_is_mod s
    rw [e] at h1
    exact h1
  · have h1 := u32_xor_nat (s / 2) 3988292384 (by omega) (by omega)
    have e : ((s / 2 : Nat) : Int) = (s : Int) / 2 := by omega
    rw [e] at h1
    rw [show bitN s = s / 2 ^^^ 3988292384 by simp [bitN, h]]
    exact h1
  · have e : bitN s = s / 2 := by simp [bitN, h]
    rw [e]
    omega

set_option maxHeartbeats 1600000 in
set_option maxRecDepth 100000 in
theorem refSum_any (v : Value) (bs : List Int) (w : World) (hb : Bs w v bs) (hB : IsB bs) (hlen : bs.length ≤ 1099511627776) :
    Calls Tryd.prog 45 #[v] w fun e w' => e = .returned (.int .u32 ((sumV bs : Nat) : Int)) ∧ w' = w := by
  obtain ⟨ab, cb, rfl, hcb⟩ := hb.formC
  go_enter Tryd.func45, Tryd.ntmps45
  go_wp2
  go_loop [3, 4] (fun n i => ∃ (k : Nat) (s : Nat), k ≤ bs.length ∧ i = .int .i64 k ∧ n = .int .u32 s ∧ s < 4294967296 ∧ Hid (s = crcN 4294967295 (bs.take k))) (fun _ i => bs.length - (intOf i).toNat)
  case atStart => exact ⟨0, 4294967295, Nat.zero_le _, rfl, rfl, by omega, by simp [Hid, crcN]⟩
  case round =>
    obtain ⟨k, s, hk, rfl, rfl, hs1, HS⟩ := hrel
    by_cases hlt : k < bs.length
    · obtain ⟨b, off, rfl, hcs⟩ := hb.atC hlt
      have hc := hcs k hlt
      have hx := hB.at hlt
      have HC := crcN_take 4294967295 bs k hlt
      rw [← HS.out] at HC
      clear hcs hB hb
      generalize bs.getD k 0 = x at *
      obtain ⟨hx0, hx1⟩ := hx
      have hki : (k : Int) < (bs.length : Int) := by omega
      obtain ⟨c1, r1, b1, e1⟩ := byte_forms s x hs1 hx0 hx1
      have HE : Hid (crcN 4294967295 (bs.take (k + 1)) = bitsN 8 c1) := by rw [HC, stepN_bits, ← e1]; rfl
      clear HC e1 HS
      go_wp2
      go_loop [3, 5] (fun n i => ∃ (j : Nat) (s : Nat), j ≤ 8 ∧ i = .int .i64 j ∧ n = .int .u32 s ∧ s < 4294967296 ∧ Hid (s = bitsN j c1)) (fun _ i => 8 - (intOf i).toNat)
      case atStart => exact ⟨0, c1, Nat.zero_le _, rfl, rfl, b1, rfl⟩
      case round =>
        obtain ⟨j, s2, hj, rfl, rfl, hs2, HS2⟩ := hrel
        by_cases hj8 : j < 8
        · obtain ⟨f1, f2, f3, f4⟩ := bit_forms s2 hs2
          have HN : Hid (bitN s2 = bitsN (j + 1) c1) := by rw [HS2.out]; rfl
          have g1 : (j : Int) < 8 := by omega
          clear HS2
          by_cases hp : s2 % 2 = 1
          · have f2' := f2 hp
            rw [hp] at f1
            have f1' : bits .and .u32 (s2 : Int) 1 = 1 := f1
            clear f1 f2 f3
            generalize bitN s2 = s3 at *
            go_wp2
            go_roundw
            case rel => exact ⟨j + 1, s3, by omega, by go_num, rfl, f4, HN⟩
            case measure => simp [intOf]; omega
          · have hp0 : s2 % 2 = 0 := by omega
            have f3' := f3 hp0
            rw [hp0] at f1
            have f1' : bits .and .u32 (s2 : Int) 1 = 0 := f1
            clear f1 f2 f3
            generalize bitN s2 = s3 at *
            go_wp2
            go_roundw
            case rel => exact ⟨j + 1, s3, by omega, by go_num, by first | rfl | rw [f3'], f4, HN⟩
            case measure => simp [intOf]; omega
        · have e8 : j = 8 := by omega
          subst e8
          have HF : Hid (s2 = crcN 4294967295 (bs.take (k + 1))) := by rw [HE.out]; exact HS2.out
          clear HS2 HE
          go_wp2
          go_roundw
          case rel => exact ⟨k + 1, s2, by omega, by go_num, rfl, hs2, HF⟩
          case measure => simp [intOf]; omega
    · go_wp2
      go_ret
      refine ⟨?_, rfl⟩
      have e : bs.take k = bs := List.take_of_length_le (by omega)
      have hs : s = crcN 4294967295 bs := by rw [HS.out, e]
      subst hs
      clear hb hB HS
      exact ret_eq (turned _ hs1)
end Go.Proofs.YtefofoocglhdmaaDoor

/-
  Plain facts on the sum: the table's half byte is four bits of the division, each step can be undone, so one turned bit is seen.
-/
import Derived.Test.YtefofoocglhdmaaDoorKSum
namespace Go.Proofs.YtefofoocglhdmaaDoor
open Go.RowKit


theorem xor_r {a b c : Nat} (h : a ^^^ c = b ^^^ c) : a = b := by
  have h2 := congrArg (fun z => z ^^^ c) h
  simpa [Nat.xor_assoc] using h2
theorem xor_l {a b c : Nat} (h : c ^^^ a = c ^^^ b) : a = b := xor_r (c := c) (by rw [Nat.xor_comm a, Nat.xor_comm b]; exact h)

/-- One bit of the division. -/
def bitN (c : Nat) : Nat := (c / 2) ^^^ (if c % 2 = 1 then 3988292384 else 0)

theorem half_xor (a b : Nat) : (a ^^^ b) / 2 = (a / 2) ^^^ (b / 2) := by
  have := Nat.shiftRight_xor_distrib (a := a) (b := b) (i := 1)
  simpa [Nat.shiftRight_eq_div_pow] using this
theorem odd_xor (a b : Nat) : (a ^^^ b) % 2 = (a % 2 + b % 2) % 2 := by
  have h := Nat.xor_mod_two_pow (a := a) (b := b) (n := 1)
  have h2 : (a ^^^ b) % 2 = (a % 2) ^^^ (b % 2) := by simpa using h
  rw [h2]
  have ha : a % 2 = 0 ∨ a % 2 = 1 := by omega
  have hb : b % 2 = 0 ∨ b % 2 = 1 := by omega
  rcases ha with e | e <;> rcases hb with f | f <;> simp [e, f]
theorem bitN_xor (a b : Nat) : bitN (a ^^^ b) = bitN a ^^^ bitN b := by
  unfold bitN
  rw [half_xor, odd_xor]
  have ha : a % 2 = 0 ∨ a % 2 = 1 := by omega
  have hb : b % 2 = 0 ∨ b % 2 = 1 := by omega
  rcases ha with e | e <;> rcases hb with f | f
  · simp [e, f]
  · simp [e, f, Nat.xor_assoc]
  · simp [e, f]
    rw [Nat.xor_assoc, Nat.xor_comm (b / 2), ← Nat.xor_assoc]
  · simp [e, f]
    rw [Nat.xor_assoc (a / 2), ← Nat.xor_assoc 3988292384 (b / 2), Nat.xor_comm 3988292384 (b / 2), Nat.xor_assoc (b / 2), Nat.xor_self, Nat.xor_zero]
theorem bitN_even (h : Nat) : bitN (2 * h) = h := by
  unfold bitN
  have e : ¬ (2 * h % 2 = 1) := by omega
  simp
theorem bitN_lt (c : Nat) (h : c < 4294967296) : bitN c < 4294967296 := by
  unfold bitN
  exact Nat.xor_lt_two_pow (n := 32) (by omega) (by split <;> omega)
/-- Eight bits, and what was before is found again. -/
theorem bitN_inj (a b : Nat) (ha : a < 4294967296) (hb : b < 4294967296) (h : bitN a = bitN b) : a = b := by
  unfold bitN at h
  have top : ∀ x : Nat, x < 2147483648 → (x ^^^ 3988292384).testBit 31 = true := by
    intro x hx
    rw [Nat.testBit_xor, Nat.testBit_lt_two_pow (by simpa using hx)]
    decide
  have low : ∀ x : Nat, x < 2147483648 → (x ^^^ 0).testBit 31 = false := by
    intro x hx
    rw [Nat.xor_zero]
    exact Nat.testBit_lt_two_pow (by simpa using hx)
  by_cases e : a % 2 = 1 <;> by_cases f : b % 2 = 1
  · rw [if_pos e, if_pos f] at h
    have := xor_r h
    omega
  · rw [if_pos e, if_neg f] at h
    have h1 := top (a / 2) (by omega)
    rw [h, low (b / 2) (by omega)] at h1
    cases h1
  · rw [if_neg e, if_pos f] at h
    have h1 := top (b / 2) (by omega)
    rw [← h, low (a / 2) (by omega)] at h1
    cases h1
  · rw [if_neg e, if_neg f, Nat.xor_zero, Nat.xor_zero] at h
    omega
theorem half_bits (c : Nat) : halfN c = bitN (bitN (bitN (bitN c))) := by
  have e : c = (16 * (c / 16)) ^^^ (c % 16) := by
    have h1 := nat_join 4 (16 * (c / 16)) (c % 16) (by simp) (by omega)
    have h2 : (16 * (c / 16)) ^^^ (c % 16) = (16 * (c / 16)) ||| (c % 16) := by
      apply Nat.eq_of_testBit_eq
      intro i
      rw [Nat.testBit_xor, Nat.testBit_or]
      by_cases hi : i < 4
      · have : (16 * (c / 16)).testBit i = false := by
          rw [show 16 * (c / 16) = 2 ^ 4 * (c / 16) by omega]
          rw [Nat.testBit_two_pow_mul]
          simp; omega
        simp [this]
      · have : (c % 16).testBit i = false := Nat.testBit_lt_two_pow (Nat.lt_of_lt_of_le (Nat.mod_lt c (by omega)) (by have := Nat.pow_le_pow_right (n := 2) (by omega) (show 4 ≤ i by omega); simpa using this))
        simp [this]
    rw [h2, h1]
    omega
  have t : ∀ r : Fin 16, bitN (bitN (bitN (bitN r.val))) = tabN.getD r.val 0 := by decide
  have hr := t ⟨c % 16, Nat.mod_lt c (by omega)⟩
  have hh : bitN (bitN (bitN (bitN (16 * (c / 16))))) = c / 16 := by
    rw [show 16 * (c / 16) = 2 * (2 * (2 * (2 * (c / 16)))) by omega, bitN_even, bitN_even, bitN_even, bitN_even]
  rw [show bitN (bitN (bitN (bitN c))) = bitN (bitN (bitN (bitN ((16 * (c / 16)) ^^^ (c % 16))))) by rw [← e], bitN_xor, bitN_xor, bitN_xor, bitN_xor, hh]
  unfold halfN
  rw [← hr]
theorem halfN_inj (a b : Nat) (ha : a < 4294967296) (hb : b < 4294967296) (h : halfN a = halfN b) : a = b := by
  rw [half_bits, half_bits] at h
  have a1 := bitN_lt a ha
  have a2 := bitN_lt _ a1
  have a3 := bitN_lt _ a2
  have b1 := bitN_lt b hb
  have b2 := bitN_lt _ b1
  have b3 := bitN_lt _ b2
  exact bitN_inj _ _ ha hb (bitN_inj _ _ a1 b1 (bitN_inj _ _ a2 b2 (bitN_inj _ _ a3 b3 h)))
theorem xor_lt32 (a x : Nat) (ha : a < 4294967296) (hx : x < 256) : a ^^^ x < 4294967296 := Nat.xor_lt_two_pow (n := 32) (by omega) (by omega)
theorem stepN_lt (c x : Nat) (hc : c < 4294967296) (hx : x < 256) : stepN c x < 4294967296 := halfN_lt _ (halfN_lt _ (xor_lt32 c x hc hx))
theorem stepN_inj (c d x y : Nat) (hc : c < 4294967296) (hd : d < 4294967296) (hx : x < 256) (hy : y < 256) (h : stepN c x = stepN d y) : c ^^^ x = d ^^^ y := by
  have c1 := xor_lt32 c x hc hx
  have d1 := xor_lt32 d y hd hy
  exact halfN_inj _ _ c1 d1 (halfN_inj _ _ (halfN_lt _ c1) (halfN_lt _ d1) h)
theorem crcN_lt (c : Nat) (l : List Int) (hB : IsB l) (hc : c < 4294967296) : crcN c l < 4294967296 := by
  induction l generalizing c with
  | nil => exact hc
  | cons x r ih =>
    have hx := hB x (List.mem_cons_self ..)
    have e : crcN c (x :: r) = crcN (stepN c x.toNat) r := rfl
    rw [e]
    exact ih _ (fun y hy => hB y (List.mem_cons_of_mem _ hy)) (stepN_lt _ _ hc (by omega))
/-- From two unlike sums on, the same bytes leave unlike sums. -/
theorem crcN_inj (c d : Nat) (l : List Int) (hB : IsB l) (hc : c < 4294967296) (hd : d < 4294967296) (h : crcN c l = crcN d l) : c = d := by
  induction l generalizing c d with
  | nil => exact h
  | cons x r ih =>
    have hx := hB x (List.mem_cons_self ..)
    have hx' : x.toNat < 256 := by omega
    have e := ih (stepN c x.toNat) (stepN d x.toNat) (fun y hy => hB y (List.mem_cons_of_mem _ hy)) (stepN_lt _ _ hc hx') (stepN_lt _ _ hd hx') h
    exact xor_r (stepN_inj c d _ _ hc hd hx' hx' e)
theorem crcN_app (c : Nat) (a b : List Int) : crcN c (a ++ b) = crcN (crcN c a) b := by simp [crcN, List.foldl_append]
/-- One byte changed: the sum is another. -/
theorem crcN_changed (c : Nat) (a r : List Int) (x y : Int) (hc : c < 4294967296) (hA : IsB a) (hr : IsB r) (hx : 0 ≤ x ∧ x < 256) (hy : 0 ≤ y ∧ y < 256) (h : crcN c (a ++ x :: r) = crcN c (a ++ y :: r)) : x = y := by
  rw [crcN_app, crcN_app] at h
  have hca := crcN_lt c a hA hc
  have e := crcN_inj (stepN (crcN c a) x.toNat) (stepN (crcN c a) y.toNat) r hr (stepN_lt _ _ hca (by omega)) (stepN_lt _ _ hca (by omega)) h
  have e2 := stepN_inj _ _ _ _ hca hca (by omega) (by omega) e
  have e3 := xor_l e2
  omega
end Go.Proofs.YtefofoocglhdmaaDoor

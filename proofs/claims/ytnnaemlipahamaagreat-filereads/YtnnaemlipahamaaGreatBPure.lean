/-
  Maps of bits over plain bytes: a bit, a bit turned, how many are 1, where the first row of noughts stands; nothing of the program is in it.
-/
import Derived.Test.YtnnaemlipahamaaGreatMem
import Derived.Test.YtnnaemlipahamaaGreatState
namespace Go.Proofs.YtnnaemlipahamaaGreat
open Go.RowKit

/-- Each is a byte. -/
def IsBy (xs : List Int) : Prop := ∀ x ∈ xs, 0 ≤ x ∧ x < 256
/-- The byte at j, a number. -/
def byt (xs : List Int) (j : Nat) : Nat := (xs.getD j 0).toNat
/-- Bit k. -/
def bitN (xs : List Int) (k : Nat) : Bool := (byt xs (k / 8)).testBit (k % 8)
/-- Bit i, none being 0. -/
def bitI (xs : List Int) (i : Int) : Bool := decide (0 ≤ i) && bitN xs i.toNat
/-- Bit k turned. -/
def flipN (xs : List Int) (k : Nat) : List Int := xs.set (k / 8) ((byt xs (k / 8) ^^^ 2 ^ (k % 8) : Nat) : Int)

theorem IsBy.at {xs : List Int} (h : IsBy xs) (j : Nat) : 0 ≤ xs.getD j 0 ∧ xs.getD j 0 < 256 := by
  by_cases hj : j < xs.length
  · have e : xs.getD j 0 = xs[j] := by simp [List.getD, hj]
    rw [e]; exact h _ (List.getElem_mem hj)
  · have e : xs.getD j 0 = 0 := by simp [List.getD, hj]
    rw [e]; omega
theorem IsBy.byt {xs : List Int} (h : IsBy xs) (j : Nat) : xs.getD j 0 = (byt xs j : Int) ∧ byt xs j < 256 := by
  have := h.at j
  unfold Go.Proofs.YtnnaemlipahamaaGreat.byt
  omega
theorem byt_out {xs : List Int} {j : Nat} (h : xs.length ≤ j) : byt xs j = 0 := by
  have e : xs.getD j 0 = 0 := by simp [List.getD, h]
  unfold byt; rw [e]; rfl
theorem bitN_out {xs : List Int} {k : Nat} (h : 8 * xs.length ≤ k) : bitN xs k = false := by
  unfold bitN
  rw [byt_out (by omega), Nat.zero_testBit]
theorem bitI_nat (xs : List Int) (k : Nat) : bitI xs (k : Int) = bitN xs k := by simp [bitI]
theorem bitI_neg {xs : List Int} {i : Int} (h : i < 0) : bitI xs i = false := by
  have : decide (0 ≤ i) = false := by simp; omega
  simp [bitI, this]
theorem bitI_out {xs : List Int} {i : Int} (h : i < 0 ∨ 8 * (xs.length : Int) ≤ i) : bitI xs i = false := by
  rcases h with h | h
  · exact bitI_neg h
  · obtain ⟨k, rfl⟩ := Int.eq_ofNat_of_zero_le (show 0 ≤ i by omega)
    rw [bitI_nat]; exact bitN_out (by omega)
theorem bitI_true {xs : List Int} {i : Int} (h : bitI xs i = true) : ∃ k : Nat, i = (k : Int) ∧ k < 8 * xs.length ∧ bitN xs k = true := by
  by_cases h0 : i < 0
  · rw [bitI_neg h0] at h; cases h
  · obtain ⟨k, rfl⟩ := Int.eq_ofNat_of_zero_le (show 0 ≤ i by omega)
    rw [bitI_nat] at h
    refine ⟨k, rfl, ?_, h⟩
    by_cases hk : k < 8 * xs.length
    · exact hk
    · rw [bitN_out (by omega)] at h; cases h

theorem flipN_len (xs : List Int) (k : Nat) : (flipN xs k).length = xs.length := by simp [flipN]
theorem byt_set {xs : List Int} {j : Nat} {n : Nat} (hj : j < xs.length) (m : Nat) : byt (xs.set j (n : Int)) m = if m = j then n else byt xs m := by
  unfold byt
  by_cases e : m = j
  · subst e
    have : (xs.set m (n : Int)).getD m 0 = (n : Int) := by simp [List.getD, hj]
    rw [this, if_pos rfl]; simp
  · have : (xs.set j (n : Int)).getD m 0 = xs.getD m 0 := by simp [List.getD, List.getElem?_set_ne (Ne.symm e)]
    rw [this, if_neg e]
theorem bitN_flip {xs : List Int} {k : Nat} (hk : k < 8 * xs.length) (m : Nat) : bitN (flipN xs k) m = if m = k then !bitN xs k else bitN xs m := by
  unfold bitN flipN
  rw [byt_set (by omega)]
  by_cases e : m = k
  · subst e
    rw [if_pos rfl, if_pos rfl, Nat.testBit_xor, Nat.testBit_two_pow]; simp
  · rw [if_neg e]
    by_cases e2 : m / 8 = k / 8
    · rw [if_pos e2, Nat.testBit_xor, Nat.testBit_two_pow, e2]
      have : decide (k % 8 = m % 8) = false := by simp; omega
      rw [this]; simp
    · rw [if_neg e2]
theorem xor_byte {x j : Nat} (hx : x < 256) (hj : j < 8) : x ^^^ 2 ^ j < 256 := by
  have hp : (2 : Nat) ^ j < 256 := Nat.lt_of_lt_of_le (Nat.pow_lt_pow_right (by omega) hj) (by decide)
  exact Nat.xor_lt_two_pow (n := 8) (by omega) hp
theorem IsBy.flip {xs : List Int} (h : IsBy xs) (k : Nat) : IsBy (flipN xs k) := by
  intro x hx
  rcases List.mem_or_eq_of_mem_set hx with h1 | h1
  · exact h x h1
  · subst h1
    have := xor_byte (h.byt (k / 8)).2 (show k % 8 < 8 by omega)
    omega
theorem flip_flip {xs : List Int} (h : IsBy xs) {k : Nat} (hk : k < 8 * xs.length) : flipN (flipN xs k) k = xs := by
  have hj : k / 8 < xs.length := by omega
  unfold flipN
  rw [byt_set hj, if_pos rfl, List.set_set, Nat.xor_assoc, Nat.xor_self, Nat.xor_zero, ← (h.byt (k / 8)).1]
  have e : xs.getD (k / 8) 0 = xs[k / 8] := by simp [List.getD, hj]
  rw [e, List.set_getElem_self]

/-- How many of the n bits from a on are 1. -/
def cnt (xs : List Int) (a : Nat) : Nat → Nat
  | 0 => 0
  | n + 1 => cnt xs a n + (bitN xs (a + n)).toNat
theorem cnt_succ (xs : List Int) (a n : Nat) : cnt xs a (n + 1) = cnt xs a n + (bitN xs (a + n)).toNat := rfl
theorem cnt_le (xs : List Int) (a n : Nat) : cnt xs a n ≤ n := by
  induction n with
  | zero => exact Nat.le_refl _
  | succ n ih => unfold cnt; have : (bitN xs (a + n)).toNat ≤ 1 := Bool.toNat_le _; omega
theorem cnt_add (xs : List Int) (a n m : Nat) : cnt xs a (n + m) = cnt xs a n + cnt xs (a + n) m := by
  induction m with
  | zero => rfl
  | succ m ih => rw [← Nat.add_assoc, cnt_succ, cnt_succ, ih, Nat.add_assoc a n m]; omega
theorem cnt_zero {xs : List Int} {a n : Nat} (h : ∀ j, j < n → bitN xs (a + j) = false) : cnt xs a n = 0 := by
  induction n with
  | zero => rfl
  | succ n ih => unfold cnt; rw [ih (fun j hj => h j (by omega)), h n (by omega)]; rfl
theorem cnt_congr {xs ys : List Int} {a n : Nat} (h : ∀ j, j < n → bitN xs (a + j) = bitN ys (a + j)) : cnt xs a n = cnt ys a n := by
  induction n with
  | zero => rfl
  | succ n ih => unfold cnt; rw [ih (fun j hj => h j (by omega)), h n (by omega)]
/-- One more bit is 1. -/
theorem cnt_flip {xs : List Int} {a n k : Nat} (hk : k < 8 * xs.length) (h0 : bitN xs k = false) (h1 : a ≤ k) (h2 : k < a + n) : cnt (flipN xs k) a n = cnt xs a n + 1 := by
  induction n with
  | zero => omega
  | succ n ih =>
    unfold cnt
    rw [bitN_flip hk]
    by_cases e : a + n = k
    · rw [if_pos e, h0, e, h0, cnt_congr (ys := xs) (fun j hj => by rw [bitN_flip hk, if_neg (by omega)])]
      simp
    · rw [if_neg e, ih (by omega)]; omega

/-- The first row of n noughts, f bits being left from i on, k noughts standing ahead of i. -/
def runF (xs : List Int) (n : Int) : Nat → Nat → Nat → Option Nat
  | 0, _, _ => none
  | f + 1, i, k => if bitN xs i = true then runF xs n f (i + 1) 0 else if (k : Int) + 1 = n then some (i - k) else runF xs n f (i + 1) (k + 1)
theorem runF_one {xs : List Int} {n : Int} {f i k : Nat} (h : bitN xs i = true) : runF xs n (f + 1) i k = runF xs n f (i + 1) 0 := by
  show (if bitN xs i = true then _ else _) = _
  rw [if_pos h]
theorem runF_end {xs : List Int} {n : Int} {f i k : Nat} (h : bitN xs i = false) (hn : (k : Int) + 1 = n) : runF xs n (f + 1) i k = some (i - k) := by
  show (if bitN xs i = true then _ else _) = _
  rw [if_neg (by rw [h]; exact Bool.false_ne_true), if_pos hn]
theorem runF_on {xs : List Int} {n : Int} {f i k : Nat} (h : bitN xs i = false) (hn : (k : Int) + 1 ≠ n) : runF xs n (f + 1) i k = runF xs n f (i + 1) (k + 1) := by
  show (if bitN xs i = true then _ else _) = _
  rw [if_neg (by rw [h]; exact Bool.false_ne_true), if_neg hn]
theorem runF_next1 {xs : List Int} {n : Int} {F t i k : Nat} {X : Option Nat} (h : X = runF xs n (F - t) i k) (ht : t < F) (hb : bitN xs i = true) : X = runF xs n (F - (t + 1)) (i + 1 + 0) 0 := by
  have e : F - t = (F - (t + 1)) + 1 := by omega
  rw [e] at h
  exact h.trans (runF_one hb)
theorem runF_next2 {xs : List Int} {n : Int} {F t s k : Nat} {X : Option Nat} (h : X = runF xs n (F - t) (s + k) k) (ht : t < F) (hb : bitN xs (s + k) = false) (hn : (k : Int) + 1 ≠ n) : X = runF xs n (F - (t + 1)) (s + (k + 1)) (k + 1) := by
  have e : F - t = (F - (t + 1)) + 1 := by omega
  rw [e] at h
  exact h.trans (runF_on hb hn)
theorem runF_next3 {xs : List Int} {n : Int} {F t s k : Nat} {X : Option Nat} (h : X = runF xs n (F - t) (s + k) k) (ht : t < F) (hb : bitN xs (s + k) = false) (hn : (k : Int) + 1 = n) : X = some s := by
  have e : F - t = (F - (t + 1)) + 1 := by omega
  rw [e] at h
  have e2 : s + k - k = s := by omega
  exact h.trans ((runF_end hb hn).trans (by rw [e2]))
theorem runF_stop {xs : List Int} {n : Int} {F t i k : Nat} {X : Option Nat} (h : X = runF xs n (F - t) i k) (ht : F ≤ t) : X = none := by
  have e : F - t = 0 := by omega
  rw [e] at h
  exact h
/-- What is found is a row of noughts. -/
theorem runF_some {xs : List Int} {n f i k s : Nat} (h : runF xs (n : Int) f i k = some s) (hk : k < n) (hi : k ≤ i) (hz : ∀ j, i - k ≤ j → j < i → bitN xs j = false) : i - k ≤ s ∧ s + n ≤ i + f ∧ ∀ j, s ≤ j → j < s + n → bitN xs j = false := by
  induction f generalizing i k with
  | zero => cases h
  | succ f ih =>
    cases hb : bitN xs i with
    | true =>
      rw [runF_one hb] at h
      obtain ⟨h1, h2, h3⟩ := ih h (by omega) (by omega) (fun j _ _ => by omega)
      exact ⟨by omega, by omega, h3⟩
    | false =>
      by_cases hn : (k : Int) + 1 = (n : Int)
      · rw [runF_end hb hn] at h
        obtain rfl : i - k = s := by simpa using h
        refine ⟨Nat.le_refl _, by omega, fun j h1 h2 => ?_⟩
        by_cases e : j = i
        · subst e; exact hb
        · exact hz j h1 (by omega)
      · rw [runF_on hb hn] at h
        obtain ⟨h1, h2, h3⟩ := ih h (by omega) (by omega) (fun j h1 h2 => by
          by_cases e : j = i
          · subst e; exact hb
          · exact hz j (by omega) (by omega))
        exact ⟨by omega, by omega, h3⟩
/-- .. and none stands ahead of it. -/
theorem runF_least {xs : List Int} {n f i k j : Nat} (hk : k < n) (hi : k ≤ i) (h1 : i - k ≤ j) (h2 : j + n ≤ i + f) (hz : ∀ m, j ≤ m → m < j + n → bitN xs m = false) : ∃ s, runF xs (n : Int) f i k = some s ∧ s ≤ j := by
  induction f generalizing i k with
  | zero => omega
  | succ f ih =>
    cases hb : bitN xs i with
    | true =>
      rw [runF_one hb]
      refine ih (by omega) (by omega) ?_ (by omega)
      by_cases e : j ≤ i
      · have := hz i e (by omega)
        rw [hb] at this; cases this
      · omega
    | false =>
      by_cases hn : (k : Int) + 1 = (n : Int)
      · exact ⟨i - k, runF_end hb hn, h1⟩
      · rw [runF_on hb hn]
        exact ih (by omega) (by omega) (by omega) (by omega)
/-- A row of one: the first nought. -/
theorem runF_first (xs : List Int) (f i : Nat) : (runF xs 1 f i 0 = none ∧ cnt xs i f = f) ∨ ∃ s, runF xs 1 f i 0 = some s ∧ i ≤ s ∧ s < i + f ∧ bitN xs s = false ∧ cnt xs i (s - i) = s - i ∧ cnt xs i f < f := by
  have one : ∀ a m, cnt xs a (1 + m) = (bitN xs a).toNat + cnt xs (a + 1) m := fun a m => by
    rw [cnt_add]
    show 0 + (bitN xs (a + 0)).toNat + _ = _
    rw [Nat.zero_add, Nat.add_zero]
  induction f generalizing i with
  | zero => exact .inl ⟨rfl, rfl⟩
  | succ f ih =>
    cases hb : bitN xs i with
    | true =>
      rw [runF_one hb, Nat.add_comm f 1, one, hb]
      rcases ih (i + 1) with ⟨h1, h2⟩ | ⟨s, h1, h2, h3, h4, h5, h6⟩
      · exact .inl ⟨h1, by rw [h2]; rfl⟩
      · refine .inr ⟨s, h1, by omega, by omega, h4, ?_, by show 1 + _ < _; omega⟩
        obtain ⟨m, rfl⟩ : ∃ m, s = i + 1 + m := ⟨s - (i + 1), by omega⟩
        have e1 : i + 1 + m - i = 1 + m := by omega
        have e2 : i + 1 + m - (i + 1) = m := by omega
        rw [e2] at h5
        rw [e1, one, hb, h5]; rfl
    | false =>
      refine .inr ⟨i, runF_end (k := 0) hb rfl, Nat.le_refl _, by omega, hb, by rw [Nat.sub_self]; rfl, ?_⟩
      rw [Nat.add_comm f 1, one, hb]
      have := cnt_le xs (i + 1) f
      show 0 + _ < _
      omega

/-- Where a walk begins and ends. -/
def loB (i : Int) : Nat := i.toNat
def hiB (xs : List Int) (i : Int) : Nat := (min i (8 * (xs.length : Int))).toNat
/-- How many from 'a' on, below 'b', are 1. -/
def cntI (xs : List Int) (a b : Int) : Nat := cnt xs (loB a) (hiB xs b - loB a)
/-- The first row of n noughts from 'a' on, below 'b'. -/
def runI (xs : List Int) (a b n : Int) : Option Nat := if n < 1 then none else runF xs n (hiB xs b - loB a) (loB a) 0
def runV (r : Option Nat) : Int := ((r.getD 0 : Nat) : Int)
theorem hiB_le (xs : List Int) (i : Int) : hiB xs i ≤ 8 * xs.length := by unfold hiB; omega
theorem runI_no {xs : List Int} {a b n : Int} (h : n < 1) : runI xs a b n = none := by unfold runI; rw [if_pos h]
theorem runI_yes {xs : List Int} {a b n : Int} (h : ¬ n < 1) : runI xs a b n = runF xs n (hiB xs b - loB a) (loB a) 0 := by unfold runI; rw [if_neg h]
end Go.Proofs.YtnnaemlipahamaaGreat

namespace Go.Proofs.YtnnaemlipahamaaGreat
open Go.RowKit

/-- How many blocks the map of n bits has. -/
def mapsN (n : Nat) : Nat := (n - 1) / 4096 + 1
/-- How many bits of block i are the pool's. -/
def sizeN (n i : Nat) : Nat := min (n - i * 4096) 4096
/-- How many of the first n are taken. -/
def cntT (T : Nat → Bool) : Nat → Nat
  | 0 => 0
  | n + 1 => cntT T n + (T n).toNat
theorem cntT_succ (T : Nat → Bool) (n : Nat) : cntT T (n + 1) = cntT T n + (T n).toNat := rfl
theorem cntT_le (T : Nat → Bool) : ∀ n, cntT T n ≤ n
  | 0 => Nat.le_refl _
  | n + 1 => by have := cntT_le T n; have := Bool.toNat_le (T n); rw [cntT_succ]; omega
theorem cntT_congr {T U : Nat → Bool} : ∀ {n : Nat}, (∀ k, k < n → T k = U k) → cntT T n = cntT U n
  | 0, _ => rfl
  | n + 1, h => by rw [cntT_succ, cntT_succ, cntT_congr (fun k hk => h k (by omega)), h n (by omega)]
theorem cntT_none {T : Nat → Bool} : ∀ {n : Nat}, (∀ k, k < n → T k = false) → cntT T n = 0
  | 0, _ => rfl
  | n + 1, h => by rw [cntT_succ, cntT_none (fun k hk => h k (by omega)), h n (by omega)]; rfl
theorem cntT_all {T : Nat → Bool} : ∀ {n : Nat}, (∀ k, k < n → T k = true) → cntT T n = n
  | 0, _ => rfl
  | n + 1, h => by rw [cntT_succ, cntT_all (fun k hk => h k (by omega)), h n (by omega)]; rfl
theorem cntT_full {T : Nat → Bool} : ∀ {n : Nat}, cntT T n = n → ∀ k, k < n → T k = true
  | 0, _, k, hk => absurd hk (Nat.not_lt_zero k)
  | n + 1, h, k, hk => by
    rw [cntT_succ] at h
    have h1 := cntT_le T n
    have h2 := Bool.toNat_le (T n)
    rcases Nat.lt_succ_iff_lt_or_eq.1 hk with e | e
    · exact cntT_full (by omega) k e
    · subst e
      have h3 : (T k).toNat = 1 := by omega
      simpa using h3
theorem cntT_set {T : Nat → Bool} {j : Nat} (h0 : T j = false) : ∀ {n : Nat}, j < n → cntT (upd T j true) n = cntT T n + 1
  | 0, h => absurd h (Nat.not_lt_zero j)
  | n + 1, h => by
    rw [cntT_succ, cntT_succ]
    by_cases e : j = n
    · subst e
      rw [upd_same, h0, cntT_congr (U := T) (fun k hk => upd_other _ _ (by omega))]; rfl
    · rw [cntT_set h0 (by omega), upd_other _ _ (fun x => e x.symm)]; omega
theorem cntT_clear {T : Nat → Bool} {j n : Nat} (h0 : T j = true) (h : j < n) : cntT (upd T j false) n + 1 = cntT T n := by
  have e : upd (upd T j false) j true = T := by
    funext k
    by_cases e : k = j
    · subst e; rw [upd_same, h0]
    · rw [upd_other _ _ e, upd_other _ _ e]
  have := cntT_set (T := upd T j false) (j := j) (upd_same _ _ _) h
  rw [e] at this
  exact this.symm
theorem cntT_add (T : Nat → Bool) (n : Nat) : ∀ m, cntT T (n + m) = cntT T n + cntT (fun k => T (n + k)) m
  | 0 => rfl
  | m + 1 => by rw [← Nat.add_assoc, cntT_succ, cntT_add T n m, cntT_succ]; omega
theorem cnt_cntT (xs : List Int) : ∀ n, cnt xs 0 n = cntT (bitN xs) n
  | 0 => rfl
  | n + 1 => by rw [cnt_succ, cnt_cntT xs n, cntT_succ, Nat.zero_add]

/-- The blocks from M on say that of n numbers those of T are taken. -/
structure Bt (V : Nat → List Int) (M n : Nat) (T : Nat → Bool) : Prop where
  by' : ∀ i, i < mapsN n → IsBy (V (M + i)) ∧ (V (M + i)).length = 512
  bit : ∀ k, k < n → bitN (V (M + k / 4096)) (k % 4096) = T k
section
variable {V V' : Nat → List Int} {M n : Nat} {T : Nat → Bool}
theorem maps_lt {k : Nat} (h : k < n) : k / 4096 < mapsN n := by unfold mapsN; omega
theorem Bt.same (h : Bt V M n T) (e : ∀ i, i < mapsN n → V' (M + i) = V (M + i)) : Bt V' M n T :=
  ⟨fun i hi => by rw [e i hi]; exact h.by' i hi, fun k hk => by rw [e _ (maps_lt hk)]; exact h.bit k hk⟩
theorem Bt.flip (h : Bt V M n T) {k : Nat} (hk : k < n) : Bt (upd V (M + k / 4096) (flipN (V (M + k / 4096)) (k % 4096))) M n (upd T k (!T k)) := by
  have h1 := h.by' (k / 4096) (maps_lt hk)
  refine ⟨fun i hi => ?_, fun j hj => ?_⟩
  · by_cases e : i = k / 4096
    · subst e; rw [upd_same]; exact ⟨h1.1.flip _, by rw [flipN_len]; exact h1.2⟩
    · rw [upd_other _ _ (by omega)]; exact h.by' i hi
  · by_cases e : j / 4096 = k / 4096
    · rw [e, upd_same, bitN_flip (by rw [h1.2]; omega)]
      by_cases e2 : j = k
      · subst e2; rw [if_pos rfl, upd_same, h.bit j hj]
      · rw [if_neg (by omega), upd_other _ _ e2, ← h.bit j hj, e]
    · rw [upd_other _ _ (by omega), upd_other _ _ (by omega)]; exact h.bit j hj
theorem Bt.ext (h : Bt V M n T) {U : Nat → Bool} (e : ∀ k, k < n → T k = U k) : Bt V M n U := ⟨h.by', fun k hk => (h.bit k hk).trans (e k hk)⟩
theorem bitN_zeros (k : Nat) : bitN (zeros 512) k = false := by
  have : byt (zeros 512) (k / 8) = 0 := by
    unfold byt zeros
    rw [List.getD_eq_getElem?_getD, List.getElem?_replicate]
    split <;> rfl
  unfold bitN; rw [this]; simp
theorem IsBy.zeros (k : Nat) : IsBy (zeros k) := fun x hx => by
  rw [List.eq_of_mem_replicate hx]; omega
set_option maxRecDepth 100000 in
theorem Bt.zero (e : ∀ i, i < mapsN n → V (M + i) = Go.Proofs.YtnnaemlipahamaaGreat.zeros 512) : Bt V M n (fun _ => false) :=
  ⟨fun i hi => by rw [e i hi]; exact ⟨IsBy.zeros 512, zeros_len 512⟩, fun k hk => by rw [e _ (maps_lt hk)]; exact bitN_zeros _⟩
set_option maxRecDepth 100000 in
/-- The bits of block i. -/
theorem Bt.cnt (h : Bt V M n T) {i : Nat} (hi : i < mapsN n) (hn : 1 ≤ n) : cntT T (min n ((i + 1) * 4096)) = cntT T (min n (i * 4096)) + Go.Proofs.YtnnaemlipahamaaGreat.cnt (V (M + i)) 0 (sizeN n i) := by
  have hin : i * 4096 < n := by unfold mapsN at hi; omega
  have e1 : min n ((i + 1) * 4096) = i * 4096 + sizeN n i := by unfold sizeN; omega
  have e2 : min n (i * 4096) = i * 4096 := Nat.min_eq_right (Nat.le_of_lt hin)
  rw [e1, e2, cntT_add, cnt_cntT]
  congr 1
  refine cntT_congr (fun k hk => ?_)
  have hk2 : k < 4096 ∧ i * 4096 + k < n := by unfold sizeN at hk; omega
  rw [← h.bit _ hk2.2, show (i * 4096 + k) / 4096 = i by omega, show (i * 4096 + k) % 4096 = k by omega]
theorem sizeN_le (n i : Nat) : sizeN n i ≤ 4096 := by unfold sizeN; omega
theorem hiB_size {xs : List Int} (hl : xs.length = 512) (n i : Nat) : hiB xs (sizeN n i : Int) = sizeN n i := by
  have := sizeN_le n i
  unfold hiB; rw [hl]; omega
set_option maxRecDepth 100000 in
/-- First of block i: none of its bits is 0, or the first that is. -/
theorem Bt.first (h : Bt V M n T) {i : Nat} (hi : i < mapsN n) (hn : 1 ≤ n) :
    (runI (V (M + i)) 0 (sizeN n i : Int) 1 = none ∧ ∀ k, i * 4096 ≤ k → k < min n ((i + 1) * 4096) → T k = true) ∨
    ∃ s, runI (V (M + i)) 0 (sizeN n i : Int) 1 = some s ∧ s < 4096 ∧ i * 4096 + s < n ∧ T (i * 4096 + s) = false ∧ ∀ k, i * 4096 ≤ k → k < i * 4096 + s → T k = true := by
  have hin : i * 4096 < n := by unfold mapsN at hi; omega
  have hx := h.by' i hi
  have hb : ∀ k, k < 4096 → i * 4096 + k < n → bitN (V (M + i)) k = T (i * 4096 + k) := fun k h1 h2 => by
    rw [← h.bit _ h2, show (i * 4096 + k) / 4096 = i by omega, show (i * 4096 + k) % 4096 = k by omega]
  rw [runI_yes (by omega), hiB_size hx.2, show loB 0 = 0 from rfl, Nat.sub_zero]
  have hall : ∀ f, f ≤ sizeN n i → Go.Proofs.YtnnaemlipahamaaGreat.cnt (V (M + i)) 0 f = f → ∀ k, i * 4096 ≤ k → k < i * 4096 + f → T k = true := fun f hf hc k h1 h2 => by
    rw [cnt_cntT] at hc
    have := cntT_full hc (k - i * 4096) (by omega)
    unfold sizeN at hf
    rw [hb _ (by omega) (by omega), show i * 4096 + (k - i * 4096) = k by omega] at this
    exact this
  rcases runF_first (V (M + i)) (sizeN n i) 0 with ⟨h1, h2⟩ | ⟨s, h1, _, h3, h4, h5, _⟩
  · refine .inl ⟨h1, fun k hk1 hk2 => hall (sizeN n i) (Nat.le_refl _) h2 k hk1 ?_⟩
    unfold sizeN; omega
  · have hs : s < 4096 ∧ i * 4096 + s < n := by unfold sizeN at h3; omega
    refine .inr ⟨s, h1, hs.1, hs.2, ?_, fun k hk1 hk2 => hall s (by omega) (by simpa using h5) k hk1 hk2⟩
    rw [← hb s hs.1 hs.2]; exact h4
end
end Go.Proofs.YtnnaemlipahamaaGreat

/-
  Pools over plain bytes: which numbers are taken, and the blocks of bits that say so; nothing of the program is in it.
-/
import Derived.Test.YtdcmcgdalanjjaaGreatBPure
import Derived.Test.YtdcmcgdalanjjaaGreatState
namespace Go.Proofs.YtdcmcgdalanjjaaGreat
open Go.RowKit

/-- How many blocks the map of n bits has. -/
def mapsN (n : Nat) : Nat := (n - 1) / 4096 + 1
/-- How many bits of block i are the pool's. -/
def sizeN (n i : Nat) : Nat := min (n - i * 4096) 4096
/-- How many of the first n are taken. -/
def cntT (T : Nat → Bool) : Nat → Nat
  | 0 => 0
  | n + 1 => cntT T n + (T n).toNat
theorem cntT_succ (T : Nat → Bool) (n : Nat) : cntT T (n + 1) = cntT T n + (T n).toNat := rfl
theorem cntT_le (T : Nat → Bool) : ∀ n, cntT T n ≤ n
  | 0 => Nat.le_refl _
  | n + 1 => by have := cntT_le T n; have := Bool.toNat_le (T n); rw [cntT_succ]; omega
theorem cntT_congr {T U : Nat → Bool} : ∀ {n : Nat}, (∀ k, k < n → T k = U k) → cntT T n = cntT U n
  | 0, _ => rfl
  | n + 1, h => by rw [cntT_succ, cntT_succ, cntT_congr (fun k hk => h k (by omega)), h n (by omega)]
theorem cntT_none {T : Nat → Bool} : ∀ {n : Nat}, (∀ k, k < n → T k = false) → cntT T n = 0
  | 0, _ => rfl
  | n + 1, h => by rw [cntT_succ, cntT_none (fun k hk => h k (by omega)), h n (by omega)]; rfl
theorem cntT_all {T : Nat → Bool} : ∀ {n : Nat}, (∀ k, k < n → T k = true) → cntT T n = n
  | 0, _ => rfl
  | n + 1, h => by rw [cntT_succ, cntT_all (fun k hk => h k (by omega)), h n (by omega)]; rfl
theorem cntT_full {T : Nat → Bool} : ∀ {n : Nat}, cntT T n = n → ∀ k, k < n → T k = true
  | 0, _, k, hk => absurd hk (Nat.not_lt_zero k)
  | n + 1, h, k, hk => by
    rw [cntT_succ] at h
    have h1 := cntT_le T n
    have h2 := Bool.toNat_le (T n)
    rcases Nat.lt_succ_iff_lt_or_eq.1 hk with e | e
    · exact cntT_full (by omega) k e
    · subst e
      have h3 : (T k).toNat = 1 := by omega
      simpa using h3
theorem cntT_set {T : Nat → Bool} {j : Nat} (h0 : T j = false) : ∀ {n : Nat}, j < n → cntT (upd T j true) n = cntT T n + 1
  | 0, h => absurd h (Nat.not_lt_zero j)
  | n + 1, h => by
    rw [cntT_succ, cntT_succ]
    by_cases e : j = n
    · subst e
      rw [upd_same, h0, cntT_congr (U := T) (fun k hk => upd_other _ _ (by omega))]; rfl
    · rw [cntT_set h0 (by omega), upd_other _ _ (fun x => e x.symm)]; omega
theorem cntT_clear {T : Nat → Bool} {j n : Nat} (h0 : T j = true) (h : j < n) : cntT (upd T j false) n + 1 = cntT T n := by
  have e : upd (upd T j false) j true = T := by
    funext k
    by_cases e : k = j
    · subst e; rw [upd_same, h0]
    · rw [upd_other _ _ e, upd_other _ _ e]
  have := cntT_set (T := upd T j false) (j := j) (upd_same _ _ _) h
  rw [e] at this
  exact this.symm
theorem cntT_add (T : Nat → Bool) (n : Nat) : ∀ m, cntT T (n + m) = cntT T n + cntT (fun k => T (n + k)) m
  | 0 => rfl
  | m + 1 => by rw [← Nat.add_assoc, cntT_succ, cntT_add T n m, cntT_succ]; omega
theorem cnt_cntT (xs : List Int) : ∀ n, cnt xs 0 n = cntT (bitN xs) n
  | 0 => rfl
  | n + 1 => by rw [cnt_succ, cnt_cntT xs n, cntT_succ, Nat.zero_add]

/-- The blocks from M on say that of n numbers those of T are taken. -/
structure Bt (V : Nat → List Int) (M n : Nat) (T : Nat → Bool) : Prop where
  by' : ∀ i, i < mapsN n → IsBy (V (M + i)) ∧ (V (M + i)).length = 512
  bit : ∀ k, k < n → bitN (V (M + k / 4096)) (k % 4096) = T k
section
variable {V V' : Nat → List Int} {M n : Nat} {T : Nat → Bool}
theorem maps_lt {k : Nat} (h : k < n) : k / 4096 < mapsN n := by unfold mapsN; omega
theorem Bt.same (h : Bt V M n T) (e : ∀ i, i < mapsN n → V' (M + i) = V (M + i)) : Bt V' M n T :=
  ⟨fun i hi => by rw [e i hi]; exact h.by' i hi, fun k hk => by rw [e _ (maps_lt hk)]; exact h.bit k hk⟩
theorem Bt.flip (h : Bt V M n T) {k : Nat} (hk : k < n) : Bt (upd V (M + k / 4096) (flipN (V (M + k / 4096)) (k % 4096))) M n (upd T k (!T k)) := by
  have h1 := h.by' (k / 4096) (maps_lt hk)
  refine ⟨fun i hi => ?_, fun j hj => ?_⟩
  · by_cases e : i = k / 4096
    · subst e; rw [upd_same]; exact ⟨h1.1.flip _, by rw [flipN_len]; exact h1.2⟩
    · rw [upd_other _ _ (by omega)]; exact h.by' i hi
  · by_cases e : j / 4096 = k / 4096
    · rw [e, upd_same, bitN_flip (by rw [h1.2]; omega)]
      by_cases e2 : j = k
      · subst e2; rw [if_pos rfl, upd_same, h.bit j hj]
      · rw [if_neg (by omega), upd_other _ _ e2, ← h.bit j hj, e]
    · rw [upd_other _ _ (by omega), upd_other _ _ (by omega)]; exact h.bit j hj
theorem Bt.ext (h : Bt V M n T) {U : Nat → Bool} (e : ∀ k, k < n → T k = U k) : Bt V M n U := ⟨h.by', fun k hk => (h.bit k hk).trans (e k hk)⟩
theorem bitN_zeros (k : Nat) : bitN (zeros 512) k = false := by
  have : byt (zeros 512) (k / 8) = 0 := by
    unfold byt zeros
    rw [List.getD_eq_getElem?_getD, List.getElem?_replicate]
    split <;> rfl
  unfold bitN; rw [this]; simp
theorem IsBy.zeros (k : Nat) : IsBy (zeros k) := fun x hx => by
  rw [List.eq_of_mem_replicate hx]; omega
set_option maxRecDepth 100000 in
theorem Bt.zero (e : ∀ i, i < mapsN n → V (M + i) = Go.Proofs.YtdcmcgdalanjjaaGreat.zeros 512) : Bt V M n (fun _ => false) :=
  ⟨fun i hi => by rw [e i hi]; exact ⟨IsBy.zeros 512, zeros_len 512⟩, fun k hk => by rw [e _ (maps_lt hk)]; exact bitN_zeros _⟩
set_option maxRecDepth 100000 in
/-- The bits of block i. -/
theorem Bt.cnt (h : Bt V M n T) {i : Nat} (hi : i < mapsN n) (hn : 1 ≤ n) : cntT T (min n ((i + 1) * 4096)) = cntT T (min n (i * 4096)) + Go.Proofs.YtdcmcgdalanjjaaGreat.cnt (V (M + i)) 0 (sizeN n i) := by
  have hin : i * 4096 < n := by unfold mapsN at hi; omega
  have e1 : min n ((i + 1) * 4096) = i * 4096 + sizeN n i := by unfold sizeN; omega
  have e2 : min n (i * 4096) = i * 4096 := Nat.min_eq_right (Nat.le_of_lt hin)
  rw [e1, e2, cntT_add, cnt_cntT]
  congr 1
  refine cntT_congr (fun k hk => ?_)
  have hk2 : k < 4096 ∧ i * 4096 + k < n := by unfold sizeN at hk; omega
  rw [← h.bit _ hk2.2, show (i * 4096 + k) / 4096 = i by omega, show (i * 4096 + k) % 4096 = k by omega]
theorem sizeN_le (n i : Nat) : sizeN n i ≤ 4096 := by unfold sizeN; omega
theorem hiB_size {xs : List Int} (hl : xs.length = 512) (n i : Nat) : hiB xs (sizeN n i : Int) = sizeN n i := by
  have := sizeN_le n i
  unfold hiB; rw [hl]; omega
set_option maxRecDepth 100000 in
/-- First of block i: none of its bits is 0, or the first that is. -/
theorem Bt.first (h : Bt V M n T) {i : Nat} (hi : i < mapsN n) (hn : 1 ≤ n) :
    (runI (V (M + i)) 0 (sizeN n i : Int) 1 = none ∧ ∀ k, i * 4096 ≤ k → k < min n ((i + 1) * 4096) → T k = true) ∨
    ∃ s, runI (V (M + i)) 0 (sizeN n i : Int) 1 = some s ∧ s < 4096 ∧ i * 4096 + s < n ∧ T (i * 4096 + s) = false ∧ ∀ k, i * 4096 ≤ k → k < i * 4096 + s → T k = true := by
  have hin : i * 4096 < n := by unfold mapsN at hi; omega
  have hx := h.by' i hi
  have hb : ∀ k, k < 4096 → i * 4096 + k < n → bitN (V (M + i)) k = T (i * 4096 + k) := fun k h1 h2 => by
    rw [← h.bit _ h2, show (i * 4096 + k) / 4096 = i by omega, show (i * 4096 + k) % 4096 = k by omega]
  rw [runI_yes (by omega), hiB_size hx.2, show loB 0 = 0 from rfl, Nat.sub_zero]
  have hall : ∀ f, f ≤ sizeN n i → Go.Proofs.YtdcmcgdalanjjaaGreat.cnt (V (M + i)) 0 f = f → ∀ k, i * 4096 ≤ k → k < i * 4096 + f → T k = true := fun f hf hc k h1 h2 => by
    rw [cnt_cntT] at hc
    have := cntT_full hc (k - i * 4096) (by omega)
    unfold sizeN at hf
    rw [hb _ (by omega) (by omega), show i * 4096 + (k - i * 4096) = k by omega] at this
    exact this
  rcases runF_first (V (M + i)) (sizeN n i) 0 with ⟨h1, h2⟩ | ⟨s, h1, _, h3, h4, h5, _⟩
  · refine .inl ⟨h1, fun k hk1 hk2 => hall (sizeN n i) (Nat.le_refl _) h2 k hk1 ?_⟩
    unfold sizeN; omega
  · have hs : s < 4096 ∧ i * 4096 + s < n := by unfold sizeN at h3; omega
    refine .inr ⟨s, h1, hs.1, hs.2, ?_, fun k hk1 hk2 => hall s (by omega) (by simpa using h5) k hk1 hk2⟩
    rw [← hb s hs.1 hs.2]; exact h4
end
end Go.Proofs.YtdcmcgdalanjjaaGreat

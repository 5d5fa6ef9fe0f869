/-
  Plain facts for the laws on groups of transactions.
-/
import Derived.Test.YtkkmdmnjlncgfaaWHelp
namespace Go.Proofs.Ytkkmdmnjlncgfaa
open Go.RowKit Go.Maps

/-- What the k-th block of the i-th transaction of W has, by its number. -/
def pat (W n : Nat) : List Int := full [((n / W + 1 : Nat) : Int), ((n % W : Nat) : Int)]
theorem pat_len (W n : Nat) : (pat W n).length = 512 := full_len _
theorem pat_at {W i k : Nat} (hk : k < W) : pat W (i * W + k) = full [((i + 1 : Nat) : Int), (k : Int)] := by
  have h1 : (i * W + k) / W = i := by
    rw [Nat.add_comm, Nat.add_mul_div_right _ _ (by omega), Nat.div_eq_of_lt hk]; omega
  have h2 : (i * W + k) % W = k := by rw [Nat.add_comm, Nat.add_mul_mod_self_right, Nat.mod_eq_of_lt hk]
  unfold pat
  rw [h1, h2]
theorem full_isB {bs : List Int} (h : IsB bs) : IsB (full bs) := by
  intro x hx
  obtain ⟨j, hj, rfl⟩ := List.mem_map.1 hx
  by_cases h0 : bs.length = 0
  · have : bs = [] := List.eq_nil_of_length_eq_zero h0
    subst this; simp
  · exact h.at (Nat.mod_lt _ (by omega))
theorem pat_isB {W n : Nat} (h : n / W < 200) (hw : W < 200) (h0 : 0 < W) : IsB (pat W n) := full_isB (fun x hx => by
  have h1 := Nat.mod_lt n h0
  rcases List.mem_cons.1 hx with e | e
  · subst e
    generalize n / W = r at *
    constructor <;> omega
  · have e := List.mem_singleton.1 e
    subst e
    generalize n % W = r at *
    constructor <;> omega)
theorem full_head (x : Int) (r : List Int) : (full (x :: r)).head? = some x := by
  have : List.range 512 = 0 :: (List.range 511).map Nat.succ := by rw [show (512 : Nat) = 511 + 1 from rfl, List.range_succ_eq_map]
  unfold full
  rw [this]
  simp
theorem pat_ne (W n : Nat) : pat W n ≠ zeros 512 := fun e => by
  have h1 := full_head (((n / W + 1 : Nat)) : Int) [((n % W : Nat) : Int)]
  have h2 : (zeros 512).head? = some 0 := rfl
  unfold pat at e
  rw [e, h2] at h1
  have h3 : (0 : Int) = ((n / W + 1 : Nat) : Int) := Option.some.inj h1
  generalize n / W = r at h3
  omega
/-- The first m blocks. -/
def gcom (W m n : Nat) : Option (List Int) := if n < m then some (pat W n) else none
/-- The blocks from a to m. -/
def gown (W a m n : Nat) : Option (List Int) := if a ≤ n ∧ n < m then some (pat W n) else none
theorem gcom_zero (W : Nat) : gcom W 0 = fun _ => none := by funext n; simp [gcom]
theorem gown_none (W a : Nat) : gown W a a = fun _ => none := by funext n; unfold gown; rw [if_neg (by omega)]
theorem gown_succ {W a m : Nat} (h : a ≤ m) : upd (gown W a m) m (some (pat W m)) = gown W a (m + 1) := by
  funext n
  by_cases e : n = m
  · subst e; rw [upd_same]; simp [gown, h]
  · rw [upd_other _ _ e]
    unfold gown
    by_cases h2 : a ≤ n ∧ n < m
    · rw [if_pos h2, if_pos ⟨h2.1, by omega⟩]
    · rw [if_neg h2, if_neg (by omega)]
theorem gcom_mrg {W a m : Nat} (h : a ≤ m) : mrg (gcom W a) (gown W a m) = gcom W m := by
  funext n
  unfold mrg gown gcom
  by_cases h2 : a ≤ n ∧ n < m
  · rw [if_pos h2, if_pos h2.2]; simp
  · rw [if_neg h2]
    by_cases h3 : n < a
    · have h4 : n < m := by omega
      simp [h3, h4]
    · have h4 : ¬ n < m := by omega
      simp [h3, h4]
theorem cnt_lt : ∀ (K m : Nat), cntF K (fun n => decide (n < m)) = min m K
  | 0, m => by simp [cntF]
  | K + 1, m => by
    rw [cntF_succ, cnt_lt K m]
    by_cases h : K < m
    · simp [h]; omega
    · simp [h]; omega
theorem ks_gcom (W m K : Nat) : (ks K (gcom W m)).length = min m K := by
  rw [ks_cnt, ← cnt_lt K m]
  refine cntF_congr (fun n _ => ?_)
  unfold gcom
  by_cases h : n < m <;> simp [h]
theorem ks_gown (W a m K : Nat) : (ks K (gown W a m)).length ≤ m := by
  have h1 : (ks K (gown W a m)).length ≤ cntF K (fun n => decide (n < m)) := by
    rw [ks_cnt]
    have := cntF_or K (fun n => (gown W a m n).isSome) (fun n => decide (n < m))
    have e : cntF K (fun n => (gown W a m n).isSome || decide (n < m)) = cntF K (fun n => decide (n < m)) := cntF_congr (fun n _ => by
      unfold gown
      by_cases h : n < m <;> simp [h])
    rw [e] at this
    omega
  rw [cnt_lt] at h1
  omega
theorem gown_out {W a m n : Nat} (h : m ≤ n) : gown W a m n = none := by unfold gown; rw [if_neg (by omega)]
theorem ovr_gcom {W m n : Nat} (h : n < m) (f : Nat → List Int) : ovr f (gcom W m) n = pat W n := by unfold ovr gcom; rw [if_pos h, Option.getD_some]
end Go.Proofs.Ytkkmdmnjlncgfaa

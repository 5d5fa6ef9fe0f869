/-
  Plain facts: what puts are laid as, and that a reader's state takes them back.
-/
import Derived.Test.YtdninfmmikaimaaDoorPuts
namespace Go.Proofs.YtdninfmmikaimaaDoor
open Go.RowKit

/-- What one put is laid as, where Fixed is none of the kinds. -/
def enc1 (d : PutD) : List Int := if d.kind = 1 then leTo d.n 1 else if d.kind = 2 then leTo d.n 2 else if d.kind = 3 then leTo d.n 4 else leTo d.bs.length 4 ++ d.bs
def encL (l : List PutD) : List Int := l.flatMap enc1

theorem encL_take (l : List PutD) (k : Nat) (d : PutD) (h : l[k]? = some d) : encL (l.take (k + 1)) = encL (l.take k) ++ enc1 d := by
  obtain ⟨hk, rfl⟩ := List.getElem?_eq_some_iff.1 h
  rw [List.take_succ_eq_append_getElem hk]
  simp only [encL, List.flatMap_append, List.flatMap_cons, List.flatMap_nil, List.append_nil]
theorem encL_drop (l : List PutD) (k : Nat) (d : PutD) (h : l[k]? = some d) : encL (l.drop k) = enc1 d ++ encL (l.drop (k + 1)) := by
  obtain ⟨hk, rfl⟩ := List.getElem?_eq_some_iff.1 h
  rw [List.drop_eq_getElem_cons hk]
  simp only [encL, List.flatMap_cons]
theorem enc1_len (d : PutD) (h : d.bs.length ≤ 4096) : (enc1 d).length ≤ 4100 := by
  unfold enc1
  split
  · simp [leTo_len]
  · split
    · simp [leTo_len]
    · split
      · simp [leTo_len]
      · simp [leTo_len]; omega
theorem isB_leTo (n : Int) (k : Nat) : IsB (leTo n k) := by
  intro x hx
  obtain ⟨i, _, rfl⟩ := List.mem_map.1 hx
  omega
theorem isB_app {a b : List Int} (ha : IsB a) (hb : IsB b) : IsB (a ++ b) := by
  intro x hx
  rcases List.mem_append.1 hx with h | h
  · exact ha x h
  · exact hb x h
theorem isB_enc1 (d : PutD) (h : IsB d.bs) : IsB (enc1 d) := by
  unfold enc1
  split
  · exact isB_leTo _ _
  · split
    · exact isB_leTo _ _
    · split
      · exact isB_leTo _ _
      · exact isB_app (isB_leTo _ _) h
theorem isB_encL (l : List PutD) (h : ∀ d ∈ l, IsB d.bs) : IsB (encL l) := by
  intro x hx
  obtain ⟨d, hd, hx'⟩ := List.mem_flatMap.1 hx
  exact isB_enc1 d (h d hd) x hx'
theorem encL_len (l : List PutD) (h : ∀ d ∈ l, d.bs.length ≤ 4096) : (encL l).length ≤ 4100 * l.length := by
  induction l with
  | nil => simp [encL]
  | cons d r ih =>
    have h1 := enc1_len d (h d (List.mem_cons_self ..))
    have h2 := ih (fun x hx => h x (List.mem_cons_of_mem _ hx))
    have e : encL (d :: r) = enc1 d ++ encL r := by simp [encL]
    rw [e]
    simp only [List.length_append, List.length_cons]
    omega

theorem valB_leTo (n : Int) (k : Nat) : valB (leTo n k) = n % 256 ^ k := by
  induction k with
  | zero => simp [leTo, valB]
  | succ k ih =>
    rw [leTo_succ, valB_snoc, ih, leTo_len, Int.pow_succ]
    have hp : (0 : Int) < 256 ^ k := Int.pow_pos (by decide)
    have h1 := Int.emod_add_mul_ediv n (256 ^ k)
    have h2 := Int.emod_add_mul_ediv (n / 256 ^ k) 256
    have hr0 := Int.emod_nonneg n (Int.ne_of_gt hp)
    have hr1 := Int.emod_lt_of_pos n hp
    have hq0 := Int.emod_nonneg (n / 256 ^ k) (show (256 : Int) ≠ 0 by decide)
    have hq1 := Int.emod_lt_of_pos (n / 256 ^ k) (show (0 : Int) < 256 by decide)
    have h3 := Int.emod_add_mul_ediv n (256 ^ k * 256)
    have e : n / (256 ^ k * 256) = n / 256 ^ k / 256 := by rw [div_pow, Int.pow_succ]
    rw [e] at h3
    have h4 : (256 : Int) ^ k * (n / 256 ^ k) = 256 ^ k * (n / 256 ^ k % 256) + 256 ^ k * 256 * (n / 256 ^ k / 256) := by
      rw [Int.mul_assoc, ← Int.mul_add, h2]
    have h5 : n / 256 ^ k % 256 * 256 ^ k = 256 ^ k * (n / 256 ^ k % 256) := Int.mul_comm ..
    omega

theorem and_mask (n : Int) (i : Nat) (hi : i ≤ 32) : bits .and .i64 n ((2 ^ i - 1 : Nat) : Int) = n % 2 ^ i := by
  have hp : (2 : Nat) ^ i ≤ 2 ^ 32 := Nat.pow_le_pow_right (by omega) hi
  have hp0 : 0 < (2 : Nat) ^ i := Nat.pow_pos (by omega)
  show IntKind.i64.wrap ((BitVec.ofInt 64 n &&& BitVec.ofInt 64 ((2 ^ i - 1 : Nat) : Int)).toNat : Int) = _
  rw [BitVec.toNat_and, ofInt_u64 (2 ^ i - 1) (by omega), Nat.and_two_pow_sub_one_eq_mod, BitVec.toNat_ofInt, IntKind.wrap_i64]
  have hm := Nat.mod_lt (n % ((2 ^ 64 : Nat) : Int)).toNat hp0
  have e1 : (((n % ((2 ^ 64 : Nat) : Int)).toNat % 2 ^ i : Nat) : Int) = n % 2 ^ i := by
    rw [Int.natCast_emod, Int.toNat_of_nonneg (Int.emod_nonneg _ (by decide)), Int.natCast_pow, Int.natCast_pow]
    have : ((2 : Int) ^ i) ∣ 2 ^ 64 := ⟨2 ^ (64 - i), by rw [← Int.pow_add]; congr 1; omega⟩
    exact Int.emod_emod_of_dvd n this
  rw [← e1]
  omega

theorem tk_app (a r : List Int) (n : Int) (h : n = (a.length : Int)) : tkV ⟨a ++ r, 0⟩ n = a ∧ tkS ⟨a ++ r, 0⟩ n = ⟨r, 0⟩ := by
  subst h
  have h1 : ¬ (((a ++ r).length : Int) < (a.length : Int)) := by simp; omega
  simp only [tkV, tkS, if_true, if_neg h1, Int.toNat_natCast]
  exact ⟨List.take_left, by rw [List.drop_left]⟩
theorem bs_app (b r : List Int) (h : b.length ≤ 4096) : valB (tkV ⟨leTo b.length 4 ++ b ++ r, 0⟩ 4) = b.length ∧ tkV (bsI ⟨leTo b.length 4 ++ b ++ r, 0⟩ 4096) b.length = b ∧ tkS (bsI ⟨leTo b.length 4 ++ b ++ r, 0⟩ 4096) b.length = ⟨r, 0⟩ := by
  have h0 := tk_app (leTo b.length 4) (b ++ r) 4 (by simp [leTo_len])
  rw [List.append_assoc]
  have hv : valB (leTo b.length 4) = b.length := by
    rw [valB_leTo]
    have : (256 : Int) ^ 4 = 4294967296 := by decide
    rw [this]
    omega
  have hbs : bsI ⟨leTo b.length 4 ++ (b ++ r), 0⟩ 4096 = ⟨b ++ r, 0⟩ := by
    unfold bsI
    rw [h0.1, h0.2, hv, if_neg (by omega)]
  rw [hbs, h0.1, hv]
  have h1 := tk_app b r b.length rfl
  exact ⟨rfl, h1.1, h1.2⟩
end Go.Proofs.YtdninfmmikaimaaDoor

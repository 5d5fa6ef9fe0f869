/-
  Contracts of the reader of package codec: what NewReader, fail, take, number, U8, U16, U32, Fixed, Bytes and End answer and leave.
-/
import Derived.Test.YtlnjnimenihhnaaGreatDoorFixed
import Derived.BigQuiet
import Derived.Deep.QuietTactic
namespace Go.Proofs.YtlnjnimenihhnaaGreatDoor
open Go.RowKit

theorem add_add (a : Addr) (n j : Nat) : (a.add n).add j = a.add (n + j) := by
  unfold Addr.add
  by_cases h : n = 0
  · subst h; simp
  · by_cases k : j = 0
    · subst k; simp
    · have e : ¬ (n + j = 0) := by omega
      simp [h, k, Nat.add_assoc]
theorem add_block (a : Addr) (n : Nat) : (a.add n).block = a.block := by unfold Addr.add; split <;> rfl

/-- The rest of a slice of bytes. -/
theorem Bs.rest {w : World} {a : Option Addr} {c n : Nat} {xs : List Int} (h : Bs w (.slice a xs.length c) xs) (hn : n ≤ xs.length) (hc : ¬ c = n) : Bs w (.slice (Option.map (fun x => x.add n) a) (xs.length - n) (c - n)) (xs.drop n) := by
  rcases h with ⟨e, rfl⟩ | ⟨a, c', e, hl, hm, hcell⟩
  · cases e; simp at hn; omega
  · cases e
    have hlen : (xs.drop n).length = xs.length - n := by simp
    refine .inr ⟨a.add n, c - n, by rw [hlen]; rfl, by omega, by omega, fun j hj => ?_⟩
    rw [hlen] at hj
    rw [add_add, hcell (n + j) (by omega)]
    simp [List.getD, List.getElem?_drop]
theorem Bs.rest0 {w : World} {a : Option Addr} {n : Nat} {xs : List Int} (h : Bs w (.slice a xs.length n) xs) (hn : n ≤ xs.length) : Bs w (.slice a (xs.length - n) 0) (xs.drop n) := by
  rcases h with ⟨e, rfl⟩ | ⟨a, c', e, hl, hm, hcell⟩
  · cases e; exact .inl ⟨rfl, by simp⟩
  · cases e
    have hlen : (xs.drop n).length = xs.length - n := by simp
    refine .inr ⟨a, 0, by rw [hlen], by omega, by omega, fun j hj => ?_⟩
    omega

end Go.Proofs.YtlnjnimenihhnaaGreatDoor

namespace Go.Proofs.YtlnjnimenihhnaaGreatDoor
open Go.RowKit

/-- Each is a byte. -/
def IsB (xs : List Int) : Prop := ∀ x ∈ xs, 0 ≤ x ∧ x < 256
theorem IsB.take {xs : List Int} (h : IsB xs) (n : Nat) : IsB (xs.take n) := fun x hx => h x (List.mem_of_mem_take hx)
theorem IsB.drop {xs : List Int} (h : IsB xs) (n : Nat) : IsB (xs.drop n) := fun x hx => h x (List.mem_of_mem_drop hx)
theorem IsB.at {xs : List Int} (h : IsB xs) {k : Nat} (hk : k < xs.length) : 0 ≤ xs.getD k 0 ∧ xs.getD k 0 < 256 := by
  have : xs.getD k 0 ∈ xs := by simp [List.getD, hk]
  exact h _ this

/-- The number whose bytes are xs, the lowest first. -/
def valB : List Int → Int
  | [] => 0
  | x :: r => x + 256 * valB r
theorem valB_snoc (l : List Int) (x : Int) : valB (l ++ [x]) = valB l + x * 256 ^ l.length := by
  induction l with
  | nil => simp [valB]
  | cons y r ih =>
    simp only [List.cons_append, valB, ih, List.length_cons, Int.pow_succ, Int.mul_add]
    have : x * (256 ^ r.length * 256) = 256 * (x * 256 ^ r.length) := by
      rw [← Int.mul_assoc, Int.mul_comm (x * 256 ^ r.length) 256]
    omega
theorem valB_bd (l : List Int) (h : IsB l) : 0 ≤ valB l ∧ valB l < 256 ^ l.length := by
  induction l with
  | nil => simp [valB]
  | cons y r ih =>
    have h1 := ih (fun x hx => h x (List.mem_cons_of_mem _ hx))
    have h2 := h y (List.mem_cons_self ..)
    simp only [valB, List.length_cons, Int.pow_succ]
    omega
theorem valB_take (l : List Int) (k : Nat) (hk : k < l.length) : valB (l.take (k + 1)) = valB (l.take k) + l.getD k 0 * 256 ^ k := by
  have e : l.take (k + 1) = l.take k ++ [l.getD k 0] := by
    rw [List.take_succ_eq_append_getElem hk]; simp [List.getD, hk]
  rw [e, valB_snoc]
  have : (l.take k).length = k := by simp; omega
  rw [this]

theorem i64_or_nat (a b : Nat) (ha : a < 9223372036854775808) (hb : b < 9223372036854775808) : bits .or .i64 (a : Int) (b : Int) = ((a ||| b : Nat) : Int) := by
  have hx : a ||| b < 2 ^ 63 := Nat.or_lt_two_pow (by omega) (by omega)
  show IntKind.i64.wrap ((BitVec.ofInt 64 (a : Int) ||| BitVec.ofInt 64 (b : Int)).toNat : Int) = _
  rw [BitVec.toNat_or, ofInt_u64 a (by omega), ofInt_u64 b (by omega), IntKind.wrap_i64]
  omega
theorem or_join (i : Nat) (m y : Int) (hm0 : 0 ≤ m) (hm1 : m < 2 ^ i) (hy0 : 0 ≤ y) (hy1 : y % 2 ^ i = 0) (hi : i ≤ 24) (hy2 : y < 4294967296) : bits .or .i64 m (wrap64 y) = m + y := by
  have e : wrap64 y = y := by unfold wrap64; omega
  rw [e]
  have hp : (2 : Int) ^ i ≤ 2 ^ 24 := by
    have h1 : (2 : Nat) ^ i ≤ 2 ^ 24 := Nat.pow_le_pow_right (by omega) hi
    exact_mod_cast h1
  obtain ⟨M, rfl⟩ := Int.eq_ofNat_of_zero_le hm0
  obtain ⟨Y, rfl⟩ := Int.eq_ofNat_of_zero_le hy0
  have h1 : M < 2 ^ i := by exact_mod_cast hm1
  have h2 : Y % 2 ^ i = 0 := by exact_mod_cast hy1
  rw [i64_or_nat M Y (by omega) (by omega), Nat.or_comm, nat_join i Y M h2 h1]
  omega
theorem or_step (k : Nat) (m x : Int) (hk : k < 4) (hm0 : 0 ≤ m) (hm1 : m < 256 ^ k) (hx0 : 0 ≤ x) (hx1 : x < 256) : bits .or .i64 m (wrap64 (x * 2 ^ (8 * k))) = m + x * 256 ^ k := by
  have e : (2 : Int) ^ (8 * k) = 256 ^ k := by rw [Int.pow_mul]; rfl
  rw [e]
  have p1 : (256 : Int) ^ 1 = 256 := by decide
  have p2 : (256 : Int) ^ 2 = 65536 := by decide
  have p3 : (256 : Int) ^ 3 = 16777216 := by decide
  have q8 : (2 : Int) ^ 8 = 256 := by decide
  have q16 : (2 : Int) ^ 16 = 65536 := by decide
  have q24 : (2 : Int) ^ 24 = 16777216 := by decide
  have hc : k = 0 ∨ k = 1 ∨ k = 2 ∨ k = 3 := by omega
  rcases hc with rfl | rfl | rfl | rfl
  · rw [Int.pow_zero] at hm1 ⊢
    exact or_join 0 m _ hm0 (by rw [Int.pow_zero]; exact hm1) (by omega) (by rw [Int.pow_zero]; omega) (by omega) (by omega)
  · rw [p1] at hm1 ⊢
    exact or_join 8 m _ hm0 (by rw [q8]; exact hm1) (by omega) (by rw [q8]; omega) (by omega) (by omega)
  · rw [p2] at hm1 ⊢
    exact or_join 16 m _ hm0 (by rw [q16]; exact hm1) (by omega) (by rw [q16]; omega) (by omega) (by omega)
  · rw [p3] at hm1 ⊢
    exact or_join 24 m _ hm0 (by rw [q24]; exact hm1) (by omega) (by rw [q24]; omega) (by omega) (by omega)

/-- A slice of bytes that is not empty: where it lies. -/
theorem Bs.atC {w : World} {a : Option Addr} {c n k : Nat} {xs : List Int} (h : Bs w (.slice a n c) xs) (hk : k < xs.length) : ∃ b off, a = some ⟨b, off, none⟩ ∧ ∀ j, j < xs.length → w.cell? ⟨b, off + j, none⟩ = some (.int .u8 (xs.getD j 0)) := by
  rcases h with ⟨e, rfl⟩ | ⟨x, c', e, hl, hm, hcell⟩
  · simp at hk
  · cases e
    obtain ⟨b, off, spot⟩ := x
    have h0 := hcell 0 (by omega)
    have hspot : spot = none := by simpa [Addr.add] using World.cell?_spot h0
    subst hspot
    refine ⟨b, off, rfl, fun j hj => ?_⟩
    have := hcell j hj
    unfold Addr.add at this
    split at this
    · rename_i e; subst e; simpa using this
    · exact this

end Go.Proofs.YtlnjnimenihhnaaGreatDoor

namespace Go.Proofs.YtlnjnimenihhnaaGreatDoor
open Go.RowKit

/-- What a reader holds: the bytes that are left, and the fault. -/
structure RS where
  xs : List Int
  f : Int
def failS (s : RS) (e : Int) : RS := if s.f = 0 then ⟨[], e⟩ else s
def tkS (s : RS) (n : Int) : RS := if s.f = 0 then (if (s.xs.length : Int) < n then ⟨[], 2⟩ else ⟨s.xs.drop n.toNat, 0⟩) else s
def tkV (s : RS) (n : Int) : List Int := if s.f = 0 then (if (s.xs.length : Int) < n then [] else s.xs.take n.toNat) else []
def fxI (s : RS) (n : Int) : RS := if n < 0 then failS s 1 else s
def bsI (s : RS) (most : Int) : RS := if most < valB (tkV s 4) then failS (tkS s 4) 5 else tkS s 4
def endV (s : RS) : Int := if s.f = 0 ∧ s.xs ≠ [] then 3 else s.f

theorem tkV_len (s : RS) (n : Int) (hn : 0 ≤ n) : ((tkV s n).length : Int) ≤ n := by
  unfold tkV; split
  · split
    · simpa using hn
    · simp; omega
  · simpa using hn
theorem tkV_le (s : RS) (n : Int) : (tkV s n).length ≤ s.xs.length := by
  unfold tkV; split
  · split
    · simp
    · simp; omega
  · simp
theorem tkS_le (s : RS) (n : Int) : (tkS s n).xs.length ≤ s.xs.length := by
  unfold tkS; split
  · split <;> simp
  · simp
theorem failS_le (s : RS) (e : Int) : (failS s e).xs.length ≤ s.xs.length := by
  unfold failS; split <;> simp
theorem IsB.tkV {s : RS} (h : IsB s.xs) (n : Int) : IsB (tkV s n) := by
  unfold Go.Proofs.YtlnjnimenihhnaaGreatDoor.tkV; split
  · split
    · intro x hx; cases hx
    · exact h.take _
  · intro x hx; cases hx
theorem IsB.tkS {s : RS} (h : IsB s.xs) (n : Int) : IsB (tkS s n).xs := by
  unfold Go.Proofs.YtlnjnimenihhnaaGreatDoor.tkS; split
  · split
    · intro x hx; cases hx
    · exact h.drop _
  · exact h
theorem IsB.failS {s : RS} (h : IsB s.xs) (e : Int) : IsB (failS s e).xs := by
  unfold Go.Proofs.YtlnjnimenihhnaaGreatDoor.failS; split
  · intro x hx; cases hx
  · exact h
theorem IsB.fxI {s : RS} (h : IsB s.xs) (n : Int) : IsB (fxI s n).xs := by
  unfold Go.Proofs.YtlnjnimenihhnaaGreatDoor.fxI; split
  · exact h.failS 1
  · exact h
theorem IsB.bsI {s : RS} (h : IsB s.xs) (n : Int) : IsB (bsI s n).xs := by
  unfold Go.Proofs.YtlnjnimenihhnaaGreatDoor.bsI; split
  · exact (h.tkS 4).failS 5
  · exact h.tkS 4

end Go.Proofs.YtlnjnimenihhnaaGreatDoor

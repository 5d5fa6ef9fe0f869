/-
  A node as a value, the bytes that it is laid as, and what is read out of bytes.
-/
import Derived.Test.YtcclpfcgodckgaaDoorKFlip
namespace Go.Proofs.YtcclpfcgodckgaaDoor
open Go.RowKit

/-- A node's thirteen numbers. -/
structure Nd where
  kd : Int
  lk : Int
  sz : Int
  d0 : Int
  d1 : Int
  d2 : Int
  d3 : Int
  d4 : Int
  d5 : Int
  d6 : Int
  d7 : Int
  on : Int
  tw : Int

/-- .. as a value. -/
abbrev Nd.v (n : Nd) : Value := .agg #[.int .i64 n.kd, .int .i64 n.lk, .int .i64 n.sz, .int .i64 n.d0, .int .i64 n.d1, .int .i64 n.d2, .int .i64 n.d3, .int .i64 n.d4, .int .i64 n.d5, .int .i64 n.d6, .int .i64 n.d7, .int .i64 n.on, .int .i64 n.tw]
def Nd.ds (n : Nd) : List Int := [n.d0, n.d1, n.d2, n.d3, n.d4, n.d5, n.d6, n.d7]
def Nd.no : Nd := ⟨0, 0, 0, 0, 0, 0, 0, 0, 0, 0, 0, 0, 0⟩
theorem Nd.ds_len (n : Nd) : n.ds.length = 8 := rfl

/-- Numbers of four bytes one behind the other. -/
def fours (ds : List Int) : List Int := ds.flatMap (fun d => leTo d 4)
theorem fours_take (ds : List Int) (k : Nat) (hk : k < ds.length) : fours (ds.take (k + 1)) = fours (ds.take k) ++ leTo (ds.getD k 0) 4 := by
  have e : ds.getD k 0 = ds[k] := by simp [List.getD, hk]
  rw [List.take_succ_eq_append_getElem hk, e]
  simp only [fours, List.flatMap_append, List.flatMap_cons, List.flatMap_nil, List.append_nil]
theorem fours_len (ds : List Int) : (fours ds).length = 4 * ds.length := by
  induction ds with
  | nil => rfl
  | cons d r ih => simp only [fours, List.flatMap_cons, List.length_append, leTo_len, List.length_cons] at *; omega
theorem isB_fours (ds : List Int) : IsB (fours ds) := by
  intro x hx
  obtain ⟨d, _, h⟩ := List.mem_flatMap.1 hx
  exact isB_leTo d 4 x h

/-- What is laid ahead of the zeros: 48 bytes. -/
def Nd.front (n : Nd) : List Int := leTo n.kd 1 ++ leTo 0 1 ++ leTo n.lk 2 ++ leTo n.sz 4 ++ fours n.ds ++ leTo n.on 4 ++ leTo n.tw 4
/-- A node's bytes ahead of the sum: 60. -/
def Nd.body (n : Nd) : List Int := n.front ++ List.replicate 12 0
/-- A node's bytes: 64. -/
def Nd.bytes (n : Nd) : List Int := n.body ++ leTo (sumV n.body) 4

theorem Nd.front_len (n : Nd) : n.front.length = 48 := by simp [Nd.front, leTo_len, fours_len, Nd.ds_len]
theorem Nd.body_len (n : Nd) : n.body.length = 60 := by simp [Nd.body, Nd.front_len]
theorem Nd.bytes_len (n : Nd) : n.bytes.length = 64 := by simp [Nd.bytes, Nd.body_len, leTo_len]
theorem Nd.front_isB (n : Nd) : IsB n.front := isB_app (isB_app (isB_app (isB_app (isB_app (isB_app (isB_leTo _ _) (isB_leTo _ _)) (isB_leTo _ _)) (isB_leTo _ _)) (isB_fours _)) (isB_leTo _ _)) (isB_leTo _ _)
theorem Nd.body_isB (n : Nd) : IsB n.body := isB_app n.front_isB (fun x hx => by rw [List.mem_replicate] at hx; omega)
theorem Nd.bytes_isB (n : Nd) : IsB n.bytes := isB_app n.body_isB (isB_leTo _ _)
theorem Nd.fix (n : Nd) : fixB n.front 60 = n.body := by
  have h := n.front_len
  unfold fixB Nd.body
  have e : (min (60 : Int) 65536).toNat = 60 := by decide
  rw [e, List.take_of_length_le (by omega), h]

/-- The number of m bytes from k on. -/
def numAt (xs : List Int) (k m : Nat) : Int := valB ((xs.drop k).take m)
/-- What is read out of 60 bytes. -/
def readN (xs : List Int) : Nd := ⟨numAt xs 0 1, numAt xs 2 2, numAt xs 4 4, numAt xs 8 4, numAt xs 12 4, numAt xs 16 4, numAt xs 20 4, numAt xs 24 4, numAt xs 28 4, numAt xs 32 4, numAt xs 36 4, numAt xs 40 4, numAt xs 44 4⟩

theorem tk_at (xs : List Int) (k m : Nat) (h : k + m ≤ xs.length) : valB (tkV ⟨xs.drop k, 0⟩ m) = numAt xs k m ∧ tkS ⟨xs.drop k, 0⟩ m = ⟨xs.drop (k + m), 0⟩ := by
  have h1 : ¬ (((xs.drop k).length : Int) < (m : Int)) := by simp; omega
  simp only [tkV, tkS, if_true, if_neg h1, Int.toNat_natCast, numAt, List.drop_drop, true_and]

/-- A node that may be. -/
def Nd.ok (n : Nd) : Prop := n.kd ≤ 2 ∧ n.sz ≤ 8458240
instance (n : Nd) : Decidable n.ok := by unfold Nd.ok; infer_instance

/-- What Decode answers: the node, and the error. -/
def decN (bs : List Int) : Nd := if bs.length = 64 ∧ openE bs = 0 ∧ (readN (bs.take 60)).ok ∧ (readN (bs.take 60)).bytes = bs then readN (bs.take 60) else Nd.no
def decE (bs : List Int) : Int := if bs.length < 64 then 2 else if 64 < bs.length then 5 else if openE bs = 0 then (if (readN (bs.take 60)).ok ∧ (readN (bs.take 60)).bytes = bs then 0 else 3) else openE bs
end Go.Proofs.YtcclpfcgodckgaaDoor

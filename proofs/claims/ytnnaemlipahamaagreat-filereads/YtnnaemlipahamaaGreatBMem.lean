/-
  A map of bits in memory: bytes of its own, one of them set; bytes as a string; the bytes' laws for the operations on bits.
-/
import Derived.Test.YtnnaemlipahamaaGreatProg
import Derived.Test.YtnnaemlipahamaaGreatBPure
import Derived.Deep.QuietTactic
import Derived.BigQuiet
import Derived.Below
import Derived.Laws.BitsAllLaws
namespace Go.Proofs.YtnnaemlipahamaaGreat
open Go.RowKit

/-- v is a slice of bytes of its own, at the head of block g, that reads xs. -/
def Mp (w : World) (g : Nat) (v : Value) (xs : List Int) : Prop :=
  (v = .slice none 0 0 ∧ xs = []) ∨
  ∃ (c : Nat) (cur : Array Value) (ty : TypeId), v = .slice (some ⟨g, 0, none⟩) xs.length c ∧ w.heap[g]? = some (.cells cur ty (0, 0)) ∧ xs.length ≤ c ∧ c ≤ maxLen ∧ ∀ j, j < xs.length → cur[j]? = some (.int .u8 (xs.getD j 0))

theorem Mp.bs {w : World} {g : Nat} {v : Value} {xs : List Int} (h : Mp w g v xs) : Bs w v xs := by
  rcases h with h | ⟨c, cur, ty, rfl, hb, hl, hm, hc⟩
  · exact .inl h
  · refine .inr ⟨⟨g, 0, none⟩, c, rfl, hl, hm, fun j hj => ?_⟩
    have e : (⟨g, 0, none⟩ : Addr).add j = ⟨g, j, none⟩ := by simp [Addr.add_lit]
    rw [e, cell_of_row _ _ _ _ _ _ hb]
    exact hc j hj
theorem Mp.kept {S : Nat → Prop} {w w' : World} {g : Nat} {v : Value} {xs : List Int} (h : Mp w g v xs) (hc : Chg S w w') (hn : ¬ S g) : Mp w' g v xs := by
  rcases h with h | ⟨c, cur, ty, rfl, hb, hl, hm, hcc⟩
  · exact .inl h
  · refine .inr ⟨c, cur, ty, rfl, ?_, hl, hm, hcc⟩
    rw [hc.block g ?_ hn]
    · exact hb
    · exact (Array.getElem?_eq_some_iff.1 hb).1
theorem Bs.formB {w : World} {v : Value} {xs : List Int} (h : Bs w v xs) : ∃ a c, v = .slice a xs.length c ∧ xs.length ≤ c := by
  rcases h with ⟨rfl, rfl⟩ | ⟨a, c, rfl, hl, _, _⟩
  · exact ⟨none, 0, rfl, Nat.le_refl _⟩
  · exact ⟨some a, c, rfl, hl⟩
theorem Bs.drewN {w : World} {v : Value} {xs : List Int} (h : Bs w v xs) (n : Nat) : Bs (w.drewN n) v xs := h.kept (Chg.drewN (fun _ => False) w n) (fun _ _ _ _ _ h => h)
/-- One byte set. -/
theorem Mp.set {w : World} {g : Nat} {v : Value} {xs : List Int} (h : Mp w g v xs) {j : Nat} (hj : j < xs.length) (y : Int) : Mp (w.setCell ⟨g, j, none⟩ (.int .u8 y)) g v (xs.set j y) := by
  rcases h with ⟨rfl, rfl⟩ | ⟨c, cur, ty, rfl, hb, hl, hm, hc⟩
  · simp at hj
  · refine .inr ⟨c, _, ty, by simp, heap_setCell_same w g j _ _ (.int .u8 y) hb, by simpa using hl, hm, fun k hk => ?_⟩
    have hk' : k < xs.length := by simpa using hk
    have h0 := hc k hk'
    have hs : k < cur.size := (Array.getElem?_eq_some_iff.1 h0).1
    by_cases e : k = j
    · subst e
      simp [List.getD, hk', hs]
    · have e1 : (xs.set j y).getD k 0 = xs.getD k 0 := by simp [List.getD, List.getElem?_set_ne (Ne.symm e)]
      rw [e1, ← h0]
      simp [Ne.symm e]
theorem Mp.ofOwns {w : World} {N : Nat} {v : Value} {n : Nat} {xs : List Int} (h : w.ownsRow N 5 1 v n (bcells xs)) : ∃ g, Mp w g v xs ∧ (∀ b, v.ownBlock = some b → b = g) := by
  have hn : xs.length = n := by have := h.1; simpa [bcells] using this
  subst hn
  rcases h.2 with ⟨rfl, h0⟩ | ⟨g, cap, cur, rfl, hb, hg, hnc, hcm, hcs, htake⟩
  · exact ⟨0, .inl ⟨rfl, List.eq_nil_of_length_eq_zero h0⟩, fun b hb => by simp [Value.ownBlock] at hb⟩
  · refine ⟨g, .inr ⟨cap, cur, 5, rfl, hg, hnc, hcm, fun j hj => ?_⟩, fun b hb => by simpa [Value.ownBlock] using hb.symm⟩
    have h1 : (cur.toList.take (xs.length * 1))[j]? = (bcells xs)[j]? := by rw [htake]
    rw [List.getElem?_take_of_lt (by omega)] at h1
    rw [← Array.getElem?_toList, h1]
    simp [bcells, List.getD, hj]

def strB (xs : List Int) : ByteArray := xs.foldl (fun r n => r.push (UInt8.ofNat n.toNat)) ByteArray.empty

theorem run_strB {w : World} {u : Value} {xs : List Int} (h : Bs w u xs) : (convert 33 9 u).run Tryz.prog w = .ok (.string (strB xs)) w := by
  rcases h with ⟨rfl, rfl⟩ | ⟨a, c, rfl, hl, hm, hcell⟩
  · rw [run_convert_bytes_string w 33 9 5 _ _ _ Tryz.underlying33 Tryz.underlying5 Tryz.underlying9]
    rfl
  · rw [run_convert_bytes_string w 33 9 5 _ _ _ Tryz.underlying33 Tryz.underlying5 Tryz.underlying9]
    refine run_bytesToString w a xs.length c xs ?_
    have h1 := run_loadCells_list (P := Tryz.prog) w a (bcells xs) (fun j u hu => by obtain ⟨hj, rfl⟩ := bcells_get hu; exact hcell j hj)
    simpa [bcells] using h1
theorem run_strM {w : World} {u : Value} {xs : List Int} (h : Bs w u xs) : (convert 92 9 u).run Tryz.prog w = .ok (.string (strB xs)) w := by
  rcases h with ⟨rfl, rfl⟩ | ⟨a, c, rfl, hl, hm, hcell⟩
  · rw [run_convert_bytes_string w 92 9 5 _ _ _ Tryz.underlying92 Tryz.underlying5 Tryz.underlying9]
    rfl
  · rw [run_convert_bytes_string w 92 9 5 _ _ _ Tryz.underlying92 Tryz.underlying5 Tryz.underlying9]
    refine run_bytesToString w a xs.length c xs ?_
    have h1 := run_loadCells_list (P := Tryz.prog) w a (bcells xs) (fun j u hu => by obtain ⟨hj, rfl⟩ := bcells_get hu; exact hcell j hj)
    simpa [bcells] using h1

/-- What a byte's bit is alone. -/
def msk (k : Nat) : Int := ((2 ^ (k % 8) : Nat) : Int)
theorem msk_lt (k : Nat) : (2 : Nat) ^ (k % 8) < 256 := Nat.lt_of_lt_of_le (Nat.pow_lt_pow_right (by omega) (show k % 8 < 8 by omega)) (by decide)
theorem msk_ne (k : Nat) : ¬ msk k = 0 := by
  unfold msk
  have := Nat.pow_pos (n := k % 8) (show 0 < 2 by omega)
  omega
theorem and_low (n : Int) (i : Nat) (hi : i ≤ 32) : bits .and .i64 n ((2 ^ i - 1 : Nat) : Int) = n % 2 ^ i := by
  have hp : (2 : Nat) ^ i ≤ 2 ^ 32 := Nat.pow_le_pow_right (by omega) hi
  have hp0 : 0 < (2 : Nat) ^ i := Nat.pow_pos (by omega)
  show IntKind.i64.wrap ((BitVec.ofInt 64 n &&& BitVec.ofInt 64 ((2 ^ i - 1 : Nat) : Int)).toNat : Int) = _
  rw [BitVec.toNat_and, ofInt_u64 (2 ^ i - 1) (by omega), Nat.and_two_pow_sub_one_eq_mod, BitVec.toNat_ofInt, IntKind.wrap_i64]
  have hm := Nat.mod_lt (n % ((2 ^ 64 : Nat) : Int)).toNat hp0
  have e1 : (((n % ((2 ^ 64 : Nat) : Int)).toNat % 2 ^ i : Nat) : Int) = n % 2 ^ i := by
    rw [Int.natCast_emod, Int.toNat_of_nonneg (Int.emod_nonneg _ (by decide)), Int.natCast_pow, Int.natCast_pow]
    have : ((2 : Int) ^ i) ∣ 2 ^ 64 := ⟨2 ^ (64 - i), by rw [← Int.pow_add]; congr 1; omega⟩
    exact Int.emod_emod_of_dvd n this
  rw [← e1]
  omega
theorem and_seven (k : Nat) : bits .and .i64 (k : Int) 7 = ((k % 8 : Nat) : Int) := by
  have h : bits .and .i64 (k : Int) 7 = (k : Int) % 2 ^ 3 := and_low (k : Int) 3 (by omega)
  rw [h]
  omega
theorem and_no (x k : Nat) (hx : x < 256) (h : x.testBit (k % 8) = false) : bits .and .u8 (x : Int) (msk k) = 0 := by
  unfold msk
  rw [u8_and_nat x _ hx (msk_lt k)]
  have : x &&& 2 ^ (k % 8) = 0 := by
    apply Nat.eq_of_testBit_eq
    intro i
    rw [Nat.testBit_and, Nat.testBit_two_pow, Nat.zero_testBit]
    by_cases e : k % 8 = i
    · subst e; rw [h]; rfl
    · simp [e]
  rw [this]; rfl
theorem and_yes (x k : Nat) (hx : x < 256) (h : x.testBit (k % 8) = true) : bits .and .u8 (x : Int) (msk k) = msk k := by
  unfold msk
  rw [u8_and_nat x _ hx (msk_lt k)]
  have : x &&& 2 ^ (k % 8) = 2 ^ (k % 8) := by
    apply Nat.eq_of_testBit_eq
    intro i
    rw [Nat.testBit_and, Nat.testBit_two_pow]
    by_cases e : k % 8 = i
    · subst e; rw [h]; simp
    · simp [e]
  rw [this]
theorem or_bit (x k : Nat) (hx : x < 256) (h : x.testBit (k % 8) = false) : bits .or .u8 (x : Int) (msk k) = ((x ^^^ 2 ^ (k % 8) : Nat) : Int) := by
  unfold msk
  rw [u8_or_nat x _ hx (msk_lt k)]
  have : x ||| 2 ^ (k % 8) = x ^^^ 2 ^ (k % 8) := by
    apply Nat.eq_of_testBit_eq
    intro i
    rw [Nat.testBit_or, Nat.testBit_xor, Nat.testBit_two_pow]
    by_cases e : k % 8 = i
    · subst e; rw [h]; simp
    · simp [e]
  rw [this]
theorem andNot_bit (x k : Nat) (hx : x < 256) (h : x.testBit (k % 8) = true) : bits .andNot .u8 (x : Int) (msk k) = ((x ^^^ 2 ^ (k % 8) : Nat) : Int) := by
  unfold msk
  rw [u8_andNot_nat x _ hx (msk_lt k)]
  have e5 : 255 - 2 ^ (k % 8) = 2 ^ 8 - (2 ^ (k % 8) + 1) := by omega
  have : x &&& (255 - 2 ^ (k % 8)) = x ^^^ 2 ^ (k % 8) := by
    apply Nat.eq_of_testBit_eq
    intro i
    rw [e5, Nat.testBit_and, Nat.testBit_xor, Nat.testBit_two_pow_sub_succ (msk_lt k), Nat.testBit_two_pow]
    by_cases e : k % 8 = i
    · subst e; rw [h]; simp
    · by_cases h8 : i < 8
      · simp [e, h8]
      · have : x.testBit i = false := Nat.testBit_lt_two_pow (Nat.lt_of_lt_of_le (show x < 2 ^ 8 by omega) (Nat.pow_le_pow_right (by omega) (by omega)))
        simp [e, this]
  rw [this]
theorem pow_mod8 (j : Nat) (h : j < 8) : (2 : Int) ^ j % 256 = 2 ^ j := by
  have h1 : (2 : Nat) ^ j < 256 := Nat.lt_of_lt_of_le (Nat.pow_lt_pow_right (by omega) h) (by decide)
  have h2 : ((2 ^ j : Nat) : Int) = (2 : Int) ^ j := by simp
  rw [← h2]
  exact Int.emod_eq_of_lt (Int.natCast_nonneg _) (Int.ofNat_lt.2 h1)
theorem xor_bit (x k : Nat) (hx : x < 256) : bits .xor .u8 (x : Int) (msk k) = ((x ^^^ 2 ^ (k % 8) : Nat) : Int) := by
  unfold msk
  rw [u8_xor_nat x _ hx (msk_lt k)]
theorem shr_bit (x k : Nat) (hx : x < 256) : bits .and .u8 ((x / 2 ^ (k % 8) : Nat) : Int) 1 = ((x.testBit (k % 8)).toNat : Int) := by
  have h1 : x / 2 ^ (k % 8) < 256 := Nat.lt_of_le_of_lt (Nat.div_le_self _ _) hx
  have e := u8_and_nat (x / 2 ^ (k % 8)) 1 h1 (by omega)
  rw [show ((1 : Nat) : Int) = 1 from rfl] at e
  rw [e, Nat.and_one_is_mod, Nat.testBit_eq_decide_div_mod_eq]
  by_cases h : x / 2 ^ (k % 8) % 2 = 1
  · rw [h]; simp
  · have : x / 2 ^ (k % 8) % 2 = 0 := by omega
    rw [this]; simp

set_option maxHeartbeats 1000000 in
theorem mask_any (k : Nat) (w : World) : Calls Tryz.prog 101 #[.int .i64 (k : Int)] w fun e w' => e = .returned (.int .u8 (msk k)) ∧ w' = w := by
  obtain ⟨j, hj⟩ : ∃ j, j = k % 8 := ⟨_, rfl⟩
  have h8 : j < 8 := by omega
  have e1 := and_seven k
  rw [← hj] at e1
  have e2 := pow_mod8 j h8
  have HJ : Hid (msk k = 2 ^ j) := by show msk k = 2 ^ j; unfold msk; rw [← hj]; simp
  clear hj
  go_enter Tryz.func101, Tryz.ntmps101
  go_wp2
  go_ret
  rw [HJ.out]
  exact ⟨rfl, rfl⟩
theorem holds_any (v : Value) (xs : List Int) (i : Int) (w : World) (h : Bs w v xs) (_hl : xs.length ≤ 1099511627776) : Calls Tryz.prog 100 #[v, .int .i64 i] w fun e w' => e = .returned (.bool (decide (0 ≤ i) && decide (i < 8 * (xs.length : Int)))) ∧ w' = w := by
  obtain ⟨a, c, rfl, hc⟩ := h.formB
  clear h hc
  by_cases h0 : 0 ≤ i
  · have h0' : decide (0 ≤ i) = true := by simpa using h0
    go_enter Tryz.func100, Tryz.ntmps100
    go_wp2
    go_ret
    simp [h0]
    omega
  · have h0' : decide (0 ≤ i) = false := by simpa using h0
    go_enter Tryz.func100, Tryz.ntmps100
    go_wp2
    go_ret
    exact ⟨rfl, rfl⟩
theorem within_any (v : Value) (xs : List Int) (i j : Int) (w : World) (h : Bs w v xs) (hl : xs.length ≤ 1099511627776) : Calls Tryz.prog 69 #[v, .int .i64 i, .int .i64 j] w fun e w' => e = .returned (.tuple #[.int .i64 (max i 0), .int .i64 (min j (8 * (xs.length : Int)))]) ∧ w' = w := by
  obtain ⟨a, c, rfl, hc⟩ := h.formB
  clear h hc
  go_enter Tryz.func69, Tryz.ntmps69
  go_wp2
  all_goals
    go_ret2
    refine ⟨?_, rfl⟩
    congr 3
    simp
    omega
theorem holds_yes {v : Value} {xs : List Int} {k : Nat} {w : World} (h : Bs w v xs) (hl : xs.length ≤ 1099511627776) (hk : k < 8 * xs.length) : Calls Tryz.prog 100 #[v, .int .i64 (k : Int)] w fun e w' => e = .returned (.bool true) ∧ w' = w := by
  refine (holds_any v xs k w h hl).mono ?_
  rintro e w' ⟨rfl, rfl⟩
  have h1 : decide ((0 : Int) ≤ (k : Int)) = true := by simp
  have h2 : decide ((k : Int) < 8 * (xs.length : Int)) = true := by simp; omega
  rw [h1, h2]
  exact ⟨rfl, rfl⟩
theorem holds_no {v : Value} {xs : List Int} {i : Int} {w : World} (h : Bs w v xs) (hl : xs.length ≤ 1099511627776) (hi : i < 0 ∨ 8 * (xs.length : Int) ≤ i) : Calls Tryz.prog 100 #[v, .int .i64 i] w fun e w' => e = .returned (.bool false) ∧ w' = w := by
  refine (holds_any v xs i w h hl).mono ?_
  rintro e w' ⟨rfl, rfl⟩
  refine ⟨?_, rfl⟩
  rcases hi with h1 | h1
  · have h2 : decide ((0 : Int) ≤ i) = false := by simp; omega
    rw [h2]; rfl
  · have h2 : decide (i < 8 * (xs.length : Int)) = false := by simp; omega
    rw [h2, Bool.and_false]
end Go.Proofs.YtnnaemlipahamaaGreat

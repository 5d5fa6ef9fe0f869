/-
  The contract of Sum of package codec: the table's cells are a hypothesis.
-/
import Derived.Test.YtefofoocglhdmaaDoorKHlp
namespace Go.Proofs.YtefofoocglhdmaaDoor
open Go.RowKit


/-- The table of package codec, as numbers. -/
def tabN : List Nat := [0, 498536548, 997073096, 651767980, 1994146192, 1802195444, 1303535960, 1342533948, 3988292384, 4027552580, 3604390888, 3412177804, 2607071920, 2262029012, 2685067896, 3183342108]
theorem tabN_lt (j : Nat) : tabN.getD j 0 < 4294967296 := by
  by_cases h : j < 16
  · have : ∀ i : Fin 16, tabN.getD i.val 0 < 4294967296 := by decide
    exact this ⟨j, h⟩
  · have : tabN.getD j 0 = 0 := by simp [List.getD, tabN, h]
    omega
/-- The table lies in the world. -/
def Tab (w : World) : Prop := ∀ j, j < 16 → w.cell? ⟨0, j, none⟩ = some (.int .u32 ((tabN.getD j 0 : Nat) : Int))

/-- Half a byte of the sum, by the table; a byte; bytes. -/
def halfN (c : Nat) : Nat := (c / 16) ^^^ tabN.getD (c % 16) 0
def stepN (c x : Nat) : Nat := halfN (halfN (c ^^^ x))
def crcN (c : Nat) (bs : List Int) : Nat := bs.foldl (fun c x => stepN c x.toNat) c
theorem halfN_lt (c : Nat) (h : c < 4294967296) : halfN c < 4294967296 := Nat.xor_lt_two_pow (n := 32) (by omega) (tabN_lt _)
theorem crcN_snoc (c : Nat) (l : List Int) (x : Int) : crcN c (l ++ [x]) = stepN (crcN c l) x.toNat := by simp [crcN]
theorem crcN_take (c : Nat) (l : List Int) (k : Nat) (hk : k < l.length) : crcN c (l.take (k + 1)) = stepN (crcN c (l.take k)) (l.getD k 0).toNat := by
  have e : l.take (k + 1) = l.take k ++ [l.getD k 0] := by
    rw [List.take_succ_eq_append_getElem hk]; simp [List.getD, hk]
  rw [e, crcN_snoc]

/-- One half in the walk's own forms. -/
theorem half_forms {w : World} (hT : Tab w) (c : Nat) (hc : c < 4294967296) : ∃ i t c' : Nat, bits .and .u32 (c : Int) 15 = (i : Int) ∧ i < 16 ∧ w.cell? ⟨0, i, none⟩ = some (.int .u32 (t : Int)) ∧ bits .xor .u32 ((c : Int) / 16) (t : Int) = (c' : Int) ∧ c' < 4294967296 ∧ c' = halfN c := by
  refine ⟨c % 16, tabN.getD (c % 16) 0, halfN c, ?_, by omega, hT _ (by omega), ?_, halfN_lt c hc, rfl⟩
  · have := u32_and_nat c 15 hc (by omega)
    have e : c &&& 15 = c % 16 := by
      have := Nat.and_two_pow_sub_one_eq_mod c 4
      simpa using this
    rw [e] at this
    exact this
  · have h1 := u32_xor_nat (c / 16) (tabN.getD (c % 16) 0) (by omega) (tabN_lt _)
    have e : ((c / 16 : Nat) : Int) = (c : Int) / 16 := by omega
    rw [e] at h1
    exact h1
theorem byte_forms (s : Nat) (x : Int) (hs : s < 4294967296) (hx0 : 0 ≤ x) (hx1 : x < 256) : ∃ c : Nat, bits .xor .u32 (s : Int) x = (c : Int) ∧ c < 4294967296 ∧ c = s ^^^ x.toNat := by
  obtain ⟨X, rfl⟩ := Int.eq_ofNat_of_zero_le hx0
  exact ⟨s ^^^ X, u32_xor_nat s X hs (by omega), Nat.xor_lt_two_pow (n := 32) (by omega) (by omega), by simp⟩

theorem nat_turned (c : Nat) (h : c < 4294967296) : 4294967295 ^^^ c = 4294967295 - c := by
  have h1 : (BitVec.allOnes 32 ^^^ BitVec.ofNat 32 c).toNat = (~~~ BitVec.ofNat 32 c).toNat := by rw [BitVec.allOnes_xor]
  rw [BitVec.toNat_xor, BitVec.toNat_not, BitVec.toNat_allOnes, BitVec.toNat_ofNat, Nat.mod_eq_of_lt (by omega)] at h1
  simpa using h1
theorem turned (c : Nat) (h : c < 4294967296) : bits .xor .u32 IntKind.u32.max (c : Int) = ((4294967295 - c : Nat) : Int) := by
  have h1 := u32_xor_nat 4294967295 c (by omega) h
  rw [nat_turned c h] at h1
  exact h1
theorem ret_eq {k : IntKind} {a b : Int} (h : a = b) : Ending.returned (.int k a) = .returned (.int k b) := by rw [h]

set_option maxHeartbeats 800000 in
set_option maxRecDepth 100000 in
theorem sum_any (v : Value) (bs : List Int) (w : World) (hb : Bs w v bs) (hB : IsB bs) (hT : Tab w) (hlen : bs.length ≤ 1099511627776) :
    Calls Tryd.prog 44 #[v] w fun e w' => e = .returned (.int .u32 ((4294967295 - crcN 4294967295 bs : Nat) : Int)) ∧ w' = w := by
  obtain ⟨ab, cb, hbv, hcb⟩ : ∃ a c, v = .slice a bs.length c ∧ bs.length ≤ c := by
    rcases hb with ⟨rfl, rfl⟩ | ⟨a, c, rfl, h, _⟩
    · exact ⟨none, 0, rfl, Nat.le_refl _⟩
    · exact ⟨_, _, rfl, h⟩
  subst hbv
  go_enter Tryd.func44, Tryd.ntmps44
  go_wp2
  go_loop [3, 8] (fun n i => ∃ (k : Nat) (s : Nat), k ≤ bs.length ∧ i = .int .i64 k ∧ n = .int .u32 s ∧ s < 4294967296 ∧ Hid (s = crcN 4294967295 (bs.take k))) (fun _ i => bs.length - (intOf i).toNat)
  case atStart => exact ⟨0, 4294967295, Nat.zero_le _, rfl, rfl, by omega, by simp [Hid, crcN]⟩
  case round =>
    obtain ⟨k, s, hk, rfl, rfl, hs1, HS⟩ := hrel
    by_cases hlt : k < bs.length
    · obtain ⟨b, off, rfl, hcs⟩ := hb.atC hlt
      have hc := hcs k hlt
      have hx := hB.at hlt
      have HC := crcN_take 4294967295 bs k hlt
      rw [← HS.out] at HC
      clear hcs hB hb
      generalize bs.getD k 0 = x at *
      obtain ⟨hx0, hx1⟩ := hx
      have hki : (k : Int) < (bs.length : Int) := by omega
      obtain ⟨c1, r1, b1, e1⟩ := byte_forms s x hs1 hx0 hx1
      obtain ⟨i1, t1, c2, r2, l2, j2, r3, b2, e2⟩ := half_forms hT c1 b1
      obtain ⟨i2, t2, c3, r4, l4, j4, r5, b3, e3⟩ := half_forms hT c2 b2
      have HE : Hid (c3 = crcN 4294967295 (bs.take (k + 1))) := by rw [HC, e3, e2, e1]; rfl
      clear HC e1 e2 e3 hT HS
      have l2' : (i1 : Int) < 16 := by omega
      have l4' : (i2 : Int) < 16 := by omega
      go_wp2
      go_roundw
      case rel => exact ⟨k + 1, c3, by omega, by go_num, rfl, b3, HE⟩
      case measure => simp [intOf]; omega
    · go_wp2
      go_ret
      refine ⟨?_, rfl⟩
      have e : bs.take k = bs := List.take_of_length_le (by omega)
      have hs : s = crcN 4294967295 bs := by rw [HS.out, e]
      subst hs
      clear hb hB hT HS
      exact ret_eq (turned _ hs1)
theorem Tab.below {N : Nat} {w w' : World} (h : Tab w) (hb : Below N w w') (hN : 0 < N) : Tab w' := fun j hj => (hb.cell (p := ⟨0, j, none⟩) hN).trans (h j hj)
end Go.Proofs.YtefofoocglhdmaaDoor

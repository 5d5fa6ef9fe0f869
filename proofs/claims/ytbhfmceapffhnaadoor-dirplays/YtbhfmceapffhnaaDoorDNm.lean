/-
  Names by their number.
-/
import Derived.Test.YtbhfmceapffhnaaDoorDKnown
import Derived.Test.YtbhfmceapffhnaaDoorDBytes
namespace Go.Proofs.YtbhfmceapffhnaaDoor
open Go.RowKit

/-- The bytes of the name of number i. -/
def nmD (i : Nat) : List UInt8 := [110, UInt8.ofNat (97 + i / 26), UInt8.ofNat (97 + i % 26)]
/-- .. as a text. -/
def nmI (i : Nat) : ByteArray := ⟨(nmD i).toArray⟩
/-- .. with a word ahead. -/
def agD (i : Nat) : List UInt8 := [97, 103, 97, 105, 110] ++ nmD i
def agI (i : Nat) : ByteArray := ⟨(agD i).toArray⟩
theorem nmI_list (i : Nat) : (nmI i).toList = nmD i := by rw [ByteArray.toList_eq]; simp [nmI]
theorem agI_list (i : Nat) : (agI i).toList = agD i := by rw [ByteArray.toList_eq]; simp [agI]
theorem nmI_size (i : Nat) : (nmI i).size = 3 := rfl
theorem agI_size (i : Nat) : (agI i).size = 8 := rfl
/-- Is it a name, by its bytes? -/
def nameD (l : List UInt8) : Bool := decide (1 ≤ l.length) && decide (l.length ≤ 48) && !(l == [46]) && !(l == [46, 46]) && l.all okB
theorem nameB_eq (s : ByteArray) : nameB s = nameD s.data.toList := by
  unfold nameB nameD
  rw [ByteArray.toList_eq]
  have : s.size = s.data.toList.length := by simp
  rw [this]
theorem nmI_name (i : Nat) (h : i < 64) : nameB (nmI i) = true := by
  rw [nameB_eq]
  have H : ∀ i : Fin 64, nameD (nmD i.val) = true := by decide +kernel
  have := H ⟨i, h⟩
  simpa [nmI] using this
theorem agI_name (i : Nat) (h : i < 64) : nameB (agI i) = true := by
  rw [nameB_eq]
  have H : ∀ i : Fin 64, nameD (agD i.val) = true := by decide +kernel
  have := H ⟨i, h⟩
  simpa [agI] using this
theorem nmD_inj (i j : Nat) (hi : i < 64) (hj : j < 64) (h : nmD i = nmD j) : i = j := by
  have H : ∀ i j : Fin 64, nmD i.val = nmD j.val → i = j := by decide +kernel
  have := H ⟨i, hi⟩ ⟨j, hj⟩ h
  exact congrArg Fin.val this
theorem nmI_ne (i j : Nat) (hi : i < 64) (hj : j < 64) (h : i ≠ j) : ((nmI i).toList == (nmI j).toList) = false := by
  rw [nmI_list, nmI_list]
  exact beq_eq_false_iff_ne.2 (fun e => h (nmD_inj i j hi hj e))
theorem nmI_eq (i j : Nat) (hi : i < 64) (hj : j < 64) (h : ((nmI i).toList == (nmI j).toList) = true) : i = j := by
  rw [nmI_list, nmI_list] at h
  exact nmD_inj i j hi hj (beq_iff_eq.1 h)
theorem agI_ne (i j : Nat) (hi : i < 64) (hj : j < 64) (h : i ≠ j) : ((agI i).toList == (agI j).toList) = false := by
  rw [agI_list, agI_list]
  refine beq_eq_false_iff_ne.2 (fun e => h (nmD_inj i j hi hj ?_))
  exact List.append_cancel_left e
theorem nm_ag (i j : Nat) : ((nmI i).toList == (agI j).toList) = false := by
  rw [nmI_list, agI_list]
  exact beq_eq_false_iff_ne.2 (fun e => by have := congrArg List.length e; simp [nmD, agD] at this)

/-- A slice of numbers. -/
def Is (w : World) (v : Value) (xs : List Int) : Prop :=
  (v = .slice none 0 0 ∧ xs = []) ∨
  ∃ a c, v = .slice (some a) xs.length c ∧ xs.length ≤ c ∧ c ≤ maxLen ∧ ∀ j, j < xs.length → w.cell? (a.add j) = some (.int .i64 (xs.getD j 0))
theorem Is.form {w : World} {v : Value} {xs : List Int} (h : Is w v xs) : ∃ a c, v = .slice a xs.length c := by
  rcases h with ⟨rfl, rfl⟩ | ⟨a, c, rfl, _⟩
  · exact ⟨_, _, rfl⟩
  · exact ⟨_, _, rfl⟩
theorem Is.below {w w' : World} {v : Value} {xs : List Int} (h : Is w v xs) (hb : Below w.heap.size w w') : Is w' v xs := by
  rcases h with h | ⟨a, c, rfl, hl, hm, hcell⟩
  · exact .inl h
  · exact .inr ⟨a, c, rfl, hl, hm, fun j hj => (Chg.ofBelowC hb).cell (hcell j hj) (fun h => h)⟩
theorem Is.nth {w : World} {va : Option Addr} {n vc j : Nat} {l : List Int} (h : Is w (.slice va n vc) l) (hj : j < l.length) : ∃ b off, va = some ⟨b, off, none⟩ ∧ ∀ k, k < l.length → w.cell? ⟨b, off + k, none⟩ = some (.int .i64 (l.getD k 0)) := by
  rcases h with ⟨e, rfl⟩ | ⟨x, c', e, hl, hm, hcell⟩
  · simp at hj
  · simp at e
    obtain ⟨rfl, _, _⟩ := e
    obtain ⟨b, off, spot⟩ := x
    have h0 := hcell 0 (by omega)
    have hspot : spot = none := by simpa [Addr.add] using World.cell?_spot h0
    subst hspot
    refine ⟨b, off, rfl, fun k hk => ?_⟩
    have := hcell k hk
    unfold Addr.add at this
    split at this
    · rename_i e; subst e; simpa using this
    · exact this
theorem and63 (n : Int) : bits .and .i64 n 63 = n % 64 := by
  have := and_mask n 6 (by omega)
  simpa using this
theorem strC_two (x y : Int) : strC [x, y] = ⟨#[UInt8.ofNat x.toNat, UInt8.ofNat y.toNat]⟩ := rfl

set_option maxHeartbeats 1600000 in
set_option maxRecDepth 100000 in
theorem nm_any (i : Nat) (w : World) (hi : i < 64) : Calls Tryd.prog 33 #[.int .i64 (i : Int)] w fun e w' => e = .returned (.string (nmI i)) ∧ Below w.heap.size w w' := by
  have hb := Bs.litC w [97 + (i : Int) / 26, 97 + (i : Int) % 26] (0, 0) (by simp)
  have hr : (convert 52 9 (.slice (some ⟨w.heap.size, 0, none⟩) 2 2)).run Tryd.prog (w.alloc (.cells #[.int .u8 (97 + (i : Int) / 26), .int .u8 (97 + (i : Int) % 26)] 5)) = .ok (.string (strC [97 + (i : Int) / 26, 97 + (i : Int) % 26])) (w.alloc (.cells #[.int .u8 (97 + (i : Int) / 26), .int .u8 (97 + (i : Int) % 26)] 5)) := run_strC hb
  have B : Below w.heap.size w (w.alloc (.cells #[.int .u8 (97 + (i : Int) / 26), .int .u8 (97 + (i : Int) % 26)] 5)) := (Below.refl _ _).alloc (Nat.le_refl _) _
  clear hb
  have e1 : (97 + (i : Int) / 26) % 256 = 97 + (i : Int) / 26 := by omega
  have e2 : (97 + (i : Int) % 26) % 256 = 97 + (i : Int) % 26 := by omega
  go_enter Tryd.func33, Tryd.ntmps33
  go_wp2_with fail
  go_ret
  refine ⟨?_, B⟩
  rw [strC_two]
  have e3 : (97 + (i : Int) / 26).toNat = 97 + i / 26 := by omega
  have e4 : (97 + (i : Int) % 26).toNat = 97 + i % 26 := by omega
  rw [e3, e4]
  rfl
end Go.Proofs.YtbhfmceapffhnaaDoor

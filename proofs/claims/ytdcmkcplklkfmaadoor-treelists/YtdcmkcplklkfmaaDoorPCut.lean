/-
  Names cut out of a text; cut of package path.
-/
import Derived.Test.YtdcmkcplklkfmaaDoorDName
import Derived.Test.YtdcmkcplklkfmaaDoorPMem
import Derived.Test.YtdcmkcplklkfmaaDoorPShelf
import Derived.WalkMore
import Derived.OwnWalk
import Derived.Deep.DeepMust
namespace Go.Proofs.YtdcmkcplklkfmaaDoor
open Go.RowKit

/-- A text of these bytes. -/
abbrev bl (l : List UInt8) : ByteArray := ⟨l.toArray⟩
/-- What stands between strokes. -/
def cutL : List UInt8 → List (List UInt8)
  | [] => [[]]
  | x :: xs => if x = 47 then [] :: cutL xs else (x :: (cutL xs).headD []) :: (cutL xs).tail
theorem cutL_ne (l : List UInt8) : cutL l ≠ [] := by
  cases l with
  | nil => simp [cutL]
  | cons x xs => rw [cutL]; split <;> simp
theorem cutL_cons (l : List UInt8) : cutL l = (cutL l).headD [] :: (cutL l).tail := by
  have := cutL_ne l
  cases h : cutL l with
  | nil => exact absurd h this
  | cons a b => rfl
theorem cutL_none (a : List UInt8) (h : ∀ x ∈ a, x ≠ 47) : cutL a = [a] := by
  induction a with
  | nil => rfl
  | cons x xs ih =>
    have e := ih (fun y hy => h y (by simp [hy]))
    rw [cutL, if_neg (h x (by simp)), e]; rfl
theorem cutL_at (a b : List UInt8) (h : ∀ x ∈ a, x ≠ 47) : cutL (a ++ 47 :: b) = a :: cutL b := by
  induction a with
  | nil => rfl
  | cons x xs ih =>
    have e := ih (fun y hy => h y (by simp [hy]))
    rw [List.cons_append, cutL, if_neg (h x (by simp)), e]; rfl
theorem cutL_len (l : List UInt8) : (cutL l).length ≤ l.length + 1 := by
  induction l with
  | nil => simp [cutL]
  | cons x xs ih =>
    rw [cutL]
    split
    · simp; exact ih
    · simp; omega
theorem bl_data (s : ByteArray) : bl s.data.toList = s := rfl
theorem mem_take {s : ByteArray} {k : Nat} (hA : ∀ j, (hj : j < s.size) → j < k → s[j] ≠ 47) : ∀ x ∈ s.data.toList.take k, x ≠ 47 := by
  intro x hx
  obtain ⟨j, hj, rfl⟩ := List.mem_iff_getElem.1 hx
  have hj2 : j < k ∧ j < s.data.size := by rw [List.length_take, Array.length_toList] at hj; omega
  have := hA j hj2.2 hj2.1
  rw [List.getElem_take]
  exact this
theorem split_at {s : ByteArray} {k : Nat} (hk : k < s.size) (h : s[k] = 47) : s.data.toList = s.data.toList.take k ++ 47 :: s.data.toList.drop (k + 1) := by
  have hk' : k < s.data.toList.length := by simpa using hk
  have e : s.data.toList[k] = 47 := h
  rw [← e, ← List.drop_eq_getElem_cons hk', List.take_append_drop]

/-- How long a text is. -/
def strSz : Value → Nat
  | .string t => t.size
  | _ => 0
theorem info9T : ∃ i : TypeInfo, Tryd.prog.info? 9 = some i ∧ i.zero = some (.string ByteArray.empty) ∧ i.size = 1 ∧ i.bytes = 16 := by
  have h : (Tryd.prog.info? 9).map (fun i => (i.zero, i.size, i.bytes)) = some (some (.string ByteArray.empty), 1, 16) := by kernel_rfl
  cases hi : Tryd.prog.info? 9 with
  | none => rw [hi] at h; cases h
  | some i =>
    rw [hi] at h
    injection h with h
    injection h with h1 h
    injection h with h2 h3
    exact ⟨i, rfl, h1, h2, h3⟩
theorem ext_take (t : ByteArray) (k : Nat) : t.extract 0 k = bl (t.data.toList.take k) := by
  apply ByteArray.ext
  rw [ByteArray.data_extract]
  apply Array.toList_inj.1
  rw [Array.toList_extract, List.extract_eq_take_drop]
  simp
theorem ext_drop (t : ByteArray) (k : Nat) : (t.extract k t.size).data.toList = t.data.toList.drop k := by
  rw [ByteArray.data_extract, Array.toList_extract]
  have : t.size = t.data.toList.length := by simp
  rw [List.extract_eq_take_drop, this, ← List.length_drop, List.take_length]
theorem sclone_any (s : ByteArray) (w : World) (hs : s.size ≤ 281474976710656) :
    Calls Tryd.prog 63 #[.string s] w fun e w' => e = .returned (.string s) ∧ Below w.heap.size w w' := by
  go_enter Tryd.func63, Tryd.ntmps63
  go_wp2_with (go_at_call 71; refine (Tryd.stringslite_Clone _ _ hs).mono ?_; rintro e w1 ⟨rfl, hB⟩)
  go_ret
  exact ⟨rfl, hB⟩

theorem below_drN {N : Nat} {w w' : World} (h : Below N w w') (n : Nat) : Below N w (w'.drewN n) := ⟨h.os, h.tape, h.output, h.size, h.block⟩
theorem own_drN {w : World} {N T n : Nat} {u : Value} {xs : List Value} (h : w.ownsRow N T 1 u n xs) (m : Nat) : (w.drewN m).ownsRow N T 1 u n xs := own_keptT h (below_drN (Below.refl _ _) m)
set_option maxHeartbeats 1600000 in
theorem cut_any (s : ByteArray) (w : World) (hs : s.size ≤ 4000) :
    Calls Tryd.prog 52 #[.string s] w fun e w' => ∃ v, e = .returned v ∧ Tx w' v ((cutL s.data.toList).map bl) ∧ Below w.heap.size w w' := by
  obtain ⟨i9, hi9, hz9, hs9, hb9⟩ := info9T
  go_enter Tryd.func52, Tryd.ntmps52
  go_wp2_with fail
  go_step3
  go_wp2_with fail
  go_step3
  go_wp2_with fail
  go_loopw [0, 3] (fun sv nv wr => ∃ (t : ByteArray) (ns : List ByteArray), sv = .string t ∧ Hid (t.size ≤ 4000) ∧ Hid ((cutL s.data.toList).map bl = ns ++ (cutL t.data.toList).map bl) ∧ Below w.heap.size w wr ∧ wr.ownsRow w.heap.size 9 1 nv ns.length (ns.map Value.string) ∧ Hid (ns.length + t.size ≤ 4000)) (fun sv _ _ => strSz sv)
  case atStart => exact ⟨s, [], rfl, hs, rfl, Below.refl _ _, World.ownsRow_nil _ _ _ _, show (0 : Nat) + s.size ≤ 4000 by omega⟩
  case round =>
    obtain ⟨t, ns, rfl, ht, hc, B, O, hl⟩ := hrel
    have ht' := ht.out
    have p0 : ((⟨#[47]⟩ : ByteArray)[0]'(by decide)).toNat = 47 := rfl
    go_wp2_with fail
    go_loopw [0, 3, 7] (fun sv nv i wr' => ∃ k : Nat, sv = .string t ∧ k ≤ t.size ∧ i = .int .i64 k ∧ Hid (∀ j, (hj : j < t.size) → j < k → t[j] ≠ 47) ∧ Below w.heap.size w wr' ∧ wr'.ownsRow w.heap.size 9 1 nv ns.length (ns.map Value.string)) (fun _ _ i _ => t.size - (intOf i).toNat)
    case atStart => exact ⟨0, rfl, Nat.zero_le _, rfl, (fun j _ h => by omega), B, O⟩
    case round =>
      clear O B
      obtain ⟨k, rfl, hk, rfl, hA, B, O⟩ := hrel
      by_cases hlt : k < t.size
      · have q1 : (k : Int) < t.size := by omega
        by_cases h47 : t[k] = 47
        · have p1 : ((t[k].toNat : Int) == 47) = true := by rw [h47]; rfl
          have HT : Hid (t.data.toList = t.data.toList.take k ++ 47 :: t.data.toList.drop (k + 1)) := split_at hlt h47
          clear h47
          go_wp2_with fail
          go_quiet (fail)
          have B1 := below_drN B nq
          have O1 := own_drN O nq
          clear B O
          obtain ⟨W, hW⟩ : ∃ W, wr.drewN nq = W := ⟨_, rfl⟩
          rw [hW] at B1 O1 ⊢
          clear hW
          obtain ⟨X, hXe⟩ : ∃ X, Hid (t.extract 0 k = X) := ⟨_, rfl⟩
          have hX : X.size ≤ 281474976710656 := by rw [← hXe.out, ByteArray.size_extract]; omega
          have he := hXe.out
          go_wp2_with (first
            | (go_at_call 63; refine (sclone_any X _ hX).mono ?_; rintro e W1 ⟨rfl, hB1⟩)
            | (at_builtin; go_must (refine wpList_appT rfl _ (.tmp 20) 45 rfl w.heap.size i9 Tryd.underlying45 hi9 hz9 hs9 hb9 _ _ ns.length ns [X] rfl (own_keptT (own_keptT O1 hB1) ((Below.refl _ _).alloc (Nat.le_refl _) (.cells #[.string X] 9))) rfl (Tx.one _ X) ?c1 ?c2 ?next)))
          case c1 => have := hl.out; simp; omega
          case c2 => have := B1.size; have := hB1.size; simp; omega
          case next =>
            intro v3 w3 O3 B3 _
            have B4 := ((B1.trans (hB1.mono B1.size)).alloc (Nat.le_trans B1.size hB1.size) (.cells #[.string X] 9)).trans B3
            have O4 : w3.ownsRow w.heap.size 9 1 v3 (ns ++ [X]).length ((ns ++ [X]).map Value.string) := by simpa using O3
            have hc2 : Hid ((cutL s.data.toList).map bl = (ns ++ [X]) ++ (cutL (t.extract (k + 1) t.size).data.toList).map bl) := by
              show _ = _
              rw [hc.out, HT.out, cutL_at _ _ (mem_take hA.out), List.map_cons, ext_drop, ← he, ext_take, List.append_assoc]
              rfl
            have hl2 : Hid ((ns ++ [X]).length + (t.extract (k + 1) t.size).size ≤ 4000) := by
              show _ ≤ _
              have := hl.out
              rw [List.length_append, ByteArray.size_extract]
              simp only [List.length_cons, List.length_nil]
              omega
            have hs2 : Hid ((t.extract (k + 1) t.size).size ≤ 4000) := by show _ ≤ _; rw [ByteArray.size_extract]; omega
            have hm2 : Hid ((t.extract (k + 1) t.size).size < t.size) := by show _ < _; rw [ByteArray.size_extract]; omega
            have q2 : ((k : Int) + 1) ≤ t.size := by omega
            clear B1 O1 hB1 B3 O3 hX hXe he HT
            go_wp2_with fail
            go_roundw
            case rel => exact ⟨_, ns ++ [X], rfl, hs2, hc2, B4, O4, hl2⟩
            case measure => exact hm2.out
        · have p1 : ((t[k].toNat : Int) == 47) = false := by
            refine beq_eq_false_iff_ne.2 fun e => h47 ?_
            exact UInt8.toNat_inj.1 (by have : t[k].toNat = 47 := by omega
                                        simpa using this)
          have hA' : Hid (∀ j, (hj : j < t.size) → j < k + 1 → t[j] ≠ 47) := fun j hj h => by
            rcases (by omega : j < k ∨ j = k) with h | rfl
            · exact hA.out j hj h
            · exact h47
          go_wp2_with fail
          go_quiet (fail)
          go_wp2_with fail
          go_roundw
          case rel => exact ⟨k + 1, rfl, by omega, by go_num, hA', below_drN B _, own_drN O _⟩
          case measure => simp [intOf]; omega
      · have q1 : ¬ (k : Int) < t.size := by omega
        have hX : t.size ≤ 281474976710656 := by omega
        have hA' := hA.out
        have HE : Hid ((cutL s.data.toList).map bl = ns ++ [t]) := by
          show _ = _
          rw [hc.out, cutL_none _ fun x hx => ?_]
          · rfl
          · refine mem_take (k := k) hA' x ?_
            rw [List.take_of_length_le]
            · exact hx
            · show t.data.toList.length ≤ k
              have : t.size = t.data.toList.length := by simp
              omega
        clear hA'
        go_wp2_with (first
          | (go_at_call 63; refine (sclone_any t _ hX).mono ?_; rintro e W1 ⟨rfl, hB1⟩)
          | (at_builtin; go_must (refine wpList_appT rfl _ (.tmp 30) 45 rfl w.heap.size i9 Tryd.underlying45 hi9 hz9 hs9 hb9 _ _ ns.length ns [t] rfl (own_keptT (own_keptT O hB1) ((Below.refl _ _).alloc (Nat.le_refl _) (.cells #[.string t] 9))) rfl (Tx.one _ t) ?c1 ?c2 ?next)))
        case c1 => have := hl.out; simp; omega
        case c2 => have := B.size; have := hB1.size; simp; omega
        case next =>
          intro v3 w3 O3 B3 _
          have B4 := ((B.trans (hB1.mono B.size)).alloc (Nat.le_trans B.size hB1.size) (.cells #[.string t] 9)).trans B3
          have T4 : Tx w3 v3 ((cutL s.data.toList).map bl) := by rw [HE.out]; exact Tx.ofOwns (N := w.heap.size) (n := ns.length + 1) (by rw [List.map_append]; exact O3)
          clear B O hB1 B3 O3 hX HE
          go_wp2_with fail
          try rw [Exit.noGoto_ret]
          go_ret
          exact ⟨_, rfl, T4, B4⟩
end Go.Proofs.YtdcmkcplklkfmaaDoor

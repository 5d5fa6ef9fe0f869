/-
  Names cut out of a text; cut of package path.
-/
import Derived.Test.YtlnjnimenihhnaaGreatDoorVMem
import Derived.Test.YtlnjnimenihhnaaGreatDoorPMem
import Derived.Test.YtlnjnimenihhnaaGreatDoorPShelf
import Derived.WalkMore
import Derived.OwnWalk
import Derived.Deep.DeepMust
namespace Go.Proofs.YtlnjnimenihhnaaGreatDoor
open Go.RowKit

/-- A text of these bytes. -/
abbrev bl (l : List UInt8) : ByteArray := ⟨l.toArray⟩
/-- What stands between strokes. -/
def cutL : List UInt8 → List (List UInt8)
  | [] => [[]]
  | x :: xs => if x = 47 then [] :: cutL xs else (x :: (cutL xs).headD []) :: (cutL xs).tail
theorem cutL_ne (l : List UInt8) : cutL l ≠ [] := by
  cases l with
  | nil => simp [cutL]
  | cons x xs => rw [cutL]; split <;> simp
theorem cutL_cons (l : List UInt8) : cutL l = (cutL l).headD [] :: (cutL l).tail := by
  have := cutL_ne l
  cases h : cutL l with
  | nil => exact absurd h this
  | cons a b => rfl
theorem cutL_none (a : List UInt8) (h : ∀ x ∈ a, x ≠ 47) : cutL a = [a] := by
  induction a with
  | nil => rfl
  | cons x xs ih =>
    have e := ih (fun y hy => h y (by simp [hy]))
    rw [cutL, if_neg (h x (by simp)), e]; rfl
theorem cutL_at (a b : List UInt8) (h : ∀ x ∈ a, x ≠ 47) : cutL (a ++ 47 :: b) = a :: cutL b := by
  induction a with
  | nil => rfl
  | cons x xs ih =>
    have e := ih (fun y hy => h y (by simp [hy]))
    rw [List.cons_append, cutL, if_neg (h x (by simp)), e]; rfl
theorem cutL_len (l : List UInt8) : (cutL l).length ≤ l.length + 1 := by
  induction l with
  | nil => simp [cutL]
  | cons x xs ih =>
    rw [cutL]
    split
    · simp; exact ih
    · simp; omega
theorem mem_take {s : ByteArray} {k : Nat} (hA : ∀ j, (hj : j < s.size) → j < k → s[j] ≠ 47) : ∀ x ∈ s.data.toList.take k, x ≠ 47 := by
  intro x hx
  obtain ⟨j, hj, rfl⟩ := List.mem_iff_getElem.1 hx
  have hj2 : j < k ∧ j < s.data.size := by rw [List.length_take, Array.length_toList] at hj; omega
  have := hA j hj2.2 hj2.1
  rw [List.getElem_take]
  exact this
theorem split_at {s : ByteArray} {k : Nat} (hk : k < s.size) (h : s[k] = 47) : s.data.toList = s.data.toList.take k ++ 47 :: s.data.toList.drop (k + 1) := by
  have hk' : k < s.data.toList.length := by simpa using hk
  have e : s.data.toList[k] = 47 := h
  rw [← e, ← List.drop_eq_getElem_cons hk', List.take_append_drop]

/-- How long a text is. -/
def strSz : Value → Nat
  | .string t => t.size
  | _ => 0
theorem info9T : ∃ i : TypeInfo, Tryz.prog.info? 9 = some i ∧ i.zero = some (.string ByteArray.empty) ∧ i.size = 1 ∧ i.bytes = 16 := by
  have h : (Tryz.prog.info? 9).map (fun i => (i.zero, i.size, i.bytes)) = some (some (.string ByteArray.empty), 1, 16) := by kernel_rfl
  cases hi : Tryz.prog.info? 9 with
  | none => rw [hi] at h; cases h
  | some i =>
    rw [hi] at h
    injection h with h
    injection h with h1 h
    injection h with h2 h3
    exact ⟨i, rfl, h1, h2, h3⟩
theorem ext_take (t : ByteArray) (k : Nat) : t.extract 0 k = bl (t.data.toList.take k) := by
  apply ByteArray.ext
  rw [ByteArray.data_extract]
  apply Array.toList_inj.1
  rw [Array.toList_extract, List.extract_eq_take_drop]
  simp
theorem ext_drop (t : ByteArray) (k : Nat) : (t.extract k t.size).data.toList = t.data.toList.drop k := by
  rw [ByteArray.data_extract, Array.toList_extract]
  have : t.size = t.data.toList.length := by simp
  rw [List.extract_eq_take_drop, this, ← List.length_drop, List.take_length]
theorem sclone_any (s : ByteArray) (w : World) (hs : s.size ≤ 281474976710656) :
    Calls Tryz.prog 97 #[.string s] w fun e w' => e = .returned (.string s) ∧ Below w.heap.size w w' := by
  go_enter Tryz.func97, Tryz.ntmps97
  go_wp2_with (go_at_call 106; refine (Tryz.stringslite_Clone _ _ hs).mono ?_; rintro e w1 ⟨rfl, hB⟩)
  go_ret
  exact ⟨rfl, hB⟩

theorem below_drN {N : Nat} {w w' : World} (h : Below N w w') (n : Nat) : Below N w (w'.drewN n) := ⟨h.os, h.tape, h.output, h.size, h.block⟩
theorem own_drN {w : World} {N T n : Nat} {u : Value} {xs : List Value} (h : w.ownsRow N T 1 u n xs) (m : Nat) : (w.drewN m).ownsRow N T 1 u n xs := own_keptT h (below_drN (Below.refl _ _) m)
set_option maxHeartbeats 1600000 in
theorem cut_any (s : ByteArray) (w : World) (hs : s.size ≤ 4000) :
    Calls Tryz.prog 81 #[.string s] w fun e w' => ∃ v, e = .returned v ∧ Tx w' v ((cutL s.data.toList).map bl) ∧ Below w.heap.size w w' := by
  obtain ⟨i9, hi9, hz9, hs9, hb9⟩ := info9T
  go_enter Tryz.func81, Tryz.ntmps81
  go_wp2_with fail
  go_step3
  go_wp2_with fail
  go_step3
  go_wp2_with fail
  go_loopw [0, 3] (fun sv nv wr => ∃ (t : ByteArray) (ns : List ByteArray), sv = .string t ∧ Hid (t.size ≤ 4000) ∧ Hid ((cutL s.data.toList).map bl = ns ++ (cutL t.data.toList).map bl) ∧ Below w.heap.size w wr ∧ wr.ownsRow w.heap.size 9 1 nv ns.length (ns.map Value.string) ∧ Hid (ns.length + t.size ≤ 4000)) (fun sv _ _ => strSz sv)
  case atStart => exact ⟨s, [], rfl, hs, rfl, Below.refl _ _, World.ownsRow_nil _ _ _ _, show (0 : Nat) + s.size ≤ 4000 by omega⟩
  case round =>
    obtain ⟨t, ns, rfl, ht, hc, B, O, hl⟩ := hrel
    have ht' := ht.out
    have p0 : ((⟨#[47]⟩ : ByteArray)[0]'(by decide)).toNat = 47 := rfl
    go_wp2_with fail
    go_loopw [0, 3, 7] (fun sv nv i wr' => ∃ k : Nat, sv = .string t ∧ k ≤ t.size ∧ i = .int .i64 k ∧ Hid (∀ j, (hj : j < t.size) → j < k → t[j] ≠ 47) ∧ Below w.heap.size w wr' ∧ wr'.ownsRow w.heap.size 9 1 nv ns.length (ns.map Value.string)) (fun _ _ i _ => t.size - (intOf i).toNat)
    case atStart => exact ⟨0, rfl, Nat.zero_le _, rfl, (fun j _ h => by omega), B, O⟩
    case round =>
      clear O B
      obtain ⟨k, rfl, hk, rfl, hA, B, O⟩ := hrel
      by_cases hlt : k < t.size
      · have q1 : (k : Int) < t.size := by omega
        by_cases h47 : t[k] = 47
        · have p1 : ((t[k].toNat : Int) == 47) = true := by rw [h47]; rfl
          have HT : Hid (t.data.toList = t.data.toList.take k ++ 47 :: t.data.toList.drop (k + 1)) := split_at hlt h47
          clear h47
          go_wp2_with fail
          go_quiet (fail)
          have B1 := below_drN B nq
          have O1 := own_drN O nq
          clear B O
          obtain ⟨W, hW⟩ : ∃ W, wr.drewN nq = W := ⟨_, rfl⟩
          rw [hW] at B1 O1 ⊢
          clear hW
          obtain ⟨X, hXe⟩ : ∃ X, Hid (t.extract 0 k = X) := ⟨_, rfl⟩
          have hX : X.size ≤ 281474976710656 := by rw [← hXe.out, ByteArray.size_extract]; omega
          have he := hXe.out
          go_wp2_with (first
            | (go_at_call 97; refine (sclone_any X _ hX).mono ?_; rintro e W1 ⟨rfl, hB1⟩)
            | (at_builtin; go_must (refine wpList_appT rfl _ (.tmp 20) 49 rfl w.heap.size i9 Tryz.underlying49 hi9 hz9 hs9 hb9 _ _ ns.length ns [X] rfl (own_keptT (own_keptT O1 hB1) ((Below.refl _ _).alloc (Nat.le_refl _) (.cells #[.string X] 9))) rfl (Tx.one _ X) ?c1 ?c2 ?next)))
          case c1 => have := hl.out; simp; omega
          case c2 => have := B1.size; have := hB1.size; simp; omega
          case next =>
            intro v3 w3 O3 B3 _
            have B4 := ((B1.trans (hB1.mono B1.size)).alloc (Nat.le_trans B1.size hB1.size) (.cells #[.string X] 9)).trans B3
            have O4 : w3.ownsRow w.heap.size 9 1 v3 (ns ++ [X]).length ((ns ++ [X]).map Value.string) := by simpa using O3
            have hc2 : Hid ((cutL s.data.toList).map bl = (ns ++ [X]) ++ (cutL (t.extract (k + 1) t.size).data.toList).map bl) := by
              show _ = _
              rw [hc.out, HT.out, cutL_at _ _ (mem_take hA.out), List.map_cons, ext_drop, ← he, ext_take, List.append_assoc]
              rfl
            have hl2 : Hid ((ns ++ [X]).length + (t.extract (k + 1) t.size).size ≤ 4000) := by
              show _ ≤ _
              have := hl.out
              rw [List.length_append, ByteArray.size_extract]
              simp only [List.length_cons, List.length_nil]
              omega
            have hs2 : Hid ((t.extract (k + 1) t.size).size ≤ 4000) := by show _ ≤ _; rw [ByteArray.size_extract]; omega
            have hm2 : Hid ((t.extract (k + 1) t.size).size < t.size) := by show _ < _; rw [ByteArray.size_extract]; omega
            have q2 : ((k : Int) + 1) ≤ t.size := by omega
            clear B1 O1 hB1 B3 O3 hX hXe he HT
            go_wp2_with fail
            go_roundw
            case rel => exact ⟨_, ns ++ [X], rfl, hs2, hc2, B4, O4, hl2⟩
            case measure => exact hm2.out
        · have p1 : ((t[k].toNat : Int) == 47) = false := by
            refine beq_eq_false_iff_ne.2 fun e => h47 ?_
            exact UInt8.toNat_inj.1 (by have : t[k].toNat = 47 := by omega
                                        simpa using this)
          have hA' : Hid (∀ j, (hj : j < t.size) → j < k + 1 → t[j] ≠ 47) := fun j hj h => by
            rcases (by omega : j < k ∨ j = k) with h | rfl
            · exact hA.out j hj h
            · exact h47
          go_wp2_with fail
          go_quiet (fail)
          go_wp2_with fail
          go_roundw
          case rel => exact ⟨k + 1, rfl, by omega, by go_num, hA', below_drN B _, own_drN O _⟩
          case measure => simp [intOf]; omega
      · have q1 : ¬ (k : Int) < t.size := by omega
        have hX : t.size ≤ 281474976710656 := by omega
        have hA' := hA.out
        have HE : Hid ((cutL s.data.toList).map bl = ns ++ [t]) := by
          show _ = _
          rw [hc.out, cutL_none _ fun x hx => ?_]
          · rfl
          · refine mem_take (k := k) hA' x ?_
            rw [List.take_of_length_le]
            · exact hx
            · show t.data.toList.length ≤ k
              have : t.size = t.data.toList.length := by simp
              omega
        clear hA'
        go_wp2_with (first
          | (go_at_call 97; refine (sclone_any t _ hX).mono ?_; rintro e W1 ⟨rfl, hB1⟩)
          | (at_builtin; go_must (refine wpList_appT rfl _ (.tmp 30) 49 rfl w.heap.size i9 Tryz.underlying49 hi9 hz9 hs9 hb9 _ _ ns.length ns [t] rfl (own_keptT (own_keptT O hB1) ((Below.refl _ _).alloc (Nat.le_refl _) (.cells #[.string t] 9))) rfl (Tx.one _ t) ?c1 ?c2 ?next)))
        case c1 => have := hl.out; simp; omega
        case c2 => have := B.size; have := hB1.size; simp; omega
        case next =>
          intro v3 w3 O3 B3 _
          have B4 := ((B.trans (hB1.mono B.size)).alloc (Nat.le_trans B.size hB1.size) (.cells #[.string t] 9)).trans B3
          have T4 : Tx w3 v3 ((cutL s.data.toList).map bl) := by rw [HE.out]; exact Tx.ofOwns (N := w.heap.size) (n := ns.length + 1) (by rw [List.map_append]; exact O3)
          clear B O hB1 B3 O3 hX HE
          go_wp2_with fail
          try rw [Exit.noGoto_ret]
          go_ret
          exact ⟨_, rfl, T4, B4⟩
end Go.Proofs.YtlnjnimenihhnaaGreatDoor

namespace Go.Proofs.YtlnjnimenihhnaaGreatDoor
open Go.RowKit

/-- What check says of names. -/
def chkE (ss : List ByteArray) : Int := if ss.all nameB = true then (if 8 < ss.length then 5 else 0) else 12
theorem chk_all {ss : List ByteArray} (h : ∀ j, j < ss.length → nameB (ss.getD j ByteArray.empty) = true) : ss.all nameB = true := by
  refine List.all_eq_true.2 fun x hx => ?_
  obtain ⟨j, hj, rfl⟩ := List.mem_iff_getElem.1 hx
  have := h j hj
  simpa [List.getD, hj] using this
theorem chk_not {ss : List ByteArray} {j : Nat} (hj : j < ss.length) (h : nameB (ss.getD j ByteArray.empty) = false) : ¬ ss.all nameB = true := by
  intro e
  have := List.all_eq_true.1 e (ss.getD j ByteArray.empty) (by simp [List.getD, hj])
  rw [h] at this
  cases this

set_option maxHeartbeats 1600000 in
theorem check_any (v : Value) (ss : List ByteArray) (w : World) (hv : Tx w v ss) (hl : ss.length ≤ 1000000) :
    Calls Tryz.prog 82 #[v] w fun e w' => e = .returned (.int .i64 (chkE ss)) ∧ w' = w := by
  obtain ⟨a, c, rfl⟩ := hv.form
  go_enter Tryz.func82, Tryz.ntmps82
  go_wp2_with fail
  go_loopw [7] (fun i wr => ∃ k : Nat, k ≤ ss.length ∧ i = .int .i64 k ∧ wr = w ∧ Hid (∀ j, j < k → nameB (ss.getD j ByteArray.empty) = true)) (fun i _ => ss.length - (intOf i).toNat)
  case atStart => exact ⟨0, Nat.zero_le _, rfl, rfl, fun j h => by omega⟩
  case round =>
    obtain ⟨k, hk, rfl, rfl, hA⟩ := hrel
    by_cases hlt : k < ss.length
    · have q1 : (k : Int) < ss.length := by omega
      obtain ⟨b, off, rfl, hc⟩ := hv.nth hlt
      have c1 := hc k hlt
      obtain ⟨x, hx⟩ : ∃ x, Hid (ss.getD k ByteArray.empty = x) := ⟨_, rfl⟩
      rw [hx.out] at c1
      clear hc
      cases hn : nameB x with
      | true =>
        have H : Hid (nameB x = true) := hn
        clear hn
        have hA' : Hid (∀ j, j < k + 1 → nameB (ss.getD j ByteArray.empty) = true) := fun j h => by
          rcases (by omega : j < k ∨ j = k) with h | rfl
          · exact hA.out j h
          · rw [hx.out]; exact H.out
        go_wp2_with (go_at_call 98; refine (name_any x true _ H).mono ?_; rintro e w1 ⟨rfl, rfl⟩)
        go_roundw
        case rel => exact ⟨k + 1, by omega, by go_num, trivial, hA'⟩
        case measure => simp [intOf]; omega
      | false =>
        have H : Hid (nameB x = false) := hn
        have he : Hid (chkE ss = 12) := by show _ = _; unfold chkE; rw [if_neg (chk_not hlt (by rw [hx.out]; exact hn))]
        clear hn
        go_wp2_with (go_at_call 98; refine (name_any x false _ H).mono ?_; rintro e w1 ⟨rfl, rfl⟩)
        go_ret
        exact ⟨by rw [he.out]; rfl, rfl⟩
    · have q1 : ¬ (k : Int) < ss.length := by omega
      have hall : ss.all nameB = true := chk_all fun j hj => hA.out j (by omega)
      by_cases h8 : 8 < ss.length
      · have q8 : 8 < (ss.length : Int) := by omega
        have he : Hid (chkE ss = 5) := by show _ = _; unfold chkE; rw [if_pos hall, if_pos h8]
        clear hall h8
        go_wp2_with fail
        go_ret
        exact ⟨by rw [he.out]; rfl, rfl⟩
      · have q8 : ¬ 8 < (ss.length : Int) := by omega
        have he : Hid (chkE ss = 0) := by show _ = _; unfold chkE; rw [if_pos hall, if_neg h8]
        clear hall h8
        go_wp2_with fail
        go_ret
        exact ⟨by rw [he.out]; rfl, rfl⟩

/-- Split's error and names. -/
def spE (s : ByteArray) : Int := if 256 < s.size then 5 else if s.data.toList = [47] then 0 else if Lib.hasPrefix s.data.toList [47] = true then chkE ((cutL (s.data.toList.drop 1)).map bl) else 12
def spN (s : ByteArray) : List ByteArray := if spE s = 0 ∧ ¬ s.data.toList = [47] then (cutL (s.data.toList.drop 1)).map bl else []
theorem chkE_ways (ss : List ByteArray) : (chkE ss = 0 ∧ ss.all nameB = true ∧ ss.length ≤ 8) ∨ chkE ss = 5 ∨ chkE ss = 12 := by
  unfold chkE
  by_cases h : ss.all nameB = true
  · rw [if_pos h]
    by_cases h8 : 8 < ss.length
    · rw [if_pos h8]; exact .inr (.inl rfl)
    · rw [if_neg h8]; exact .inl ⟨rfl, h, by omega⟩
  · rw [if_neg h]; exact .inr (.inr rfl)

set_option maxHeartbeats 1600000 in
theorem split_any (s : ByteArray) (w : World) (hs : s.size ≤ 3000) :
    Calls Tryz.prog 47 #[.string s] w fun e w' => ∃ v, e = .returned (.tuple #[v, .int .i64 (spE s)]) ∧ Tx w' v (spN s) ∧ Below w.heap.size w w' := by
  by_cases h1 : 256 < s.size
  · have q1 : 256 < (s.size : Int) := by omega
    have he : spE s = 5 := by unfold spE; rw [if_pos h1]
    have hn : spN s = [] := by unfold spN; rw [if_neg (by rw [he]; simp)]
    rw [he, hn]
    clear he hn
    go_enter Tryz.func47, Tryz.ntmps47
    go_wp2_with fail
    go_ret2
    exact ⟨_, rfl, Tx.nil _, Below.refl _ _⟩
  have q1 : ¬ 256 < (s.size : Int) := by omega
  by_cases h2 : s.data.toList = [47]
  · have q2 : (s.toList == [47]) = true := by rw [ByteArray.toList_eq, h2]; rfl
    have he : spE s = 0 := by unfold spE; rw [if_neg h1, if_pos h2]
    have hn : spN s = [] := by unfold spN; rw [if_neg (by simp [h2])]
    rw [he, hn]
    clear he hn h2
    go_enter Tryz.func47, Tryz.ntmps47
    go_wp2_with fail
    go_ret2
    exact ⟨_, rfl, Tx.nil _, Below.refl _ _⟩
  have q2 : (s.toList == [47]) = false := by rw [ByteArray.toList_eq]; exact beq_eq_false_iff_ne.2 h2
  cases h3 : Lib.hasPrefix s.data.toList [47] with
  | false =>
    have H3 : Hid (Lib.hasPrefix s.data.toList [47] = false) := h3
    have he : spE s = 12 := by unfold spE; rw [if_neg h1, if_neg h2, if_neg (by rw [h3]; simp)]
    have hn : spN s = [] := by unfold spN; rw [if_neg (by rw [he]; simp)]
    rw [he, hn]
    clear he hn h2 h3
    go_enter Tryz.func47, Tryz.ntmps47
    go_wp2_with (go_at_call 80; refine (Tryz.strings_CutPrefix s _ _).mono ?_; rintro e w1 ⟨rfl, rfl⟩; rw [H3.out])
    go_ret2
    exact ⟨_, rfl, Tx.nil _, Below.refl _ _⟩
  | true =>
    have H3 : Hid (Lib.hasPrefix s.data.toList [47] = true) := h3
    have HR : Hid (Lib.trimPrefix s.data.toList [47] = s.data.toList.drop 1) := by
      show _ = _
      unfold Lib.trimPrefix
      simp [h3]
    obtain ⟨r, hr⟩ : ∃ r : ByteArray, Hid (bl (s.data.toList.drop 1) = r) := ⟨_, rfl⟩
    have hrs : r.size ≤ 4000 := by
      rw [← hr.out]
      show (s.data.toList.drop 1).toArray.size ≤ 4000
      have : s.size = s.data.toList.length := by simp
      simp; omega
    have hrd : r.data.toList = s.data.toList.drop 1 := by rw [← hr.out]
    have hlen : (((cutL r.data.toList).map bl).length) ≤ 1000000 := by
      rw [List.length_map]
      have := cutL_len r.data.toList
      have : r.size = r.data.toList.length := by simp
      omega
    have he0 : spE s = chkE ((cutL r.data.toList).map bl) := by unfold spE; rw [if_neg h1, if_neg h2, if_pos h3, hrd]
    have hn0 : spE s = 0 → spN s = (cutL r.data.toList).map bl := by intro h; unfold spN; rw [if_pos ⟨h, h2⟩, hrd]
    have hn1 : ¬ spE s = 0 → spN s = [] := by intro h; unfold spN; rw [if_neg (fun x => h x.1)]
    have HL : Hid (((cutL r.data.toList).map bl).length ≤ 1000000) := hlen
    have hrr : (⟨(s.data.toList.drop 1).toArray⟩ : ByteArray) = r := hr.out
    clear h2 h3 hrd hlen
    have HC : Hid (Calls Tryz.prog 81 #[.string r] w fun e w' => ∃ v, e = .returned v ∧ Tx w' v ((cutL r.data.toList).map bl) ∧ Below w.heap.size w w') := cut_any r w hrs
    generalize (cutL r.data.toList).map bl = NS at *
    rcases chkE_ways NS with ⟨h0, _, _⟩ | h0 | h0
    · have HN : Hid (spN s = NS) := hn0 (he0.trans h0)
      have HE : Hid (spE s = 0) := he0.trans h0
      have H0 : Hid (chkE NS = 0) := h0
      clear h0 hn0 hn1 he0
      go_enter Tryz.func47, Tryz.ntmps47
      go_wp2_with (first
        | (go_at_call 80; refine (Tryz.strings_CutPrefix s _ _).mono ?_; rintro e w1 ⟨rfl, rfl⟩; rw [H3.out, HR.out, hrr])
        | (go_at_call 81; refine HC.out.mono ?_; rintro e w1 ⟨v, rfl, hT, hB⟩)
        | (go_at_call 82; refine (check_any v NS _ hT HL.out).mono ?_; rintro e w2 ⟨rfl, rfl⟩; rw [H0.out]))
      go_ret2
      exact ⟨_, by rw [HE.out]; rfl, by rw [HN.out]; exact hT, hB⟩
    · have HN : Hid (spN s = []) := hn1 (by rw [he0, h0]; decide)
      have HE : Hid (spE s = 5) := he0.trans h0
      have H0 : Hid (chkE NS = 5) := h0
      clear h0 hn0 hn1 he0
      go_enter Tryz.func47, Tryz.ntmps47
      go_wp2_with (first
        | (go_at_call 80; refine (Tryz.strings_CutPrefix s _ _).mono ?_; rintro e w1 ⟨rfl, rfl⟩; rw [H3.out, HR.out, hrr])
        | (go_at_call 81; refine HC.out.mono ?_; rintro e w1 ⟨v, rfl, hT, hB⟩)
        | (go_at_call 82; refine (check_any v NS _ hT HL.out).mono ?_; rintro e w2 ⟨rfl, rfl⟩; rw [H0.out]))
      go_ret2
      exact ⟨_, by rw [HE.out]; rfl, by rw [HN.out]; exact Tx.nil _, hB⟩
    · have HN : Hid (spN s = []) := hn1 (by rw [he0, h0]; decide)
      have HE : Hid (spE s = 12) := he0.trans h0
      have H0 : Hid (chkE NS = 12) := h0
      clear h0 hn0 hn1 he0
      go_enter Tryz.func47, Tryz.ntmps47
      go_wp2_with (first
        | (go_at_call 80; refine (Tryz.strings_CutPrefix s _ _).mono ?_; rintro e w1 ⟨rfl, rfl⟩; rw [H3.out, HR.out, hrr])
        | (go_at_call 81; refine HC.out.mono ?_; rintro e w1 ⟨v, rfl, hT, hB⟩)
        | (go_at_call 82; refine (check_any v NS _ hT HL.out).mono ?_; rintro e w2 ⟨rfl, rfl⟩; rw [H0.out]))
      go_ret2
      exact ⟨_, by rw [HE.out]; rfl, by rw [HN.out]; exact Tx.nil _, hB⟩
end Go.Proofs.YtlnjnimenihhnaaGreatDoor

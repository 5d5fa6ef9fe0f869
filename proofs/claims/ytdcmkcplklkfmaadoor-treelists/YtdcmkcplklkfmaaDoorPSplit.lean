/-
  check and Split of package path.
-/
import Derived.Test.YtdcmkcplklkfmaaDoorPCut
namespace Go.Proofs.YtdcmkcplklkfmaaDoor
open Go.RowKit

/-- What check says of names. -/
def chkE (ss : List ByteArray) : Int := if ss.all nameB = true then (if 8 < ss.length then 5 else 0) else 12
theorem chk_all {ss : List ByteArray} (h : ∀ j, j < ss.length → nameB (ss.getD j ByteArray.empty) = true) : ss.all nameB = true := by
  refine List.all_eq_true.2 fun x hx => ?_
  obtain ⟨j, hj, rfl⟩ := List.mem_iff_getElem.1 hx
  have := h j hj
  simpa [List.getD, hj] using this
theorem chk_not {ss : List ByteArray} {j : Nat} (hj : j < ss.length) (h : nameB (ss.getD j ByteArray.empty) = false) : ¬ ss.all nameB = true := by
  intro e
  have := List.all_eq_true.1 e (ss.getD j ByteArray.empty) (by simp [List.getD, hj])
  rw [h] at this
  cases this

set_option maxHeartbeats 1600000 in
theorem check_any (v : Value) (ss : List ByteArray) (w : World) (hv : Tx w v ss) (hl : ss.length ≤ 1000000) :
    Calls Tryd.prog 53 #[v] w fun e w' => e = .returned (.int .i64 (chkE ss)) ∧ w' = w := by
  obtain ⟨a, c, rfl⟩ := hv.form
  go_enter Tryd.func53, Tryd.ntmps53
  go_wp2_with fail
  go_loopw [7] (fun i wr => ∃ k : Nat, k ≤ ss.length ∧ i = .int .i64 k ∧ wr = w ∧ Hid (∀ j, j < k → nameB (ss.getD j ByteArray.empty) = true)) (fun i _ => ss.length - (intOf i).toNat)
  case atStart => exact ⟨0, Nat.zero_le _, rfl, rfl, fun j h => by omega⟩
  case round =>
    obtain ⟨k, hk, rfl, rfl, hA⟩ := hrel
    by_cases hlt : k < ss.length
    · have q1 : (k : Int) < ss.length := by omega
      obtain ⟨b, off, rfl, hc⟩ := hv.nth hlt
      have c1 := hc k hlt
      obtain ⟨x, hx⟩ : ∃ x, Hid (ss.getD k ByteArray.empty = x) := ⟨_, rfl⟩
      rw [hx.out] at c1
      clear hc
      cases hn : nameB x with
      | true =>
        have H : Hid (nameB x = true) := hn
        clear hn
        have hA' : Hid (∀ j, j < k + 1 → nameB (ss.getD j ByteArray.empty) = true) := fun j h => by
          rcases (by omega : j < k ∨ j = k) with h | rfl
          · exact hA.out j h
          · rw [hx.out]; exact H.out
        go_wp2_with (go_at_call 64; refine (name_any x true _ H).mono ?_; rintro e w1 ⟨rfl, rfl⟩)
        go_roundw
        case rel => exact ⟨k + 1, by omega, by go_num, trivial, hA'⟩
        case measure => simp [intOf]; omega
      | false =>
        have H : Hid (nameB x = false) := hn
        have he : Hid (chkE ss = 12) := by show _ = _; unfold chkE; rw [if_neg (chk_not hlt (by rw [hx.out]; exact hn))]
        clear hn
        go_wp2_with (go_at_call 64; refine (name_any x false _ H).mono ?_; rintro e w1 ⟨rfl, rfl⟩)
        go_ret
        exact ⟨by rw [he.out]; rfl, rfl⟩
    · have q1 : ¬ (k : Int) < ss.length := by omega
      have hall : ss.all nameB = true := chk_all fun j hj => hA.out j (by omega)
      by_cases h8 : 8 < ss.length
      · have q8 : 8 < (ss.length : Int) := by omega
        have he : Hid (chkE ss = 5) := by show _ = _; unfold chkE; rw [if_pos hall, if_pos h8]
        clear hall h8
        go_wp2_with fail
        go_ret
        exact ⟨by rw [he.out]; rfl, rfl⟩
      · have q8 : ¬ 8 < (ss.length : Int) := by omega
        have he : Hid (chkE ss = 0) := by show _ = _; unfold chkE; rw [if_pos hall, if_neg h8]
        clear hall h8
        go_wp2_with fail
        go_ret
        exact ⟨by rw [he.out]; rfl, rfl⟩

/-- Split's error and names. -/
def spE (s : ByteArray) : Int := if 256 < s.size then 5 else if s.data.toList = [47] then 0 else if Lib.hasPrefix s.data.toList [47] = true then chkE ((cutL (s.data.toList.drop 1)).map bl) else 12
def spN (s : ByteArray) : List ByteArray := if spE s = 0 ∧ ¬ s.data.toList = [47] then (cutL (s.data.toList.drop 1)).map bl else []
theorem chkE_ways (ss : List ByteArray) : (chkE ss = 0 ∧ ss.all nameB = true ∧ ss.length ≤ 8) ∨ chkE ss = 5 ∨ chkE ss = 12 := by
  unfold chkE
  by_cases h : ss.all nameB = true
  · rw [if_pos h]
    by_cases h8 : 8 < ss.length
    · rw [if_pos h8]; exact .inr (.inl rfl)
    · rw [if_neg h8]; exact .inl ⟨rfl, h, by omega⟩
  · rw [if_neg h]; exact .inr (.inr rfl)

set_option maxHeartbeats 1600000 in
theorem split_any (s : ByteArray) (w : World) (hs : s.size ≤ 3000) :
    Calls Tryd.prog 35 #[.string s] w fun e w' => ∃ v, e = .returned (.tuple #[v, .int .i64 (spE s)]) ∧ Tx w' v (spN s) ∧ Below w.heap.size w w' := by
  by_cases h1 : 256 < s.size
  · have q1 : 256 < (s.size : Int) := by omega
    have he : spE s = 5 := by unfold spE; rw [if_pos h1]
    have hn : spN s = [] := by unfold spN; rw [if_neg (by rw [he]; simp)]
    rw [he, hn]
    clear he hn
    go_enter Tryd.func35, Tryd.ntmps35
    go_wp2_with fail
    go_ret2
    exact ⟨_, rfl, Tx.nil _, Below.refl _ _⟩
  have q1 : ¬ 256 < (s.size : Int) := by omega
  by_cases h2 : s.data.toList = [47]
  · have q2 : (s.toList == [47]) = true := by rw [ByteArray.toList_eq, h2]; rfl
    have he : spE s = 0 := by unfold spE; rw [if_neg h1, if_pos h2]
    have hn : spN s = [] := by unfold spN; rw [if_neg (by simp [h2])]
    rw [he, hn]
    clear he hn h2
    go_enter Tryd.func35, Tryd.ntmps35
    go_wp2_with fail
    go_ret2
    exact ⟨_, rfl, Tx.nil _, Below.refl _ _⟩
  have q2 : (s.toList == [47]) = false := by rw [ByteArray.toList_eq]; exact beq_eq_false_iff_ne.2 h2
  cases h3 : Lib.hasPrefix s.data.toList [47] with
  | false =>
    have H3 : Hid (Lib.hasPrefix s.data.toList [47] = false) := h3
    have he : spE s = 12 := by unfold spE; rw [if_neg h1, if_neg h2, if_neg (by rw [h3]; simp)]
    have hn : spN s = [] := by unfold spN; rw [if_neg (by rw [he]; simp)]
    rw [he, hn]
    clear he hn h2 h3
    go_enter Tryd.func35, Tryd.ntmps35
    go_wp2_with (go_at_call 51; refine (Tryd.strings_CutPrefix s _ _).mono ?_; rintro e w1 ⟨rfl, rfl⟩; rw [H3.out])
    go_ret2
    exact ⟨_, rfl, Tx.nil _, Below.refl _ _⟩
  | true =>
    have H3 : Hid (Lib.hasPrefix s.data.toList [47] = true) := h3
    have HR : Hid (Lib.trimPrefix s.data.toList [47] = s.data.toList.drop 1) := by
      show _ = _
      unfold Lib.trimPrefix
      simp [h3]
    obtain ⟨r, hr⟩ : ∃ r : ByteArray, Hid (bl (s.data.toList.drop 1) = r) := ⟨_, rfl⟩
    have hrs : r.size ≤ 4000 := by
      rw [← hr.out]
      show (s.data.toList.drop 1).toArray.size ≤ 4000
      have : s.size = s.data.toList.length := by simp
      simp; omega
    have hrd : r.data.toList = s.data.toList.drop 1 := by rw [← hr.out]
    have hlen : (((cutL r.data.toList).map bl).length) ≤ 1000000 := by
      rw [List.length_map]
      have := cutL_len r.data.toList
      have : r.size = r.data.toList.length := by simp
      omega
    have he0 : spE s = chkE ((cutL r.data.toList).map bl) := by unfold spE; rw [if_neg h1, if_neg h2, if_pos h3, hrd]
    have hn0 : spE s = 0 → spN s = (cutL r.data.toList).map bl := by intro h; unfold spN; rw [if_pos ⟨h, h2⟩, hrd]
    have hn1 : ¬ spE s = 0 → spN s = [] := by intro h; unfold spN; rw [if_neg (fun x => h x.1)]
    have HL : Hid (((cutL r.data.toList).map bl).length ≤ 1000000) := hlen
    have hrr : (⟨(s.data.toList.drop 1).toArray⟩ : ByteArray) = r := hr.out
    clear h2 h3 hrd hlen
    have HC : Hid (Calls Tryd.prog 52 #[.string r] w fun e w' => ∃ v, e = .returned v ∧ Tx w' v ((cutL r.data.toList).map bl) ∧ Below w.heap.size w w') := cut_any r w hrs
    generalize (cutL r.data.toList).map bl = NS at *
    rcases chkE_ways NS with ⟨h0, _, _⟩ | h0 | h0
    · have HN : Hid (spN s = NS) := hn0 (he0.trans h0)
      have HE : Hid (spE s = 0) := he0.trans h0
      have H0 : Hid (chkE NS = 0) := h0
      clear h0 hn0 hn1 he0
      go_enter Tryd.func35, Tryd.ntmps35
      go_wp2_with (first
        | (go_at_call 51; refine (Tryd.strings_CutPrefix s _ _).mono ?_; rintro e w1 ⟨rfl, rfl⟩; rw [H3.out, HR.out, hrr])
        | (go_at_call 52; refine HC.out.mono ?_; rintro e w1 ⟨v, rfl, hT, hB⟩)
        | (go_at_call 53; refine (check_any v NS _ hT HL.out).mono ?_; rintro e w2 ⟨rfl, rfl⟩; rw [H0.out]))
      go_ret2
      exact ⟨_, by rw [HE.out]; rfl, by rw [HN.out]; exact hT, hB⟩
    · have HN : Hid (spN s = []) := hn1 (by rw [he0, h0]; decide)
      have HE : Hid (spE s = 5) := he0.trans h0
      have H0 : Hid (chkE NS = 5) := h0
      clear h0 hn0 hn1 he0
      go_enter Tryd.func35, Tryd.ntmps35
      go_wp2_with (first
        | (go_at_call 51; refine (Tryd.strings_CutPrefix s _ _).mono ?_; rintro e w1 ⟨rfl, rfl⟩; rw [H3.out, HR.out, hrr])
        | (go_at_call 52; refine HC.out.mono ?_; rintro e w1 ⟨v, rfl, hT, hB⟩)
        | (go_at_call 53; refine (check_any v NS _ hT HL.out).mono ?_; rintro e w2 ⟨rfl, rfl⟩; rw [H0.out]))
      go_ret2
      exact ⟨_, by rw [HE.out]; rfl, by rw [HN.out]; exact Tx.nil _, hB⟩
    · have HN : Hid (spN s = []) := hn1 (by rw [he0, h0]; decide)
      have HE : Hid (spE s = 12) := he0.trans h0
      have H0 : Hid (chkE NS = 12) := h0
      clear h0 hn0 hn1 he0
      go_enter Tryd.func35, Tryd.ntmps35
      go_wp2_with (first
        | (go_at_call 51; refine (Tryd.strings_CutPrefix s _ _).mono ?_; rintro e w1 ⟨rfl, rfl⟩; rw [H3.out, HR.out, hrr])
        | (go_at_call 52; refine HC.out.mono ?_; rintro e w1 ⟨v, rfl, hT, hB⟩)
        | (go_at_call 53; refine (check_any v NS _ hT HL.out).mono ?_; rintro e w2 ⟨rfl, rfl⟩; rw [H0.out]))
      go_ret2
      exact ⟨_, by rw [HE.out]; rfl, by rw [HN.out]; exact Tx.nil _, hB⟩
end Go.Proofs.YtdcmkcplklkfmaaDoor

/-
  The document's join, Join, Parent and Under.
-/
import Derived.Test.YtdjopadohbbfkaaPRefSplit
namespace Go.Proofs.Ytdjopadohbbfkaa
open Go.RowKit

/-- The names joined so far. -/
def jnP (ss : List ByteArray) : List UInt8 := ss.flatMap fun x => 47 :: x.data.toList
theorem jnP_len (ss : List ByteArray) (h : ss.all nameB = true) : (jnP ss).length ≤ 49 * ss.length := by
  unfold jnP
  induction ss with
  | nil => simp
  | cons x r ih =>
    rw [List.all_cons, Bool.and_eq_true] at h
    have h1 := (nameB_parts h.1).2.1
    have h2 := ih h.2
    have e : x.size = x.data.toList.length := by simp
    rw [List.flatMap_cons, List.length_append, List.length_cons, List.length_cons]
    omega
theorem jnP_next (ss : List ByteArray) (k : Nat) (hk : k < ss.length) : jnP (ss.take (k + 1)) = jnP (ss.take k) ++ 47 :: (ss.getD k ByteArray.empty).data.toList := by
  unfold jnP
  rw [List.take_add_one, List.flatMap_append, List.getD_eq_getElem?_getD, List.getElem?_eq_getElem hk]
  simp
theorem all_take {ss : List ByteArray} (h : ss.all nameB = true) (k : Nat) : (ss.take k).all nameB = true := List.all_eq_true.2 fun x hx => List.all_eq_true.1 h x (List.mem_of_mem_take hx)

set_option maxHeartbeats 1600000 in
theorem rjoin_any (v : Value) (ss : List ByteArray) (w : World) (hv : Tx w v ss) (ha : ss.all nameB = true) (h8 : ss.length ≤ 8) :
    Calls Try.prog 20 #[v] w fun e w' => e = .returned (.string (bl (jn ss))) ∧ w' = w := by
  have HA : Hid (ss.all nameB = true) := ha
  clear ha
  obtain ⟨a, c, rfl⟩ := hv.form
  go_enter Try.func20, Try.ntmps20
  go_wp2_with fail
  go_loopw [3, 4] (fun sv i wr => ∃ (k : Nat) (S : ByteArray), sv = .string S ∧ k ≤ ss.length ∧ i = .int .i64 k ∧ wr = w ∧ Hid (S = bl (jnP (ss.take k)))) (fun _ i _ => ss.length - (intOf i).toNat)
  case atStart => exact ⟨0, _, rfl, Nat.zero_le _, rfl, rfl, rfl⟩
  case round =>
    obtain ⟨k, S, rfl, hk, rfl, rfl, hS⟩ := hrel
    have hSl : S.size ≤ 400 := by
      rw [hS.out]
      show (jnP (ss.take k)).toArray.size ≤ 400
      have := jnP_len (ss.take k) (all_take HA.out k)
      rw [List.length_take] at this
      rw [List.size_toArray]; omega
    by_cases hlt : k < ss.length
    · have q1 : (k : Int) < ss.length := by omega
      obtain ⟨b, off, rfl, hc⟩ := hv.nth hlt
      have c1 := hc k hlt
      have hxs : (ss.getD k ByteArray.empty).size ≤ 48 := by
        refine (nameB_parts (List.all_eq_true.1 HA.out _ ?_)).2.1
        simp [List.getD, hlt]
      obtain ⟨x, hx⟩ : ∃ x, Hid (ss.getD k ByteArray.empty = x) := ⟨_, rfl⟩
      rw [hx.out] at c1 hxs
      clear hc
      obtain ⟨S1, hS1⟩ : ∃ S1, S ++ (⟨#[47]⟩ : ByteArray) = S1 := ⟨_, rfl⟩
      obtain ⟨S2, hS2⟩ : ∃ S2, S1 ++ x = S2 := ⟨_, rfl⟩
      have hT : Hid (S2 = bl (jnP (ss.take (k + 1)))) := by
        show _ = _
        rw [← hS2, ← hS1, hS.out, jnP_next ss k hlt, hx.out]
        apply ByteArray.ext
        simp
      have e1 : S1.size = S.size + 1 := by rw [← hS1, ByteArray.size_append]; rfl
      have q2 : ¬ (9223372036854775807 < S.size + 1) := by omega
      have q3 : ¬ (9223372036854775807 < S1.size + x.size) := by omega
      clear e1
      go_wp2_with fail
      go_roundw
      case rel => exact ⟨k + 1, S2, rfl, by omega, by go_num, trivial, hT⟩
      case measure => simp [intOf]; omega
    · have q1 : ¬ (k : Int) < ss.length := by omega
      obtain rfl : k = ss.length := by omega
      have hS' : S = bl (jnP ss) := by rw [hS.out, List.take_length]
      by_cases h0 : ss = []
      · have q2 : S = ⟨#[]⟩ := by rw [hS', h0]; rfl
        have HJ : Hid (bl (jn ss) = ⟨#[47]⟩) := by rw [h0]; rfl
        clear hS' hS h0
        subst q2
        go_wp2_with fail
        go_ret
        exact ⟨by rw [HJ.out]; rfl, rfl⟩
      · have HJ : Hid (bl (jn ss) = S) := by show _ = _; rw [hS', jn, if_neg h0]; rfl
        have g0 : (S.toList == []) = false := by
          refine beq_eq_false_iff_ne.2 (str_some ?_)
          rw [hS']
          show 1 ≤ (jnP ss).toArray.size
          cases ss with
          | nil => exact absurd rfl h0
          | cons x r => simp [jnP]
        clear hS' hS h0
        go_wp2_with fail
        go_ret
        exact ⟨by rw [HJ.out]; rfl, rfl⟩
/-- .. beside what it only reads. -/
theorem Tx.drN {w : World} {v : Value} {ss : List ByteArray} (h : Tx w v ss) (n : Nat) : Tx (w.drewN n) v ss := h.below (below_drN (Below.refl _ _) n)

set_option maxHeartbeats 1600000 in
theorem rJoin_any (v : Value) (ss : List ByteArray) (w : World) (hv : Tx w v ss) (hl : ss.length ≤ 1000000) :
    Calls Try.prog 15 #[v] w fun e w' => e = .returned (.tuple #[.string (jnS ss), .int .i64 (jnE ss)]) ∧ w' = w := by
  obtain ⟨a, c, rfl⟩ := hv.form
  go_enter Try.func15, Try.ntmps15
  go_wp2_with fail
  go_loopw [4] (fun i wr => ∃ k : Nat, k ≤ ss.length ∧ i = .int .i64 k ∧ wr = w ∧ Hid (∀ j, j < k → nameB (ss.getD j ByteArray.empty) = true)) (fun i _ => ss.length - (intOf i).toNat)
  case atStart => exact ⟨0, Nat.zero_le _, rfl, rfl, fun j h => by omega⟩
  case round =>
    obtain ⟨k, hk, rfl, rfl, hA⟩ := hrel
    by_cases hlt : k < ss.length
    · have q1 : (k : Int) < ss.length := by omega
      obtain ⟨b, off, rfl, hc⟩ := hv.nth hlt
      have c1 := hc k hlt
      obtain ⟨x, hx⟩ : ∃ x, Hid (ss.getD k ByteArray.empty = x) := ⟨_, rfl⟩
      rw [hx.out] at c1
      clear hc
      cases hn : nameB x with
      | true =>
        have H : Hid (nameB x = true) := hn
        clear hn
        have hA' : Hid (∀ j, j < k + 1 → nameB (ss.getD j ByteArray.empty) = true) := fun j h => by
          rcases (by omega : j < k ∨ j = k) with h | rfl
          · exact hA.out j h
          · rw [hx.out]; exact H.out
        go_wp2_with (go_at_call 19; refine (rname_any x true _ H).mono ?_; rintro e w1 ⟨rfl, rfl⟩)
        go_roundw
        case rel => exact ⟨k + 1, by omega, by go_num, trivial, hA'⟩
        case measure => simp [intOf]; omega
      | false =>
        have H : Hid (nameB x = false) := hn
        have hc0 : chkE ss = 12 := by unfold chkE; rw [if_neg (chk_not hlt (by rw [hx.out]; exact hn))]
        have he : Hid (jnE ss = 12) := by show _ = _; unfold jnE; rw [hc0]; rfl
        have hS : Hid (jnS ss = ⟨#[]⟩) := by show _ = _; unfold jnS; rw [he.out]; rfl
        clear hn hc0
        go_wp2_with (go_at_call 19; refine (rname_any x false _ H).mono ?_; rintro e w1 ⟨rfl, rfl⟩)
        go_ret2
        exact ⟨by rw [he.out, hS.out]; rfl, rfl⟩
    · have q1 : ¬ (k : Int) < ss.length := by omega
      have hall : ss.all nameB = true := chk_all fun j hj => hA.out j (by omega)
      by_cases h8 : 8 < ss.length
      · have q8 : 8 < (ss.length : Int) := by omega
        have hc0 : chkE ss = 5 := by unfold chkE; rw [if_pos hall, if_pos h8]
        have he : Hid (jnE ss = 5) := by show _ = _; unfold jnE; rw [hc0]; rfl
        have hS : Hid (jnS ss = ⟨#[]⟩) := by show _ = _; unfold jnS; rw [he.out]; rfl
        clear hall h8 hc0
        go_wp2_with fail
        go_ret2
        exact ⟨by rw [he.out, hS.out]; rfl, rfl⟩
      · have q8 : ¬ 8 < (ss.length : Int) := by omega
        have hc0 : chkE ss = 0 := by unfold chkE; rw [if_pos hall, if_neg h8]
        have HJ : Hid (Calls Try.prog 20 #[.slice a ss.length c] wr fun e w' => e = .returned (.string (bl (jn ss))) ∧ w' = wr) := rjoin_any _ ss wr hv hall (by omega)
        obtain ⟨P, hP⟩ : ∃ P : ByteArray, Hid (bl (jn ss) = P) := ⟨_, rfl⟩
        have hPs : P.size = (jn ss).length := by rw [← hP.out]; rfl
        rw [hP.out] at HJ
        by_cases h2 : 256 < (jn ss).length
        · have q9 : 256 < (P.size : Int) := by omega
          have he : Hid (jnE ss = 5) := by show _ = _; unfold jnE; rw [hc0, if_pos rfl, if_pos h2]
          have hS : Hid (jnS ss = ⟨#[]⟩) := by show _ = _; unfold jnS; rw [he.out]; rfl
          clear hall h8 hc0 hPs h2
          go_wp2_with (go_at_call 20; refine HJ.out.mono ?_; rintro e w1 ⟨rfl, rfl⟩)
          go_ret2
          exact ⟨by rw [he.out, hS.out]; rfl, rfl⟩
        · have q9 : ¬ 256 < (P.size : Int) := by omega
          have he : Hid (jnE ss = 0) := by show _ = _; unfold jnE; rw [hc0, if_pos rfl, if_neg h2]
          have hS : Hid (jnS ss = P) := by show _ = _; unfold jnS; rw [he.out]; exact hP.out
          clear hall h8 hc0 hPs h2
          go_wp2_with (go_at_call 20; refine HJ.out.mono ?_; rintro e w1 ⟨rfl, rfl⟩)
          go_ret2
          exact ⟨by rw [he.out, hS.out]; rfl, rfl⟩

set_option maxHeartbeats 1600000 in
theorem rparent_bad (s : ByteArray) (n : Int) (w : World) (hs : s.size ≤ 3000) (hE : spE s = n) (hn : n = 5 ∨ n = 12) :
    Calls Try.prog 10 #[.string s] w fun e w' => e = .returned (.tuple #[.string (paU s), .string (paN s), .int .i64 (paE s)]) ∧ Below w.heap.size w w' := by
  have HS : Hid (Calls Try.prog 8 #[.string s] w fun e w' => ∃ v, e = .returned (.tuple #[v, .int .i64 (spE s)]) ∧ Tx w' v (spN s) ∧ Below w.heap.size w w') := rsplit_any s w hs
  have hE0 : ¬ spE s = 0 := by rw [hE]; rcases hn with rfl | rfl <;> decide
  have h1 : paE s = n := by unfold paE; rw [if_neg hE0]; exact hE
  have hn0 : ¬ n = 0 := by rw [← hE]; exact hE0
  have HA : Hid (paE s = n) := h1
  have HU : Hid (paU s = ⟨#[]⟩) := by show _ = _; unfold paU; rw [if_neg (by rw [h1]; exact hn0)]
  have HN : Hid (paN s = ⟨#[]⟩) := by show _ = _; unfold paN; rw [if_neg (by rw [h1]; exact hn0)]
  have HE : Hid (spE s = n) := hE
  have q : (n == 0) = false := beq_eq_false_iff_ne.2 hn0
  clear hE hE0 h1 hn
  go_enter Try.func10, Try.ntmps10
  go_wp2_with (go_at_call 8; refine HS.out.mono ?_; rintro e w1 ⟨v, rfl, hT, hB⟩; rw [HE.out])
  go_ret3
  exact ⟨by rw [HA.out, HU.out, HN.out]; rfl, hB⟩
set_option maxHeartbeats 1600000 in
theorem rparent_none (s : ByteArray) (w : World) (hs : s.size ≤ 3000) (hE : spE s = 0) (hn : spN s = []) :
    Calls Try.prog 10 #[.string s] w fun e w' => e = .returned (.tuple #[.string (paU s), .string (paN s), .int .i64 (paE s)]) ∧ Below w.heap.size w w' := by
  have HS : Hid (Calls Try.prog 8 #[.string s] w fun e w' => ∃ v, e = .returned (.tuple #[v, .int .i64 (spE s)]) ∧ Tx w' v (spN s) ∧ Below w.heap.size w w') := rsplit_any s w hs
  have h1 : paE s = 12 := by unfold paE; rw [if_pos hE, if_pos hn]
  have HA : Hid (paE s = 12) := h1
  have HU : Hid (paU s = ⟨#[]⟩) := by show _ = _; unfold paU; rw [if_neg (by rw [h1]; decide)]
  have HN : Hid (paN s = ⟨#[]⟩) := by show _ = _; unfold paN; rw [if_neg (by rw [h1]; decide)]
  have HE : Hid (spE s = 0) := hE
  have HM : Hid (spN s = []) := hn
  clear hE h1 hn
  go_enter Try.func10, Try.ntmps10
  go_wp2_with (go_at_call 8; refine HS.out.mono ?_; rintro e w1 ⟨v, rfl, hT, hB⟩; rw [HE.out]; rw [HM.out] at hT; obtain ⟨a, c, rfl⟩ := hT.form)
  go_ret3
  exact ⟨by rw [HA.out, HU.out, HN.out]; rfl, hB⟩
set_option maxHeartbeats 1600000 in
theorem rparent_ok (s : ByteArray) (w : World) (hs : s.size ≤ 3000) (hE : spE s = 0) (hn : ¬ spN s = []) :
    Calls Try.prog 10 #[.string s] w fun e w' => e = .returned (.tuple #[.string (paU s), .string (paN s), .int .i64 (paE s)]) ∧ Below w.heap.size w w' := by
  have HS : Hid (Calls Try.prog 8 #[.string s] w fun e w' => ∃ v, e = .returned (.tuple #[v, .int .i64 (spE s)]) ∧ Tx w' v (spN s) ∧ Below w.heap.size w w') := rsplit_any s w hs
  have h1 : paE s = 0 := by unfold paE; rw [if_pos hE, if_neg hn]
  obtain ⟨m, hm⟩ : ∃ m, (spN s).length = m + 1 := ⟨(spN s).length - 1, by have : ¬ (spN s).length = 0 := fun h => hn (List.eq_nil_of_length_eq_zero h); omega⟩
  obtain ⟨F, hF⟩ : ∃ F, Hid (bl (jn ((spN s).take m)) = F) := ⟨_, rfl⟩
  obtain ⟨X, hX⟩ : ∃ X, Hid ((spN s).getD m ByteArray.empty = X) := ⟨_, rfl⟩
  have HA : Hid (paE s = 0) := h1
  have HU : Hid (paU s = F) := by
    show _ = _
    unfold paU; rw [if_pos h1, ← hF.out, hm]; rfl
  have HN : Hid (paN s = X) := by
    show _ = _
    unfold paN; rw [if_pos h1, ← hX.out, hm]; rfl
  have HE : Hid (spE s = 0) := hE
  have HAL : Hid (((spN s).take m).all nameB = true) := all_take (sp_ok hE).1 m
  have h8 := spN_len s
  have HL : Hid ((spN s).length = m + 1) := hm
  have hm8 : m ≤ 7 := by omega
  clear hE h1 hn hm h8
  go_enter Try.func10, Try.ntmps10
  go_wp2_with (go_at_call 8; refine HS.out.mono ?_; rintro e w1 ⟨v, rfl, hT, hB⟩; rw [HE.out]; obtain ⟨b, off, c, rfl, hcc, hc⟩ := hT.here (by rw [HL.out]; omega); rw [HL.out] at hT hcc hc ⊢; have hc1 : (m : Int) ≤ (c : Int) := by omega)
  have c1 : w1.cell? ⟨b, off + m, none⟩ = some (.string X) := by
    rw [← hX.out]
    exact hc m (by omega)
  have hT1 := hT.front m (by omega)
  have HJ : Hid (∀ n, Calls Try.prog 20 #[.slice (some ⟨b, off, none⟩) m c] (w1.drewN n) fun e w' => e = .returned (.string F) ∧ w' = w1.drewN n) := fun n => by
    rw [← hF.out]
    exact rjoin_any _ _ _ (hT1.drN n) HAL.out (by rw [List.length_take]; omega)
  have q9 : (m : Int) < (m : Int) + 1 := by omega
  clear hc hT hT1
  go_quiet ((go_at_call 20; exact Calls.quiet_of_same (HJ.out _)))
  go_wp2_with fail
  go_ret3
  exact ⟨by rw [HA.out, HU.out, HN.out]; rfl, below_drN hB _⟩
theorem rparent_any (s : ByteArray) (w : World) (hs : s.size ≤ 3000) :
    Calls Try.prog 10 #[.string s] w fun e w' => e = .returned (.tuple #[.string (paU s), .string (paN s), .int .i64 (paE s)]) ∧ Below w.heap.size w w' := by
  rcases spE_ways s with h | h | h
  · by_cases hn : spN s = []
    · exact rparent_none s w hs h hn
    · exact rparent_ok s w hs h hn
  · exact rparent_bad s 5 w hs h (.inl rfl)
  · exact rparent_bad s 12 w hs h (.inr rfl)
end Go.Proofs.Ytdjopadohbbfkaa

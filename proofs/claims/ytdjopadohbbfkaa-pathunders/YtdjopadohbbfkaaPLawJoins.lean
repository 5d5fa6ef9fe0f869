/-
  PathJoins.
-/
import Derived.Test.YtdjopadohbbfkaaPKnown
namespace Go.Proofs.Ytdjopadohbbfkaa
open Go.RowKit

theorem ok_no47 {x : ByteArray} (h : nameB x = true) : ∀ y ∈ x.data.toList, y ≠ 47 := by
  intro y hy e
  have h1 := List.all_eq_true.1 (nameB_parts h).2.2.2.2 y hy
  rw [e] at h1
  exact absurd h1 (by decide)
theorem cut_join (x : ByteArray) (r : List ByteArray) (h : (x :: r).all nameB = true) : cutL (x.data.toList ++ r.flatMap fun y => 47 :: y.data.toList) = x.data.toList :: r.map (·.data.toList) := by
  induction r generalizing x with
  | nil =>
    rw [List.flatMap_nil, List.append_nil]
    rw [List.all_cons, Bool.and_eq_true] at h
    exact cutL_none _ (ok_no47 h.1)
  | cons y r ih =>
    rw [List.all_cons, Bool.and_eq_true] at h
    rw [List.flatMap_cons, List.cons_append, cutL_at _ _ (ok_no47 h.1), ih y h.2]
    rfl
/-- What was joined is split again. -/
theorem jn_back {ss : List ByteArray} (h : jnE ss = 0) : spE (jnS ss) = 0 ∧ spN (jnS ss) = ss ∧ (jnS ss).size ≤ 256 ∧ (jnS ss).data.toList = jn ss := by
  rcases jnE_ways ss with ⟨_, hc, hl⟩ | ⟨e, _⟩ | ⟨e, _⟩ | ⟨e, _⟩
  · have hS : jnS ss = bl (jn ss) := by unfold jnS; rw [if_pos h]
    have hd : (jnS ss).data.toList = jn ss := by rw [hS]
    have hsz : (jnS ss).size = (jn ss).length := by rw [hS]; rfl
    obtain ⟨ha, h8⟩ : ss.all nameB = true ∧ ss.length ≤ 8 := by
      rcases chkE_ways ss with ⟨_, a, b⟩ | e | e
      · exact ⟨a, b⟩
      · rw [e] at hc; exact absurd hc (by decide)
      · rw [e] at hc; exact absurd hc (by decide)
    cases ss with
    | nil =>
      have h47 : (jnS []).data.toList = [47] := hd
      refine ⟨?_, ?_, by omega, hd⟩
      · unfold spE; rw [if_neg (by omega), if_pos h47]
      · unfold spN; rw [if_neg (by rw [h47]; simp)]
    | cons x r =>
      have hj : jn (x :: r) = 47 :: (x.data.toList ++ r.flatMap fun y => 47 :: y.data.toList) := by
        unfold jn; rw [if_neg (by simp), List.flatMap_cons]; rfl
      have hx : 1 ≤ x.data.toList.length := by
        rw [List.all_cons, Bool.and_eq_true] at ha
        have := (nameB_parts ha.1).1
        have e : x.size = x.data.toList.length := by simp
        omega
      have hne : ¬ (jnS (x :: r)).data.toList = [47] := by
        rw [hd, hj]
        intro e
        injection e with _ e
        have := congrArg List.length e
        rw [List.length_append, List.length_nil] at this
        omega
      have hcut : (cutL ((jnS (x :: r)).data.toList.drop 1)).map bl = x :: r := by
        rw [hd, hj, List.drop_succ_cons, List.drop_zero, cut_join x r ha, List.map_cons, List.map_map]
        show x :: r.map (fun y => y) = x :: r
        rw [List.map_id']
      have hE : spE (jnS (x :: r)) = 0 := by
        unfold spE
        rw [if_neg (by omega), if_neg hne, if_pos (by rw [hd, hj]; rfl), hcut]
        exact hc
      exact ⟨hE, by unfold spN; rw [if_pos ⟨hE, hne⟩, hcut], by omega, hd⟩
  · rw [e] at h; exact absurd h (by decide)
  · rw [e] at h; exact absurd h (by decide)
  · rw [e] at h; exact absurd h (by decide)

set_option maxHeartbeats 3200000 in
theorem law_joins (v : Value) (ss : List ByteArray) (w : World) (hv : Tx w v ss) : Calls Try.prog 4 #[v] w fun e w' => e = .returned (.bool true) ∧ Below w.heap.size w w' := by
  obtain ⟨a, c, rfl⟩ := hv.form
  by_cases h1 : 30 < ss.length
  · have q1 : 30 < (ss.length : Int) := by omega
    go_enter Try.func4, Try.ntmps4
    go_wp2_with (go_at_call 6; refine (known_any _).mono ?_; rintro e w1 ⟨rfl, B⟩)
    go_ret
    exact ⟨rfl, B⟩
  have q1 : ¬ 30 < (ss.length : Int) := by omega
  go_enter Try.func4, Try.ntmps4
  go_wp2_with (go_at_call 6; refine (known_any _).mono ?_; rintro e w1 ⟨rfl, B⟩)
  have hv1 := hv.below B
  clear hv
  go_loopw [3] (fun i wr => ∃ k : Nat, k ≤ ss.length ∧ i = .int .i64 k ∧ wr = w1) (fun i _ => ss.length - (intOf i).toNat)
  case atStart => exact ⟨0, Nat.zero_le _, rfl, rfl⟩
  case round =>
    obtain ⟨k, hk, rfl, rfl⟩ := hrel
    by_cases hlt : k < ss.length
    · have q2 : (k : Int) < ss.length := by omega
      obtain ⟨b, off, rfl, hc⟩ := hv1.nth hlt
      have c1 := hc k hlt
      obtain ⟨x, hx⟩ : ∃ x, Hid (ss.getD k ByteArray.empty = x) := ⟨_, rfl⟩
      rw [hx.out] at c1
      clear hc
      by_cases h3 : 300 < x.size
      · have q3 : 300 < (x.size : Int) := by omega
        go_wp2_with fail
        go_ret
        exact ⟨rfl, B⟩
      · have q3 : ¬ 300 < (x.size : Int) := by omega
        go_wp2_with fail
        go_roundw
        case rel => exact ⟨k + 1, by omega, by go_num, trivial⟩
        case measure => simp [intOf]; omega
    · have q2 : ¬ (k : Int) < ss.length := by omega
      have HL : Hid (ss.length ≤ 1000000) := by show _ ≤ _; omega
      obtain ⟨E, hE⟩ : ∃ E, jnE ss = E := ⟨_, rfl⟩
      obtain ⟨S, hS⟩ : ∃ S, jnS ss = S := ⟨_, rfl⟩
      have HE : Hid (jnE ss = E) := hE
      have HS : Hid (jnS ss = S) := hS
      by_cases h0 : E = 0
      · obtain ⟨b1, b2, b3, _⟩ := jn_back (hE.trans h0)
        rw [hS] at b1 b2 b3
        have HB1 : Hid (spE S = 0) := b1
        have HB2 : Hid (spN S = ss) := b2
        have HB3 : S.size ≤ 3000 := by omega
        clear b1 b2 b3 hE hS
        subst h0
        go_wp2_with (first
          | (go_at_call 14; refine (join_any _ ss _ hv1 HL.out).mono ?_; rintro e w2 ⟨rfl, hB⟩; rw [HE.out, HS.out]; have B2 := B.trans (hB.mono B.size); have hv2 := hv1.below hB; clear hB)
          | (go_at_call 15; refine (rJoin_any _ ss _ hv2 HL.out).mono ?_; rintro e w3 ⟨rfl, rfl⟩; rw [HE.out, HS.out])
          | (go_at_call 7; refine (split_any S _ HB3).mono ?_; rintro e w4 ⟨v4, rfl, hT4, hB⟩; rw [HB1.out]; rw [HB2.out] at hT4; have B4 := B2.trans (hB.mono B2.size); have hv4 := hv2.below hB; clear hB)
          | (go_at_call 11; refine (ltexts_yes _ _ ss _ hT4 hv4 HL.out).mono ?_; rintro e w5 ⟨rfl, hB⟩; have B5 := B4.trans (hB.mono B4.size); clear hB))
        go_ret
        exact ⟨rfl, B5⟩
      · have q0 : (E == 0) = false := beq_eq_false_iff_ne.2 h0
        clear hE hS
        go_wp2_with (first
          | (go_at_call 14; refine (join_any _ ss _ hv1 HL.out).mono ?_; rintro e w2 ⟨rfl, hB⟩; rw [HE.out, HS.out]; have B2 := B.trans (hB.mono B.size); have hv2 := hv1.below hB; clear hB)
          | (go_at_call 15; refine (rJoin_any _ ss _ hv2 HL.out).mono ?_; rintro e w3 ⟨rfl, rfl⟩; rw [HE.out, HS.out]))
        go_ret
        exact ⟨rfl, B2⟩
end Go.Proofs.Ytdjopadohbbfkaa

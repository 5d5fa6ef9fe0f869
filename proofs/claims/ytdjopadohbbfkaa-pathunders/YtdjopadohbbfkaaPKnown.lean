/-
  known and texts of the laws on path.
-/
import Derived.Test.YtdjopadohbbfkaaPRefUnder
namespace Go.Proofs.Ytdjopadohbbfkaa
open Go.RowKit

/-- Is it a name? by its bytes -/
def nameC (l : List UInt8) : Bool := decide (1 ≤ l.length) && decide (l.length ≤ 48) && !(l == [46]) && !(l == [46, 46]) && l.all okB
theorem nameB_eq (s : ByteArray) : nameB s = nameC s.data.toList := by
  unfold nameB nameC
  have e : s.size = s.data.toList.length := by simp
  rw [ByteArray.toList_eq, e]
def spC (l : List UInt8) : Int := if 256 < l.length then 5 else if l = [47] then 0 else if Lib.hasPrefix l [47] = true then (if (cutL (l.drop 1)).all nameC = true then (if 8 < (cutL (l.drop 1)).length then 5 else 0) else 12) else 12
theorem spE_eq (s : ByteArray) : spE s = spC s.data.toList := by
  unfold spE spC chkE
  have e : s.size = s.data.toList.length := by simp
  have e2 : ((cutL (s.data.toList.drop 1)).map bl).all nameB = (cutL (s.data.toList.drop 1)).all nameC := by
    rw [List.all_map]
    congr 1
    funext x
    exact nameB_eq _
  rw [e, e2, List.length_map]
theorem chk_const (ss : List ByteArray) (h : (ss.map (·.data.toList)).all nameC = true) (h8 : ss.length ≤ 8) : chkE ss = 0 := by
  refine chk_zero ?_ h8
  rw [List.all_map] at h
  rw [← h]
  congr 1
  funext x
  exact nameB_eq _
theorem k_sp1 : spE ⟨#[47, 97, 47, 98, 46, 99]⟩ = 0 := (spE_eq _).trans (by decide)
theorem k_spn : spN ⟨#[47, 97, 47, 98, 46, 99]⟩ = [⟨#[97]⟩, ⟨#[98, 46, 99]⟩] := by unfold spN; rw [k_sp1, if_pos (by decide)]; rfl
theorem k_pa : paE ⟨#[47, 97, 47, 98, 46, 99]⟩ = 0 ∧ paU ⟨#[47, 97, 47, 98, 46, 99]⟩ = ⟨#[47, 97]⟩ ∧ paN ⟨#[47, 97, 47, 98, 46, 99]⟩ = ⟨#[98, 46, 99]⟩ := by
  have h : paE ⟨#[47, 97, 47, 98, 46, 99]⟩ = 0 := by unfold paE; rw [k_sp1, k_spn]; rfl
  refine ⟨h, ?_, ?_⟩
  · unfold paU; rw [h, k_spn]; rfl
  · unfold paN; rw [h, k_spn]; rfl
theorem k_jn : jnE [⟨#[120]⟩, ⟨#[121]⟩] = 0 ∧ jnS [⟨#[120]⟩, ⟨#[121]⟩] = ⟨#[47, 120, 47, 121]⟩ := by
  have h : jnE [⟨#[120]⟩, ⟨#[121]⟩] = 0 := by unfold jnE; rw [chk_const _ (by decide) (by decide)]; rfl
  refine ⟨h, ?_⟩
  unfold jnS; rw [h]; rfl
theorem k_a : spE ⟨#[47, 97]⟩ = 0 ∧ spN ⟨#[47, 97]⟩ = [⟨#[97]⟩] := by
  have h : spE ⟨#[47, 97]⟩ = 0 := (spE_eq _).trans (by decide)
  exact ⟨h, by unfold spN; rw [h, if_pos (by decide)]; rfl⟩
theorem k_un1 : unB ⟨#[47, 97]⟩ ⟨#[47, 97, 47, 98]⟩ = true := by
  have h : spE ⟨#[47, 97, 47, 98]⟩ = 0 := (spE_eq _).trans (by decide)
  have h2 : spN ⟨#[47, 97, 47, 98]⟩ = [⟨#[97]⟩, ⟨#[98]⟩] := by unfold spN; rw [h, if_pos (by decide)]; rfl
  unfold unB; rw [k_a.1, k_a.2, h, h2]; rfl
theorem k_un2 : unB ⟨#[47, 97]⟩ ⟨#[47, 97, 98]⟩ = false := by
  have h : spE ⟨#[47, 97, 98]⟩ = 0 := (spE_eq _).trans (by decide)
  have h2 : spN ⟨#[47, 97, 98]⟩ = [⟨#[97, 98]⟩] := by unfold spN; rw [h, if_pos (by decide)]; rfl
  unfold unB; rw [k_a.1, k_a.2, h, h2]; rfl

theorem Tx.two (w : World) (s t : ByteArray) : Tx (w.alloc (.cells #[.string s, .string t] 9)) (.slice (some ⟨w.heap.size, 0, none⟩) 2 2) [s, t] := by
  refine ⟨some ⟨w.heap.size, 0, none⟩, 2, rfl, Nat.le_refl 2, by simp [maxLen], (fun h => by cases h), fun _ => ⟨w.heap.size, 0, rfl, fun j hj => ?_⟩⟩
  have hb := heap_alloc_new w (.cells #[.string s, .string t] 9)
  rw [cell_of_row _ w.heap.size _ _ _ _ hb]
  have : j = 0 ∨ j = 1 := by simp at hj; omega
  rcases this with rfl | rfl <;> rfl
set_option maxHeartbeats 3200000 in
theorem known_any (w : World) : Calls Try.prog 6 #[] w fun e w' => e = .returned (.bool true) ∧ Below w.heap.size w w' := by
  have HS : Hid (∀ w : World, Calls Try.prog 7 #[.string ⟨#[47, 97, 47, 98, 46, 99]⟩] w fun e w' => ∃ v, e = .returned (.tuple #[v, .int .i64 0]) ∧ Tx w' v [⟨#[97]⟩, ⟨#[98, 46, 99]⟩] ∧ Below w.heap.size w w') := fun w => by
    have := split_any ⟨#[47, 97, 47, 98, 46, 99]⟩ w (by decide)
    rw [k_sp1, k_spn] at this
    exact this
  have HP : Hid (∀ w : World, Calls Try.prog 9 #[.string ⟨#[47, 97, 47, 98, 46, 99]⟩] w fun e w' => e = .returned (.tuple #[.string ⟨#[47, 97]⟩, .string ⟨#[98, 46, 99]⟩, .int .i64 0]) ∧ Below w.heap.size w w') := fun w => by
    have := parent_any ⟨#[47, 97, 47, 98, 46, 99]⟩ w (by decide)
    rw [k_pa.1, k_pa.2.1, k_pa.2.2] at this
    exact this
  have HJ : Hid (∀ (v : Value) (w : World), Tx w v [⟨#[120]⟩, ⟨#[121]⟩] → Calls Try.prog 14 #[v] w fun e w' => e = .returned (.tuple #[.string ⟨#[47, 120, 47, 121]⟩, .int .i64 0]) ∧ Below w.heap.size w w') := fun v w h => by
    have := join_any v _ w h (by decide)
    rw [k_jn.1, k_jn.2] at this
    exact this
  go_enter Try.func6, Try.ntmps6
  go_wp2_with (first
    | (go_at_call 7; refine (HS.out _).mono ?_; rintro e w1 ⟨v, rfl, hT, hB1⟩; obtain ⟨b, off, c, rfl, hcc, hc⟩ := hT.here (by decide))
    | (go_at_call 9; refine (HP.out _).mono ?_; rintro e w2 ⟨rfl, hB2⟩))
  have c1 : w2.cell? ⟨b, off + 1, none⟩ = some (.string ⟨#[98, 46, 99]⟩) := (Chg.ofBelowT hB2).cell (hc 1 (by decide)) (fun h => h)
  have c2 : (w2.alloc (.cells #[.string ⟨#[120]⟩, .string ⟨#[121]⟩] 9)).cell? ⟨b, off + 1, none⟩ = some (.string ⟨#[98, 46, 99]⟩) := (Chg.alloc (fun _ => False) w2 _).cell c1 (fun h => h)
  have B := (hB1.trans (hB2.mono hB1.size)).alloc (Nat.le_trans hB1.size hB2.size) (.cells #[.string ⟨#[120]⟩, .string ⟨#[121]⟩] 9)
  have hT2 := Tx.two w2 ⟨#[120]⟩ ⟨#[121]⟩
  clear c1 hc hT hB1 hB2
  obtain ⟨W, hW⟩ : ∃ W, w2.alloc (.cells #[.string ⟨#[120]⟩, .string ⟨#[121]⟩] 9) = W := ⟨_, rfl⟩
  rw [hW] at c2 B hT2 ⊢
  clear hW
  refine (HJ.out _ _ hT2).mono ?_
  rintro e w3 ⟨rfl, hB3⟩
  have c3 : w3.cell? ⟨b, off + 1, none⟩ = some (.string ⟨#[98, 46, 99]⟩) := (Chg.ofBelowT hB3).cell c2 (fun h => h)
  have B3 := B.trans (hB3.mono B.size)
  clear c2 B hB3 hT2
  have HU : Hid (∀ (a b : ByteArray) (w : World), a.size ≤ 3000 → b.size ≤ 3000 → Calls Try.prog 12 #[.string a, .string b] w fun e w' => e = .returned (.bool (unB a b)) ∧ Below w.heap.size w w') := under_any
  go_wp2_with (go_at_call 12; refine (HU.out _ _ _ (by decide) (by decide)).mono ?_; rintro e w4 ⟨rfl, hB4⟩; have B3 := B3.trans (hB4.mono B3.size); clear hB4; first | rw [k_un1] | rw [k_un2])
  go_ret
  exact ⟨rfl, B3⟩

set_option maxHeartbeats 1600000 in
theorem ltexts_yes (s r : Value) (ss : List ByteArray) (w : World) (hs : Tx w s ss) (hr : Tx w r ss) (hl : ss.length ≤ 1000000) :
    Calls Try.prog 11 #[s, r] w fun e w' => e = .returned (.bool true) ∧ Below w.heap.size w w' := by
  obtain ⟨sa, sc, rfl⟩ := hs.form
  obtain ⟨ra, rc, rfl⟩ := hr.form
  go_enter Try.func11, Try.ntmps11
  go_wp2_with fail
  go_loopw [5] (fun i wr => ∃ k : Nat, k ≤ ss.length ∧ i = .int .i64 k ∧ Below w.heap.size w wr) (fun i _ => ss.length - (intOf i).toNat)
  case atStart => exact ⟨0, Nat.zero_le _, rfl, Below.refl _ _⟩
  case round =>
    obtain ⟨k, hk, rfl, B⟩ := hrel
    by_cases hlt : k < ss.length
    · have q1 : (k : Int) < ss.length := by omega
      have hs' := hs.below B
      have hr' := hr.below B
      obtain ⟨b, off, rfl, hc⟩ := hs'.nth hlt
      obtain ⟨b2, off2, rfl, hc2⟩ := hr'.nth hlt
      have c1 := hc k hlt
      have d1 := hc2 k hlt
      obtain ⟨Y, hY⟩ : ∃ Y : ByteArray, ss.getD k ByteArray.empty = Y := ⟨_, rfl⟩
      rw [hY] at c1 d1
      clear hc hc2 hs' hr' hY
      go_wp2_with fail
      go_quiet (fail)
      have B2 : Below w.heap.size w (wr.drewN nq) := below_drN B nq
      go_wp2_with fail
      go_roundw
      case rel => exact ⟨k + 1, by omega, by go_num, B2⟩
      case measure => simp [intOf]; omega
    · have q1 : ¬ (k : Int) < ss.length := by omega
      go_wp2_with fail
      go_ret
      exact ⟨rfl, B⟩
end Go.Proofs.Ytdjopadohbbfkaa

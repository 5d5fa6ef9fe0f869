/-
  known of the laws on dir.
-/
import Derived.Test.YtbhfmceapffhnaaDoorDNames
namespace Go.Proofs.YtbhfmceapffhnaaDoor
open Go.RowKit Go.Sort

abbrev sA : ByteArray := ⟨#[97]⟩
abbrev sB : ByteArray := ⟨#[98]⟩
theorem kn1 : nameB sA = true := by unfold nameB; rw [ByteArray.toList_eq]; decide
theorem kn2 : nameB sB = true := by unfold nameB; rw [ByteArray.toList_eq]; decide
theorem kn3 : nameB ⟨#[120, 46, 121]⟩ = true := by unfold nameB; rw [ByteArray.toList_eq]; decide
theorem kn4 : nameB ⟨#[46, 46]⟩ = false := by unfold nameB; rw [ByteArray.toList_eq]; decide
theorem kab : (sB.toList == sA.toList) = false := by rw [ByteArray.toList_eq, ByteArray.toList_eq]; decide
theorem kba : (sA.toList == sB.toList) = false := by rw [ByteArray.toList_eq, ByteArray.toList_eq]; decide
theorem ki1 : IdxN [] sA (-1) := .inr ⟨by decide, .inl ⟨rfl, fun j hj => by simp at hj⟩⟩
theorem ki2 : Idx [] ⟨#[]⟩ (-1) := .inl ⟨rfl, fun j hj => by simp at hj⟩
theorem one_idx (e : En) (h : 1 ≤ e.nm.size) : IdxN [e] e.nm ((0 : Nat) : Int) := .inr ⟨h, .inr ⟨0, rfl, by simp, by simp, fun j hj => by omega⟩⟩
theorem one_not (e : En) (nm : ByteArray) (h : 1 ≤ nm.size) (hn : (e.nm.toList == nm.toList) = false) : IdxN [e] nm (-1) := .inr ⟨h, .inl ⟨rfl, fun j hj => by
  have : j = 0 := by simp at hj; omega
  subst this
  exact hn⟩⟩
theorem eq_fr (w : World) : (binOp BinOp.eql 57 (.agg #[.string ⟨#[]⟩, .int .i64 0]) (.agg #[.string ⟨#[]⟩, .int .i64 0])).run Tryd.prog w = .ok (.bool true) w := by kernel_rfl

set_option maxHeartbeats 3200000 in
set_option maxRecDepth 100000 in
theorem known_any (w : World) : Calls Tryd.prog 8 #[] w fun e w' => e = .returned (.bool true) ∧ Below w.heap.size w w' := by
  have m1 : mvL [⟨sA, 5⟩] 0 sB = [⟨sB, 5⟩] := rfl
  have n1 : namesL [⟨sB, 5⟩] = [[98]] := rfl
  have s1 : sortL [[98]] = [[98]] := by simp [sortL]
  have hE := eq_fr
  have bb : (sB.toList == [98]) = true := by rw [ByteArray.toList_eq]; rfl
  go_enter Tryd.func8, Tryd.ntmps8
  go_wp2_with fail
  refine (put_more (.slice none 0 0) [] sA 5 _ (Es.nil _) (by simp) kn1 (by rfl) ki1 ki2).mono ?_
  rintro e w1 ⟨u1, rfl, e1, B1⟩
  simp only [List.nil_append] at e1
  have z : ((sizeS (([] : List En).length + 1) - sizeS ([] : List En).length : Nat) : Int) = 512 := by decide
  rw [z]
  go_wp2_with fail
  refine (move_ok u1 [⟨sA, 5⟩] sA sB 0 _ e1 (by simp) (one_idx ⟨sA, 5⟩ (by decide)) kn2 (.inr ⟨kab, one_not _ _ (by decide) kba⟩)).mono ?_
  rintro e w2 ⟨u2, rfl, e2, B2⟩
  rw [m1] at e2
  have Bn2 := B1.trans (B2.mono B1.size)
  clear B1 B2 e1 z
  go_wp2_with fail
  refine (find_any u2 [⟨sB, 5⟩] sB _ e2 (by simp)).mono ?_
  rintro e w3 ⟨r, hr, B3, hx⟩
  obtain rfl := hr.out.unique (one_idx ⟨sB, 5⟩ (by decide))
  have hx2 : e = .returned (.tuple #[.int .i64 5, .bool true]) := by
    rcases hx with ⟨h, _⟩ | ⟨k, h1, h2, h3⟩
    · omega
    · obtain rfl : k = 0 := by omega
      exact h3
  subst hx2
  have Bn3 := Bn2.trans (B3.mono Bn2.size)
  have e3 := e2.below B3
  clear B3 e2 Bn2 hr hx
  go_wp2_with fail
  refine (take_ok u2 [⟨sB, 5⟩] sB 0 _ e3 (by simp) (one_idx ⟨sB, 5⟩ (by decide))).mono ?_
  rintro e w4 ⟨u4, rfl, e4, B4⟩
  have Bn4 := Bn3.trans (B4.mono Bn3.size)
  have e5 := e3.below B4
  clear B4 e3 Bn3
  go_wp2_with fail
  refine (names_any u2 [⟨sB, 5⟩] _ e5 (by simp)).mono ?_
  rintro e w5 ⟨u5, rfl, o5, B5⟩
  have Bn5 := Bn4.trans (B5.mono Bn4.size)
  have e6 := e4.below B5
  rw [n1, s1] at o5
  have t6 : ([⟨sB, 5⟩] : List En).set 0 En.fr = [En.fr] := rfl
  rw [t6] at e6
  obtain ⟨a6, c6, rfl⟩ := e6.form
  obtain ⟨b6, f6, rfl, hc6⟩ := e6.nth (k := 0) (by simp)
  obtain ⟨c61, c62⟩ := hc6 0 (by simp)
  obtain ⟨a5, c5, rfl⟩ := own_sl1 o5
  have hc5 : ∃ g, a5 = some ⟨g, 0, none⟩ ∧ w5.cell? ⟨g, 0, none⟩ = some (.string sB) := by
    rcases o5.2 with ⟨_, h⟩ | ⟨g, cap, cur, h1, h2, h3, h4⟩
    · simp at h
    · injection h1 with h1 h2 h3
      subst h1
      exact ⟨g, rfl, o5.cells (g := g) rfl 0 _ rfl⟩
  obtain ⟨g5, rfl, hc5⟩ := hc5
  have c61' : w5.cell? ⟨b6, f6, none⟩ = some (.string ⟨#[]⟩) := c61
  have c62' : w5.cell? ⟨b6, f6 + 1, none⟩ = some (.int .i64 0) := c62
  clear hc6 c61 c62 e6 o5 B5 e4 e5 Bn4 m1 n1 s1 t6
  go_wp2_with fail
  refine (name_any ⟨#[120, 46, 121]⟩ true _ kn3).mono ?_
  rintro e w6 ⟨rfl, rfl⟩
  go_wp2_with fail
  refine (name_any ⟨#[46, 46]⟩ false _ kn4).mono ?_
  rintro e w7 ⟨rfl, rfl⟩
  go_wp2_with fail
  go_ret
  exact ⟨rfl, Bn5⟩
end Go.Proofs.YtbhfmceapffhnaaDoor

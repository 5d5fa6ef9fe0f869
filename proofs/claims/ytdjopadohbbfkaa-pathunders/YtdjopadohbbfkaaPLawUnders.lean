/-
  PathUnders.
-/
import Derived.Test.YtdjopadohbbfkaaPLawJoins
namespace Go.Proofs.Ytdjopadohbbfkaa
open Go.RowKit

theorem un_pre {X Y : List ByteArray} (hX : jnE X = 0) (hY : jnE Y = 0) : unB (jnS X) (jnS Y) = decide (X = Y.take X.length) := by
  obtain ⟨a1, a2, _⟩ := jn_back hX
  obtain ⟨b1, b2, _⟩ := jn_back hY
  unfold unB
  rw [a1, a2, b1, b2]; rfl
theorem un_self {X : List ByteArray} (hX : jnE X = 0) : unB (jnS X) (jnS X) = true := by
  rw [un_pre hX hX, List.take_length]; simp
theorem un_app {X Y : List ByteArray} (hX : jnE X = 0) (hY : jnE (X ++ Y) = 0) : unB (jnS X) (jnS (X ++ Y)) = true := by
  rw [un_pre hX hY, List.take_left]; simp
theorem un_back {X Y : List ByteArray} (hX : jnE X = 0) (hY : jnE (X ++ Y) = 0) : unB (jnS (X ++ Y)) (jnS X) = ((Y.length : Int) == 0) := by
  rw [un_pre hY hX]
  cases Y with
  | nil => simp
  | cons y r =>
    have h1 : ¬ X ++ y :: r = X.take (X ++ y :: r).length := by
      intro e
      have := congrArg List.length e
      rw [List.length_take, List.length_append, List.length_cons] at this
      omega
    have h2 : (((y :: r).length : Int) == 0) = false := by
      refine beq_eq_false_iff_ne.2 ?_
      rw [List.length_cons]; omega
    rw [h2, decide_eq_false h1]
/-- The parent of a path that was joined. -/
theorem pa_jn {Z : List ByteArray} (h : jnE Z = 0) (h0 : ¬ Z = []) : ∃ F X, Z = F ++ [X] ∧ paE (jnS Z) = 0 ∧ paU (jnS Z) = jnS F ∧ paN (jnS Z) = X ∧ jnE F = 0 := by
  obtain ⟨a1, a2, _⟩ := jn_back h
  have hF : jnE (Z.take (Z.length - 1)) = 0 := by
    have := sp_front a1 (Z.length - 1)
    rw [a2] at this
    exact this
  have hz : ¬ Z.length = 0 := fun e => h0 (List.eq_nil_of_length_eq_zero e)
  have hE : paE (jnS Z) = 0 := by unfold paE; rw [if_pos a1, if_neg (by rw [a2]; exact h0)]
  refine ⟨Z.take (Z.length - 1), Z.getD (Z.length - 1) ByteArray.empty, ?_, hE, ?_, ?_, hF⟩
  · have h1 : Z.length - 1 < Z.length := by omega
    rw [List.getD_eq_getElem?_getD, List.getElem?_eq_getElem h1]
    show Z = Z.take (Z.length - 1) ++ [Z[Z.length - 1]]
    have e : Z = Z.take (Z.length - 1) ++ Z.drop (Z.length - 1) := (List.take_append_drop _ _).symm
    rw [List.drop_eq_getElem_cons h1, show Z.length - 1 + 1 = Z.length by omega, List.drop_length] at e
    exact e
  · unfold paU; rw [if_pos hE, a2, jnS, if_pos hF]
  · unfold paN; rw [if_pos hE, a2]
theorem un_up {F : List ByteArray} {X : ByteArray} (hF : jnE F = 0) (h : jnE (F ++ [X]) = 0) : unB (jnS (F ++ [X])) (jnS F) = false := by
  rw [un_back hF h]; rfl
/-- How the path of one name more is made. -/
theorem jn_more {F : List ByteArray} {X : ByteArray} (hF : jnE F = 0) (h : jnE (F ++ [X]) = 0) : (F = [] ∧ jnS F = ⟨#[47]⟩ ∧ (⟨#[47]⟩ : ByteArray) ++ X = jnS (F ++ [X])) ∨ (¬ jnS F = ⟨#[47]⟩ ∧ (jnS F ++ ⟨#[47]⟩) ++ X = jnS (F ++ [X])) := by
  have hS : jnS (F ++ [X]) = bl (jn (F ++ [X])) := by unfold jnS; rw [if_pos h]
  have hS' : jnS F = bl (jn F) := by unfold jnS; rw [if_pos hF]
  have hj : jn (F ++ [X]) = (F.flatMap fun y => 47 :: y.data.toList) ++ 47 :: X.data.toList := by
    unfold jn; rw [if_neg (by simp), List.flatMap_append]; simp
  by_cases h0 : F = []
  · refine .inl ⟨h0, ?_, ?_⟩
    · rw [hS', h0]; rfl
    · rw [hS, hj, h0]
      apply ByteArray.ext
      simp
  · refine .inr ⟨?_, ?_⟩
    · intro e
      have b2 := (jn_back hF).2.1
      rw [e] at b2
      apply h0
      rw [← b2]
      unfold spN
      rw [if_neg (by simp)]
    · rw [hS, hS', hj]
      apply ByteArray.ext
      have : jn F = F.flatMap fun y => 47 :: y.data.toList := by unfold jn; rw [if_neg h0]
      rw [this]
      simp
theorem jnS_len (Z : List ByteArray) : (jnS Z).size ≤ 256 := by
  by_cases h : jnE Z = 0
  · exact (jn_back h).2.2.1
  · unfold jnS; rw [if_neg h]; exact Nat.zero_le _
/-- A row of rows. -/
theorem rows3 (w : World) (va vb vc : Value) (A B C : List ByteArray) (hA : Tx w va A) (hB : Tx w vb B) (hC : Tx w vc C) (k : Nat) (hk : k < 3) (T : TypeId) :
    ∃ u R, (w.alloc (.cells #[va, vb, vc] T)).cell? ⟨w.heap.size, k, none⟩ = some u ∧ Tx (w.alloc (.cells #[va, vb, vc] T)) u R ∧ (R = A ∨ R = B ∨ R = C) := by
  have hb := heap_alloc_new w (.cells #[va, vb, vc] T)
  have B1 : Below w.heap.size w (w.alloc (.cells #[va, vb, vc] T)) := (Below.refl _ _).alloc (Nat.le_refl _) _
  rcases (by omega : k = 0 ∨ k = 1 ∨ k = 2) with rfl | rfl | rfl
  · exact ⟨va, A, by rw [cell_of_row _ w.heap.size _ _ _ _ hb]; rfl, hA.below B1, .inl rfl⟩
  · exact ⟨vb, B, by rw [cell_of_row _ w.heap.size _ _ _ _ hb]; rfl, hB.below B1, .inr (.inl rfl)⟩
  · exact ⟨vc, C, by rw [cell_of_row _ w.heap.size _ _ _ _ hb]; rfl, hC.below B1, .inr (.inr rfl)⟩

set_option maxHeartbeats 6400000 in
set_option maxRecDepth 100000 in
theorem law_unders (va vb vc : Value) (A B C : List ByteArray) (w : World) (hA : Tx w va A) (hB : Tx w vb B) (hC : Tx w vc C) : Calls Try.prog 5 #[va, vb, vc] w fun e w' => e = .returned (.bool true) ∧ Below w.heap.size w w' := by
  obtain ⟨i9, hi9, hz9, hs9, hb9⟩ := info9T
  obtain ⟨aa, ac, rfl⟩ := hA.form
  obtain ⟨ba, bc, rfl⟩ := hB.form
  obtain ⟨ca, cc, rfl⟩ := hC.form
  by_cases h1 : 8 < A.length
  · have q1 : 8 < (A.length : Int) := by omega
    go_enter Try.func5, Try.ntmps5
    go_wp2_with (go_at_call 6; refine (known_any _).mono ?_; rintro e w1 ⟨rfl, B⟩)
    go_ret
    exact ⟨rfl, B⟩
  have q1 : ¬ 8 < (A.length : Int) := by omega
  by_cases h2 : 8 < B.length
  · have q2 : 8 < (B.length : Int) := by omega
    go_enter Try.func5, Try.ntmps5
    go_wp2_with (go_at_call 6; refine (known_any _).mono ?_; rintro e w1 ⟨rfl, B⟩)
    go_ret
    exact ⟨rfl, B⟩
  have q2 : ¬ 8 < (B.length : Int) := by omega
  by_cases h3 : 8 < C.length
  · have q3 : 8 < (C.length : Int) := by omega
    go_enter Try.func5, Try.ntmps5
    go_wp2_with (go_at_call 6; refine (known_any _).mono ?_; rintro e w1 ⟨rfl, B⟩)
    go_ret
    exact ⟨rfl, B⟩
  have q3 : ¬ 8 < (C.length : Int) := by omega
  go_enter Try.func5, Try.ntmps5
  go_wp2_with (go_at_call 6; refine (known_any _).mono ?_; rintro e w1 ⟨rfl, B0⟩)
  have hA1 := hA.below B0
  have hB1 := hB.below B0
  have hC1 := hC.below B0
  clear hA hB hC
  have HR : Hid (∀ k, k < 3 → ∃ u R, (w1.alloc (.cells #[.slice aa A.length ac, .slice ba B.length bc, .slice ca C.length cc] 23)).cell? ⟨w1.heap.size, k, none⟩ = some u ∧ Tx (w1.alloc (.cells #[.slice aa A.length ac, .slice ba B.length bc, .slice ca C.length cc] 23)) u R ∧ (R = A ∨ R = B ∨ R = C)) := fun k hk => rows3 w1 _ _ _ A B C hA1 hB1 hC1 k hk _
  have BW := (Below.refl w1.heap.size w1).alloc (Nat.le_refl _) (.cells #[.slice aa A.length ac, .slice ba B.length bc, .slice ca C.length cc] 23)
  have hA2 := hA1.below BW
  have hB2 := hB1.below BW
  have hC2 := hC1.below BW
  have B2 := B0.trans (BW.mono B0.size)
  obtain ⟨W, hW⟩ : ∃ W, w1.alloc (.cells #[.slice aa A.length ac, .slice ba B.length bc, .slice ca C.length cc] 23) = W := ⟨_, rfl⟩
  obtain ⟨g, hg⟩ : ∃ g, w1.heap.size = g := ⟨_, rfl⟩
  rw [hW] at HR hA2 hB2 hC2 B2 ⊢
  rw [hg] at HR ⊢
  clear hW hg BW hA1 hB1 hC1 B0
  go_loopw [39] (fun i wr => ∃ k : Nat, k ≤ 3 ∧ i = .int .i64 k ∧ wr = W) (fun i _ => 3 - (intOf i).toNat)
  case atStart => exact ⟨0, Nat.zero_le _, rfl, rfl⟩
  case round =>
    obtain ⟨k, hk, rfl, rfl⟩ := hrel
    by_cases hlt : k < 3
    · have q4 : (k : Int) < 3 := by omega
      obtain ⟨u, R, c1, hR, hRR⟩ := HR.out k hlt
      obtain ⟨ra, rc, rfl⟩ := hR.form
      have hR8 : R.length ≤ 8 := by rcases hRR with rfl | rfl | rfl <;> omega
      clear hRR
      go_wp2_with fail
      go_loopw [9] (fun i wr' => ∃ j : Nat, j ≤ R.length ∧ i = .int .i64 j ∧ wr' = wr) (fun i _ => R.length - (intOf i).toNat)
      case atStart => exact ⟨0, Nat.zero_le _, rfl, rfl⟩
      case round =>
        obtain ⟨j, hj, rfl, rfl⟩ := hrel
        by_cases hjl : j < R.length
        · have q5 : (j : Int) < R.length := by omega
          obtain ⟨b, off, rfl, hc⟩ := hR.nth hjl
          have c2 := hc j hjl
          obtain ⟨x, hx⟩ : ∃ x, Hid (R.getD j ByteArray.empty = x) := ⟨_, rfl⟩
          rw [hx.out] at c2
          clear hc
          by_cases h100 : 100 < x.size
          · have q6 : 100 < (x.size : Int) := by omega
            go_wp2_with fail
            go_ret
            exact ⟨rfl, B2⟩
          · have q6 : ¬ 100 < (x.size : Int) := by omega
            go_wp2_with fail
            go_roundw
            case rel => exact ⟨j + 1, by omega, by go_num, trivial⟩
            case measure => simp [intOf]; omega
        · have q5 : ¬ (j : Int) < R.length := by omega
          go_wp2_with fail
          go_roundw
          case rel => exact ⟨k + 1, by omega, by go_num, trivial⟩
          case measure => simp [intOf]; omega
    · have q4 : ¬ (k : Int) < 3 := by omega
      have HLA : Hid (A.length ≤ 8) := by show _ ≤ _; omega
      have HLB : Hid (B.length ≤ 8) := by show _ ≤ _; omega
      have HLC : Hid (C.length ≤ 8) := by show _ ≤ _; omega
      clear HR hk hlt
      obtain ⟨E1, hE1⟩ : ∃ E, jnE A = E := ⟨_, rfl⟩
      obtain ⟨E2, hE2⟩ : ∃ E, jnE (A ++ B) = E := ⟨_, rfl⟩
      obtain ⟨E3, hE3⟩ : ∃ E, jnE (A ++ B ++ C) = E := ⟨_, rfl⟩
      have HE1 : Hid (jnE A = E1) := hE1
      have HE2 : Hid (jnE (A ++ B) = E2) := hE2
      have HE3 : Hid (jnE (A ++ B ++ C) = E3) := hE3
      clear hE1 hE2 hE3
      obtain ⟨X, hX⟩ : ∃ X, Hid (jnS A = X) := ⟨_, rfl⟩
      obtain ⟨Y, hY⟩ : ∃ Y, Hid (jnS (A ++ B) = Y) := ⟨_, rfl⟩
      obtain ⟨Z, hZ⟩ : ∃ Z, Hid (jnS (A ++ B ++ C) = Z) := ⟨_, rfl⟩
      by_cases h1 : E1 = 0
      · subst h1
        by_cases h2 : E2 = 0
        · subst h2
          by_cases h3 : E3 = 0
          · subst h3
            have HU : Hid (∀ (a b : ByteArray) (w : World), a.size ≤ 3000 → b.size ≤ 3000 → Calls Try.prog 12 #[.string a, .string b] w fun e w' => e = .returned (.bool (unB a b)) ∧ Below w.heap.size w w') := under_any
            have hXs : X.size ≤ 3000 := by rw [← hX.out]; exact Nat.le_trans (jnS_len _) (by omega)
            have hYs : Y.size ≤ 3000 := by rw [← hY.out]; exact Nat.le_trans (jnS_len _) (by omega)
            have hZs : Z.size ≤ 3000 := by rw [← hZ.out]; exact Nat.le_trans (jnS_len _) (by omega)
            have U1 : Hid (unB X X = true) := by rw [← hX.out]; exact un_self HE1.out
            have U2 : Hid (unB X Y = true) := by rw [← hX.out, ← hY.out]; exact un_app HE1.out HE2.out
            have U3 : Hid (unB Y Z = true) := by rw [← hY.out, ← hZ.out]; exact un_app HE2.out HE3.out
            have U4 : Hid (unB X Z = true) := by
              rw [← hX.out, ← hZ.out]
              have h := HE3.out
              rw [List.append_assoc] at h
              rw [List.append_assoc]
              exact un_app HE1.out h
            have U5 : Hid (unB Y X = ((B.length : Int) == 0)) := by rw [← hX.out, ← hY.out]; exact un_back HE1.out HE2.out
            by_cases h0 : A ++ B ++ C = []
            · as_aux_lemma =>
              have hsum2 : (((A.length : Int) + B.length + C.length) == 0) = true := by
                rw [List.append_eq_nil_iff, List.append_eq_nil_iff] at h0
                rw [h0.1.1, h0.1.2, h0.2]; rfl
              have hz : spE Z = 0 ∧ spN Z = [] := by
                rw [← hZ.out]
                exact ⟨(jn_back HE3.out).1, (jn_back HE3.out).2.1.trans h0⟩
              have PE : Hid (paE Z = 12) := by show _ = _; unfold paE; rw [if_pos hz.1, if_pos hz.2]
              have PU : Hid (paU Z = ⟨#[]⟩) := by show _ = _; unfold paU; rw [PE.out]; rfl
              have PN : Hid (paN Z = ⟨#[]⟩) := by show _ = _; unfold paN; rw [PE.out]; rfl
              clear h0 hz
              go_wp2_with (first
                | (go_at_call 14; refine (join_any _ A _ hA2 (by have := HLA.out; omega)).mono ?_; rintro e w2 ⟨rfl, hBj⟩; rw [HE1.out, hX.out])
                | (at_builtin; go_must (refine wpList_appT rfl _ (.tmp 63) 23 rfl w2.heap.size i9 Try.underlying23 hi9 hz9 hs9 hb9 _ _ 0 [] A rfl (lit_ownT w2 _ (Nat.le_refl _)) rfl ((hA2.below hBj).below ((Below.refl _ _).alloc (Nat.le_refl _) _)) ?c1 ?c2 ?next)))
              case c1 => have := HLA.out; simp; omega
              case c2 => simp
              case next =>
                intro u3 w3 O3 b3 _
                have b23 : Below w2.heap.size w2 w3 := ((Below.refl _ _).alloc (Nat.le_refl _) _).trans b3
                have TA := hA2.below hBj
                have TB := hB2.below hBj
                have TC := hC2.below hBj
                have BB := B2.trans (hBj.mono B2.size)
                have hs3 : Hid (w2.heap.size ≤ w3.heap.size) := b23.size
                have O3' : w3.ownsRow w2.heap.size 9 1 u3 A.length (A.map Value.string) := by simpa using O3
                have TB3 := TB.below b23
                clear O3 b3 hBj hA2 hB2 hC2 B2
                go_wp2_with (at_builtin; go_must (refine wpList_appT rfl _ (.tmp 65) 23 rfl w2.heap.size i9 Try.underlying23 hi9 hz9 hs9 hb9 _ _ A.length A B rfl O3' rfl TB3 ?c1 ?c2 ?next))
                case c1 => have := HLA.out; have := HLB.out; omega
                case c2 => exact hs3.out
                case next =>
                  intro u4 w4 O4 b4 _
                  have T4 : Tx w4 u4 (A ++ B) := Tx.ofOwns (N := w2.heap.size) (n := A.length + B.length) (by rw [List.map_append]; exact O4)
                  have b24 := b23.trans b4
                  clear O4 b4 b23 O3' TB3 hs3
                  go_wp2_with (first
                    | (go_at_call 14; refine (join_any _ (A ++ B) _ T4 (by have := HLA.out; have := HLB.out; rw [List.length_append]; omega)).mono ?_; rintro e w5 ⟨rfl, hBj⟩; rw [HE2.out, hY.out]; have b25 := b24.trans (hBj.mono b24.size); have TA := TA.below b25; have TB := TB.below b25; have TC := TC.below b25; have BB := BB.trans (b25.mono BB.size); clear hBj b24 T4 b25)
                    | (at_builtin; go_must (refine wpList_appT rfl _ (.tmp 72) 23 rfl w5.heap.size i9 Try.underlying23 hi9 hz9 hs9 hb9 _ _ 0 [] A rfl (lit_ownT w5 _ (Nat.le_refl _)) rfl (TA.below ((Below.refl _ _).alloc (Nat.le_refl _) _)) ?c1 ?c2 ?next)))
                  case c1 => have := HLA.out; simp; omega
                  case c2 => simp
                  case next =>
                    intro u6 w6 O6 b6 _
                    have b56 : Below w5.heap.size w5 w6 := ((Below.refl _ _).alloc (Nat.le_refl _) _).trans b6
                    have hs6 : Hid (w5.heap.size ≤ w6.heap.size) := b56.size
                    have O6' : w6.ownsRow w5.heap.size 9 1 u6 A.length (A.map Value.string) := by simpa using O6
                    have TB6 := TB.below b56
                    clear O6 b6
                    go_wp2_with (at_builtin; go_must (refine wpList_appT rfl _ (.tmp 74) 23 rfl w5.heap.size i9 Try.underlying23 hi9 hz9 hs9 hb9 _ _ A.length A B rfl O6' rfl TB6 ?c1 ?c2 ?next))
                    case c1 => have := HLA.out; have := HLB.out; omega
                    case c2 => exact hs6.out
                    case next =>
                      intro u7 w7 O7 b7 _
                      have b57 := b56.trans b7
                      have hs7 : Hid (w5.heap.size ≤ w7.heap.size) := b57.size
                      have O7' : w7.ownsRow w5.heap.size 9 1 u7 (A ++ B).length ((A ++ B).map Value.string) := by simpa using O7
                      have TC7 := TC.below b57
                      clear O7 b7 b56 O6' TB6 hs6
                      go_wp2_with (at_builtin; go_must (refine wpList_appT rfl _ (.tmp 76) 23 rfl w5.heap.size i9 Try.underlying23 hi9 hz9 hs9 hb9 _ _ (A ++ B).length (A ++ B) C rfl O7' rfl TC7 ?c1 ?c2 ?next))
                      case c1 => have := HLA.out; have := HLB.out; have := HLC.out; rw [List.length_append]; omega
                      case c2 => exact hs7.out
                      case next =>
                        intro u8 w8 O8 b8 _
                        have T8 : Tx w8 u8 (A ++ B ++ C) := Tx.ofOwns (N := w5.heap.size) (n := (A ++ B).length + C.length) (by simpa using O8)
                        have b58 := b57.trans b8
                        have BB := BB.trans (b58.mono BB.size)
                        have HL3 : Hid ((A ++ B ++ C).length ≤ 1000000) := by
                          show _ ≤ _
                          have := HLA.out; have := HLB.out; have := HLC.out; rw [List.length_append, List.length_append]; omega
                        clear O8 b8 b57 O7' TC7 hs7 b58 TA TB TC
                        go_wp2_with (first
                          | (go_at_call 14; refine (join_any _ (A ++ B ++ C) _ T8 HL3.out).mono ?_; rintro e w9 ⟨rfl, hBj⟩; rw [HE3.out, hZ.out]; have BB := BB.trans (hBj.mono BB.size); clear hBj T8)
                          | (go_at_call 12; refine (HU.out _ _ _ (by assumption) (by assumption)).mono ?_; rintro e wu ⟨rfl, hBu⟩; have BB := BB.trans (hBu.mono BB.size); clear hBu; first | rw [U1.out] | rw [U2.out] | rw [U3.out] | rw [U4.out] | rw [U5.out])
                          | (go_at_call 9; refine (parent_any Z _ hZs).mono ?_; rintro e wp ⟨rfl, hBp⟩; rw [PE.out, PU.out, PN.out]; have BB := BB.trans (hBp.mono BB.size); clear hBp))
                        go_ret
                        exact ⟨by first | rfl | simp, BB⟩
            · as_aux_lemma =>
              obtain ⟨F, N, hFN, p1, p2, p3, hF⟩ := pa_jn HE3.out h0
              obtain ⟨P, hP⟩ : ∃ P, jnS F = P := ⟨_, rfl⟩
              rw [hZ.out] at p1 p2 p3
              rw [hP] at p2
              have PE : Hid (paE Z = 0) := p1
              have PU : Hid (paU Z = P) := p2
              have PN : Hid (paN Z = N) := p3
              have h33 : jnE (F ++ [N]) = 0 := by rw [← hFN]; exact HE3.out
              have hZF : jnS (F ++ [N]) = Z := by rw [← hFN]; exact hZ.out
              have hPs : P.size ≤ 3000 := by rw [← hP]; exact Nat.le_trans (jnS_len _) (by omega)
              have U6 : Hid (unB P Z = true) := by rw [← hP, ← hZF]; exact un_app hF h33
              have U7 : Hid (unB Z P = false) := by rw [← hP, ← hZF]; exact un_up hF h33
              have hNs : N.size ≤ 48 := by
                have ha : (F ++ [N]).all nameB = true := by
                  have := (sp_ok (jn_back h33).1).1
                  rw [(jn_back h33).2.1] at this
                  exact this
                rw [List.all_append, Bool.and_eq_true] at ha
                have h2 := ha.2
                rw [List.all_cons, Bool.and_eq_true] at h2
                exact (nameB_parts h2.1).2.1
              have hsum : ¬ ((A.length : Int) + B.length + C.length = 0) := by
                intro h
                apply h0
                rw [List.append_eq_nil_iff, List.append_eq_nil_iff]
                exact ⟨⟨List.eq_nil_of_length_eq_zero (by omega), List.eq_nil_of_length_eq_zero (by omega)⟩, List.eq_nil_of_length_eq_zero (by omega)⟩
              have hsum2 : (((A.length : Int) + B.length + C.length) == 0) = false := beq_eq_false_iff_ne.2 hsum
              have k1 : ¬ (9223372036854775807 < 1 + N.size) := by omega
              have k2 : ¬ (9223372036854775807 < P.size + 1) := by omega
              have hmore := jn_more hF h33
              rw [hP, hZF] at hmore
              clear p1 p2 p3 h33 hZF hFN h0 hF hP
              rcases hmore with ⟨_, m1, m2⟩ | ⟨m1, m2⟩
              · have k4 : (P.toList == [47]) = true := by rw [m1, ByteArray.toList_eq]; rfl
                have k5 : (⟨#[47]⟩ : ByteArray) ++ N = Z := m2
                clear m1 m2
                go_wp2_with (first
                  | (go_at_call 14; refine (join_any _ A _ hA2 (by have := HLA.out; omega)).mono ?_; rintro e w2 ⟨rfl, hBj⟩; rw [HE1.out, hX.out])
                  | (at_builtin; go_must (refine wpList_appT rfl _ (.tmp 63) 23 rfl w2.heap.size i9 Try.underlying23 hi9 hz9 hs9 hb9 _ _ 0 [] A rfl (lit_ownT w2 _ (Nat.le_refl _)) rfl ((hA2.below hBj).below ((Below.refl _ _).alloc (Nat.le_refl _) _)) ?c1 ?c2 ?next)))
                case c1 => have := HLA.out; simp; omega
                case c2 => simp
                case next =>
                  intro u3 w3 O3 b3 _
                  have b23 : Below w2.heap.size w2 w3 := ((Below.refl _ _).alloc (Nat.le_refl _) _).trans b3
                  have TA := hA2.below hBj
                  have TB := hB2.below hBj
                  have TC := hC2.below hBj
                  have BB := B2.trans (hBj.mono B2.size)
                  have hs3 : Hid (w2.heap.size ≤ w3.heap.size) := b23.size
                  have O3' : w3.ownsRow w2.heap.size 9 1 u3 A.length (A.map Value.string) := by simpa using O3
                  have TB3 := TB.below b23
                  clear O3 b3 hBj hA2 hB2 hC2 B2
                  go_wp2_with (at_builtin; go_must (refine wpList_appT rfl _ (.tmp 65) 23 rfl w2.heap.size i9 Try.underlying23 hi9 hz9 hs9 hb9 _ _ A.length A B rfl O3' rfl TB3 ?c1 ?c2 ?next))
                  case c1 => have := HLA.out; have := HLB.out; omega
                  case c2 => exact hs3.out
                  case next =>
                    intro u4 w4 O4 b4 _
                    have T4 : Tx w4 u4 (A ++ B) := Tx.ofOwns (N := w2.heap.size) (n := A.length + B.length) (by rw [List.map_append]; exact O4)
                    have b24 := b23.trans b4
                    clear O4 b4 b23 O3' TB3 hs3
                    go_wp2_with (first
                      | (go_at_call 14; refine (join_any _ (A ++ B) _ T4 (by have := HLA.out; have := HLB.out; rw [List.length_append]; omega)).mono ?_; rintro e w5 ⟨rfl, hBj⟩; rw [HE2.out, hY.out]; have b25 := b24.trans (hBj.mono b24.size); have TA := TA.below b25; have TB := TB.below b25; have TC := TC.below b25; have BB := BB.trans (b25.mono BB.size); clear hBj b24 T4 b25)
                      | (at_builtin; go_must (refine wpList_appT rfl _ (.tmp 72) 23 rfl w5.heap.size i9 Try.underlying23 hi9 hz9 hs9 hb9 _ _ 0 [] A rfl (lit_ownT w5 _ (Nat.le_refl _)) rfl (TA.below ((Below.refl _ _).alloc (Nat.le_refl _) _)) ?c1 ?c2 ?next)))
                    case c1 => have := HLA.out; simp; omega
                    case c2 => simp
                    case next =>
                      intro u6 w6 O6 b6 _
                      have b56 : Below w5.heap.size w5 w6 := ((Below.refl _ _).alloc (Nat.le_refl _) _).trans b6
                      have hs6 : Hid (w5.heap.size ≤ w6.heap.size) := b56.size
                      have O6' : w6.ownsRow w5.heap.size 9 1 u6 A.length (A.map Value.string) := by simpa using O6
                      have TB6 := TB.below b56
                      clear O6 b6
                      go_wp2_with (at_builtin; go_must (refine wpList_appT rfl _ (.tmp 74) 23 rfl w5.heap.size i9 Try.underlying23 hi9 hz9 hs9 hb9 _ _ A.length A B rfl O6' rfl TB6 ?c1 ?c2 ?next))
                      case c1 => have := HLA.out; have := HLB.out; omega
                      case c2 => exact hs6.out
                      case next =>
                        intro u7 w7 O7 b7 _
                        have b57 := b56.trans b7
                        have hs7 : Hid (w5.heap.size ≤ w7.heap.size) := b57.size
                        have O7' : w7.ownsRow w5.heap.size 9 1 u7 (A ++ B).length ((A ++ B).map Value.string) := by simpa using O7
                        have TC7 := TC.below b57
                        clear O7 b7 b56 O6' TB6 hs6
                        go_wp2_with (at_builtin; go_must (refine wpList_appT rfl _ (.tmp 76) 23 rfl w5.heap.size i9 Try.underlying23 hi9 hz9 hs9 hb9 _ _ (A ++ B).length (A ++ B) C rfl O7' rfl TC7 ?c1 ?c2 ?next))
                        case c1 => have := HLA.out; have := HLB.out; have := HLC.out; rw [List.length_append]; omega
                        case c2 => exact hs7.out
                        case next =>
                          intro u8 w8 O8 b8 _
                          have T8 : Tx w8 u8 (A ++ B ++ C) := Tx.ofOwns (N := w5.heap.size) (n := (A ++ B).length + C.length) (by simpa using O8)
                          have b58 := b57.trans b8
                          have BB := BB.trans (b58.mono BB.size)
                          have HL3 : Hid ((A ++ B ++ C).length ≤ 1000000) := by
                            show _ ≤ _
                            have := HLA.out; have := HLB.out; have := HLC.out; rw [List.length_append, List.length_append]; omega
                          clear O8 b8 b57 O7' TC7 hs7 b58 TA TB TC
                          go_wp2_with (first
                            | (go_at_call 14; refine (join_any _ (A ++ B ++ C) _ T8 HL3.out).mono ?_; rintro e w9 ⟨rfl, hBj⟩; rw [HE3.out, hZ.out]; have BB := BB.trans (hBj.mono BB.size); clear hBj T8)
                            | (go_at_call 12; refine (HU.out _ _ _ (by assumption) (by assumption)).mono ?_; rintro e wu ⟨rfl, hBu⟩; have BB := BB.trans (hBu.mono BB.size); clear hBu; first | rw [U1.out] | rw [U2.out] | rw [U3.out] | rw [U4.out] | rw [U5.out] | rw [U6.out] | rw [U7.out])
                            | (go_at_call 9; refine (parent_any Z _ hZs).mono ?_; rintro e wp ⟨rfl, hBp⟩; rw [PE.out, PU.out, PN.out]; have BB := BB.trans (hBp.mono BB.size); clear hBp))
                          go_ret
                          exact ⟨by first | rfl | simp, BB⟩
              · have k4 : (P.toList == [47]) = false := by
                  refine beq_eq_false_iff_ne.2 fun e => m1 ?_
                  rw [ByteArray.toList_eq] at e
                  exact ByteArray.ext (Array.toList_inj.1 e)
                obtain ⟨P1, hP1⟩ : ∃ P1, P ++ (⟨#[47]⟩ : ByteArray) = P1 := ⟨_, rfl⟩
                rw [hP1] at m2
                have e1 : P1.size = P.size + 1 := by rw [← hP1, ByteArray.size_append]; rfl
                have k5 : ¬ (9223372036854775807 < P1.size + N.size) := by omega
                clear m1 e1
                go_wp2_with (first
                  | (go_at_call 14; refine (join_any _ A _ hA2 (by have := HLA.out; omega)).mono ?_; rintro e w2 ⟨rfl, hBj⟩; rw [HE1.out, hX.out])
                  | (at_builtin; go_must (refine wpList_appT rfl _ (.tmp 63) 23 rfl w2.heap.size i9 Try.underlying23 hi9 hz9 hs9 hb9 _ _ 0 [] A rfl (lit_ownT w2 _ (Nat.le_refl _)) rfl ((hA2.below hBj).below ((Below.refl _ _).alloc (Nat.le_refl _) _)) ?c1 ?c2 ?next)))
                case c1 => have := HLA.out; simp; omega
                case c2 => simp
                case next =>
                  intro u3 w3 O3 b3 _
                  have b23 : Below w2.heap.size w2 w3 := ((Below.refl _ _).alloc (Nat.le_refl _) _).trans b3
                  have TA := hA2.below hBj
                  have TB := hB2.below hBj
                  have TC := hC2.below hBj
                  have BB := B2.trans (hBj.mono B2.size)
                  have hs3 : Hid (w2.heap.size ≤ w3.heap.size) := b23.size
                  have O3' : w3.ownsRow w2.heap.size 9 1 u3 A.length (A.map Value.string) := by simpa using O3
                  have TB3 := TB.below b23
                  clear O3 b3 hBj hA2 hB2 hC2 B2
                  go_wp2_with (at_builtin; go_must (refine wpList_appT rfl _ (.tmp 65) 23 rfl w2.heap.size i9 Try.underlying23 hi9 hz9 hs9 hb9 _ _ A.length A B rfl O3' rfl TB3 ?c1 ?c2 ?next))
                  case c1 => have := HLA.out; have := HLB.out; omega
                  case c2 => exact hs3.out
                  case next =>
                    intro u4 w4 O4 b4 _
                    have T4 : Tx w4 u4 (A ++ B) := Tx.ofOwns (N := w2.heap.size) (n := A.length + B.length) (by rw [List.map_append]; exact O4)
                    have b24 := b23.trans b4
                    clear O4 b4 b23 O3' TB3 hs3
                    go_wp2_with (first
                      | (go_at_call 14; refine (join_any _ (A ++ B) _ T4 (by have := HLA.out; have := HLB.out; rw [List.length_append]; omega)).mono ?_; rintro e w5 ⟨rfl, hBj⟩; rw [HE2.out, hY.out]; have b25 := b24.trans (hBj.mono b24.size); have TA := TA.below b25; have TB := TB.below b25; have TC := TC.below b25; have BB := BB.trans (b25.mono BB.size); clear hBj b24 T4 b25)
                      | (at_builtin; go_must (refine wpList_appT rfl _ (.tmp 72) 23 rfl w5.heap.size i9 Try.underlying23 hi9 hz9 hs9 hb9 _ _ 0 [] A rfl (lit_ownT w5 _ (Nat.le_refl _)) rfl (TA.below ((Below.refl _ _).alloc (Nat.le_refl _) _)) ?c1 ?c2 ?next)))
                    case c1 => have := HLA.out; simp; omega
                    case c2 => simp
                    case next =>
                      intro u6 w6 O6 b6 _
                      have b56 : Below w5.heap.size w5 w6 := ((Below.refl _ _).alloc (Nat.le_refl _) _).trans b6
                      have hs6 : Hid (w5.heap.size ≤ w6.heap.size) := b56.size
                      have O6' : w6.ownsRow w5.heap.size 9 1 u6 A.length (A.map Value.string) := by simpa using O6
                      have TB6 := TB.below b56
                      clear O6 b6
                      go_wp2_with (at_builtin; go_must (refine wpList_appT rfl _ (.tmp 74) 23 rfl w5.heap.size i9 Try.underlying23 hi9 hz9 hs9 hb9 _ _ A.length A B rfl O6' rfl TB6 ?c1 ?c2 ?next))
                      case c1 => have := HLA.out; have := HLB.out; omega
                      case c2 => exact hs6.out
                      case next =>
                        intro u7 w7 O7 b7 _
                        have b57 := b56.trans b7
                        have hs7 : Hid (w5.heap.size ≤ w7.heap.size) := b57.size
                        have O7' : w7.ownsRow w5.heap.size 9 1 u7 (A ++ B).length ((A ++ B).map Value.string) := by simpa using O7
                        have TC7 := TC.below b57
                        clear O7 b7 b56 O6' TB6 hs6
                        go_wp2_with (at_builtin; go_must (refine wpList_appT rfl _ (.tmp 76) 23 rfl w5.heap.size i9 Try.underlying23 hi9 hz9 hs9 hb9 _ _ (A ++ B).length (A ++ B) C rfl O7' rfl TC7 ?c1 ?c2 ?next))
                        case c1 => have := HLA.out; have := HLB.out; have := HLC.out; rw [List.length_append]; omega
                        case c2 => exact hs7.out
                        case next =>
                          intro u8 w8 O8 b8 _
                          have T8 : Tx w8 u8 (A ++ B ++ C) := Tx.ofOwns (N := w5.heap.size) (n := (A ++ B).length + C.length) (by simpa using O8)
                          have b58 := b57.trans b8
                          have BB := BB.trans (b58.mono BB.size)
                          have HL3 : Hid ((A ++ B ++ C).length ≤ 1000000) := by
                            show _ ≤ _
                            have := HLA.out; have := HLB.out; have := HLC.out; rw [List.length_append, List.length_append]; omega
                          clear O8 b8 b57 O7' TC7 hs7 b58 TA TB TC
                          go_wp2_with (first
                            | (go_at_call 14; refine (join_any _ (A ++ B ++ C) _ T8 HL3.out).mono ?_; rintro e w9 ⟨rfl, hBj⟩; rw [HE3.out, hZ.out]; have BB := BB.trans (hBj.mono BB.size); clear hBj T8)
                            | (go_at_call 12; refine (HU.out _ _ _ (by assumption) (by assumption)).mono ?_; rintro e wu ⟨rfl, hBu⟩; have BB := BB.trans (hBu.mono BB.size); clear hBu; first | rw [U1.out] | rw [U2.out] | rw [U3.out] | rw [U4.out] | rw [U5.out] | rw [U6.out] | rw [U7.out])
                            | (go_at_call 9; refine (parent_any Z _ hZs).mono ?_; rintro e wp ⟨rfl, hBp⟩; rw [PE.out, PU.out, PN.out]; have BB := BB.trans (hBp.mono BB.size); clear hBp))
                          go_ret
                          exact ⟨by first | rfl | simp, BB⟩
          · as_aux_lemma =>
            have r3 : (E3 == 0) = false := beq_eq_false_iff_ne.2 h3
            go_wp2_with (first
              | (go_at_call 14; refine (join_any _ A _ hA2 (by have := HLA.out; omega)).mono ?_; rintro e w2 ⟨rfl, hBj⟩; rw [HE1.out, hX.out])
              | (at_builtin; go_must (refine wpList_appT rfl _ (.tmp 63) 23 rfl w2.heap.size i9 Try.underlying23 hi9 hz9 hs9 hb9 _ _ 0 [] A rfl (lit_ownT w2 _ (Nat.le_refl _)) rfl ((hA2.below hBj).below ((Below.refl _ _).alloc (Nat.le_refl _) _)) ?c1 ?c2 ?next)))
            case c1 => have := HLA.out; simp; omega
            case c2 => simp
            case next =>
              intro u3 w3 O3 b3 _
              have b23 : Below w2.heap.size w2 w3 := ((Below.refl _ _).alloc (Nat.le_refl _) _).trans b3
              have TA := hA2.below hBj
              have TB := hB2.below hBj
              have TC := hC2.below hBj
              have BB := B2.trans (hBj.mono B2.size)
              have hs3 : Hid (w2.heap.size ≤ w3.heap.size) := b23.size
              have O3' : w3.ownsRow w2.heap.size 9 1 u3 A.length (A.map Value.string) := by simpa using O3
              have TB3 := TB.below b23
              clear O3 b3 hBj hA2 hB2 hC2 B2
              go_wp2_with (at_builtin; go_must (refine wpList_appT rfl _ (.tmp 65) 23 rfl w2.heap.size i9 Try.underlying23 hi9 hz9 hs9 hb9 _ _ A.length A B rfl O3' rfl TB3 ?c1 ?c2 ?next))
              case c1 => have := HLA.out; have := HLB.out; omega
              case c2 => exact hs3.out
              case next =>
                intro u4 w4 O4 b4 _
                have T4 : Tx w4 u4 (A ++ B) := Tx.ofOwns (N := w2.heap.size) (n := A.length + B.length) (by rw [List.map_append]; exact O4)
                have b24 := b23.trans b4
                clear O4 b4 b23 O3' TB3 hs3
                go_wp2_with (first
                  | (go_at_call 14; refine (join_any _ (A ++ B) _ T4 (by have := HLA.out; have := HLB.out; rw [List.length_append]; omega)).mono ?_; rintro e w5 ⟨rfl, hBj⟩; rw [HE2.out, hY.out]; have b25 := b24.trans (hBj.mono b24.size); have TA := TA.below b25; have TB := TB.below b25; have TC := TC.below b25; have BB := BB.trans (b25.mono BB.size); clear hBj b24 T4 b25)
                  | (at_builtin; go_must (refine wpList_appT rfl _ (.tmp 72) 23 rfl w5.heap.size i9 Try.underlying23 hi9 hz9 hs9 hb9 _ _ 0 [] A rfl (lit_ownT w5 _ (Nat.le_refl _)) rfl (TA.below ((Below.refl _ _).alloc (Nat.le_refl _) _)) ?c1 ?c2 ?next)))
                case c1 => have := HLA.out; simp; omega
                case c2 => simp
                case next =>
                  intro u6 w6 O6 b6 _
                  have b56 : Below w5.heap.size w5 w6 := ((Below.refl _ _).alloc (Nat.le_refl _) _).trans b6
                  have hs6 : Hid (w5.heap.size ≤ w6.heap.size) := b56.size
                  have O6' : w6.ownsRow w5.heap.size 9 1 u6 A.length (A.map Value.string) := by simpa using O6
                  have TB6 := TB.below b56
                  clear O6 b6
                  go_wp2_with (at_builtin; go_must (refine wpList_appT rfl _ (.tmp 74) 23 rfl w5.heap.size i9 Try.underlying23 hi9 hz9 hs9 hb9 _ _ A.length A B rfl O6' rfl TB6 ?c1 ?c2 ?next))
                  case c1 => have := HLA.out; have := HLB.out; omega
                  case c2 => exact hs6.out
                  case next =>
                    intro u7 w7 O7 b7 _
                    have b57 := b56.trans b7
                    have hs7 : Hid (w5.heap.size ≤ w7.heap.size) := b57.size
                    have O7' : w7.ownsRow w5.heap.size 9 1 u7 (A ++ B).length ((A ++ B).map Value.string) := by simpa using O7
                    have TC7 := TC.below b57
                    clear O7 b7 b56 O6' TB6 hs6
                    go_wp2_with (at_builtin; go_must (refine wpList_appT rfl _ (.tmp 76) 23 rfl w5.heap.size i9 Try.underlying23 hi9 hz9 hs9 hb9 _ _ (A ++ B).length (A ++ B) C rfl O7' rfl TC7 ?c1 ?c2 ?next))
                    case c1 => have := HLA.out; have := HLB.out; have := HLC.out; rw [List.length_append]; omega
                    case c2 => exact hs7.out
                    case next =>
                      intro u8 w8 O8 b8 _
                      have T8 : Tx w8 u8 (A ++ B ++ C) := Tx.ofOwns (N := w5.heap.size) (n := (A ++ B).length + C.length) (by simpa using O8)
                      have b58 := b57.trans b8
                      have BB := BB.trans (b58.mono BB.size)
                      have HL3 : Hid ((A ++ B ++ C).length ≤ 1000000) := by
                        show _ ≤ _
                        have := HLA.out; have := HLB.out; have := HLC.out; rw [List.length_append, List.length_append]; omega
                      clear O8 b8 b57 O7' TC7 hs7 b58 TA TB TC
                      go_wp2_with (go_at_call 14; refine (join_any _ (A ++ B ++ C) _ T8 HL3.out).mono ?_; rintro e w9 ⟨rfl, hBj⟩; rw [HE3.out, hZ.out]; have BB := BB.trans (hBj.mono BB.size); clear hBj T8)
                      go_ret
                      exact ⟨rfl, BB⟩
        · as_aux_lemma =>
          have r2 : (E2 == 0) = false := beq_eq_false_iff_ne.2 h2
          go_wp2_with (first
            | (go_at_call 14; refine (join_any _ A _ hA2 (by have := HLA.out; omega)).mono ?_; rintro e w2 ⟨rfl, hBj⟩; rw [HE1.out, hX.out])
            | (at_builtin; go_must (refine wpList_appT rfl _ (.tmp 63) 23 rfl w2.heap.size i9 Try.underlying23 hi9 hz9 hs9 hb9 _ _ 0 [] A rfl (lit_ownT w2 _ (Nat.le_refl _)) rfl ((hA2.below hBj).below ((Below.refl _ _).alloc (Nat.le_refl _) _)) ?c1 ?c2 ?next)))
          case c1 => have := HLA.out; simp; omega
          case c2 => simp
          case next =>
            intro u3 w3 O3 b3 _
            have b23 : Below w2.heap.size w2 w3 := ((Below.refl _ _).alloc (Nat.le_refl _) _).trans b3
            have TA := hA2.below hBj
            have TB := hB2.below hBj
            have TC := hC2.below hBj
            have BB := B2.trans (hBj.mono B2.size)
            have hs3 : Hid (w2.heap.size ≤ w3.heap.size) := b23.size
            have O3' : w3.ownsRow w2.heap.size 9 1 u3 A.length (A.map Value.string) := by simpa using O3
            have TB3 := TB.below b23
            clear O3 b3 hBj hA2 hB2 hC2 B2
            go_wp2_with (at_builtin; go_must (refine wpList_appT rfl _ (.tmp 65) 23 rfl w2.heap.size i9 Try.underlying23 hi9 hz9 hs9 hb9 _ _ A.length A B rfl O3' rfl TB3 ?c1 ?c2 ?next))
            case c1 => have := HLA.out; have := HLB.out; omega
            case c2 => exact hs3.out
            case next =>
              intro u4 w4 O4 b4 _
              have T4 : Tx w4 u4 (A ++ B) := Tx.ofOwns (N := w2.heap.size) (n := A.length + B.length) (by rw [List.map_append]; exact O4)
              have b24 := b23.trans b4
              clear O4 b4 b23 O3' TB3 hs3
              go_wp2_with (first
                | (go_at_call 14; refine (join_any _ (A ++ B) _ T4 (by have := HLA.out; have := HLB.out; rw [List.length_append]; omega)).mono ?_; rintro e w5 ⟨rfl, hBj⟩; rw [HE2.out, hY.out]; have b25 := b24.trans (hBj.mono b24.size); have TA := TA.below b25; have TB := TB.below b25; have TC := TC.below b25; have BB := BB.trans (b25.mono BB.size); clear hBj b24 T4 b25)
                | (at_builtin; go_must (refine wpList_appT rfl _ (.tmp 72) 23 rfl w5.heap.size i9 Try.underlying23 hi9 hz9 hs9 hb9 _ _ 0 [] A rfl (lit_ownT w5 _ (Nat.le_refl _)) rfl (TA.below ((Below.refl _ _).alloc (Nat.le_refl _) _)) ?c1 ?c2 ?next)))
              case c1 => have := HLA.out; simp; omega
              case c2 => simp
              case next =>
                intro u6 w6 O6 b6 _
                have b56 : Below w5.heap.size w5 w6 := ((Below.refl _ _).alloc (Nat.le_refl _) _).trans b6
                have hs6 : Hid (w5.heap.size ≤ w6.heap.size) := b56.size
                have O6' : w6.ownsRow w5.heap.size 9 1 u6 A.length (A.map Value.string) := by simpa using O6
                have TB6 := TB.below b56
                clear O6 b6
                go_wp2_with (at_builtin; go_must (refine wpList_appT rfl _ (.tmp 74) 23 rfl w5.heap.size i9 Try.underlying23 hi9 hz9 hs9 hb9 _ _ A.length A B rfl O6' rfl TB6 ?c1 ?c2 ?next))
                case c1 => have := HLA.out; have := HLB.out; omega
                case c2 => exact hs6.out
                case next =>
                  intro u7 w7 O7 b7 _
                  have b57 := b56.trans b7
                  have hs7 : Hid (w5.heap.size ≤ w7.heap.size) := b57.size
                  have O7' : w7.ownsRow w5.heap.size 9 1 u7 (A ++ B).length ((A ++ B).map Value.string) := by simpa using O7
                  have TC7 := TC.below b57
                  clear O7 b7 b56 O6' TB6 hs6
                  go_wp2_with (at_builtin; go_must (refine wpList_appT rfl _ (.tmp 76) 23 rfl w5.heap.size i9 Try.underlying23 hi9 hz9 hs9 hb9 _ _ (A ++ B).length (A ++ B) C rfl O7' rfl TC7 ?c1 ?c2 ?next))
                  case c1 => have := HLA.out; have := HLB.out; have := HLC.out; rw [List.length_append]; omega
                  case c2 => exact hs7.out
                  case next =>
                    intro u8 w8 O8 b8 _
                    have T8 : Tx w8 u8 (A ++ B ++ C) := Tx.ofOwns (N := w5.heap.size) (n := (A ++ B).length + C.length) (by simpa using O8)
                    have b58 := b57.trans b8
                    have BB := BB.trans (b58.mono BB.size)
                    have HL3 : Hid ((A ++ B ++ C).length ≤ 1000000) := by
                      show _ ≤ _
                      have := HLA.out; have := HLB.out; have := HLC.out; rw [List.length_append, List.length_append]; omega
                    clear O8 b8 b57 O7' TC7 hs7 b58 TA TB TC
                    go_wp2_with (go_at_call 14; refine (join_any _ (A ++ B ++ C) _ T8 HL3.out).mono ?_; rintro e w9 ⟨rfl, hBj⟩; rw [HE3.out, hZ.out]; have BB := BB.trans (hBj.mono BB.size); clear hBj T8)
                    go_ret
                    exact ⟨rfl, BB⟩
      · as_aux_lemma =>
        have r1 : (E1 == 0) = false := beq_eq_false_iff_ne.2 h1
        go_wp2_with (first
          | (go_at_call 14; refine (join_any _ A _ hA2 (by have := HLA.out; omega)).mono ?_; rintro e w2 ⟨rfl, hBj⟩; rw [HE1.out, hX.out])
          | (at_builtin; go_must (refine wpList_appT rfl _ (.tmp 63) 23 rfl w2.heap.size i9 Try.underlying23 hi9 hz9 hs9 hb9 _ _ 0 [] A rfl (lit_ownT w2 _ (Nat.le_refl _)) rfl ((hA2.below hBj).below ((Below.refl _ _).alloc (Nat.le_refl _) _)) ?c1 ?c2 ?next)))
        case c1 => have := HLA.out; simp; omega
        case c2 => simp
        case next =>
          intro u3 w3 O3 b3 _
          have b23 : Below w2.heap.size w2 w3 := ((Below.refl _ _).alloc (Nat.le_refl _) _).trans b3
          have TA := hA2.below hBj
          have TB := hB2.below hBj
          have TC := hC2.below hBj
          have BB := B2.trans (hBj.mono B2.size)
          have hs3 : Hid (w2.heap.size ≤ w3.heap.size) := b23.size
          have O3' : w3.ownsRow w2.heap.size 9 1 u3 A.length (A.map Value.string) := by simpa using O3
          have TB3 := TB.below b23
          clear O3 b3 hBj hA2 hB2 hC2 B2
          go_wp2_with (at_builtin; go_must (refine wpList_appT rfl _ (.tmp 65) 23 rfl w2.heap.size i9 Try.underlying23 hi9 hz9 hs9 hb9 _ _ A.length A B rfl O3' rfl TB3 ?c1 ?c2 ?next))
          case c1 => have := HLA.out; have := HLB.out; omega
          case c2 => exact hs3.out
          case next =>
            intro u4 w4 O4 b4 _
            have T4 : Tx w4 u4 (A ++ B) := Tx.ofOwns (N := w2.heap.size) (n := A.length + B.length) (by rw [List.map_append]; exact O4)
            have b24 := b23.trans b4
            clear O4 b4 b23 O3' TB3 hs3
            go_wp2_with (first
              | (go_at_call 14; refine (join_any _ (A ++ B) _ T4 (by have := HLA.out; have := HLB.out; rw [List.length_append]; omega)).mono ?_; rintro e w5 ⟨rfl, hBj⟩; rw [HE2.out, hY.out]; have b25 := b24.trans (hBj.mono b24.size); have TA := TA.below b25; have TB := TB.below b25; have TC := TC.below b25; have BB := BB.trans (b25.mono BB.size); clear hBj b24 T4 b25)
              | (at_builtin; go_must (refine wpList_appT rfl _ (.tmp 72) 23 rfl w5.heap.size i9 Try.underlying23 hi9 hz9 hs9 hb9 _ _ 0 [] A rfl (lit_ownT w5 _ (Nat.le_refl _)) rfl (TA.below ((Below.refl _ _).alloc (Nat.le_refl _) _)) ?c1 ?c2 ?next)))
            case c1 => have := HLA.out; simp; omega
            case c2 => simp
            case next =>
              intro u6 w6 O6 b6 _
              have b56 : Below w5.heap.size w5 w6 := ((Below.refl _ _).alloc (Nat.le_refl _) _).trans b6
              have hs6 : Hid (w5.heap.size ≤ w6.heap.size) := b56.size
              have O6' : w6.ownsRow w5.heap.size 9 1 u6 A.length (A.map Value.string) := by simpa using O6
              have TB6 := TB.below b56
              clear O6 b6
              go_wp2_with (at_builtin; go_must (refine wpList_appT rfl _ (.tmp 74) 23 rfl w5.heap.size i9 Try.underlying23 hi9 hz9 hs9 hb9 _ _ A.length A B rfl O6' rfl TB6 ?c1 ?c2 ?next))
              case c1 => have := HLA.out; have := HLB.out; omega
              case c2 => exact hs6.out
              case next =>
                intro u7 w7 O7 b7 _
                have b57 := b56.trans b7
                have hs7 : Hid (w5.heap.size ≤ w7.heap.size) := b57.size
                have O7' : w7.ownsRow w5.heap.size 9 1 u7 (A ++ B).length ((A ++ B).map Value.string) := by simpa using O7
                have TC7 := TC.below b57
                clear O7 b7 b56 O6' TB6 hs6
                go_wp2_with (at_builtin; go_must (refine wpList_appT rfl _ (.tmp 76) 23 rfl w5.heap.size i9 Try.underlying23 hi9 hz9 hs9 hb9 _ _ (A ++ B).length (A ++ B) C rfl O7' rfl TC7 ?c1 ?c2 ?next))
                case c1 => have := HLA.out; have := HLB.out; have := HLC.out; rw [List.length_append]; omega
                case c2 => exact hs7.out
                case next =>
                  intro u8 w8 O8 b8 _
                  have T8 : Tx w8 u8 (A ++ B ++ C) := Tx.ofOwns (N := w5.heap.size) (n := (A ++ B).length + C.length) (by simpa using O8)
                  have b58 := b57.trans b8
                  have BB := BB.trans (b58.mono BB.size)
                  have HL3 : Hid ((A ++ B ++ C).length ≤ 1000000) := by
                    show _ ≤ _
                    have := HLA.out; have := HLB.out; have := HLC.out; rw [List.length_append, List.length_append]; omega
                  clear O8 b8 b57 O7' TC7 hs7 b58 TA TB TC
                  go_wp2_with (go_at_call 14; refine (join_any _ (A ++ B ++ C) _ T8 HL3.out).mono ?_; rintro e w9 ⟨rfl, hBj⟩; rw [HE3.out, hZ.out]; have BB := BB.trans (hBj.mono BB.size); clear hBj T8)
                  go_ret
                  exact ⟨rfl, BB⟩
end Go.Proofs.Ytdjopadohbbfkaa

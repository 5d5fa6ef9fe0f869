/-
  first, named, Find of package dir.
-/
import Derived.Test.YtbhfmceapffhnaaDoorDName
import Derived.Laws.EntriesVeiled
namespace Go.Proofs.YtbhfmceapffhnaaDoor
open Go.RowKit

/-- The entry at j. -/
abbrev En.at (es : List En) (j : Nat) : En := es.getD j En.fr
/-- r is the place of the first slot with that name; -1: there is none. -/
def Idx (es : List En) (nm : ByteArray) (r : Int) : Prop :=
  (r = -1 ∧ ∀ j, j < es.length → ((En.at es j).nm.toList == nm.toList) = false) ∨
  ∃ k : Nat, r = (k : Int) ∧ k < es.length ∧ ((En.at es k).nm.toList == nm.toList) = true ∧ ∀ j, j < k → ((En.at es j).nm.toList == nm.toList) = false
theorem Idx.unique {es : List En} {nm : ByteArray} {r s : Int} (h : Idx es nm r) (k : Idx es nm s) : r = s := by
  rcases h with ⟨rfl, h⟩ | ⟨i, rfl, hi, h1, h2⟩
  · rcases k with ⟨rfl, _⟩ | ⟨j, rfl, hj, k1, _⟩
    · rfl
    · rw [h j hj] at k1; cases k1
  · rcases k with ⟨rfl, k⟩ | ⟨j, rfl, hj, k1, k2⟩
    · rw [k i hi] at h1; cases h1
    · rcases Nat.lt_trichotomy i j with e | e | e
      · rw [k2 i e] at h1; cases h1
      · rw [e]
      · rw [h2 j e] at k1; cases k1
theorem Idx.ex (es : List En) (nm : ByteArray) : ∃ r, Idx es nm r := by
  by_cases h : ∃ j, j < es.length ∧ ((En.at es j).nm.toList == nm.toList) = true
  · have : ∃ k, (k < es.length ∧ ((En.at es k).nm.toList == nm.toList) = true) ∧ ∀ j, j < k → ¬ (j < es.length ∧ ((En.at es j).nm.toList == nm.toList) = true) := by
      obtain ⟨j0, hj0⟩ := h
      induction j0 using Nat.strongRecOn with
      | _ j0 ih =>
        by_cases hx : ∃ i, i < j0 ∧ (i < es.length ∧ ((En.at es i).nm.toList == nm.toList) = true)
        · obtain ⟨i, hi, hx⟩ := hx
          exact ih i hi hx
        · exact ⟨j0, hj0, fun j hj hh => hx ⟨j, hj, hh⟩⟩
    obtain ⟨k, ⟨h1, h2⟩, h3⟩ := this
    refine ⟨k, .inr ⟨k, rfl, h1, h2, fun j hj => ?_⟩⟩
    have := h3 j hj
    cases e : ((En.at es j).nm.toList == nm.toList) with
    | false => rfl
    | true => exact absurd ⟨by omega, e⟩ this
  · refine ⟨-1, .inl ⟨rfl, fun j hj => ?_⟩⟩
    cases e : ((En.at es j).nm.toList == nm.toList) with
    | false => rfl
    | true => exact absurd ⟨j, hj, e⟩ h
/-- .. of a name that is none: -1. -/
def IdxN (es : List En) (nm : ByteArray) (r : Int) : Prop := (nm.size = 0 ∧ r = -1) ∨ (1 ≤ nm.size ∧ Idx es nm r)
theorem IdxN.unique {es : List En} {nm : ByteArray} {r s : Int} (h : IdxN es nm r) (k : IdxN es nm s) : r = s := by
  rcases h with ⟨h1, rfl⟩ | ⟨h1, h⟩
  · rcases k with ⟨_, rfl⟩ | ⟨k1, _⟩
    · rfl
    · omega
  · rcases k with ⟨k1, _⟩ | ⟨_, k⟩
    · omega
    · exact h.unique k
theorem IdxN.cases {es : List En} {nm : ByteArray} {r : Int} (h : IdxN es nm r) : r = -1 ∨ ∃ k : Nat, r = (k : Int) ∧ k < es.length ∧ ((En.at es k).nm.toList == nm.toList) = true := by
  rcases h with ⟨_, rfl⟩ | ⟨_, ⟨rfl, _⟩ | ⟨k, rfl, h1, h2, _⟩⟩
  · exact .inl rfl
  · exact .inl rfl
  · exact .inr ⟨k, rfl, h1, h2⟩

set_option maxHeartbeats 800000 in
theorem is_any (e : En) (nm : ByteArray) (q : Nat) (b : Bool) (w : World) (hq : w.cell? ⟨q, 0, none⟩ = some (.string nm)) (hb : (e.nm.toList == nm.toList) = b) :
    Calls Tryd.prog 58 #[e.v, .pointer (some ⟨q, 0, none⟩)] w fun x w' => x = .returned (.bool b) ∧ w' = w.alloc (.cells #[.string e.nm, .int .i64 e.ino] 57) := by
  have hq' : (w.alloc (.cells #[.string e.nm, .int .i64 e.ino] 57)).cell? ⟨q, 0, none⟩ = some (.string nm) := (Chg.alloc (fun _ => False) w _).cell hq (fun h => h)
  have hn : (w.alloc (.cells #[.string e.nm, .int .i64 e.ino] 57)).cell? ⟨w.heap.size, 0, none⟩ = some (.string e.nm) := by
    rw [cell_of_row _ w.heap.size _ _ _ _ (heap_alloc_new w _)]; rfl
  go_enter Tryd.func58, Tryd.ntmps58
  cases b <;>
  · go_wp2_with fail
    go_ret
    exact ⟨rfl, rfl⟩

set_option maxHeartbeats 1600000 in
theorem index_any (v : Value) (es : List En) (nm : ByteArray) (q : Nat) (w : World) (hv : Es w v es) (hq : w.cell? ⟨q, 0, none⟩ = some (.string nm)) (hl : es.length ≤ 1099511627776) :
    Calls Tryd.prog 57 #[v, .func (.func 58) #[] #[.pointer (some ⟨q, 0, none⟩)]] w fun e w' => ∃ r, e = .returned (.int .i64 r) ∧ Hid (Idx es nm r) ∧ Below w.heap.size w w' := by
  obtain ⟨a, c, rfl⟩ := hv.form
  go_enter Tryd.func57, Tryd.ntmps57
  go_wp2_with fail
  go_loopw [8] (fun i wr => ∃ k : Nat, k ≤ es.length ∧ i = .int .i64 k ∧ Below w.heap.size w wr ∧ Hid (∀ j, j < k → ((En.at es j).nm.toList == nm.toList) = false)) (fun i _ => es.length - (intOf i).toNat)
  case atStart => exact ⟨0, Nat.zero_le _, rfl, Below.refl _ _, fun j h => by omega⟩
  case round =>
    obtain ⟨k, hk, rfl, B, hA⟩ := hrel
    by_cases hlt : k < es.length
    · have q1 : (k : Int) < es.length := by omega
      have hv' := hv.below B
      have hq' := (Chg.ofBelowC B).cell hq (fun h => h)
      obtain ⟨b, off, rfl, hc⟩ := hv'.nth hlt
      obtain ⟨c1, c2⟩ := hc k hlt
      clear hc hv'
      obtain ⟨x, hx⟩ : ∃ x, Hid (es.getD k En.fr = x) := ⟨_, rfl⟩
      rw [hx.out] at c1 c2
      cases hb : (x.nm.toList == nm.toList) with
      | true =>
        have HR : Hid (Idx es nm (k : Int)) := .inr ⟨k, rfl, hlt, by rw [En.at, hx.out]; exact hb, hA.out⟩
        go_wp2_with fail
        refine (is_any x nm q true _ hq' hb).mono ?_
        rintro e w1 ⟨rfl, rfl⟩
        have B1 := B.alloc B.size (.cells #[.string x.nm, .int .i64 x.ino] 57)
        go_wp2_with fail
        go_ret
        exact ⟨_, rfl, HR, B1⟩
      | false =>
        have hA' : Hid (∀ j, j < k + 1 → ((En.at es j).nm.toList == nm.toList) = false) := fun j h => by
          rcases (by omega : j < k ∨ j = k) with h | rfl
          · exact hA.out j h
          · rw [En.at, hx.out]; exact hb
        go_wp2_with fail
        refine (is_any x nm q false _ hq' hb).mono ?_
        rintro e w1 ⟨rfl, rfl⟩
        have B1 := B.alloc B.size (.cells #[.string x.nm, .int .i64 x.ino] 57)
        go_wp2_with fail
        go_roundw
        case rel => exact ⟨k + 1, by omega, by go_num, B1, hA'⟩
        case measure => simp [intOf]; omega
    · have q1 : ¬ (k : Int) < es.length := by omega
      have HR : Hid (Idx es nm (-1)) := .inl ⟨rfl, fun j hj => hA.out j (by omega)⟩
      go_wp2_with fail
      go_ret
      exact ⟨_, rfl, HR, B⟩

set_option maxHeartbeats 800000 in
theorem first_any (v : Value) (es : List En) (nm : ByteArray) (w : World) (hv : Es w v es) (hl : es.length ≤ 1099511627776) :
    Calls Tryd.prog 37 #[v, .string nm] w fun e w' => ∃ r, e = .returned (.int .i64 r) ∧ Hid (Idx es nm r) ∧ Below w.heap.size w w' := by
  go_enter Tryd.func37, Tryd.ntmps37
  go_wp2_with fail
  have B0 : Below w.heap.size w (w.alloc (.cells #[.string nm] 9)) := (Below.refl _ _).alloc (Nat.le_refl _) _
  have hn : (w.alloc (.cells #[.string nm] 9)).cell? ⟨w.heap.size, 0, none⟩ = some (.string nm) := cell_one_new w (.string nm) 9 0 _ rfl
  refine (index_any v es nm w.heap.size _ (hv.below B0) hn hl).mono ?_
  rintro e w1 ⟨r, rfl, hr, B1⟩
  have B2 := B0.trans (B1.mono B0.size)
  go_wp2_with fail
  go_ret
  exact ⟨_, rfl, hr, B2⟩

set_option maxHeartbeats 800000 in
theorem named_any (v : Value) (es : List En) (nm : ByteArray) (w : World) (hv : Es w v es) (hl : es.length ≤ 1099511627776) :
    Calls Tryd.prog 35 #[v, .string nm] w fun e w' => ∃ r, e = .returned (.int .i64 r) ∧ Hid (IdxN es nm r) ∧ Below w.heap.size w w' := by
  by_cases h0 : nm.size = 0
  · have HR : Hid (IdxN es nm (-1)) := .inl ⟨h0, rfl⟩
    have g3 : nm = ⟨#[]⟩ := by
      obtain ⟨⟨l⟩⟩ := nm
      have : l = [] := List.eq_nil_of_length_eq_zero h0
      rw [this]
    subst g3
    go_enter Tryd.func35, Tryd.ntmps35
    go_wp2_with fail
    go_ret
    exact ⟨_, rfl, HR, Below.refl _ _⟩
  · have h1 : 1 ≤ nm.size := by omega
    have g0 : (nm.toList == []) = false := beq_eq_false_iff_ne.2 (str_some h1)
    have H1 : Hid (1 ≤ nm.size) := h1
    clear h0 h1
    go_enter Tryd.func35, Tryd.ntmps35
    go_wp2_with fail
    refine (first_any v es nm _ hv hl).mono ?_
    rintro e w1 ⟨r, rfl, hr, B1⟩
    have HR : Hid (IdxN es nm r) := .inr ⟨H1.out, hr.out⟩
    go_wp2_with fail
    go_ret
    exact ⟨_, rfl, HR, B1⟩

set_option maxHeartbeats 800000 in
theorem find_any (v : Value) (es : List En) (nm : ByteArray) (w : World) (hv : Es w v es) (hl : es.length ≤ 1099511627776) :
    Calls Tryd.prog 18 #[v, .string nm] w fun e w' => ∃ r, Hid (IdxN es nm r) ∧ Below w.heap.size w w' ∧ ((r = -1 ∧ e = .returned (.tuple #[.int .i64 0, .bool false])) ∨ ∃ k : Nat, r = (k : Int) ∧ k < es.length ∧ e = .returned (.tuple #[.int .i64 (En.at es k).ino, .bool true])) := by
  obtain ⟨a, c, rfl⟩ := hv.form
  go_enter Tryd.func18, Tryd.ntmps18
  go_wp2_with fail
  refine (named_any _ es nm _ hv hl).mono ?_
  rintro e w1 ⟨r, rfl, hr, B1⟩
  have hv1 := hv.below B1
  rcases hr.out.cases with rfl | ⟨k, rfl, hk, _⟩
  · go_wp2_with fail
    go_ret2
    exact ⟨_, hr, B1, .inl ⟨rfl, rfl⟩⟩
  · obtain ⟨b, off, rfl, hc⟩ := hv1.nth hk
    obtain ⟨c1, c2⟩ := hc k hk
    clear hc hv1
    obtain ⟨x, hx⟩ : ∃ x, Hid (es.getD k En.fr = x) := ⟨_, rfl⟩
    rw [hx.out] at c1 c2
    have g1 : ¬ ((k : Int) < 0) := by omega
    have q1 : (k : Int) < es.length := by omega
    go_wp2_with fail
    go_ret2
    exact ⟨_, hr, B1, .inr ⟨k, rfl, hk, by rw [En.at, hx.out]; rfl⟩⟩
end Go.Proofs.YtbhfmceapffhnaaDoor

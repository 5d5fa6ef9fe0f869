/-
  A name's new slot.
-/
import Derived.Test.YtlnjnimenihhnaaGreatDoorVPut
import Derived.Test.YtlnjnimenihhnaaGreatDoorVFresh
namespace Go.Proofs.YtlnjnimenihhnaaGreatDoor
open Go.RowKit Go.Maps

/-- Slots with a name put at k. -/
def puE (k : Nat) (es : List En) (x : ByteArray) (i : Int) : List En := if k < es.length then es.set k ⟨x, i⟩ else es ++ [⟨x, i⟩]
theorem puE_set {k : Nat} {es : List En} (hk : k ≤ es.length) (x : ByteArray) (i j : Int) : (puE k es x i).set k ⟨x, j⟩ = puE k es x j := by
  unfold puE
  split
  · rw [List.set_set]
  · have e : k = es.length := by omega
    subst e
    simp
theorem puE_at {k : Nat} {es : List En} (hk : k ≤ es.length) (x : ByteArray) (i : Int) : k < (puE k es x i).length ∧ En.at (puE k es x i) k = ⟨x, i⟩ := by
  unfold puE
  split
  · rename_i h; simp [En.at, List.getD, h]
  · have e : k = es.length := by omega
    subst e
    simp [En.at, List.getD]
/-- What is known of that slot. -/
structure Spo (es : List En) (s : Nat) (kn : List ByteArray) (f : ByteArray → Nat) (x : ByteArray) (k : Nat) : Prop where
  le : k ≤ es.length
  put : ∀ (v : Value) (w : World) (i : Int), Es w v es → es.length ≤ 1000000 → Hid (decide (1 ≤ i ∧ i ≤ 65535) = true) → Calls Tryz.prog 61 #[v, .string x, .int .i64 i] w fun e w' => ∃ u y, e = .returned (.tuple #[u, .int .i64 y, .int .i64 0]) ∧ Hid (Fe w w' u (puE k es x i))
  idx : ∀ i, IdxN (puE k es x i) x (k : Int)
  len : ∀ i, (puE k es x i).length = max s (kn.length + 1)
  fur : slB (max s (kn.length + 1)) - slB s = furB s kn.length
  sl : ∀ (i : Int) (g : ByteArray → Nat), i = (g x : Int) + 1 → (∀ y ∈ kn, g y = f y) → Sl (puE k es x i) (max s (kn.length + 1)) (x :: kn) g
theorem Sl.spot {es : List En} {s : Nat} {kn : List ByteArray} {f : ByteArray → Nat} (h : Sl es s kn f) {x : ByteArray} (hx : nameB x = true) (hk : ¬ x ∈ kn) (hs : kn.length ≤ s) : ∃ k, Spo es s kn f x k := by
  have hx1 : 1 ≤ x.size := (nameB_parts hx).1
  have hno := h.idxNo hx1 hk
  have hne : ∀ j, j < es.length → ((En.at es j).nm.toList == x.toList) = false := by
    rcases hno with ⟨h, _⟩ | ⟨_, ⟨_, h⟩ | ⟨k, h, _⟩⟩
    · omega
    · exact h
    · omega
  have hxx : (x.toList == x.toList) = true := nmEq.2 rfl
  rcases h.free with ⟨h1, k, h2, h3, h4⟩ | ⟨h1, h2⟩
  · have e1 : max s (kn.length + 1) = s := by omega
    have ep : ∀ i, puE k es x i = es.set k ⟨x, i⟩ := fun i => if_pos h3
    refine ⟨k, Nat.le_of_lt h3, fun v w i hv hl hi => ?_, fun i => ?_, fun i => ?_, ?_, fun i g hi hg => ?_⟩
    · refine (vput_free v es x i k w hv (by omega) hx hi hno h2).mono ?_
      rintro e w' ⟨u, rfl, hF⟩
      rw [ep]
      exact ⟨u, 0, rfl, hF⟩
    · rw [ep]
      refine .inr ⟨hx1, .inr ⟨k, rfl, by simpa using h3, ?_, fun j hj => ?_⟩⟩
      · have : En.at (es.set k ⟨x, i⟩) k = ⟨x, i⟩ := by simp [En.at, List.getD, h3]
        rw [this]; exact hxx
      · have : En.at (es.set k ⟨x, i⟩) j = En.at es j := by simp [En.at, List.getD, (show ¬ k = j by omega)]
        rw [this]; exact hne j (by omega)
    · rw [ep, List.length_set, e1]; exact h.len
    · rw [e1]; unfold furB; rw [if_pos h1]; omega
    · rw [ep, e1]; exact h.set hx1 h3 h4 i hi hg
  · have e1 : max s (kn.length + 1) = s + 1 := by omega
    have ep : ∀ i, puE es.length es x i = es ++ [⟨x, i⟩] := fun i => if_neg (by omega)
    refine ⟨es.length, Nat.le_refl _, fun v w i hv hl hi => ?_, fun i => ?_, fun i => ?_, ?_, fun i g hi hg => ?_⟩
    · refine (vput_more v es x i w hv (by omega) hx hi hno h2).mono ?_
      rintro e w' ⟨u, rfl, hF⟩
      rw [ep]
      exact ⟨u, _, rfl, hF⟩
    · rw [ep]
      refine .inr ⟨hx1, .inr ⟨es.length, rfl, by simp, ?_, fun j hj => ?_⟩⟩
      · have : En.at (es ++ [⟨x, i⟩]) es.length = ⟨x, i⟩ := by simp [En.at, List.getD]
        rw [this]; exact hxx
      · have : En.at (es ++ [⟨x, i⟩]) j = En.at es j := by simp [En.at, List.getD, List.getElem?_append_left hj]
        rw [this]; exact hne j hj
    · rw [ep, List.length_append, e1, h.len]; rfl
    · rw [e1]; unfold furB; rw [if_neg h1]
    · rw [ep, e1]; exact h.app hx1 i hi hg
/-- What a way to a name's directory comes to. -/
def stepC : Option Nd → Int
  | none => 8
  | some (.file _) => 11
  | some (.dir _ _) => 0
theorem folA_next (F : Pth → Option Nd) (x : ByteArray) : ∀ (r p : Pth), (¬ folA F p r = 0 ∧ folA F p (r ++ [x]) = folA F p r) ∨ (folA F p r = 0 ∧ folA F p (r ++ [x]) = stepC (F (p ++ r)))
  | [], p => by
    refine .inr ⟨rfl, ?_⟩
    simp only [List.nil_append, folA, List.append_nil]
    obtain ⟨o, ho⟩ : ∃ o, F p = o := ⟨_, rfl⟩
    rw [ho]
    rcases o with _ | (b | ⟨s, k⟩) <;> rfl
  | y :: r, p => by
    have ih := folA_next F x r (p ++ [y])
    have e : p ++ [y] ++ r = p ++ y :: r := by simp
    rw [e] at ih
    simp only [List.cons_append, folA]
    obtain ⟨o, ho⟩ : ∃ o, F p = o := ⟨_, rfl⟩
    simp only [ho]
    rcases o with _ | (b | ⟨s, k⟩)
    · exact .inl ⟨by show ¬ (_ : Int) = 0; simp, rfl⟩
    · exact .inl ⟨by show ¬ (_ : Int) = 0; simp, rfl⟩
    · exact ih
theorem fol_up {T : Ts} (hG : Gd T) (init : Pth) (x : ByteArray) :
    (¬ wlkE T.F init = 0 ∧ folE T.F (init ++ [x]) = wlkE T.F init) ∨ (wlkE T.F init = 0 ∧ ((∃ b, T.F init = some (.file b) ∧ folE T.F (init ++ [x]) = 11) ∨ ∃ s k, T.F init = some (.dir s k) ∧ folE T.F (init ++ [x]) = 0)) := by
  rw [wlkE_eq hG]
  have h := folA_next T.F x init []
  rw [List.nil_append] at h
  rcases h with ⟨h0, h⟩ | ⟨h0, h⟩
  · have h0' : ¬ folE T.F init = 0 := h0
    rw [if_neg h0']
    exact .inl ⟨h0', h⟩
  · have h0' : folE T.F init = 0 := h0
    rw [if_pos h0']
    rcases hF : T.F init with _ | (b | ⟨s, k⟩)
    · rw [hF] at h
      exact .inl ⟨by simp, h⟩
    · rw [hF] at h
      exact .inr ⟨by simp, .inl ⟨b, rfl, h⟩⟩
    · rw [hF] at h
      exact .inr ⟨by simp, .inr ⟨s, k, rfl, h⟩⟩
end Go.Proofs.YtlnjnimenihhnaaGreatDoor

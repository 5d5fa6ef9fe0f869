/-
  first, named, Find of package dir.
-/
import Derived.Test.YtlnjnimenihhnaaGreatDoorVMem
import Derived.Laws.EntriesVeiled
namespace Go.Proofs.YtlnjnimenihhnaaGreatDoor
open Go.RowKit

/-- The entry at j. -/
abbrev En.at (es : List En) (j : Nat) : En := es.getD j En.fr
/-- r is the place of the first slot with that name; -1: there is none. -/
def Idx (es : List En) (nm : ByteArray) (r : Int) : Prop :=
  (r = -1 ∧ ∀ j, j < es.length → ((En.at es j).nm.toList == nm.toList) = false) ∨
  ∃ k : Nat, r = (k : Int) ∧ k < es.length ∧ ((En.at es k).nm.toList == nm.toList) = true ∧ ∀ j, j < k → ((En.at es j).nm.toList == nm.toList) = false
theorem Idx.unique {es : List En} {nm : ByteArray} {r s : Int} (h : Idx es nm r) (k : Idx es nm s) : r = s := by
  rcases h with ⟨rfl, h⟩ | ⟨i, rfl, hi, h1, h2⟩
  · rcases k with ⟨rfl, _⟩ | ⟨j, rfl, hj, k1, _⟩
    · rfl
    · rw [h j hj] at k1; cases k1
  · rcases k with ⟨rfl, k⟩ | ⟨j, rfl, hj, k1, k2⟩
    · rw [k i hi] at h1; cases h1
    · rcases Nat.lt_trichotomy i j with e | e | e
      · rw [k2 i e] at h1; cases h1
      · rw [e]
      · rw [h2 j e] at k1; cases k1
theorem Idx.ex (es : List En) (nm : ByteArray) : ∃ r, Idx es nm r := by
  by_cases h : ∃ j, j < es.length ∧ ((En.at es j).nm.toList == nm.toList) = true
  · have : ∃ k, (k < es.length ∧ ((En.at es k).nm.toList == nm.toList) = true) ∧ ∀ j, j < k → ¬ (j < es.length ∧ ((En.at es j).nm.toList == nm.toList) = true) := by
      obtain ⟨j0, hj0⟩ := h
      induction j0 using Nat.strongRecOn with
      | _ j0 ih =>
        by_cases hx : ∃ i, i < j0 ∧ (i < es.length ∧ ((En.at es i).nm.toList == nm.toList) = true)
        · obtain ⟨i, hi, hx⟩ := hx
          exact ih i hi hx
        · exact ⟨j0, hj0, fun j hj hh => hx ⟨j, hj, hh⟩⟩
    obtain ⟨k, ⟨h1, h2⟩, h3⟩ := this
    refine ⟨k, .inr ⟨k, rfl, h1, h2, fun j hj => ?_⟩⟩
    have := h3 j hj
    cases e : ((En.at es j).nm.toList == nm.toList) with
    | false => rfl
    | true => exact absurd ⟨by omega, e⟩ this
  · refine ⟨-1, .inl ⟨rfl, fun j hj => ?_⟩⟩
    cases e : ((En.at es j).nm.toList == nm.toList) with
    | false => rfl
    | true => exact absurd ⟨j, hj, e⟩ h
/-- .. of a name that is none: -1. -/
def IdxN (es : List En) (nm : ByteArray) (r : Int) : Prop := (nm.size = 0 ∧ r = -1) ∨ (1 ≤ nm.size ∧ Idx es nm r)
theorem IdxN.unique {es : List En} {nm : ByteArray} {r s : Int} (h : IdxN es nm r) (k : IdxN es nm s) : r = s := by
  rcases h with ⟨h1, rfl⟩ | ⟨h1, h⟩
  · rcases k with ⟨_, rfl⟩ | ⟨k1, _⟩
    · rfl
    · omega
  · rcases k with ⟨k1, _⟩ | ⟨_, k⟩
    · omega
    · exact h.unique k
theorem IdxN.cases {es : List En} {nm : ByteArray} {r : Int} (h : IdxN es nm r) : r = -1 ∨ ∃ k : Nat, r = (k : Int) ∧ k < es.length ∧ ((En.at es k).nm.toList == nm.toList) = true := by
  rcases h with ⟨_, rfl⟩ | ⟨_, ⟨rfl, _⟩ | ⟨k, rfl, h1, h2, _⟩⟩
  · exact .inl rfl
  · exact .inl rfl
  · exact .inr ⟨k, rfl, h1, h2⟩

end Go.Proofs.YtlnjnimenihhnaaGreatDoor

namespace Go.Proofs.YtlnjnimenihhnaaGreatDoor
open Go.RowKit

/-- How many bytes n slots have. -/
def sizeS (n : Nat) : Nat := (n + 7) / 8 * 512
theorem infoE : (Tryz.prog.info? 164).map (fun i => (i.zero, i.size, i.bytes)) = some (some (.agg #[.string ⟨#[]⟩, .int .i64 0]), 2, 24) := by kernel_rfl

set_option maxHeartbeats 800000 in
theorem size_any (v : Value) (es : List En) (w : World) (hv : Es w v es) (hl : es.length ≤ 1099511627776) :
    Calls Tryz.prog 107 #[v] w fun e w' => e = .returned (.int .i64 (sizeS es.length : Nat)) ∧ w' = w := by
  obtain ⟨a, c, rfl⟩ := hv.form
  obtain ⟨n, hn⟩ : ∃ n, Hid (es.length = n) := ⟨_, rfl⟩
  rw [hn.out] at hl ⊢
  clear hv hn
  go_enter Tryz.func107, Tryz.ntmps107
  go_wp2_with fail
  go_ret
  refine ⟨?_, rfl⟩
  have e : (((n : Int) + 8 - 1) / 8 * 512) = (sizeS n : Nat) := by unfold sizeS; omega
  rw [← e]
  rfl

/-- What Put answers: an error's number. -/
def putE (_es : List En) (nm : ByteArray) (ino r : Int) : Int := if nameB nm = false then 12 else if ¬ (1 ≤ ino ∧ ino ≤ 65535) then 1 else if 0 ≤ r then 9 else 0
/-- The slots behind a Put into the slot f (-1: behind all). -/
def putL (es : List En) (nm : ByteArray) (ino f : Int) : List En := if f < 0 then es ++ [⟨nm, ino⟩] else es.set f.toNat ⟨nm, ino⟩

/-- What is owned stays, where nothing below is changed. -/
theorem own_kept {w w' : World} {N N' T n : Nat} {u : Value} {xs : List Value} (h : w.ownsRow N T 2 u n xs) (hb : Below w.heap.size w w') (hN : N' ≤ N) : w'.ownsRow N' T 2 u n xs := by
  refine ⟨h.1, ?_⟩
  rcases h.2 with h | ⟨g, cap, cur, h1, h2, h3, h4⟩
  · exact .inl h
  · exact .inr ⟨g, cap, cur, h1, by omega, by rw [hb.block g (lt_of_block h3)]; exact h3, h4⟩
/-- Where it lies, and that it may be written. -/
theorem own_place {w : World} {N T n : Nat} {u : Value} {es : List En} (h : w.ownsRow N T 2 u n (ecells es)) {f : Nat} (hf : f < es.length) :
    ∃ g cap, u = .slice (some ⟨g, 0, none⟩) es.length cap ∧ N ≤ g ∧ g < w.heap.size ∧ w.cell? ⟨g, f * 2, none⟩ = some (.string (es.getD f En.fr).nm) ∧ w.cell? ⟨g, f * 2 + 1, none⟩ = some (.int .i64 (es.getD f En.fr).ino) ∧ w.frozen? ⟨g, f * 2, none⟩ = false ∧ w.frozen? ⟨g, f * 2 + 1, none⟩ = false := by
  have hn : es.length = n := by have := h.1; rw [ecells_len] at this; omega
  subst hn
  have he := Es.ofOwns h
  rcases h.2 with ⟨_, h0⟩ | ⟨g, cap, cur, rfl, h2, h3, h4⟩
  · omega
  · obtain ⟨b', off', eb, hcs⟩ := he.nth hf
    injection eb with eb
    injection eb with eb1 eb2
    subst eb1; subst eb2
    obtain ⟨c1, c2⟩ := hcs f hf
    simp only [Nat.zero_add] at c1 c2
    exact ⟨g, cap, rfl, h2, lt_of_block h3, c1, c2, by simp [World.frozen?, h3], by simp [World.frozen?, h3]⟩
theorem below_two {w w1 : World} {N g i j : Nat} {a b : Value} (B : Below N w w1) (hN : N ≤ w1.heap.size) (hg : N ≤ g) : Below N w ((w1.setCell ⟨g, i, none⟩ a).setCell ⟨g, j, none⟩ b) :=
  (B.trans ((Chg.setCell (S := fun k => k = g) w1 ⟨g, i, none⟩ a rfl).below hN (fun k hk => hk ▸ hg))).trans ((Chg.setCell (S := fun k => k = g) _ ⟨g, j, none⟩ b rfl).below (by rw [World.size_setCell]; exact hN) (fun k hk => hk ▸ hg))

theorem IdxN.lt {es : List En} {nm : ByteArray} {k : Nat} (h : IdxN es nm (k : Int)) : k < es.length := by
  rcases h.cases with h | ⟨j, h, h2, _⟩ <;> omega
/-- The slot k has another name. -/
def mvL (es : List En) (k : Nat) (nm : ByteArray) : List En := es.set k ⟨nm, (En.at es k).ino⟩
theorem set_same {α : Type} {l : List α} {i : Nat} {v : α} (h : l[i]? = some v) : l.set i v = l := by
  refine List.ext_getElem? fun j => ?_
  rw [List.getElem?_set]
  by_cases e : i = j
  · subst e
    obtain ⟨h1, h2⟩ := List.getElem?_eq_some_iff.1 h
    simp [h1, h2]
  · simp [e]
/-- An entry's name is stored. -/
theorem own_set1 {w : World} {N T n g cap k : Nat} {es : List En} (h : w.ownsRow N T 2 (.slice (some ⟨g, 0, none⟩) n cap) n (ecells es)) (hk : k < es.length) (nm : ByteArray) :
    (w.setCell ⟨g, k * 2, none⟩ (.string nm)).ownsRow N T 2 (.slice (some ⟨g, 0, none⟩) n cap) n (ecells (es.set k ⟨nm, (En.at es k).ino⟩)) := by
  rcases h.2 with ⟨h1, _⟩ | ⟨g', cap', cur, e1, hb, hg, hnc, hcm, hcs, htake⟩
  · cases h1
  · injection e1 with e1 e2 e3
    injection e1 with e1
    injection e1 with e1
    subst e1; subst e3
    have h1 := heap_setCell_same w g (k * 2) cur T (.string nm) hg
    have hl := ecells_len es
    refine ⟨by rw [ecells_len, List.length_set]; have := h.1; omega, .inr ⟨g, cap, _, rfl, hb, h1, hnc, hcm, by simpa using hcs, ?_⟩⟩
    have e2 : ((ecells es).set (k * 2) (.string nm)).set (k * 2 + 1) (.int .i64 (En.at es k).ino) = (ecells es).set (k * 2) (.string nm) := by
      refine set_same ?_
      rw [List.getElem?_set_ne (by omega)]
      exact (ecells_get es k hk).2
    rw [ecells_set es k _ hk, e2]
    simp only [Array.toList_setIfInBounds, List.take_set]
    rw [htake]
/-- May the slot k take the name? -/
def MvOk (es : List En) (old nm : ByteArray) : Prop := (nm.toList == old.toList) = true ∨ ((nm.toList == old.toList) = false ∧ IdxN es nm (-1))
end Go.Proofs.YtlnjnimenihhnaaGreatDoor

/-
  Bytes copied into new memory: append([]byte{}, b...).
-/
import Derived.Test.YtmlhjcjonfalhaaBNew
import Derived.Deep.DeepMust
namespace Go.Proofs.Ytmlhjcjonfalhaa
open Go.RowKit

theorem Mp.ofOwnsN {w : World} {N : Nat} {v : Value} {n : Nat} {xs : List Int} (h : w.ownsRow N 5 1 v n (bcells xs)) (hN : N < w.heap.size) : ∃ g, N ≤ g ∧ g < w.heap.size ∧ Mp w g v xs := by
  have hn : xs.length = n := by have := h.1; simpa [bcells] using this
  subst hn
  rcases h.2 with ⟨rfl, h0⟩ | ⟨g, cap, cur, rfl, hb, hg, hnc, hcm, hcs, htake⟩
  · exact ⟨N, Nat.le_refl _, hN, .inl ⟨rfl, List.eq_nil_of_length_eq_zero h0⟩⟩
  · refine ⟨g, hb, (Array.getElem?_eq_some_iff.1 hg).1, .inr ⟨cap, cur, 5, rfl, hg, hnc, hcm, fun j hj => ?_⟩⟩
    have h1 : (cur.toList.take (xs.length * 1))[j]? = (bcells xs)[j]? := by rw [htake]
    rw [List.getElem?_take_of_lt (by omega)] at h1
    rw [← Array.getElem?_toList, h1]
    simp [bcells, List.getD, hj]
/-- What a copy is. -/
theorem copied {w : World} {v : Value} {bs : List Int} (h : Bs w v bs) (hl : bs.length ≤ 1099511627776) :
    ∃ (g : Nat) (a : Option Addr) (c : Nat) (w' : World), (Builtin.append_ #[22, 22] 22 #[.slice (some ⟨w.heap.size, 0, none⟩) 0 0, v]).run Try.prog (w.alloc (.cells #[] 5)) = .ok (.slice a bs.length c) w' ∧ Mp w' g (.slice a bs.length c) bs ∧ Chg (fun _ => False) w w' ∧ w.heap.size ≤ g ∧ g < w'.heap.size := by
  obtain ⟨i0, hi, hz0, hz1, hz2⟩ := infoB_parts
  have hown : (w.alloc (.cells #[] 5)).ownsRow w.heap.size 5 1 (.slice (some ⟨w.heap.size, 0, none⟩) 0 0) 0 (bcells []) := World.ownsRow_lit (base := w.heap.size) (e := 5) (size := 1) w #[] 0 (Nat.le_refl _) (by simp [maxLen]) rfl
  obtain ⟨v', w', hr, ho, hg, _⟩ := run_app (P := Try.prog) (w.alloc (.cells #[] 5)) w.heap.size 22 22 i0 Try.underlying22 hi hz0 hz1 hz2 _ v 0 [] bs hown (h.kept (Chg.alloc (fun _ => False) w _) (fun _ _ _ _ _ h => h)) (by simpa using hl) (by simp)
  simp only [Nat.zero_add, List.nil_append] at ho
  obtain ⟨g, hgN, hgl, hm⟩ := Mp.ofOwnsN ho (by have := hg.size; simp at this; omega)
  obtain ⟨a, c, rfl, _⟩ := hm.bs.formB
  refine ⟨g, a, c, w', hr, hm, ?_, hgN, hgl⟩
  refine (Chg.alloc (fun _ => False) w (.cells #[] 5)).trans (Chg.ofGrown hg) (fun i hi e => ?_)
  simp [Value.ownBlock] at e
  omega
end Go.Proofs.Ytmlhjcjonfalhaa

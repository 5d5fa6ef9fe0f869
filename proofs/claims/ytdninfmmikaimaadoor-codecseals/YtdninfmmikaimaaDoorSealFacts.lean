/-
  What CodecSeals leans on: what was sealed is opened, and a byte turned in a copy is found.
-/
import Derived.Test.YtdninfmmikaimaaDoorRefSeal
import Derived.Test.YtdninfmmikaimaaDoorFlip
import Derived.Test.YtdninfmmikaimaaDoorLawFixed
namespace Go.Proofs.YtdninfmmikaimaaDoor
open Go.RowKit

/-- What was sealed is opened. -/
theorem open_sealed (bs : List Int) : openE (bs ++ leTo (sumV bs) 4) = 0 ∧ openV (bs ++ leTo (sumV bs) 4) = bs := by
  have hl : (bs ++ leTo (sumV bs) 4).length = bs.length + 4 := by simp [leTo_len]
  have hn : (bs ++ leTo (sumV bs) 4).length - 4 = bs.length := by omega
  have h4 : ¬ (bs ++ leTo (sumV bs) 4).length < 4 := by omega
  have ht : (bs ++ leTo (sumV bs) 4).take bs.length = bs := List.take_left
  have hd : (bs ++ leTo (sumV bs) 4).drop bs.length = leTo (sumV bs) 4 := List.drop_left
  have hsm := sumV_lt bs
  have hv : valB (leTo (sumV bs) 4) = (sumV bs : Int) := by
    rw [valB_leTo]
    have : (256 : Int) ^ 4 = 4294967296 := by decide
    rw [this]; omega
  have e : openE (bs ++ leTo (sumV bs) 4) = 0 := by
    unfold openE
    rw [if_neg h4, hn, ht, hd, hv]
    simp
  exact ⟨e, by unfold openV; rw [if_pos e, hn, ht]⟩

/-- What the comparing wants of the reference's Seal, in one contract. -/
theorem seals_call {N : Nat} {w w5 : World} {us ux uy uz bv : Value} {bs zs : List Int} {t1 t2 t3 : ByteArray} {sm : Nat} (e1 : strOf (bs ++ leTo (sumV bs) 4) = t1) (e2 : strOf bs = t2) (e3 : strOf zs = t3) (e4 : sumV bs = sm)
    (S5 : Bs w5 us (bs ++ leTo (sumV bs) 4)) (X5 : Bs w5 ux bs) (Y5 : Bs w5 uy zs) (Z5 : Bs w5 uz zs) (b5 : Bs w5 bv bs) (T5 : Tab w5) (B5 : Below N w w5) (hN5 : N ≤ w5.heap.size) (hB : IsB bs) (hlb : bs.length ≤ 1000000) :
    Calls Tryd.prog 35 #[bv] w5.drew fun e w6 => ∃ ur, e = .returned ur ∧ (convert 28 9 us).run Tryd.prog w6 = .ok (.string t1) w6 ∧ (convert 28 9 ur).run Tryd.prog w6 = .ok (.string t1) w6 ∧ (convert 28 9 ux).run Tryd.prog w6 = .ok (.string t2) w6 ∧ (convert 28 9 bv).run Tryd.prog w6 = .ok (.string t2) w6 ∧ (convert 28 9 uy).run Tryd.prog w6 = .ok (.string t3) w6 ∧ (convert 28 9 uz).run Tryd.prog w6 = .ok (.string t3) w6 ∧
      Hid (Calls Tryd.prog 36 #[bv] w6 fun e w' => e = .returned (.int .u32 (sm : Int)) ∧ w' = w6) ∧ Hid (Calls Tryd.prog 37 #[bv] w6 fun e w' => e = .returned (.int .u32 (sm : Int)) ∧ w' = w6) ∧ Hid (Bs w6 us (bs ++ leTo (sumV bs) 4) ∧ Below N w w6) := by
  subst e1 e2 e3 e4
  refine (refSeal_any N bv bs w5.drew b5 hB hN5 hlb).mono ?_
  rintro e w6 ⟨ur, rfl, F6⟩
  have hc : Chg (fun _ => False) w5 w6 := (Chg.drew _ w5).trans F6.2.1 (fun _ _ h => h)
  have k : ∀ {u : Value} {xs : List Int}, Bs w5 u xs → Bs w6 u xs := fun h => h.kept hc (fun _ _ _ _ _ h => h)
  have T6 : Tab w6 := fun j hj => hc.cell (T5 j hj) (fun h => h)
  exact ⟨ur, rfl, run_str (k S5), run_str (Bs.ofOwns F6.1), run_str (k X5), run_str (k b5), run_str (k Y5), run_str (k Z5), sum_any bv bs w6 (k b5) hB T6 (by omega), refSum_any bv bs w6 (k b5) hB (by omega), k S5, B5.trans (hc.below hN5 (fun _ h => h.elim))⟩

theorem pow_small (j : Nat) (h : j < 8) : (2 : Int) ^ j % 256 = 2 ^ j := by
  have hc : j = 0 ∨ j = 1 ∨ j = 2 ∨ j = 3 ∨ j = 4 ∨ j = 5 ∨ j = 6 ∨ j = 7 := by omega
  rcases hc with rfl | rfl | rfl | rfl | rfl | rfl | rfl | rfl <;> decide

/-- The copy in which a bit is turned: where the byte lies, and what a store there leaves. -/
theorem flip_facts {w wc w7 : World} {bs : List Int} {v7 : Value} {ii : Nat} (hB : IsB bs) (hl : (bs ++ leTo (sumV bs) 4).length = bs.length + 4)
    (hown : w7.ownsRow w.heap.size 5 1 v7 (0 + (bs ++ leTo (sumV bs) 4).length) (bcells ([] ++ (bs ++ leTo (sumV bs) 4)))) (hgrow : (wc.alloc (.cells #[] 5)).grownBy w7 (some wc.heap.size)) (B6 : Below w.heap.size w wc) (hii : ii < bs.length + 4) :
    ∃ g cap x, v7 = .slice (some ⟨g, 0, none⟩) (bs.length + 4) cap ∧ w7.cell? ⟨g, ii, none⟩ = some (.int .u8 x) ∧ w7.frozen? ⟨g, ii, none⟩ = false ∧ (0 ≤ x ∧ x < 256) ∧ Below w.heap.size w w7 ∧
      ∀ y : Int, 0 ≤ y ∧ y < 256 → y ≠ x → ∃ T, Bs (w7.setCell ⟨g, ii, none⟩ (.int .u8 y)) (.slice (some ⟨g, 0, none⟩) (bs.length + 4) cap) T ∧ IsB T ∧ openE T = 4 ∧ openV T = [] ∧ T.length = bs.length + 4 ∧ Below w.heap.size w (w7.setCell ⟨g, ii, none⟩ (.int .u8 y)) := by
  simp only [Nat.zero_add, List.nil_append, hl] at hown
  obtain ⟨g, cap, rfl⟩ := own_form hown (by omega)
  have hSB : IsB (bs ++ leTo (sumV bs) 4) := isB_app hB (isB_leTo _ _)
  have hC : Chg (fun _ => False) wc w7 := lit_grown hgrow
  have B7 := B6.trans (hC.below B6.size (fun _ h => h.elim))
  have hg : w.heap.size ≤ g := (hown.lt g rfl).1
  refine ⟨g, cap, _, rfl, own_cell hown ii hii, hown.frozenAt ii, hSB.at (by omega), B7, fun y hy hne => ?_⟩
  obtain ⟨e1, e2, e3⟩ := flip_open bs hB ii y hii hy hne
  have hst := (hown.stored ii (.int .u8 y)).1
  have hset : (bcells (bs ++ leTo (sumV bs) 4)).set ii (.int .u8 y) = bcells ((bs ++ leTo (sumV bs) 4).set ii y) := by simp [bcells, List.map_set]
  rw [hset] at hst
  exact ⟨_, Bs.ofOwns hst, e3, e1, e2, by simp [leTo_len], B7.setCell (by exact hg) _⟩

end Go.Proofs.YtdninfmmikaimaaDoor

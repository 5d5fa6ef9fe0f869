/-
  Bytes of the document's slots; Of, texts, of the laws on dir.
-/
import Derived.Test.YtbhfmceapffhnaaDoorDRefPut
import Derived.Test.YtbhfmceapffhnaaDoorDRefEnc
import Derived.Test.YtbhfmceapffhnaaDoorDBytes
import Derived.Test.YtbhfmceapffhnaaDoorDNames
import Derived.BigQuiet
import Derived.Deep.QuietTactic
namespace Go.Proofs.YtbhfmceapffhnaaDoor
open Go.RowKit Go.Sort

set_option maxHeartbeats 1600000 in
set_option maxRecDepth 100000 in
theorem rdbytes_any (v : Value) (es : List En) (w : World) (hv : Es w v es) (hl : es.length ≤ 100000) (hs : Hid (∀ j, j < es.length → (es.getD j En.fr).nm.size ≤ 1000000000)) :
    Calls Tryd.prog 24 #[v] w fun e w' => ∃ u, e = .returned u ∧ Bs w' u (bytesL es) ∧ Below w.heap.size w w' := by
  obtain ⟨a, c, rfl⟩ := hv.form
  obtain ⟨i0, hi0, hz0, hz1, hz2⟩ := info_parts cinfo5
  go_enter Tryd.func24, Tryd.ntmps24
  go_wp2_with fail
  go_loopw [3, 4] (fun u i wr => ∃ k : Nat, k ≤ es.length ∧ i = .int .i64 k ∧ Below w.heap.size w wr ∧ wr.ownsRow w.heap.size 5 1 u (64 * k) (bcells ((es.take k).flatMap slotB))) (fun _ i _ => es.length - (intOf i).toNat)
  case atStart => exact ⟨0, Nat.zero_le _, rfl, Below.refl _ _, World.ownsRow_nil _ _ _ _⟩
  case round =>
    obtain ⟨k, hk, rfl, B, M⟩ := hrel
    have hfl : ((es.take k).flatMap slotB).length = 64 * k := by rw [flat_len, List.length_take]; omega
    by_cases hlt : k < es.length
    · have q1 : (k : Int) < es.length := by omega
      have hv' := hv.below B
      obtain ⟨b, off, rfl, hc⟩ := hv'.nth hlt
      obtain ⟨c1, c2⟩ := hc k hlt
      have HT : (es.take (k + 1)).flatMap slotB = (es.take k).flatMap slotB ++ slotB (es.getD k En.fr) := by rw [take_next es k hlt, List.flatMap_append]; simp
      have hsk := hs.out k hlt
      obtain ⟨x, hx⟩ : ∃ x, Hid (es.getD k En.fr = x) := ⟨_, rfl⟩
      rw [hx.out] at c1 c2 HT hsk
      generalize hL : (es.take k).flatMap slotB = L at *
      have HT' : Hid ((es.take (k + 1)).flatMap slotB = L ++ slotB x) := HT
      clear hc hv' HT hL hx
      by_cases h0 : x.nm.size = 0
      · have g3 : x.nm = ⟨#[]⟩ := by
          obtain ⟨⟨⟨l⟩⟩, _⟩ := x
          have : l = [] := List.eq_nil_of_length_eq_zero h0
          simp [this]
        have g0 : (x.nm.toList == []) = true := by rw [g3, ByteArray.toList_eq]; rfl
        have es0 : slotB x = List.replicate 64 0 := by unfold slotB; rw [if_neg (by omega)]; rfl
        rw [es0] at HT'
        obtain ⟨z, hz, HT'⟩ : ∃ z : Nat, Hid (z = 64) ∧ Hid ((es.take (k + 1)).flatMap slotB = L ++ List.replicate z 0) := ⟨64, rfl, HT'⟩
        clear g3 h0 es0
        go_wp2_with (at_builtin; go_must (refine wpList_app_zeros rfl _ _ 52 3 rfl w.heap.size i0 .i64 Tryd.underlying52 Tryd.underlying3 hi0 hz0 hz1 hz2 _ (64 * k) z L rfl M 64 rfl (by rw [hz.out]; rfl) ?c1 ?c2 ?next))
        case c1 => have := hz.out; rw [hfl]; omega
        case c2 => exact B.size
        case next =>
          intro u w3 ho3 hg3 hat3
          have B3 := B.trans (grown_below M hg3 B.size)
          rw [← HT'.out, hz.out] at ho3
          clear M hg3 hat3 HT' hz
          go_wp2_with fail
          go_roundw
          case rel => exact ⟨k + 1, by omega, by go_num, B3, by simpa [Nat.mul_add] using ho3⟩
          case measure => simp [intOf]; omega
      · have h1 : 1 ≤ x.nm.size := by omega
        have g0 : (x.nm.toList == []) = false := beq_eq_false_iff_ne.2 (str_some h1)
        have es0 : slotB x = encB x := by unfold slotB; rw [if_pos h1]
        rw [es0] at HT'
        clear h0 h1 es0
        go_wp2_with fail
        refine (rencode_any x wr.heap.size wr (Nat.le_refl _) hsk).mono ?_
        rintro e w2 ⟨y, rfl, h2⟩
        have C2 : Below wr.heap.size wr w2 := h2.2.1.below (Nat.le_refl _) (fun _ h => h.elim)
        have B2 := B.trans (C2.mono B.size)
        have M2 := own_kept1 M C2
        have y2 := Bs.ofOwns h2.1
        clear h2 C2 M
        go_wp2_with (at_builtin; go_must (refine wpList_app rfl _ (.tmp 24) 52 rfl w.heap.size i0 Tryd.underlying52 hi0 hz0 hz1 hz2 _ _ (64 * k) L (encB x) rfl M2 rfl y2 ?c1 ?c2 ?next))
        case c1 => rw [hfl, encB_len]; omega
        case c2 => exact B2.size
        case next =>
          intro u w3 ho3 hg3 hat3
          have B3 := B2.trans (grown_below M2 hg3 B2.size)
          rw [← HT'.out, encB_len] at ho3
          clear M2 hg3 hat3 y2
          go_wp2_with fail
          go_roundw
          case rel => exact ⟨k + 1, by omega, by go_num, B3, by simpa [Nat.mul_add] using ho3⟩
          case measure => simp [intOf]; omega
    · have q1 : ¬ (k : Int) < es.length := by omega
      obtain rfl : k = es.length := by omega
      obtain ⟨ua, uc, rfl⟩ := cown_slice M
      rw [List.take_of_length_le (Nat.le_refl _)] at M hfl
      have hZ1 := sizeS_le es.length
      have hZ0 : sizeS es.length ≤ 100000000 := by unfold sizeS; omega
      have hv' := hv.below B
      have SZ := rsize_any _ es wr hv' (by omega)
      have HB : Hid (bytesL es = es.flatMap slotB ++ List.replicate (sizeS es.length - 64 * es.length) 0) := rfl
      generalize sizeS es.length = Z at *
      go_wp2_with fail
      refine SZ.mono ?_
      rintro e w2 ⟨rfl, rfl⟩
      obtain ⟨D, hD, hD1⟩ : ∃ D : Nat, (Z : Int) - ((64 * es.length : Nat) : Int) = (D : Int) ∧ Z - 64 * es.length = D := ⟨Z - 64 * es.length, by omega, rfl⟩
      rw [hD1] at HB
      have hD2 : (Z : Int) - 64 * (es.length : Int) = (D : Int) := by omega
      have hD3 : D ≤ 100000000 := by omega
      clear SZ hv' hD1 hZ1
      go_wp2_with (at_builtin; go_must (refine wpList_app_zeros rfl _ _ 52 3 rfl w.heap.size i0 .i64 Tryd.underlying52 Tryd.underlying3 hi0 hz0 hz1 hz2 _ (64 * es.length) D (es.flatMap slotB) rfl M (D : Int) ?hvx rfl ?c1 ?c2 ?next))
      case hvx => first | rfl | (simp only [hD, hD2]; done) | (simp only [hD2]; rfl)
      case c1 => rw [hfl]; omega
      case c2 => exact B.size
      case next =>
        intro u w3 ho3 hg3 hat3
        have B3 := B.trans (grown_below M hg3 B.size)
        have y3 := Bs.ofOwns ho3
        rw [← HB.out] at y3
        clear M hg3 hat3 ho3
        go_wp2_with fail
        go_ret
        exact ⟨_, rfl, y3, B3⟩
end Go.Proofs.YtbhfmceapffhnaaDoor

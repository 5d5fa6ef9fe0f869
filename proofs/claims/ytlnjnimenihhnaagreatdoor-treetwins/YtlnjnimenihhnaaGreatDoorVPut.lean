/-
  At, Size, Put, Take, Move of the document's slots.
-/
import Derived.Test.YtlnjnimenihhnaaGreatDoorDPut
import Derived.Test.YtlnjnimenihhnaaGreatDoorVMem
import Derived.BigQuiet
namespace Go.Proofs.YtlnjnimenihhnaaGreatDoor
open Go.RowKit

theorem infoR2 : (Tryz.prog.info? 116).map (fun i => (i.zero, i.size, i.bytes)) = some (some (.agg #[.string ⟨#[]⟩, .int .i64 0]), 2, 24) := by kernel_rfl
set_option maxHeartbeats 1600000 in
theorem rat_any (v : Value) (es : List En) (nm : ByteArray) (w : World) (hv : Es w v es) (hl : es.length ≤ 1099511627776) :
    Calls Tryz.prog 60 #[v, .string nm] w fun e w' => ∃ r, e = .returned (.int .i64 r) ∧ Hid (IdxN es nm r) ∧ w' = w := by
  obtain ⟨a, c, rfl⟩ := hv.form
  by_cases h0 : nm.size = 0
  · have HR : Hid (IdxN es nm (-1)) := .inl ⟨h0, rfl⟩
    have g3 : nm = ⟨#[]⟩ := by
      obtain ⟨⟨l⟩⟩ := nm
      have : l = [] := List.eq_nil_of_length_eq_zero h0
      rw [this]
    subst g3
    by_cases hz : 0 < es.length
    · have q0 : (0 : Int) < es.length := by omega
      go_enter Tryz.func60, Tryz.ntmps60
      go_wp2_with fail
      go_loopw [5] (fun i wr => i = .int .i64 0 ∧ wr = w) (fun _ _ => 0)
      case atStart => exact ⟨rfl, rfl⟩
      case round =>
        obtain ⟨rfl, rfl⟩ := hrel
        go_wp2_with fail
        go_ret
        exact ⟨_, rfl, HR, rfl⟩
    · have q0 : ¬ (0 : Int) < es.length := by omega
      go_enter Tryz.func60, Tryz.ntmps60
      go_wp2_with fail
      go_loopw [5] (fun i wr => i = .int .i64 0 ∧ wr = w) (fun _ _ => 0)
      case atStart => exact ⟨rfl, rfl⟩
      case round =>
        obtain ⟨rfl, rfl⟩ := hrel
        go_wp2_with fail
        go_ret
        exact ⟨_, rfl, HR, rfl⟩
  · have h1 : 1 ≤ nm.size := by omega
    have g0 : (nm.toList == []) = false := beq_eq_false_iff_ne.2 (str_some h1)
    have H1 : Hid (1 ≤ nm.size) := h1
    clear h0 h1
    go_enter Tryz.func60, Tryz.ntmps60
    go_wp2_with fail
    go_loopw [5] (fun i wr => ∃ k : Nat, k ≤ es.length ∧ i = .int .i64 k ∧ wr = w ∧ Hid (∀ j, j < k → ((En.at es j).nm.toList == nm.toList) = false)) (fun i _ => es.length - (intOf i).toNat)
    case atStart => exact ⟨0, Nat.zero_le _, rfl, rfl, fun j h => by omega⟩
    case round =>
      obtain ⟨k, hk, rfl, rfl, hA⟩ := hrel
      by_cases hlt : k < es.length
      · have q1 : (k : Int) < es.length := by omega
        obtain ⟨b, off, rfl, hc⟩ := hv.nth hlt
        obtain ⟨c1, c2⟩ := hc k hlt
        clear hc
        obtain ⟨x, hx⟩ : ∃ x, Hid (es.getD k En.fr = x) := ⟨_, rfl⟩
        rw [hx.out] at c1 c2
        cases hb : (x.nm.toList == nm.toList) with
        | true =>
          have HR : Hid (IdxN es nm (k : Int)) := .inr ⟨H1.out, .inr ⟨k, rfl, hlt, by rw [En.at, hx.out]; exact hb, hA.out⟩⟩
          go_wp2_with fail
          go_ret
          exact ⟨_, rfl, HR, rfl⟩
        | false =>
          have hA' : Hid (∀ j, j < k + 1 → ((En.at es j).nm.toList == nm.toList) = false) := fun j h => by
            rcases (by omega : j < k ∨ j = k) with h | rfl
            · exact hA.out j h
            · rw [En.at, hx.out]; exact hb
          go_wp2_with fail
          go_roundw
          case rel => exact ⟨k + 1, by omega, by go_num, trivial, hA'⟩
          case measure => simp [intOf]; omega
      · have q1 : ¬ (k : Int) < es.length := by omega
        have HR : Hid (IdxN es nm (-1)) := .inr ⟨H1.out, .inl ⟨rfl, fun j hj => hA.out j (by omega)⟩⟩
        go_wp2_with fail
        go_ret
        exact ⟨_, rfl, HR, rfl⟩

set_option maxHeartbeats 800000 in
theorem rsize_any (v : Value) (es : List En) (w : World) (hv : Es w v es) (hl : es.length ≤ 1099511627776) :
    Calls Tryz.prog 88 #[v] w fun e w' => e = .returned (.int .i64 (sizeS es.length : Nat)) ∧ w' = w := by
  obtain ⟨a, c, rfl⟩ := hv.form
  obtain ⟨n, hn⟩ : ∃ n, Hid (es.length = n) := ⟨_, rfl⟩
  rw [hn.out] at hl ⊢
  clear hv hn
  go_enter Tryz.func88, Tryz.ntmps88
  go_wp2_with fail
  go_ret
  refine ⟨?_, rfl⟩
  have e : (((n : Int) + 8 - 1) / 8 * 512) = (sizeS n : Nat) := by unfold sizeS; omega
  rw [← e]
  rfl
end Go.Proofs.YtlnjnimenihhnaaGreatDoor

namespace Go.Proofs.YtlnjnimenihhnaaGreatDoor
open Go.RowKit

theorem empty_no {s : ByteArray} (h : (s.toList == (⟨#[]⟩ : ByteArray).toList) = false) : (s.toList == []) = false := by
  rw [ByteArray.toList_eq (⟨#[]⟩ : ByteArray)] at h; exact h
theorem empty_yes {s : ByteArray} (h : (s.toList == (⟨#[]⟩ : ByteArray).toList) = true) : (s.toList == []) = true := by
  rw [ByteArray.toList_eq (⟨#[]⟩ : ByteArray)] at h; exact h
end Go.Proofs.YtlnjnimenihhnaaGreatDoor

namespace Go.Proofs.YtlnjnimenihhnaaGreatDoor
open Go.RowKit

/-- u is a new row of slots. -/
def Fe (w w' : World) (u : Value) (es : List En) : Prop := w'.ownsRow w.heap.size 116 2 u es.length (ecells es) ∧ Below w.heap.size w w'
theorem Fe.es {w w' : World} {u : Value} {es : List En} (h : Fe w w' u es) : Es w' u es := Es.ofOwns h.1
/-- Where it lies. -/
theorem Fe.at {w w' : World} {u : Value} {es : List En} (h : Fe w w' u es) : ∃ a c, u = .slice a es.length c ∧ ∀ p, a = some p → w.heap.size ≤ p.block ∧ p.block < w'.heap.size := by
  rcases h.1.2 with ⟨rfl, h0⟩ | ⟨g, cap, cur, rfl, hb, hg, _⟩
  · refine ⟨none, 0, by rw [h0], fun p hp => by cases hp⟩
  · exact ⟨_, _, rfl, fun p hp => by cases hp; exact ⟨hb, lt_of_block hg⟩⟩
set_option maxHeartbeats 1600000 in
set_option maxRecDepth 100000 in
/-- Put into a free slot. -/
theorem vput_free (v : Value) (es : List En) (nm : ByteArray) (ino : Int) (f : Nat) (w : World) (hv : Es w v es) (hl : es.length ≤ 1099511627775) (hn : Hid (nameB nm = true)) (hi : Hid (decide (1 ≤ ino ∧ ino ≤ 65535) = true)) (hr : Hid (IdxN es nm (-1))) (hf : Hid (Idx es ⟨#[]⟩ (f : Int))) :
    Calls Tryz.prog 61 #[v, .string nm, .int .i64 ino] w fun e w' => ∃ u, e = .returned (.tuple #[u, .int .i64 0, .int .i64 0]) ∧ Hid (Fe w w' u (es.set f ⟨nm, ino⟩)) := by
  have hfl : f < es.length ∧ ((En.at es f).nm.toList == (⟨#[]⟩ : ByteArray).toList) = true ∧ ∀ j, j < f → ((En.at es j).nm.toList == (⟨#[]⟩ : ByteArray).toList) = false := by
    rcases hf.out with ⟨h, _⟩ | ⟨k, h, h2, h3, h4⟩
    · omega
    · obtain rfl : f = k := by omega
      exact ⟨h2, h3, h4⟩
  have HF : Hid _ := hfl
  have hfl := hfl.1
  have h := of_decide_eq_true hi.out
  have i1 := h.1
  have i2 := h.2
  clear h hi
  obtain ⟨i0, hi0, hz0, hz1, hz2⟩ := info_parts infoR2
  go_enter Tryz.func61, Tryz.ntmps61
  go_wp2_with fail
  refine (rname_any nm true _ hn).mono ?_
  rintro e w1 ⟨rfl, rfl⟩
  go_wp2_with fail
  refine (rat_any v es nm _ hv (by omega)).mono ?_
  rintro e w2 ⟨r', rfl, hr', rfl⟩
  obtain rfl := hr'.out.unique hr.out
  have B0 : Below w2.heap.size w2 (w2.alloc (.cells #[] 116)) := (Below.refl _ _).alloc (Nat.le_refl _) _
  have hv0 := hv.below B0
  have ho := lit_own2 w2 w2.heap.size 116 (Nat.le_refl _)
  have hN0 := B0.size
  go_wp2_with (at_builtin; go_must (refine wpList_app2 rfl _ (.tmp 28) 61 rfl w2.heap.size 116 i0 Tryz.underlying61 hi0 hz0 hz1 hz2 _ _ 0 [] _ rfl ho rfl hv0 ?c1 ?c2 ?next))
  case c1 => simp; omega
  case c2 => exact hN0
  case next =>
    intro u w3 hown hB
    have M : w3.ownsRow w2.heap.size 116 2 u es.length (ecells es) := by simpa using hown
    have B := B0.trans hB
    clear hown hB B0 hv0 ho hN0
    have E := Es.ofOwns M
    obtain ⟨ua, uc, rfl⟩ := E.form
    go_wp2_with fail
    go_loopw [10] (fun i wr => ∃ k : Nat, k ≤ f ∧ i = .int .i64 k ∧ wr = w3) (fun i _ => f + 1 - (intOf i).toNat)
    case atStart => exact ⟨0, Nat.zero_le _, rfl, rfl⟩
    case round =>
      obtain ⟨k, hk, rfl, rfl⟩ := hrel
      have q1 : (k : Int) < es.length := by omega
      obtain ⟨g, cap, eg, hg, hg2, c1, c2, f1, f2⟩ := own_place (f := k) M (by omega)
      injection eg with eg1 eg2 eg3
      subst eg1
      by_cases hkf : k < f
      · have hne := empty_no (HF.out.2.2 k hkf)
        obtain ⟨x, hx⟩ : ∃ x, Hid (es.getD k En.fr = x) := ⟨_, rfl⟩
        rw [En.at] at hne
        rw [hx.out] at c1 c2 hne
        go_wp2_with fail
        go_roundw
        case rel => exact ⟨k + 1, by omega, by go_num, trivial⟩
        case measure => simp [intOf]; omega
      · obtain rfl : k = f := by omega
        have hye := empty_yes HF.out.2.1
        have hs := (own_set2 M (k := k) hfl ⟨nm, ino⟩)
        subst eg3
        have hs := (own_set2 M (k := k) hfl ⟨nm, ino⟩).1
        have G1 : Hid _ := hs
        have G2 : Hid _ := below_two (i := k * 2) (j := k * 2 + 1) (a := .string nm) (b := .int .i64 ino) B B.size hg
        obtain ⟨x, hx⟩ : ∃ x, Hid (es.getD k En.fr = x) := ⟨_, rfl⟩
        rw [En.at] at hye
        rw [hx.out] at c1 c2 hye
        clear M hs E B
        go_wp2_with fail
        go_ret3
        exact ⟨_, rfl, by rw [List.length_set]; exact G1.out, G2.out⟩
set_option maxHeartbeats 1600000 in
set_option maxRecDepth 100000 in
/-- Put behind all. -/
theorem vput_more (v : Value) (es : List En) (nm : ByteArray) (ino : Int) (w : World) (hv : Es w v es) (hl : es.length ≤ 1000000000) (hn : Hid (nameB nm = true)) (hi : Hid (decide (1 ≤ ino ∧ ino ≤ 65535) = true)) (hr : Hid (IdxN es nm (-1))) (hf : Hid (Idx es ⟨#[]⟩ (-1))) :
    Calls Tryz.prog 61 #[v, .string nm, .int .i64 ino] w fun e w' => ∃ u, e = .returned (.tuple #[u, .int .i64 ((sizeS (es.length + 1) - sizeS es.length : Nat) : Int), .int .i64 0]) ∧ Hid (Fe w w' u (es ++ [⟨nm, ino⟩])) := by
  have HF : Hid (∀ j, j < es.length → ((En.at es j).nm.toList == (⟨#[]⟩ : ByteArray).toList) = false) := by
    rcases hf.out with ⟨_, h⟩ | ⟨k, h, _⟩
    · exact h
    · omega
  have h := of_decide_eq_true hi.out
  have i1 := h.1
  have i2 := h.2
  clear h hi
  obtain ⟨i0, hi0, hz0, hz1, hz2⟩ := info_parts infoR2
  go_enter Tryz.func61, Tryz.ntmps61
  go_wp2_with fail
  refine (rname_any nm true _ hn).mono ?_
  rintro e w1 ⟨rfl, rfl⟩
  go_wp2_with fail
  refine (rat_any v es nm _ hv (by omega)).mono ?_
  rintro e w2 ⟨r', rfl, hr', rfl⟩
  obtain rfl := hr'.out.unique hr.out
  have B0 : Below w2.heap.size w2 (w2.alloc (.cells #[] 116)) := (Below.refl _ _).alloc (Nat.le_refl _) _
  have hv0 := hv.below B0
  have ho := lit_own2 w2 w2.heap.size 116 (Nat.le_refl _)
  have hN0 := B0.size
  go_wp2_with (at_builtin; go_must (refine wpList_app2 rfl _ (.tmp 28) 61 rfl w2.heap.size 116 i0 Tryz.underlying61 hi0 hz0 hz1 hz2 _ _ 0 [] _ rfl ho rfl hv0 ?c1 ?c2 ?next))
  case c1 => simp; omega
  case c2 => exact hN0
  case next =>
    intro u w3 hown hB
    have M : w3.ownsRow w2.heap.size 116 2 u es.length (ecells es) := by simpa using hown
    have B := B0.trans hB
    clear hown hB B0 hv0 ho hN0
    have E := Es.ofOwns M
    obtain ⟨ua, uc, rfl⟩ := E.form
    go_wp2_with fail
    go_loopw [10] (fun i wr => ∃ k : Nat, k ≤ es.length ∧ i = .int .i64 k ∧ wr = w3) (fun i _ => es.length - (intOf i).toNat)
    case atStart => exact ⟨0, Nat.zero_le _, rfl, rfl⟩
    case round =>
      obtain ⟨k, hk, rfl, rfl⟩ := hrel
      by_cases hlt : k < es.length
      · have q1 : (k : Int) < es.length := by omega
        obtain ⟨g, cap, eg, hg, hg2, c1, c2, f1, f2⟩ := own_place (f := k) M (by omega)
        injection eg with eg1 eg2 eg3
        subst eg1
        have hne := empty_no (HF.out k hlt)
        obtain ⟨x, hx⟩ : ∃ x, Hid (es.getD k En.fr = x) := ⟨_, rfl⟩
        rw [En.at] at hne
        rw [hx.out] at c1 c2 hne
        go_wp2_with fail
        go_roundw
        case rel => exact ⟨k + 1, by omega, by go_num, trivial⟩
        case measure => simp [intOf]; omega
      · have q1 : ¬ (k : Int) < es.length := by omega
        have Bn5 := B.alloc B.size (.cells #[.string nm, .int .i64 ino] 116)
        have M5 := own_kept M ((Below.refl _ _).alloc (Nat.le_refl _) (.cells #[.string nm, .int .i64 ino] 116)) (Nat.le_refl _)
        have x5 := Es.one wr ⟨nm, ino⟩ 116 (0, 0)
        have hN5 := Bn5.size
        go_wp2_with (at_builtin; go_must (refine wpList_app2 rfl _ (.tmp 53) 61 rfl w2.heap.size 116 i0 Tryz.underlying61 hi0 hz0 hz1 hz2 _ _ es.length es [⟨nm, ino⟩] rfl M5 rfl x5 ?c1 ?c2 ?next))
        case c1 => omega
        case c2 => simpa using hN5
        case next =>
          intro u w6 ho6 hB6
          have Bn6 := Bn5.trans hB6
          have e6 := Es.ofOwns ho6
          have HO6 : Hid (w6.ownsRow w2.heap.size 116 2 u (es ++ [(⟨nm, ino⟩ : En)]).length (ecells (es ++ [(⟨nm, ino⟩ : En)]))) := by
            show World.ownsRow _ _ _ _ _ _ _
            rw [List.length_append]
            exact ho6
          have hv6 := hv.below Bn6
          have z : (es ++ [(⟨nm, ino⟩ : En)]).length = es.length + 1 := by simp
          clear M5 x5 Bn5 hN5 hB6 ho6 M E
          go_wp2_with fail
          refine (rsize_any _ _ _ e6 (by rw [z]; omega)).mono ?_
          rintro e w8 ⟨rfl, rfl⟩
          rw [z]
          obtain ⟨Z, hZ, hZ1⟩ : ∃ Z, Hid (sizeS es.length = Z) ∧ Z ≤ 1000000000000 := ⟨_, rfl, by unfold sizeS; omega⟩
          obtain ⟨Y, hY, hY1, hY2⟩ : ∃ Y, Hid (sizeS (es.length + 1) = Y) ∧ Y ≤ 1000000000000 ∧ Z ≤ Y := ⟨_, rfl, by unfold sizeS; omega, by rw [← hZ.out]; unfold sizeS; omega⟩
          rw [hY.out]
          clear z
          go_wp2_with fail
          refine (rsize_any _ _ _ hv6 (by omega)).mono ?_
          rintro e w9 ⟨rfl, rfl⟩
          rw [hZ.out]
          go_wp2_with fail
          go_ret3
          refine ⟨_, ?_, HO6.out, Bn6⟩
          rw [hY.out, hZ.out]
          have e9 : ((Y - Z : Nat) : Int) = (Y : Int) - Z := by omega
          rw [e9]
          rfl
set_option maxHeartbeats 1600000 in
set_option maxRecDepth 100000 in
theorem vtake_ok (v : Value) (es : List En) (nm : ByteArray) (k : Nat) (w : World) (hv : Es w v es) (hl : es.length ≤ 1000000000) (hr : Hid (IdxN es nm (k : Int))) :
    Calls Tryz.prog 68 #[v, .string nm] w fun e w' => ∃ u, e = .returned (.tuple #[u, .int .i64 (En.at es k).ino, .int .i64 0]) ∧ Hid (Fe w w' u (es.set k En.fr)) := by
  have hk := hr.out.lt
  obtain ⟨i0, hi0, hz0, hz1, hz2⟩ := info_parts infoR2
  go_enter Tryz.func68, Tryz.ntmps68
  go_wp2_with fail
  refine (rat_any v es nm _ hv (by omega)).mono ?_
  rintro e w2 ⟨r', rfl, hr', rfl⟩
  obtain rfl := hr'.out.unique hr.out
  have g1 : ¬ ((k : Int) < 0) := by omega
  have g2 : (k : Int) < es.length := by omega
  have B0 : Below w2.heap.size w2 (w2.alloc (.cells #[] 116)) := (Below.refl _ _).alloc (Nat.le_refl _) _
  have hv0 := hv.below B0
  have ho := lit_own2 w2 w2.heap.size 116 (Nat.le_refl _)
  have hN0 := B0.size
  go_wp2_with (at_builtin; go_must (refine wpList_app2 rfl _ (.tmp 15) 61 rfl w2.heap.size 116 i0 Tryz.underlying61 hi0 hz0 hz1 hz2 _ _ 0 [] _ rfl ho rfl hv0 ?c1 ?c2 ?next))
  case c1 => simp; omega
  case c2 => exact hN0
  case next =>
    intro u w3 hown hB
    have M : w3.ownsRow w2.heap.size 116 2 u es.length (ecells es) := by simpa using hown
    have Bn3 := B0.trans hB
    clear hown hB B0 hv0 ho hN0
    obtain ⟨g, cap, rfl, hg, hg2, c1, c2, f1, f2⟩ := own_place (f := k) M hk
    have hs := (own_set2 M hk En.fr).1
    have Bn4 := below_two (i := k * 2) (j := k * 2 + 1) (a := .string En.fr.nm) (b := .int .i64 En.fr.ino) Bn3 Bn3.size hg
    obtain ⟨a, c, rfl⟩ := hv.form
    have hv4 := hv.below Bn4
    obtain ⟨b, off, rfl, hc⟩ := hv4.nth hk
    obtain ⟨d1, d2⟩ := hc k hk
    obtain ⟨x, hx⟩ : ∃ x, Hid (es.getD k En.fr = x) := ⟨_, rfl⟩
    rw [hx.out] at c1 c2 d1 d2
    have HX : Hid ((En.at es k).ino = x.ino) := by rw [Hid, En.at, hx.out]
    have H5 : Hid (∀ w5, (w3.setCell ⟨g, k * 2, none⟩ (.string ⟨#[]⟩)).setCell ⟨g, k * 2 + 1, none⟩ (.int .i64 0) = w5 → w5.cell? ⟨b, off + k * 2 + 1, none⟩ = some (.int .i64 x.ino) ∧ w5.ownsRow w2.heap.size 116 2 (.slice (some ⟨g, 0, none⟩) es.length cap) es.length (ecells (es.set k En.fr)) ∧ Below w2.heap.size w2 w5) := by
      rintro w5 rfl
      refine ⟨d2, ?_, Bn4⟩
      exact hs
    clear M hr' Bn3 hs Bn4 hc d1 d2 hv4
    go_wp2_with fail
    generalize hw5 : (w3.setCell ⟨g, k * 2, none⟩ (.string ⟨#[]⟩)).setCell ⟨g, k * 2 + 1, none⟩ (.int .i64 0) = w5 at *
    obtain ⟨d2, e5, B5⟩ := H5.out w5 rfl
    clear hw5 H5 c1 c2 f1 f2
    go_quiet (fail)
    go_wp2_with fail
    go_ret3
    refine ⟨_, ?_, by rw [List.length_set]; exact e5, B5.trans ((Chg.drewN (fun _ => False) w5 _).below B5.size (fun _ h => h.elim))⟩
    rw [HX.out]
    rfl
set_option maxHeartbeats 1600000 in
set_option maxRecDepth 100000 in
theorem vmove_ok (v : Value) (es : List En) (old nm : ByteArray) (k : Nat) (w : World) (hv : Es w v es) (hl : es.length ≤ 1000000000) (hr : Hid (IdxN es old (k : Int))) (hn : Hid (nameB nm = true)) (hm : Hid (MvOk es old nm)) :
    Calls Tryz.prog 70 #[v, .string old, .string nm] w fun e w' => ∃ u, e = .returned (.tuple #[u, .int .i64 0]) ∧ Hid (Fe w w' u (mvL es k nm)) := by
  have hk := hr.out.lt
  obtain ⟨i0, hi0, hz0, hz1, hz2⟩ := info_parts infoR2
  have fin : ∀ w3 u, w3.ownsRow w.heap.size 116 2 u es.length (ecells es) → Below w.heap.size w w3 → ∃ g cap, u = .slice (some ⟨g, 0, none⟩) es.length cap ∧ (∃ s, w3.cell? ⟨g, k * 2, none⟩ = some (.string s)) ∧ w3.frozen? ⟨g, k * 2, none⟩ = false ∧ Hid ((w3.setCell ⟨g, k * 2, none⟩ (.string nm)).ownsRow w.heap.size 116 2 u es.length (ecells (mvL es k nm)) ∧ Below w.heap.size w (w3.setCell ⟨g, k * 2, none⟩ (.string nm))) := by
    intro w3 u ho B3
    obtain ⟨g, cap, rfl, hg, hg2, c1, c2, f1, f2⟩ := own_place (f := k) ho hk
    refine ⟨g, cap, rfl, ⟨_, c1⟩, f1, ?_, B3.trans ((Chg.setCell (S := fun k => k = g) w3 ⟨g, k * 2, none⟩ _ rfl).below B3.size (fun k hk => hk ▸ hg))⟩
    exact own_set1 ho hk nm
  go_enter Tryz.func70, Tryz.ntmps70
  go_wp2_with fail
  refine (rat_any v es old _ hv (by omega)).mono ?_
  rintro e w2 ⟨r', rfl, hr', rfl⟩
  obtain rfl := hr'.out.unique hr.out
  have g1 : ¬ ((k : Int) < 0) := by omega
  have g2 : (k : Int) < es.length := by omega
  go_wp2_with fail
  refine (rname_any nm true _ hn).mono ?_
  rintro e w3 ⟨rfl, rfl⟩
  have B0 : Below w3.heap.size w3 (w3.alloc (.cells #[] 116)) := (Below.refl _ _).alloc (Nat.le_refl _) _
  have hv0 := hv.below B0
  have ho := lit_own2 w3 w3.heap.size 116 (Nat.le_refl _)
  have hN0 := B0.size
  rcases hm.out with he | ⟨he, hj⟩
  · go_wp2_with (at_builtin; go_must (refine wpList_app2 rfl _ (.tmp 31) 61 rfl w3.heap.size 116 i0 Tryz.underlying61 hi0 hz0 hz1 hz2 _ _ 0 [] _ rfl ho rfl hv0 ?c1 ?c2 ?next))
    case c1 => simp; omega
    case c2 => exact hN0
    case next =>
      intro u w4 hown hB
      have M : w4.ownsRow w3.heap.size 116 2 u es.length (ecells es) := by simpa using hown
      obtain ⟨g, cap, rfl, ⟨s, c1⟩, f1, H⟩ := fin w4 u M (B0.trans hB)
      clear fin hown hB M B0 hv0 ho hN0
      go_wp2_with fail
      go_ret2
      exact ⟨_, rfl, by unfold mvL; rw [List.length_set]; exact H.out.1, H.out.2⟩
  · go_wp2_with fail
    refine (rat_any v es nm _ hv (by omega)).mono ?_
    rintro e w5 ⟨r', rfl, hj', rfl⟩
    obtain rfl := hj'.out.unique hj
    go_wp2_with (at_builtin; go_must (refine wpList_app2 rfl _ (.tmp 31) 61 rfl w5.heap.size 116 i0 Tryz.underlying61 hi0 hz0 hz1 hz2 _ _ 0 [] _ rfl ho rfl hv0 ?c1 ?c2 ?next))
    case c1 => simp; omega
    case c2 => exact hN0
    case next =>
      intro u w4 hown hB
      have M : w4.ownsRow w5.heap.size 116 2 u es.length (ecells es) := by simpa using hown
      obtain ⟨g, cap, rfl, ⟨s, c1⟩, f1, H⟩ := fin w4 u M (B0.trans hB)
      clear fin hown hB M B0 hv0 ho hN0
      go_wp2_with fail
      go_ret2
      exact ⟨_, rfl, by unfold mvL; rw [List.length_set]; exact H.out.1, H.out.2⟩
end Go.Proofs.YtlnjnimenihhnaaGreatDoor

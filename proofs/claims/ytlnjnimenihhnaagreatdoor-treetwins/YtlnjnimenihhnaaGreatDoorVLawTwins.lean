/-
  Same of both, over the pairs.
-/
import Derived.Test.YtlnjnimenihhnaaGreatDoorVFour
import Derived.Test.YtlnjnimenihhnaaGreatDoorVSameR
import Derived.Test.YtlnjnimenihhnaaGreatDoorTFew
namespace Go.Proofs.YtlnjnimenihhnaaGreatDoor
open Go.RowKit Go.Maps Go.Sort

theorem EqN.symm {a b : Option Nd} (h : EqN a b) : EqN b a := by
  cases a with
  | none => cases b with
    | none => trivial
    | some y => exact h.elim
  | some x => cases b with
    | none => cases x <;> exact h.elim
    | some y =>
      cases x with
      | file p => cases y with
        | file q => exact Eq.symm (show p = q from h)
        | dir s k => exact h.elim
      | dir s k => cases y with
        | file q => exact h.elim
        | dir s' k' => trivial
theorem eqB_comm (F G : Pth → Option Nd) : eqB F G [] [] = eqB G F [] [] := by
  have h : eqB F G [] [] = true ↔ eqB G F [] [] = true := by
    rw [eqB_root, eqB_root]
    exact ⟨fun h q => (h q).symm, fun h q => (h q).symm⟩
  cases e : eqB F G [] [] with
  | true => exact (h.1 e).symm
  | false =>
    cases f : eqB G F [] [] with
    | true => rw [h.2 f] at e; cases e
    | false => rfl
section
variable {N : Nat} {w0 w w' : World} {P : Nat → Prop} {t s u r K K' : Nat} {T T' U : Ts}
theorem Fo.rsame (h : Fo N w0 w P t s u r T U K K') (hK : K ≤ 60000) (hK' : K' ≤ 60000) {n n' : Int} {M : Nat} (hC : Cn T n M) (hC' : Cn U n' M) (hM : M ≤ 90000) (hn : n ≤ 90000) (hn' : n' ≤ 90000) :
    Calls Tryz.prog 17 #[ptr r, ptr s] w fun e w' => e = .returned (.bool (eqB T.F U.F [] [])) ∧ Below w.heap.size w w' := by
  obtain ⟨A, O, q, G, R, num, h1, h2, h3, _⟩ := h.ex
  obtain ⟨A', O', q', G', R', num', g1, g2, g3, _⟩ := h.st
  have dT : ∀ z : Pth, M < z.length → T.F z = none := fun z hz => by
    cases e : T.F z with
    | none => rfl
    | some y => have := hC.dp z (by rw [e]; rfl); omega
  have dU : ∀ z : Pth, M < z.length → U.F z = none := fun z hz => by
    cases e : U.F z with
    | none => rfl
    | some y => have := hC'.dp z (by rw [e]; rfl); omega
  have c1 := rows_count h3.gd hC (d := M + 1) (by omega)
  have c2 := rows_count g3.gd hC' (d := M + 1) (by omega)
  have i1 := h1.ib.1
  have i2 := g1.ib.1
  have key := rSame_any w g2 g3 hK' h2 h3 hK M dU dT (by omega) (by omega) (by omega)
  have hi := rows_iff g3.gd h3.gd (fun p bs hp => (g1.fil p bs hp).2) (fun p bs hp => (h1.fil p bs hp).2) dU dT
  have e : decide ((rowsP U.F (M + 1) [] ⟨#[]⟩).map (rwK U.F) = (rowsP T.F (M + 1) [] ⟨#[]⟩).map (rwK T.F)) = eqB T.F U.F [] [] := by
    rw [eqB_comm]
    cases e : eqB U.F T.F [] [] with
    | true => exact decide_eq_true (hi.2 (eqB_root.1 e))
    | false => exact decide_eq_false fun h9 => by rw [eqB_root.2 (hi.1 h9)] at e; cases e
  rw [e] at key
  exact key
end
end Go.Proofs.YtlnjnimenihhnaaGreatDoor

namespace Go.Proofs.YtlnjnimenihhnaaGreatDoor
open Go.RowKit Go.Maps Go.Sort

set_option maxHeartbeats 12800000 in
set_option maxRecDepth 100000 in
theorem law_ttwins (v1 v2 : Value) (l1 l2 : List AcD) (w : World) (hT : Tab w) (hv1 : Ops w v1 l1) (hv2 : Ops w v2 l2) :
    Calls Tryz.prog 4 #[v1, v2] w fun e w' => e = .returned (.bool true) ∧ Chg (fun _ => False) w w' := by
  obtain ⟨va, vc, rfl⟩ := hv1.form
  obtain ⟨vb, vd, rfl⟩ := hv2.form
  go_enter Tryz.func4, Tryz.ntmps4
  go_wp2_with fail
  refine (known_any w hT).mono ?_
  rintro e w1 ⟨rfl, B1⟩
  have fin : ∀ w', Below w.heap.size w w' → Hid (Chg (fun _ => False) w w') := fun w' h => Chg.ofBelowC h
  have HF := fin _ B1
  go_wp2_with fail
  refine (Few_any _ l1 w1 (hv1.below B1)).mono ?_
  rintro e w1' ⟨h1, h2⟩
  obtain rfl := h1.out
  clear h1
  rcases h2 with rfl | ⟨rfl, HW1⟩
  · go_wp2_with fail
    go_ret
    exact ⟨rfl, HF.out⟩
  go_wp2_with fail
  refine (Few_any _ l2 w1' (hv2.below B1)).mono ?_
  rintro e w1'' ⟨h1, h2⟩
  obtain rfl := h1.out
  clear h1
  rcases h2 with rfl | ⟨rfl, HW2⟩
  · go_wp2_with fail
    go_ret
    exact ⟨rfl, HF.out⟩
  go_wp2_with fail
  refine (Lw.new 60 40 _ (tab_below hT B1) (by omega) (by omega) (by omega) (by omega)).mono ?_
  rintro e w2 ⟨t, rfl, L⟩
  have HL := hidOf (And.intro L B1)
  have HV1 := hidOf hv1
  have HV2 := hidOf hv2
  clear L B1 hv1 hv2 HF
  go_wp2_with fail
  refine (rnew_ok (w := w2) 60 40 (by omega) (by omega) (by omega) (by omega)).mono ?_
  rintro e w3 ⟨rfl, hR, B3⟩
  obtain ⟨r, hr⟩ : ∃ r, w2.heap.size + 1 = r := ⟨_, rfl⟩
  rw [hr] at hR ⊢
  have HS : Hid (Bo w1''.heap.size w1'' w3 t r (tr0 60 (40 - 1)) 0 ∧ Below w.heap.size w w1'' ∧ l1.length ≤ 150 ∧ l2.length ≤ 150) := ⟨Bo.start HL.out.1 B3 hR (by omega) (Nat.le_refl _), HL.out.2, HW1.out.1, HW2.out.1⟩
  clear hR B3 HL hr
  have hl1 := HS.out.2.2.1
  have hl2 := HS.out.2.2.2
  go_wp2_with fail
  go_loopw [9] (fun j wr => ∃ k : Nat, k ≤ l1.length ∧ j = .int .i64 k ∧ Hid (∃ T, Bo w1''.heap.size w1'' wr t r T (2 * k) ∧ Cn T (40 - 1) (8 * k))) (fun j _ => l1.length - (intOf j).toNat)
  case atStart => exact ⟨0, Nat.zero_le _, rfl, _, HS.out.1, Cn.start _ _⟩
  case round =>
    obtain ⟨k, hk, rfl, H⟩ := hrel
    by_cases hlt : k < l1.length
    · have q1 : (k : Int) < l1.length := by omega
      obtain ⟨T, L, hC⟩ := H.out
      have BW : Below w.heap.size w wr := HS.out.2.1.trans (L.bel.mono HS.out.2.1.size)
      obtain ⟨b', off, e', hc'⟩ := HV1.out.nth hlt
      cases e'
      have HX := HW1.out.2 k hlt
      obtain ⟨x, hx⟩ : ∃ x, Hid (l1.getD k AcD.z = x) := ⟨_, rfl⟩
      rw [hx.out] at hc' HX
      obtain ⟨c, T', hr⟩ : ∃ c T', doR T x.o = (c, T') := ⟨_, _, rfl⟩
      have htN := L.tN
      have hsz := HS.out.2.1.size
      have hC2 : Cn T' (40 - 1) (8 * (k + 1)) := by
        have := (hC.do_ L.good x.o).more (M' := 8 * (k + 1)) (by omega)
        rw [hr] at this
        exact this
      have hdB : ∀ a n c, x.dv = .slice (some a) n c → 0 < n → ¬ a.block = t := dat_far (t := t) hc'.2.2.2.2.2.1 (by omega)
      have hdR : ∀ a n c, x.dv = .slice (some a) n c → 0 < n → ¬ a.block = r := dat_far (t := r) hc'.2.2.2.2.2.1 (by omega)
      have OA : Hid (∀ w', Below w.heap.size w w' → OpAt w' b' (off + k * 5) x) := fun w' h => hc'.below h
      obtain ⟨da, dc, hdv⟩ := hc'.2.2.2.2.2.1.form'
      have HN : Hid (∀ w', Below w1''.heap.size w1'' w' → Hid (Below w.heap.size w w')) := fun w' h => HS.out.2.1.trans (h.mono hsz)
      have HBo : Hid (Bo w1''.heap.size w1'' wr t r T (2 * k)) := L
      have C1 : Hid (∀ w', Hid (Bo w1''.heap.size w1'' w' t r T (2 * k)) → Calls Tryz.prog 9 #[ptr t, .agg #[.int .i64 x.o.k, .string x.o.p, .string x.o.q, .slice da x.o.d.length dc, .int .i64 x.o.n]] w' fun e w'' => e = .returned (.int .i64 c) ∧ Hid (Md w1''.heap.size w1'' w'' t r T T' (2 * k))) := fun w' h => by
        obtain ⟨d0, d1, d2, d3, d4, d5, d6⟩ := OA.out w' (HN.out w' h.out.bel).out
        have := h.out.do1 (by omega) x.o x.dv d5 d6 hdB (by omega) (by omega) hr
        rw [hdv] at this
        exact this
      have C3 : Hid (∀ w', Hid (Md w1''.heap.size w1'' w' t r T T' (2 * k)) → Calls Tryz.prog 10 #[ptr r, .agg #[.int .i64 x.o.k, .string x.o.p, .string x.o.q, .slice da x.o.d.length dc, .int .i64 x.o.n]] w' fun e w'' => e = .returned (.int .i64 c) ∧ Hid (Bo w1''.heap.size w1'' w'' t r T' (2 * k + 2))) := fun w' h => by
        obtain ⟨d0, d1, d2, d3, d4, d5, d6⟩ := OA.out w' (HN.out w' h.out.bel).out
        have := h.out.do2 (by omega) x.o x.dv d5 d6 (by omega) hdR (by omega) (by omega) hr
        rw [hdv] at this
        exact this
      have HSH : Hid (∀ w', Hid (Below w.heap.size w w') → w'.cell? ⟨b', off + k * 5, none⟩ = some (.int .i64 x.o.k) ∧ w'.cell? ⟨b', off + k * 5 + 1, none⟩ = some (.string x.o.p) ∧ w'.cell? ⟨b', off + k * 5 + 2, none⟩ = some (.string x.o.q) ∧ w'.cell? ⟨b', off + k * 5 + 3, none⟩ = some (.slice da x.o.d.length dc) ∧ w'.cell? ⟨b', off + k * 5 + 4, none⟩ = some (.int .i64 x.o.n)) := fun w' h => by
        obtain ⟨d0, d1, d2, d3, d4, d5, d6⟩ := OA.out w' h.out
        rw [hdv] at d3
        exact ⟨d0, d1, d2, d3, d4⟩
      obtain ⟨c0, c1, c2, c3, c4⟩ := HSH.out wr BW
      have HCn := hidOf hC2
      clear H L hC hC2 HX hc' hr htN hsz hdB hdR hdv OA BW hx
      generalize x.o.k = ok at *
      generalize x.o.p = op at *
      generalize x.o.q = oq at *
      generalize x.o.d.length = od at *
      generalize x.o.n = on' at *
      go_wp2_with fail
      refine (C1.out _ HBo).mono ?_
      clear C1 HBo c0 c1 c2 c3 c4
      rintro e w5 ⟨rfl, HM⟩
      obtain ⟨c0, c1, c2, c3, c4⟩ := HSH.out w5 (HN.out w5 HM.out.bel)
      go_wp2_with fail
      refine (vof_any _ _ _ _ _ _ _ _).mono ?_
      rintro e w6 ⟨rfl, B6⟩
      have HM6 := hidOf (HM.out.kept B6)
      clear HM B6 c0 c1 c2 c3 c4
      go_wp2_with fail
      refine (C3.out _ HM6).mono ?_
      clear C3 HM6
      rintro e w7 ⟨rfl, HB7⟩
      have HZ : Hid (∃ T, Bo w1''.heap.size w1'' w7 t r T (2 * (k + 1)) ∧ Cn T (40 - 1) (8 * (k + 1))) := ⟨T', HB7.out, HCn.out⟩
      clear HB7 HCn HSH HN
      go_wp2_with fail
      go_roundw
      case rel => exact ⟨k + 1, by omega, by go_num, HZ⟩
      case measure => simp [intOf]; omega
    · have q1 : ¬ (k : Int) < l1.length := by omega
      obtain ⟨U, L, hC⟩ := H.out
      obtain rfl : k = l1.length := by omega
      have C1 := hidOf (L.twin1 (by omega))
      have HCU := hidOf hC
      have HGU := hidOf L.good
      generalize l1.length = n1 at *
      clear H L hC hlt
      go_wp2_with fail
      refine C1.out.mono ?_
      clear C1
      rintro e w4 ⟨u, rfl, HT4⟩
      have C2 := hidOf (HT4.out.twin2 (by omega))
      go_wp2_with fail
      refine C2.out.mono ?_
      clear C2 HT4
      rintro e w5 ⟨s, rfl, HF5⟩
      obtain ⟨P, F5⟩ := HF5.out
      have C3 := (F5.same (by omega) (by omega)).1
      rw [eqB_refl] at C3
      have H5 := hidOf F5
      have C3H := hidOf C3
      clear HF5 F5 C3
      go_wp2_with fail
      refine C3H.out.mono ?_
      clear C3H
      rintro e w6 ⟨rfl, B6⟩
      have H6 := hidOf (H5.out.kept B6)
      clear H5 B6
      go_wp2_with fail
      generalize wr = wz at *
      go_loopw [12] (fun j wr => ∃ k : Nat, k ≤ l2.length ∧ j = .int .i64 k ∧ Hid (∃ T, Fo w1''.heap.size w1'' wr P t s u r T U (2 * n1 + 2 * k) (2 * n1) ∧ Cn T (40 - 1) (8 * n1 + 8 * k))) (fun j _ => l2.length - (intOf j).toNat)
      case atStart => exact ⟨0, Nat.zero_le _, rfl, _, H6.out, HCU.out⟩
      case round =>
        obtain ⟨k, hk, rfl, H⟩ := hrel
        by_cases hlt : k < l2.length
        · have q1 : (k : Int) < l2.length := by omega
          obtain ⟨T, L, hC⟩ := H.out
          have BW : Below w.heap.size w wr := HS.out.2.1.trans (L.bel.mono HS.out.2.1.size)
          obtain ⟨b', off, e', hc'⟩ := HV2.out.nth hlt
          cases e'
          have HX := HW2.out.2 k hlt
          obtain ⟨x, hx⟩ : ∃ x, Hid (l2.getD k AcD.z = x) := ⟨_, rfl⟩
          rw [hx.out] at hc' HX
          obtain ⟨c, T', hr⟩ : ∃ c T', doR T x.o = (c, T') := ⟨_, _, rfl⟩
          have htN := L.good.2
          have hsz := HS.out.2.1.size
          have hC2 : Cn T' (40 - 1) (8 * n1 + 8 * (k + 1)) := by
            have := (hC.do_ L.good.1 x.o).more (M' := 8 * n1 + 8 * (k + 1)) (by omega)
            rw [hr] at this
            exact this
          have hdB : ∀ a n c, x.dv = .slice (some a) n c → 0 < n → ¬ a.block = t := dat_far (t := t) hc'.2.2.2.2.2.1 (by omega)
          have hdR : ∀ a n c, x.dv = .slice (some a) n c → 0 < n → ¬ a.block = s := dat_far (t := s) hc'.2.2.2.2.2.1 (by omega)
          have OA : Hid (∀ w', Below w.heap.size w w' → OpAt w' b' (off + k * 5) x) := fun w' h => hc'.below h
          obtain ⟨da, dc, hdv⟩ := hc'.2.2.2.2.2.1.form'
          have HN : Hid (∀ w', Below w1''.heap.size w1'' w' → Hid (Below w.heap.size w w')) := fun w' h => HS.out.2.1.trans (h.mono hsz)
          have HBo : Hid (Fo w1''.heap.size w1'' wr P t s u r T U (2 * n1 + 2 * k) (2 * n1)) := L
          have C1 : Hid (∀ w', Hid (Fo w1''.heap.size w1'' w' P t s u r T U (2 * n1 + 2 * k) (2 * n1)) → Calls Tryz.prog 9 #[ptr t, .agg #[.int .i64 x.o.k, .string x.o.p, .string x.o.q, .slice da x.o.d.length dc, .int .i64 x.o.n]] w' fun e w'' => e = .returned (.int .i64 c) ∧ Hid (Fm w1''.heap.size w1'' w'' P t s u r T T' U (2 * n1 + 2 * k) (2 * n1))) := fun w' h => by
            obtain ⟨d0, d1, d2, d3, d4, d5, d6⟩ := OA.out w' (HN.out w' h.out.bel).out
            have := h.out.do1 (by omega) x.o x.dv d5 d6 hdB (by omega) (by omega) hr
            rw [hdv] at this
            exact this
          have C3 : Hid (∀ w', Hid (Fm w1''.heap.size w1'' w' P t s u r T T' U (2 * n1 + 2 * k) (2 * n1)) → Calls Tryz.prog 10 #[ptr s, .agg #[.int .i64 x.o.k, .string x.o.p, .string x.o.q, .slice da x.o.d.length dc, .int .i64 x.o.n]] w' fun e w'' => e = .returned (.int .i64 c) ∧ Hid (Fo w1''.heap.size w1'' w'' P t s u r T' U (2 * n1 + 2 * k + 2) (2 * n1))) := fun w' h => by
            obtain ⟨d0, d1, d2, d3, d4, d5, d6⟩ := OA.out w' (HN.out w' h.out.bel).out
            have := h.out.do2 (by omega) x.o x.dv d5 d6 (by omega) hdR (by omega) (by omega) hr
            rw [hdv] at this
            exact this
          have HSH : Hid (∀ w', Hid (Below w.heap.size w w') → w'.cell? ⟨b', off + k * 5, none⟩ = some (.int .i64 x.o.k) ∧ w'.cell? ⟨b', off + k * 5 + 1, none⟩ = some (.string x.o.p) ∧ w'.cell? ⟨b', off + k * 5 + 2, none⟩ = some (.string x.o.q) ∧ w'.cell? ⟨b', off + k * 5 + 3, none⟩ = some (.slice da x.o.d.length dc) ∧ w'.cell? ⟨b', off + k * 5 + 4, none⟩ = some (.int .i64 x.o.n)) := fun w' h => by
            obtain ⟨d0, d1, d2, d3, d4, d5, d6⟩ := OA.out w' h.out
            rw [hdv] at d3
            exact ⟨d0, d1, d2, d3, d4⟩
          obtain ⟨c0, c1, c2, c3, c4⟩ := HSH.out wr BW
          have HCn := hidOf hC2
          clear H L hC hC2 HX hc' hr htN hsz hdB hdR hdv OA BW hx
          generalize x.o.k = ok at *
          generalize x.o.p = op at *
          generalize x.o.q = oq at *
          generalize x.o.d.length = od at *
          generalize x.o.n = on' at *
          go_wp2_with fail
          refine (C1.out _ HBo).mono ?_
          clear C1 HBo c0 c1 c2 c3 c4
          rintro e w5 ⟨rfl, HM⟩
          obtain ⟨c0, c1, c2, c3, c4⟩ := HSH.out w5 (HN.out w5 HM.out.bel)
          go_wp2_with fail
          refine (vof_any _ _ _ _ _ _ _ _).mono ?_
          rintro e w6 ⟨rfl, B6⟩
          have HM6 := hidOf (HM.out.kept B6)
          clear HM B6 c0 c1 c2 c3 c4
          go_wp2_with fail
          refine (C3.out _ HM6).mono ?_
          clear C3 HM6
          rintro e w7 ⟨rfl, HB7⟩
          have HZ : Hid (∃ T, Fo w1''.heap.size w1'' w7 P t s u r T U (2 * n1 + 2 * (k + 1)) (2 * n1) ∧ Cn T (40 - 1) (8 * n1 + 8 * (k + 1))) := ⟨T', HB7.out, HCn.out⟩
          clear HB7 HCn HSH HN
          go_wp2_with fail
          go_roundw
          case rel => exact ⟨k + 1, by omega, by go_num, HZ⟩
          case measure => simp [intOf]; omega
        · have q1 : ¬ (k : Int) < l2.length := by omega
          obtain ⟨T, L, hC⟩ := H.out
          have HL := hidOf L
          have HC := hidOf hC
          have HK : Hid (2 * n1 + 2 * k ≤ 600 ∧ 2 * n1 ≤ 300 ∧ 8 * n1 + 8 * k ≤ 2400) := ⟨by omega, by omega, by omega⟩
          obtain ⟨E, hE⟩ : ∃ E, eqB T.F U.F [] [] = E := ⟨_, rfl⟩
          have S1 : Hid (∀ w', Hid (Fo w1''.heap.size w1'' w' P t s u r T U (2 * n1 + 2 * k) (2 * n1)) → Calls Tryz.prog 16 #[ptr t, ptr u] w' fun e w'' => e = .returned (.bool E) ∧ Hid (Fo w1''.heap.size w1'' w'' P t s u r T U (2 * n1 + 2 * k) (2 * n1))) := fun w' h => by
            have := (h.out.same (by have := HK.out; omega) (by have := HK.out; omega)).1
            rw [hE] at this
            exact this.mono fun e w'' hh => ⟨hh.1, h.out.kept hh.2⟩
          have S2 : Hid (∀ w', Hid (Fo w1''.heap.size w1'' w' P t s u r T U (2 * n1 + 2 * k) (2 * n1)) → Calls Tryz.prog 16 #[ptr u, ptr t] w' fun e w'' => e = .returned (.bool E) ∧ Hid (Fo w1''.heap.size w1'' w'' P t s u r T U (2 * n1 + 2 * k) (2 * n1))) := fun w' h => by
            have := (h.out.same (by have := HK.out; omega) (by have := HK.out; omega)).2
            rw [eqB_comm, hE] at this
            exact this.mono fun e w'' hh => ⟨hh.1, h.out.kept hh.2⟩
          have S3 : Hid (∀ w', Hid (Fo w1''.heap.size w1'' w' P t s u r T U (2 * n1 + 2 * k) (2 * n1)) → Calls Tryz.prog 17 #[ptr r, ptr s] w' fun e w'' => e = .returned (.bool E) ∧ Hid (Fo w1''.heap.size w1'' w'' P t s u r T U (2 * n1 + 2 * k) (2 * n1))) := fun w' h => by
            have := h.out.rsame (by have := HK.out; omega) (by have := HK.out; omega) HC.out (HCU.out.more (M' := 8 * n1 + 8 * k) (by omega)) (by have := HK.out; omega) (by omega) (by omega)
            rw [hE] at this
            exact this.mono fun e w'' hh => ⟨hh.1, h.out.kept hh.2⟩
          have S4 : Hid (∀ w', Hid (Fo w1''.heap.size w1'' w' P t s u r T U (2 * n1 + 2 * k) (2 * n1)) → Calls Tryz.prog 12 #[ptr u, ptr r] w' fun e w'' => e = .returned (.bool true) ∧ Hid (Fo w1''.heap.size w1'' w'' P t s u r T U (2 * n1 + 2 * k) (2 * n1))) := fun w' h =>
            (h.out.st.looks (by have := HK.out; omega) HCU.out (by have := HK.out; omega) (by omega)).mono fun e w'' hh => ⟨hh.1, h.out.kept hh.2⟩
          have S5 : Hid (∀ w', Hid (Fo w1''.heap.size w1'' w' P t s u r T U (2 * n1 + 2 * k) (2 * n1)) → Calls Tryz.prog 12 #[ptr t, ptr s] w' fun e w'' => e = .returned (.bool true) ∧ Hid (Fo w1''.heap.size w1'' w'' P t s u r T U (2 * n1 + 2 * k) (2 * n1))) := fun w' h =>
            (h.out.looks (by have := HK.out; omega) HC.out (by have := HK.out; omega) (by omega)).mono fun e w'' hh => ⟨hh.1, h.out.kept hh.2⟩
          clear H L hC hE
          go_wp2_with fail
          refine (S4.out _ HL).mono ?_
          rintro e w7 ⟨rfl, H7⟩
          go_wp2_with fail
          refine (S5.out _ H7).mono ?_
          rintro e w8 ⟨rfl, H8⟩
          go_wp2_with fail
          refine (S1.out _ H8).mono ?_
          rintro e w9 ⟨rfl, H9⟩
          go_wp2_with fail
          refine (S3.out _ H9).mono ?_
          rintro e wA ⟨rfl, HA⟩
          cases E with
          | true =>
            go_wp2_with fail
            refine (S2.out _ HA).mono ?_
            rintro e wB ⟨rfl, HB⟩
            go_wp2_with fail
            refine (S3.out _ HB).mono ?_
            rintro e wC ⟨rfl, HC'⟩
            have HE := fin _ (HS.out.2.1.trans (HC'.out.bel.mono HS.out.2.1.size))
            go_wp2_with fail
            go_ret
            exact ⟨by simp, HE.out⟩
          | false =>
            go_wp2_with fail
            refine (S2.out _ HA).mono ?_
            rintro e wB ⟨rfl, HB⟩
            go_wp2_with fail
            refine (S3.out _ HB).mono ?_
            rintro e wC ⟨rfl, HC'⟩
            have HE := fin _ (HS.out.2.1.trans (HC'.out.bel.mono HS.out.2.1.size))
            go_wp2_with fail
            go_ret
            exact ⟨by simp, HE.out⟩
end Go.Proofs.YtlnjnimenihhnaaGreatDoor

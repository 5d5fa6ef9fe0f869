/-
  TreePlays.
-/
import Derived.Test.YtlnjnimenihhnaaGreatDoorVBo
import Derived.Test.YtlnjnimenihhnaaGreatDoorTFew
import Derived.Deep.RegionHeld
namespace Go.Proofs.YtlnjnimenihhnaaGreatDoor
open Go.RowKit Go.Maps Go.Sort

set_option maxHeartbeats 6400000 in
set_option maxRecDepth 100000 in
theorem law_tplays (b i : Int) (v : Value) (l : List AcD) (w : World) (hT : Tab w) (hv : Ops w v l) :
    Calls Tryz.prog 3 #[.int .i64 b, .int .i64 i, v] w fun e w' => e = .returned (.bool true) ∧ Chg (fun _ => False) w w' := by
  obtain ⟨va, vc, rfl⟩ := hv.form
  go_enter Tryz.func3, Tryz.ntmps3
  go_wp2_with fail
  refine (known_any w hT).mono ?_
  rintro e w1 ⟨rfl, B1⟩
  have fin : ∀ w', Below w.heap.size w w' → Hid (Chg (fun _ => False) w w') := fun w' h => Chg.ofBelowC h
  have HF := fin _ B1
  go_wp2_with fail
  refine (Few_any _ l w1 (hv.below B1)).mono ?_
  rintro e w1' ⟨h1, h2⟩
  obtain rfl := h1.out
  clear h1
  rcases h2 with rfl | ⟨rfl, HW⟩
  · go_wp2_with fail
    go_ret
    exact ⟨rfl, HF.out⟩
  by_cases hbad : b < 0 ∨ 16384 < b ∨ i < 1 ∨ 256 < i
  · go_wp2_with fail
    refine (new_bad b i w1' hbad).mono ?_
    rintro e w2 ⟨rfl, rfl⟩
    go_wp2_with fail
    refine (rnew_no b i hbad).mono ?_
    rintro e w3 ⟨rfl, B3⟩
    have HE := fin _ (B1.trans (B3.mono B1.size))
    clear B3 hbad hv B1
    go_wp2_with fail
    go_ret
    exact ⟨rfl, HE.out⟩
  obtain ⟨n0, n1, n2, n3⟩ : 0 ≤ b ∧ b ≤ 16384 ∧ 1 ≤ i ∧ i ≤ 256 := by omega
  go_wp2_with fail
  refine (Lw.new b i w1' (tab_below hT B1) n0 n1 n2 n3).mono ?_
  rintro e w2 ⟨t, rfl, L⟩
  have HL : Hid (Lw w1'.heap.size w1' w2 t (tr0 b (i - 1)) 0 ∧ Below w.heap.size w w1') := ⟨L, B1⟩
  have HV : Hid (Ops w (.slice va l.length vc) l) := hv
  clear L B1 hv HF hbad
  go_wp2_with fail
  refine (rnew_ok (w := w2) b i n0 n1 n2 n3).mono ?_
  rintro e w3 ⟨rfl, hR, B3⟩
  obtain ⟨r, hr⟩ : ∃ r, w2.heap.size + 1 = r := ⟨_, rfl⟩
  rw [hr] at hR ⊢
  have HS : Hid (Bo w1'.heap.size w1' w3 t r (tr0 b (i - 1)) 0 ∧ Below w.heap.size w w1' ∧ i ≤ 256) := ⟨Bo.start HL.out.1 B3 hR (by omega) (Nat.le_refl _), HL.out.2, n3⟩
  clear hR B3 HL hr n0 n1 n2 n3
  go_wp2_with fail
  go_loopw [11] (fun j wr => ∃ k : Nat, k ≤ l.length ∧ j = .int .i64 k ∧ Hid (∃ T, Bo w1'.heap.size w1' wr t r T (2 * k) ∧ Cn T (i - 1) (8 * k))) (fun j _ => l.length - (intOf j).toNat)
  case atStart => exact ⟨0, Nat.zero_le _, rfl, _, HS.out.1, Cn.start _ _⟩
  case round =>
    obtain ⟨k, hk, rfl, H⟩ := hrel
    by_cases hlt : k < l.length
    · have q1 : (k : Int) < l.length := by omega
      have hl150 : l.length ≤ 150 := HW.out.1
      obtain ⟨T, L, hC⟩ := H.out
      have HBo : Hid (Bo w1'.heap.size w1' wr t r T (2 * k)) := L
      have BW : Below w.heap.size w wr := HS.out.2.1.trans (L.bel.mono HS.out.2.1.size)
      obtain ⟨b', off, e', hc'⟩ := HV.out.nth hlt
      cases e'
      have HX := HW.out.2 k hlt
      obtain ⟨x, hx⟩ : ∃ x, Hid (l.getD k AcD.z = x) := ⟨_, rfl⟩
      rw [hx.out] at hc' HX
      obtain ⟨c, T', hr⟩ : ∃ c T', doR T x.o = (c, T') := ⟨_, _, rfl⟩
      have htN := L.tN
      have hsz := HS.out.2.1.size
      have hC2 : Cn T' (i - 1) (8 * (k + 1)) := by
        have := hC.do_ L.good x.o
        rw [hr] at this
        exact this
      have hdB : ∀ a n c, x.dv = .slice (some a) n c → 0 < n → ¬ a.block = t := dat_far (t := t) hc'.2.2.2.2.2.1 (by omega)
      have hdR : ∀ a n c, x.dv = .slice (some a) n c → 0 < n → ¬ a.block = r := dat_far (t := r) hc'.2.2.2.2.2.1 (by omega)
      have OA : Hid (∀ w', Below w.heap.size w w' → OpAt w' b' (off + k * 5) x) := fun w' h => hc'.below h
      obtain ⟨da, dc, hdv⟩ := hc'.2.2.2.2.2.1.form'
      have HN : Hid (∀ w', Below w1'.heap.size w1' w' → Hid (Below w.heap.size w w')) := fun w' h => HS.out.2.1.trans (h.mono hsz)
      have C1 : Hid (∀ w', Hid (Bo w1'.heap.size w1' w' t r T (2 * k)) → Calls Tryz.prog 9 #[ptr t, .agg #[.int .i64 x.o.k, .string x.o.p, .string x.o.q, .slice da x.o.d.length dc, .int .i64 x.o.n]] w' fun e w'' => e = .returned (.int .i64 c) ∧ Hid (Md w1'.heap.size w1' w'' t r T T' (2 * k)) ∧ Hid (Below w.heap.size w w'')) := fun w' h => by
        obtain ⟨d0, d1, d2, d3, d4, d5, d6⟩ := OA.out w' (HN.out w' h.out.bel).out
        have := h.out.do1 (by omega) x.o x.dv d5 d6 hdB (by omega) (by omega) hr
        rw [hdv] at this
        exact this.mono fun e w'' hh => ⟨hh.1, hh.2, HN.out w'' hh.2.bel⟩
      have C3 : Hid (∀ w', Hid (Md w1'.heap.size w1' w' t r T T' (2 * k)) → Calls Tryz.prog 10 #[ptr r, .agg #[.int .i64 x.o.k, .string x.o.p, .string x.o.q, .slice da x.o.d.length dc, .int .i64 x.o.n]] w' fun e w'' => e = .returned (.int .i64 c) ∧ Hid (Bo w1'.heap.size w1' w'' t r T' (2 * k + 2)) ∧ Hid (Below w.heap.size w w'')) := fun w' h => by
        obtain ⟨d0, d1, d2, d3, d4, d5, d6⟩ := OA.out w' (HN.out w' h.out.bel).out
        have := h.out.do2 (by omega) x.o x.dv d5 d6 (by omega) hdR (by omega) (by omega) hr
        rw [hdv] at this
        exact this.mono fun e w'' hh => ⟨hh.1, hh.2, HN.out w'' hh.2.bel⟩
      have C4 : Hid (∀ w', Hid (Bo w1'.heap.size w1' w' t r T' (2 * k + 2)) → Calls Tryz.prog 12 #[ptr t, ptr r] w' fun e w'' => e = .returned (.bool true) ∧ Hid (Bo w1'.heap.size w1' w'' t r T' (2 * k + 2)) ∧ Hid (Below w.heap.size w w'')) := fun w' h =>
        (h.out.looks (by omega) hC2 (by omega) (by have := HS.out.2.2; omega)).mono fun e w'' hh => ⟨hh.1, h.out.kept hh.2, HN.out w'' (h.out.kept hh.2).bel⟩
      have C5 : Hid (∀ w', Hid (Bo w1'.heap.size w1' w' t r T' (2 * k + 2)) → Calls Tryz.prog 13 #[ptr t, ptr r, .string x.o.p] w' fun e w'' => e = .returned (.bool true) ∧ Hid (Bo w1'.heap.size w1' w'' t r T' (2 * k + 2)) ∧ Hid (Below w.heap.size w w'')) := fun w' h =>
        (h.out.asks (by omega) (s := x.o.p) (by omega)).mono fun e w'' hh => ⟨hh.1, h.out.kept hh.2, HN.out w'' (h.out.kept hh.2).bel⟩
      have C6 : Hid (∀ w', Hid (Bo w1'.heap.size w1' w' t r T' (2 * k + 2)) → Calls Tryz.prog 13 #[ptr t, ptr r, .string x.o.q] w' fun e w'' => e = .returned (.bool true) ∧ Hid (Bo w1'.heap.size w1' w'' t r T' (2 * k + 2)) ∧ Hid (Below w.heap.size w w'')) := fun w' h =>
        (h.out.asks (by omega) (s := x.o.q) (by omega)).mono fun e w'' hh => ⟨hh.1, h.out.kept hh.2, HN.out w'' (h.out.kept hh.2).bel⟩
      have HSH : Hid (∀ w', Hid (Below w.heap.size w w') → (Hid (Below w.heap.size w w') ∧ w'.cell? ⟨b', off + k * 5, none⟩ = some (.int .i64 x.o.k) ∧ w'.cell? ⟨b', off + k * 5 + 1, none⟩ = some (.string x.o.p) ∧ w'.cell? ⟨b', off + k * 5 + 2, none⟩ = some (.string x.o.q) ∧ w'.cell? ⟨b', off + k * 5 + 3, none⟩ = some (.slice da x.o.d.length dc) ∧ w'.cell? ⟨b', off + k * 5 + 4, none⟩ = some (.int .i64 x.o.n))) := fun w' h => by
        obtain ⟨d0, d1, d2, d3, d4, d5, d6⟩ := OA.out w' h.out
        rw [hdv] at d3
        exact ⟨h, d0, d1, d2, d3, d4⟩
      have HBd : Hid (Bo w1'.heap.size w1' wr.drew t r T (2 * k)) := L.kept (bD (Below.refl _ _)).out
      have HBW : Hid (Below w.heap.size w wr) := BW
      have HCn : Hid (Cn T' (i - 1) (8 * (k + 1))) := hC2
      have HGD : Hid (Gd T) := L.good
      clear H L hC hC2 HX hc' hr htN hsz hdB hdR hdv BW OA hx
      generalize x.o.k = ok at *
      generalize x.o.p = op at *
      generalize x.o.q = oq at *
      generalize x.o.d.length = od at *
      generalize x.o.n = on' at *
      go_wp2_with fail
      go_region_held (fun w' => (Hid (Below w.heap.size w w') ∧ w'.cell? ⟨b', off + k * 5, none⟩ = some (.int .i64 ok) ∧ w'.cell? ⟨b', off + k * 5 + 1, none⟩ = some (.string op) ∧ w'.cell? ⟨b', off + k * 5 + 2, none⟩ = some (.string oq) ∧ w'.cell? ⟨b', off + k * 5 + 3, none⟩ = some (.slice da od dc) ∧ w'.cell? ⟨b', off + k * 5 + 4, none⟩ = some (.int .i64 on'))) (exact HSH.out _ (by first | with_reducible assumption | exact bD HBW))
        (first
          | (go_at_call 9; refine (C1.out _ (by with_reducible assumption)).mono ?_; rintro e w3 ⟨rfl, HM3, HB3⟩)
          | (go_at_call 11; refine (vof_any _ _ _ _ _ _ _ _).mono ?_; rintro e w4 ⟨rfl, B4⟩; have HM4 := hidOf (HM3.out.kept B4); have HB4 := hidOf (HB3.out.trans (B4.mono HB3.out.size)); clear B4)
          | (go_at_call 10; refine (C3.out _ (by with_reducible assumption)).mono ?_; rintro e w5 ⟨rfl, HBo5, HB5⟩)
          | (go_at_call 12; refine (C4.out _ (by with_reducible assumption)).mono ?_; rintro e w6 ⟨rfl, HBo6, HB6⟩)
          | (go_at_call 13; with_reducible refine (C5.out _ (by with_reducible assumption)).mono ?_; rintro e w7 ⟨rfl, HBo7, HB7⟩)
          | (go_at_call 13; with_reducible refine (C6.out _ (by with_reducible assumption)).mono ?_; rintro e w8 ⟨rfl, HBo8, HB8⟩))
      have HZ : Hid (∃ T, Bo w1'.heap.size w1' w8 t r T (2 * (k + 1)) ∧ Cn T (i - 1) (8 * (k + 1))) := ⟨T', HBo8.out, HCn.out⟩
      have wk : IntKind.i64.wrap ((k : Int) + 1) = (k : Int) + 1 := by rw [IntKind.wrap_i64]; omega
      clear C1 C3 C4 C5 C6 HSH HBd HBW HCn HGD HM3 HB3 HM4 HB4 HBo5 HB5 HBo6 HB6 HBo7 HB7 HBo8 HB8 HN
      go_wp2_with fail
      go_roundw
      case rel => exact ⟨k + 1, by omega, by go_num, HZ⟩
      case measure => simp [intOf]; omega
    · have q1 : ¬ (k : Int) < l.length := by omega
      obtain ⟨T, L, _⟩ := H.out
      have HE := fin _ (HS.out.2.1.trans (L.bel.mono HS.out.2.1.size))
      clear H L
      go_wp2_with fail
      go_ret
      exact ⟨rfl, HE.out⟩
end Go.Proofs.YtlnjnimenihhnaaGreatDoor

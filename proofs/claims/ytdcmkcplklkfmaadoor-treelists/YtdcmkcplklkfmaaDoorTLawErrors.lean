/-
  TreeErrors.
-/
import Derived.Test.YtdcmkcplklkfmaaDoorTL2
import Derived.Test.YtdcmkcplklkfmaaDoorTFew
namespace Go.Proofs.YtdcmkcplklkfmaaDoor
open Go.RowKit Go.Maps Go.Sort

/-- An act's data lie below the law's blocks. -/
theorem dat_low {w : World} {dv : Value} {d : List Int} {t : Nat} (h : Bs w dv d) (ht : w.heap.size ≤ t) : ∀ a n c, dv = .slice (some a) n c → 0 < n → ¬ a.block = t := fun a n c e hn e2 => by
  rcases h with ⟨e3, _⟩ | ⟨a', c', e3, hl, hm, hcell⟩
  · rw [e3] at e; cases e
  · rw [e3] at e
    cases e
    have := World.block_lt_of_cell? w _ (hcell 0 hn)
    have h4 : (a.add 0).block = a.block := by unfold Addr.add; split <;> rfl
    rw [h4] at this
    omega
set_option maxHeartbeats 6400000 in
set_option maxRecDepth 100000 in
theorem law_errors (n : Int) (v : Value) (l : List AcD) (w : World) (hT : Tab w) (hv : Ops w v l) :
    Calls Tryd.prog 3 #[.int .i64 n, v] w fun e w' => e = .returned (.bool true) ∧ Chg (fun _ => False) w w' := by
  obtain ⟨va, vc, rfl⟩ := hv.form
  go_enter Tryd.func3, Tryd.ntmps3
  go_wp2_with fail
  refine (known_any w hT).mono ?_
  rintro e w1 ⟨rfl, B1⟩
  have fin : ∀ w', Below w.heap.size w w' → Hid (Chg (fun _ => False) w w') := fun w' h => Chg.ofBelowC h
  have HF := fin _ B1
  go_wp2_with fail
  refine (Few_any _ l w1 (hv.below B1)).mono ?_
  rintro e w1' ⟨h1, h2⟩
  obtain rfl := h1.out
  clear h1
  rcases h2 with rfl | ⟨rfl, HW⟩
  · go_wp2_with fail
    go_ret
    exact ⟨rfl, HF.out⟩
  by_cases hn0 : n < 0
  · go_wp2_with fail
    go_ret
    exact ⟨rfl, HF.out⟩
  by_cases hn1 : 200 < n
  · go_wp2_with fail
    go_ret
    exact ⟨rfl, HF.out⟩
  go_wp2_with fail
  refine (Lw.new n 12 w1' (tab_below hT B1) (by omega) (by omega) (by omega) (by omega)).mono ?_
  rintro e w2 ⟨t, rfl, L⟩
  have HL : Hid (Lw w1'.heap.size w1' w2 t (tr0 n (12 - 1)) 0 ∧ Below w.heap.size w w1') := ⟨L, B1⟩
  have HV : Hid (Ops w (.slice va l.length vc) l) := hv
  clear L B1 hv HF hn0 hn1
  go_wp2_with fail
  go_loopw [7, 8, 9, 10, 11, 12] (fun i _ _ _ _ _ wr => ∃ k : Nat, k ≤ l.length ∧ i = .int .i64 k ∧ Hid (∃ T, Lw w1'.heap.size w1' wr t T (2 * k))) (fun i _ _ _ _ _ _ => l.length - (intOf i).toNat)
  case atStart => exact ⟨0, Nat.zero_le _, rfl, _, HL.out.1⟩
  case round =>
    obtain ⟨k, hk, rfl, H⟩ := hrel
    by_cases hlt : k < l.length
    · have q1 : (k : Int) < l.length := by omega
      have hl150 : l.length ≤ 150 := HW.out.1
      obtain ⟨T, L⟩ := H.out
      have HL2 : Hid (Lw w1'.heap.size w1' wr t T (2 * k)) := L
      have HTw := L.twin (by omega)
      clear H L
      go_wp2_with fail
      refine HTw.mono ?_
      rintro e w3 ⟨u, rfl, L3, B3⟩
      have hfr := L3.fst.free
      have H3 : Hid (L2 w1'.heap.size w1' w3 t T u T (2 * k)) := L3
      obtain ⟨bl, hbl⟩ : ∃ b, T.bl = b := ⟨_, rfl⟩
      obtain ⟨ino, hino⟩ : ∃ b, T.ino = b := ⟨_, rfl⟩
      rw [hbl, hino] at hfr
      clear HTw L3 B3 HL2
      go_wp2_with fail
      refine hfr.mono ?_
      rintro e w4 ⟨rfl, B4⟩
      have L4 := H3.out.kept B4
      have BW : Below w.heap.size w w4 := HL.out.2.trans (L4.bel.mono HL.out.2.size)
      obtain ⟨b, off, rfl, hc⟩ := (HV.out.below BW).nth hlt
      have HX := HW.out.2 k hlt
      obtain ⟨b', off', e', hc'⟩ := HV.out.nth hlt
      cases e'
      obtain ⟨x, hx⟩ : ∃ x, Hid (l.getD k AcD.z = x) := ⟨_, rfl⟩
      rw [hx.out] at hc hc' HX
      obtain ⟨c0, c1, c2, c3, c4, c5, c6⟩ := hc
      obtain ⟨c, T', hr⟩ : ∃ c T', doR T x.o = (c, T') := ⟨_, _, rfl⟩
      have htN := L4.fst.tN.1
      have hlow := dat_low (t := t) hc'.2.2.2.2.2.1 (by have := HL.out.2.size; omega)
      have HD := (L4.do_ (by omega) x.o x.dv c5 c6 hlow (by omega) (by omega) hr).mono (fun e w' (h : e = .returned (.int .i64 c) ∧ L2 w1'.heap.size w1' w' t T' u T (2 * k + 2) ∧ Chg (fun b => w1'.heap.size ≤ b ∧ b < w4.heap.size) w4 w') => (⟨h.1, h.2.1⟩ : e = .returned (.int .i64 c) ∧ L2 w1'.heap.size w1' w' t T' u T (2 * k + 2)))
      have HS : Hid (¬ c = 0 → T' = T) := fun hc0 => by
        have := doR_same L4.fst.good x.o (by rw [hr]; exact hc0)
        rw [hr] at this
        exact this
      obtain ⟨da, dc, hdv⟩ := c5.form'
      rw [hdv] at c3 HD
      clear hfr H3 B4 L4 BW HX hc' c5 c6 hr htN hlow hdv
      go_wp2_with fail
      refine HD.mono ?_
      rintro e w5 ⟨rfl, L5⟩
      clear HD c0 c1 c2 c3 c4
      by_cases hc0 : c = 0
      · subst hc0
        have H5 : Hid (Lw w1'.heap.size w1' w5 t T' (2 * (k + 1))) := L5.fst
        clear L5 HS
        go_wp2_with fail
        go_roundw
        case rel => exact ⟨k + 1, by omega, by go_num, T', H5.out⟩
        case measure => simp [intOf]; omega
      · have hcd : decide (c = 0) = false := by simpa using hc0
        obtain rfl := HS.out hc0
        have hfr := L5.fst.free
        rw [hbl, hino] at hfr
        have H5 : Hid (L2 w1'.heap.size w1' w5 t T' u T' (2 * k + 2)) := L5
        clear L5 HS
        go_wp2_with fail
        refine hfr.mono ?_
        rintro e w6 ⟨rfl, B6⟩
        have L6 := H5.out.kept B6
        have hsm := L6.same (by omega)
        rw [eqB_refl] at hsm
        have H6 : Hid (L2 w1'.heap.size w1' w6 t T' u T' (2 * k + 2)) := L6
        clear hfr H5 B6 L6
        go_wp2_with fail
        refine hsm.mono ?_
        rintro e w7 ⟨rfl, B7⟩
        have H7 : Hid (Lw w1'.heap.size w1' w7 t T' (2 * (k + 1))) := (H6.out.kept B7).fst
        clear hsm H6 B7
        go_wp2_with fail
        go_roundw
        case rel => exact ⟨k + 1, by omega, by go_num, T', H7.out⟩
        case measure => simp [intOf]; omega
    · have q1 : ¬ (k : Int) < l.length := by omega
      obtain ⟨T, L⟩ := H.out
      have HF := fin _ (HL.out.2.trans (L.bel.mono HL.out.2.size))
      clear H L
      go_wp2_with fail
      go_ret
      exact ⟨rfl, HF.out⟩
end Go.Proofs.YtdcmkcplklkfmaaDoor

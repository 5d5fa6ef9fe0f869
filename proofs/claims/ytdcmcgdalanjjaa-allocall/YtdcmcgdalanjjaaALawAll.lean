/-
  AllocAll answers true for every two numbers and every slice of numbers.
-/
import Derived.Test.YtdcmcgdalanjjaaAKnown
namespace Go.Proofs.Ytdcmcgdalanjjaa
open Go.RowKit Go.Maps

/-- The place of y among n, as the law reckons it. -/
theorem place_mod (y : Int) (n : Nat) (hn : 1 ≤ n) : ∃ k : Nat, k < n ∧ ((¬ y.tmod (n : Int) < 0 ∧ y.tmod (n : Int) = (k : Int)) ∨ (y.tmod (n : Int) < 0 ∧ y.tmod (n : Int) + (n : Int) = (k : Int))) ∧ -(n : Int) < y.tmod (n : Int) ∧ y.tmod (n : Int) < (n : Int) := by
  have h1 : y.tmod (n : Int) < (n : Int) := Int.tmod_lt_of_pos _ (by omega)
  have h2 : -(n : Int) < y.tmod (n : Int) := Int.lt_tmod_of_pos _ (by omega)
  by_cases h : y.tmod (n : Int) < 0
  · exact ⟨(y.tmod (n : Int) + (n : Int)).toNat, by omega, .inr ⟨h, by omega⟩, h2, h1⟩
  · exact ⟨(y.tmod (n : Int)).toNat, by omega, .inl ⟨h, by omega⟩, h2, h1⟩

/-- A pool and a row of bools: which were given. -/
def Al (X : Nat → Prop) (w1 w : World) (pd pl q B F n g : Nat) (T R : Nat → Bool) : Prop :=
  Pq X w1 w pd pl q 15 (fun _ => zeros 512) (fun _ => none) 0 17 B 0 F n T ∧ Br w g n R ∧ X g ∧ B ≠ g ∧ w1.heap.size ≤ g
section
variable {X : Nat → Prop} {w1 w w' : World} {pd pl q B F n g : Nat} {T R : Nat → Bool}
theorem Al.more (h : Al X w1 w pd pl q B F n g T R) (hc : Chg (fun _ => False) w w') : Al X w1 w' pd pl q B F n g T R := ⟨h.1.more hc, h.2.1.kept hc h.2.1.lt (fun h => h), h.2.2⟩
theorem al_take (k : Nat) (h : Al X w1 w pd pl q B F n g T R) (hk : k < n) (hT : T k = false) (hall : ∀ j, j < k → T j = true) :
    Calls Try.prog 8 #[PV 0 F n, .pointer (some ⟨q, 0, none⟩)] w fun e w' => e = .returned (.tuple #[.int .i64 ((F + k : Nat) : Int), .int .i64 0]) ∧ Al X w1 w' pd pl q B F n g (upd T k true) R := by
  refine (pq_take k h.1 hk hT hall).mono ?_
  rintro e w' ⟨rfl, hp, hs⟩
  exact ⟨rfl, hp, h.2.1.sm hs h.2.2.1, h.2.2⟩
theorem al_give (k : Nat) (h : Al X w1 w pd pl q B F n g T R) (hk : k < n) (hT : T k = true) :
    Calls Try.prog 9 #[PV 0 F n, .pointer (some ⟨q, 0, none⟩), .int .i64 ((F + k : Nat) : Int)] w fun e w' => e = .returned (.int .i64 0) ∧ Al X w1 w' pd pl q B F n g (upd T k false) R := by
  refine (pq_give k h.1 hk hT).mono ?_
  rintro e w' ⟨rfl, hp, hs⟩
  exact ⟨rfl, hp, h.2.1.sm hs h.2.2.1, h.2.2⟩
theorem Al.set (h : Al X w1 w pd pl q B F n g T R) {k : Nat} (hk : k < n) (b : Bool) : Al X w1 (w.setCell ⟨g, k, none⟩ (.bool b)) pd pl q B F n g T (upd R k b) :=
  ⟨h.1.put h.2.2.1 h.2.2.2.2 h.2.2.2.1 (Chg.setCell (S := fun b => b = g) w ⟨g, k, none⟩ _ rfl), h.2.1.set hk b, h.2.2⟩
theorem Al.ext (h : Al X w1 w pd pl q B F n g T R) {U : Nat → Bool} (e : ∀ k, k < n → T k = U k) : Al X w1 w pd pl q B F n g U R := ⟨h.1.ext e, h.2⟩
end
theorem upd_not (R : Nat → Bool) (k j : Nat) : upd (fun j => !R j) k false j = !(upd R k true j) := by
  by_cases e : j = k
  · subst e; rw [upd_same, upd_same]; rfl
  · rw [upd_other _ _ e, upd_other _ _ e]
theorem upd_true_id {R : Nat → Bool} {k : Nat} (h : R k = true) (j : Nat) : upd R k true j = R j := by
  by_cases e : j = k
  · subst e; rw [upd_same, h]
  · rw [upd_other _ _ e]
/-- Those ahead of k are taken again. -/
def again (R : Nat → Bool) (k j : Nat) : Bool := if j < k then true else !R j
theorem again_next {R : Nat → Bool} {k : Nat} (h : R k = false) (j : Nat) : again R k j = again R (k + 1) j := by
  unfold again
  by_cases e : j = k
  · subst e; simp [h]
  · by_cases e2 : j < k
    · simp [e2, show j < k + 1 by omega]
    · simp [e2, show ¬ j < k + 1 by omega]
theorem again_take (R : Nat → Bool) (k j : Nat) : upd (again R k) k true j = again R (k + 1) j := by
  by_cases e : j = k
  · subst e; rw [upd_same]; unfold again; simp
  · rw [upd_other _ _ e]
    unfold again
    by_cases e2 : j < k
    · simp [e2, show j < k + 1 by omega]
    · simp [e2, show ¬ j < k + 1 by omega]

set_option maxHeartbeats 12800000 in
set_option maxRecDepth 100000 in
theorem law_all (n F : Int) (v : Value) (l : List Int) (w : World) (hv : Is w v l) :
    Calls Try.prog 3 #[.int .i64 n, .int .i64 F, v] w fun e w' => e = .returned (.bool true) ∧ Chg (fun _ => False) w w' := by
  obtain ⟨va, vc, rfl, hvc⟩ := hv.form
  have HI : Hid (Is w (.slice va l.length vc) l) := hv
  clear hv hvc
  have KN : Hid (Calls Try.prog 5 #[] w fun e w' => e = .returned (.bool true) ∧ Hid (Chg (fun _ => False) w w')) := (known_any w).mono (by rintro e w' ⟨rfl, h⟩; exact ⟨rfl, h⟩)
  by_cases g1 : n < 1
  · have k1 : decide (n < 1) = true := by simpa using g1
    go_enter Try.func3, Try.ntmps3
    go_wp2_with fail
    refine KN.out.mono ?_
    rintro e w1 ⟨rfl, HC⟩
    go_wp2
    go_ret
    exact ⟨rfl, HC.out⟩
  have k1 : decide (n < 1) = false := by simpa using g1
  by_cases g2 : 300 < n
  · have k2 : decide (300 < n) = true := by simpa using g2
    go_enter Try.func3, Try.ntmps3
    go_wp2_with fail
    refine KN.out.mono ?_
    rintro e w1 ⟨rfl, HC⟩
    go_wp2
    go_ret
    exact ⟨rfl, HC.out⟩
  have k2 : decide (300 < n) = false := by simpa using g2
  by_cases g3 : F < 0
  · have k3 : decide (F < 0) = true := by simpa using g3
    go_enter Try.func3, Try.ntmps3
    go_wp2_with fail
    refine KN.out.mono ?_
    rintro e w1 ⟨rfl, HC⟩
    go_wp2
    go_ret
    exact ⟨rfl, HC.out⟩
  have k3 : decide (F < 0) = false := by simpa using g3
  by_cases g4 : 1048576 < F
  · have k4 : decide (1048576 < F) = true := by simpa using g4
    go_enter Try.func3, Try.ntmps3
    go_wp2_with fail
    refine KN.out.mono ?_
    rintro e w1 ⟨rfl, HC⟩
    go_wp2
    go_ret
    exact ⟨rfl, HC.out⟩
  have k4 : decide (1048576 < F) = false := by simpa using g4
  by_cases g5 : 60 < l.length
  · have k5 : decide ((60 : Int) < (l.length : Int)) = true := by simp; omega
    go_enter Try.func3, Try.ntmps3
    go_wp2_with fail
    refine KN.out.mono ?_
    rintro e w1 ⟨rfl, HC⟩
    go_wp2
    go_ret
    exact ⟨rfl, HC.out⟩
  have k5 : decide ((60 : Int) < (l.length : Int)) = false := by simp; omega
  obtain ⟨n, rfl⟩ : ∃ n' : Nat, n = (n' : Int) := ⟨n.toNat, by omega⟩
  obtain ⟨F, rfl⟩ : ∃ F' : Nat, F = (F' : Int) := ⟨F.toNat, by omega⟩
  have n1 : 1 ≤ n := by omega
  have n2 : n ≤ 300 := by omega
  have f2 : F ≤ 1048576 := by omega
  have HPR : Hid (Pr 0 F n 15) := ⟨by omega, n1, by omega, by unfold mapsN; omega⟩
  have l1 : l.length ≤ 60 := by omega
  clear g1 g2 g3 g4 g5 KN
  have KN : Hid (Calls Try.prog 5 #[] w fun e w1 => e = .returned (.bool true) ∧ Hid (Chg (fun _ => False) w w1) ∧
      Hid (Calls Try.prog 6 #[.int .i64 80] w1 fun e w' => ∃ pd pl q, e = .returned (.tuple #[.pointer (some ⟨pl, 0, none⟩), .pointer (some ⟨q, 0, none⟩)]) ∧ Hid (TxUp (fun b => b < w1.heap.size) w1 w' pd pl q 15 (fun _ => zeros 512) (fun _ => none) 0 true (fun _ => none) 0 17))) := (known_any w).mono (by
    rintro e w1 ⟨rfl, h⟩
    exact ⟨rfl, h, made_any 15 w1 (by decide) (by decide)⟩)
  obtain ⟨ob, hmk, hbr⟩ := makeBools n (by omega)
  have HBR : Hid (∀ w : World, Br (w.alloc ob) w.heap.size n (fun _ => false)) := hbr
  clear hbr
  go_enter Try.func3, Try.ntmps3
  go_wp2_with fail
  refine KN.out.mono ?_
  clear KN
  rintro e w1 ⟨rfl, HC, MD⟩
  go_wp2_with fail
  refine MD.out.mono ?_
  clear MD
  rintro e w2 ⟨pd, pl, q, rfl, HT⟩
  have hq := eqT_some ⟨q, 0, none⟩
  have hv := (Tv.start HT.out (by decide) (by decide)).add (Chg.alloc (fun _ => False) w2 (PO 0 F n))
  have hbx := PAt.box w2 0 F n
  have HSZ : Hid (w1.heap.size ≤ w2.heap.size) := HT.out.chg.size
  have CL : Hid (Calls Try.prog 7 #[PV 0 F n, .pointer (some ⟨q, 0, none⟩)] (w2.alloc (PO 0 F n)) fun e w' => e = .returned (.int .i64 0) ∧ Hid (Pq _ w1 w' pd pl q 15 _ _ 0 17 w2.heap.size 0 F n (fun k => decide (k < 0)))) := (tv_clear hv hbx (box_in _ _ _) HPR.out).mono (by
    rintro e w' ⟨rfl, hp, _⟩
    exact ⟨rfl, hp.ext (fun k _ => by simp)⟩)
  obtain ⟨X, hX⟩ : ∃ X, addX (fun b => b < w1.heap.size) w2.heap.size (w2.alloc (PO 0 F n)).heap.size = X := ⟨_, rfl⟩
  rw [hX] at CL
  have p0 := hbx.c0
  have p1 := hbx.c1
  have p2 := hbx.c2
  clear hv HT hX hbx
  unfold PV PO at *
  go_wp2_with fail
  refine CL.out.mono ?_
  clear CL p0 p1 p2
  rintro e w3 ⟨rfl, H3⟩
  obtain ⟨B, hB⟩ : ∃ B, w2.heap.size = B := ⟨_, rfl⟩
  rw [hB] at H3 HSZ ⊢
  clear hB
  go_wp2
  go_loopw [10] (fun x wr => ∃ i, i ≤ n ∧ x = .int .i64 ((i : Nat) : Int) ∧ Hid (Pq X w1 wr pd pl q 15 (fun _ => zeros 512) (fun _ => none) 0 17 B 0 F n (fun k => decide (k < i)))) (fun x _ => n - (intOf x).toNat)
  case atStart => exact ⟨0, by omega, rfl, H3⟩
  case round =>
    obtain ⟨i, hi, rfl, HR⟩ := hrel
    clear H3
    have hbr := HR.out.at
    have p0 := hbr.c0
    have p1 := hbr.c1
    have p2 := hbr.c2
    clear hbr
    by_cases hin : i < n
    · have kin : (i : Int) < (n : Int) := by omega
      have TK : Hid (Calls Try.prog 8 #[PV 0 F n, .pointer (some ⟨q, 0, none⟩)] wr fun e w' => e = .returned (.tuple #[.int .i64 ((F : Int) + (i : Int)), .int .i64 0]) ∧ Hid (Pq X w1 w' pd pl q 15 (fun _ => zeros 512) (fun _ => none) 0 17 B 0 F n (fun k => decide (k < i + 1)))) := by
        rw [← Int.natCast_add]
        exact (pq_take i HR.out hin (by simp) (fun j hj => by simpa using hj)).mono (by
          rintro e w' ⟨rfl, hp, _⟩
          exact ⟨rfl, hp.ext (fun k _ => upd_lt i k)⟩)
      clear HR
      unfold PV at TK
      go_wp2_with fail
      refine TK.out.mono ?_
      clear TK
      rintro e w4 ⟨rfl, H4⟩
      go_wp2
      go_roundw
      case rel => exact ⟨i + 1, by omega, by go_num, H4⟩
      case measure => simp [intOf]; omega
    · have kin : ¬ ((i : Int) < (n : Int)) := by omega
      have FU : Hid (Calls Try.prog 8 #[PV 0 F n, .pointer (some ⟨q, 0, none⟩)] wr fun e w' => e = .returned (.tuple #[.int .i64 0, .int .i64 7]) ∧ Hid (Pq X w1 w' pd pl q 15 (fun _ => zeros 512) (fun _ => none) 0 17 B 0 F n (fun _ => true))) := (pq_full HR.out (fun j hj => by simp; omega)).mono (by
        rintro e w' ⟨rfl, hc⟩
        exact ⟨rfl, (HR.out.more hc).ext (fun k hk => by simp; omega)⟩)
      clear HR
      unfold PV at FU
      go_wp2_with fail
      refine FU.out.mono ?_
      clear FU p0 p1 p2 kin
      rintro e w4 ⟨rfl, H4⟩
      have h5 : Al (addX X w4.heap.size (w4.alloc ob).heap.size) w1 (w4.alloc ob) pd pl q B F n w4.heap.size (fun j => !((fun _ => false) j)) (fun _ => false) := ⟨H4.out.add (Chg.alloc (fun _ => False) w4 ob), HBR.out w4, .inr ⟨Nat.le_refl _, by simp⟩, by have := H4.out.xB; omega, by have := H4.out.chg.size; omega⟩
      obtain ⟨Y, hY⟩ : ∃ Y, addX X w4.heap.size (w4.alloc ob).heap.size = Y := ⟨_, rfl⟩
      rw [hY] at h5
      have H5 : Hid (Al Y w1 (w4.alloc ob) pd pl q B F n w4.heap.size (fun j => !((fun _ => false) j)) (fun _ => false) ∧ 0 = cntT (fun _ => false) n) := ⟨h5, (cntT_none (fun _ _ => rfl)).symm⟩
      clear h5 hY H4
      obtain ⟨g, hg⟩ : ∃ g, w4.heap.size = g := ⟨_, rfl⟩
      rw [hg] at H5
      have HG : Hid (w4.heap.size = g) := hg
      clear hg
      go_wp2
      rw [HG.out]
      go_loopw [17, 16] (fun x xc wr => ∃ i c R, i ≤ l.length ∧ c ≤ n ∧ x = .int .i64 ((i : Nat) : Int) ∧ xc = .int .i64 ((c : Nat) : Int) ∧ Hid (Al Y w1 wr pd pl q B F n g (fun j => !R j) R ∧ c = cntT R n)) (fun x _ _ => l.length - (intOf x).toNat)
      case atStart => exact ⟨0, 0, _, by omega, by omega, rfl, rfl, H5⟩
      case round =>
        obtain ⟨i, c, R, hi, hcn, rfl, rfl, HS⟩ := hrel
        clear H5
        by_cases hil : i < l.length
        · have kil : (i : Int) < (l.length : Int) := by omega
          have hls : Is wr (.slice va l.length vc) l := HI.out.kept (HC.out.trans HS.out.1.1.chg (fun _ _ h => h)) (fun _ _ h => h)
          obtain ⟨bk, off, hva, hcs⟩ := hls.nth hil
          have hc := hcs i hil
          have HV : Hid (va = some ⟨bk, off, none⟩) := hva
          subst hva
          clear hls hcs
          generalize l.getD i 0 = y at hc
          obtain ⟨k, hk, hcase, hm1, hm2⟩ := place_mod y n n1
          have hnz : ¬ (n : Int) = 0 := by omega
          have hba := HS.out.1.1.at
          have p0 := hba.c0
          have p1 := hba.c1
          have p2 := hba.c2
          clear hba
          have cR := HS.out.1.2.1.cell hk
          have x0 := cR.1
          have x1 := cR.2
          clear cR
          obtain ⟨fk, hfk⟩ : ∃ fk, F + k = fk := ⟨_, rfl⟩
          have efk : (F : Int) + (k : Int) = (fk : Int) := by omega
          cases hR : R k with
          | false =>
            have GV : Hid (Calls Try.prog 9 #[PV 0 F n, .pointer (some ⟨q, 0, none⟩), .int .i64 (fk : Int)] wr fun e w' => e = .returned (.int .i64 0) ∧ w'.cell? ⟨g, k, none⟩ = some (.bool false) ∧ w'.frozen? ⟨g, k, none⟩ = false ∧ Hid (Al Y w1 (w'.setCell ⟨g, k, none⟩ (.bool true)) pd pl q B F n g (fun j => !(upd R k true j)) (upd R k true) ∧ c + 1 = cntT (upd R k true) n)) := by
              have h := al_give k HS.out.1 hk (by simp [hR])
              rw [hfk] at h
              refine h.mono ?_
              rintro e w' ⟨rfl, ha⟩
              have cr := ha.2.1.cell hk
              rw [hR] at cr
              exact ⟨rfl, cr.1, cr.2, (ha.set hk true).ext (fun j _ => upd_not R k j), by rw [cntT_set hR hk, ← HS.out.2]⟩
            have hcl : c + 1 ≤ n := by
              have h := cntT_le (upd R k true) n
              rw [cntT_set hR hk, ← HS.out.2] at h
              exact h
            rw [hR] at x0
            clear HS hfk
            unfold PV at GV
            rcases hcase with ⟨hneg, hkk⟩ | ⟨hneg, hkk⟩
            · have kneg : decide (y.tmod (n : Int) < 0) = false := by simpa using hneg
              go_wp2_with fail
              refine GV.out.mono ?_
              clear GV p0 p1 p2
              rintro e w5 ⟨rfl, c5, f5, H6⟩
              clear x0 x1
              go_wp2
              go_roundw
              case rel => exact ⟨i + 1, c + 1, _, by omega, hcl, by go_num, by go_num, H6⟩
              case measure => simp [intOf]; omega
            · have kneg : decide (y.tmod (n : Int) < 0) = true := by simpa using hneg
              go_wp2_with fail
              refine GV.out.mono ?_
              clear GV p0 p1 p2
              rintro e w5 ⟨rfl, c5, f5, H6⟩
              clear x0 x1
              go_wp2
              go_roundw
              case rel => exact ⟨i + 1, c + 1, _, by omega, hcl, by go_num, by go_num, H6⟩
              case measure => simp [intOf]; omega
          | true =>
            have GV : Hid (Calls Try.prog 9 #[PV 0 F n, .pointer (some ⟨q, 0, none⟩), .int .i64 (fk : Int)] wr fun e w' => e = .returned (.int .i64 1) ∧ w'.cell? ⟨g, k, none⟩ = some (.bool true) ∧ w'.frozen? ⟨g, k, none⟩ = false ∧ Hid (Al Y w1 (w'.setCell ⟨g, k, none⟩ (.bool true)) pd pl q B F n g (fun j => !(upd R k true j)) (upd R k true) ∧ c = cntT (upd R k true) n)) := by
              have h := pq_give_free k HS.out.1.1 hk (by simp [hR])
              rw [hfk] at h
              refine h.mono ?_
              rintro e w' ⟨rfl, hch⟩
              have ha := HS.out.1.more hch
              have cr := ha.2.1.cell hk
              rw [hR] at cr
              exact ⟨rfl, cr.1, cr.2, (ha.set hk true).ext (fun j _ => by rw [upd_true_id hR]), HS.out.2.trans (cntT_congr (fun j _ => (upd_true_id hR j).symm))⟩
            rw [hR] at x0
            clear HS hfk
            unfold PV at GV
            rcases hcase with ⟨hneg, hkk⟩ | ⟨hneg, hkk⟩
            · have kneg : decide (y.tmod (n : Int) < 0) = false := by simpa using hneg
              go_wp2_with fail
              refine GV.out.mono ?_
              clear GV p0 p1 p2
              rintro e w5 ⟨rfl, c5, f5, H6⟩
              clear x0 x1
              go_wp2
              go_roundw
              case rel => exact ⟨i + 1, c, _, by omega, hcn, by go_num, rfl, H6⟩
              case measure => simp [intOf]; omega
            · have kneg : decide (y.tmod (n : Int) < 0) = true := by simpa using hneg
              go_wp2_with fail
              refine GV.out.mono ?_
              clear GV p0 p1 p2
              rintro e w5 ⟨rfl, c5, f5, H6⟩
              clear x0 x1
              go_wp2
              go_roundw
              case rel => exact ⟨i + 1, c, _, by omega, hcn, by go_num, rfl, H6⟩
              case measure => simp [intOf]; omega
        · have kil : ¬ ((i : Int) < (l.length : Int)) := by omega
          have H7 : Hid (Al Y w1 wr pd pl q B F n g (again R 0) R) := HS.out.1.ext (fun j _ => by unfold again; simp)
          clear HS
          go_wp2
          go_loopw [20] (fun x wr => ∃ k, k ≤ n ∧ x = .int .i64 ((k : Nat) : Int) ∧ Hid (Al Y w1 wr pd pl q B F n g (again R k) R)) (fun x _ => n - (intOf x).toNat)
          case atStart => exact ⟨0, by omega, rfl, H7⟩
          case round =>
            obtain ⟨k, hkn, rfl, HU⟩ := hrel
            clear H7
            have hba := HU.out.1.at
            have p0 := hba.c0
            have p1 := hba.c1
            have p2 := hba.c2
            clear hba
            by_cases hk : k < n
            · have kk : (k : Int) < (n : Int) := by omega
              have x0 := (HU.out.2.1.cell hk).1
              cases hR : R k with
              | true =>
                rw [hR] at x0
                have TK : Hid (Calls Try.prog 8 #[PV 0 F n, .pointer (some ⟨q, 0, none⟩)] wr fun e w' => e = .returned (.tuple #[.int .i64 ((F : Int) + (k : Int)), .int .i64 0]) ∧ Hid (Al Y w1 w' pd pl q B F n g (again R (k + 1)) R)) := by
                  rw [← Int.natCast_add]
                  exact (al_take k HU.out hk (by unfold again; simp [hR]) (fun j hj => by unfold again; simp [hj])).mono (by
                    rintro e w' ⟨rfl, ha⟩
                    exact ⟨rfl, ha.ext (fun j _ => again_take R k j)⟩)
                clear HU
                unfold PV at TK
                go_wp2_with fail
                refine TK.out.mono ?_
                clear TK
                rintro e w6 ⟨rfl, H8⟩
                go_wp2
                go_roundw
                case rel => exact ⟨k + 1, by omega, by go_num, H8⟩
                case measure => simp [intOf]; omega
              | false =>
                rw [hR] at x0
                have H8 : Hid (Al Y w1 wr pd pl q B F n g (again R (k + 1)) R) := HU.out.ext (fun j _ => again_next hR j)
                clear HU
                go_wp2
                go_roundw
                case rel => exact ⟨k + 1, by omega, by go_num, H8⟩
                case measure => simp [intOf]; omega
            · have kk : ¬ ((k : Int) < (n : Int)) := by omega
              have FR : Hid (Calls Try.prog 10 #[PV 0 F n, .pointer (some ⟨q, 0, none⟩)] wr fun e w' => e = .returned (.tuple #[.int .i64 0, .int .i64 0]) ∧ Hid (Chg (fun _ => False) w w')) := by
                have h := pq_free HU.out.1
                rw [cntT_all (fun j hj => by unfold again; simp [show j < k by omega]), Nat.sub_self] at h
                refine h.mono ?_
                rintro e w' ⟨rfl, hch⟩
                exact ⟨rfl, (HC.out.trans HU.out.1.chg (fun _ _ h => h)).trans hch (fun _ _ h => h)⟩
              clear HU
              unfold PV at FR
              go_wp2_with fail
              refine FR.out.mono ?_
              clear FR
              rintro e w6 ⟨rfl, HZ⟩
              have kcn : (c : Int) ≤ (n : Int) := by omega
              go_wp2
              go_ret
              exact ⟨rfl, HZ.out⟩
end Go.Proofs.Ytdcmcgdalanjjaa

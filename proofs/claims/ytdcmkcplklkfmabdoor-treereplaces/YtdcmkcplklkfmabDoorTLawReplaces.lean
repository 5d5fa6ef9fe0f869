/-
  TreeReplaces.
-/
import Derived.Test.YtdcmkcplklkfmabDoorTReplP
namespace Go.Proofs.YtdcmkcplklkfmabDoor
open Go.RowKit Go.Maps Go.Sort

theorem Bs.blk {w : World} {a : Addr} {n c : Nat} {xs : List Int} (h : Bs w (.slice (some a) n c) xs) (h0 : 0 < n) : a.block < w.heap.size := by
  rcases h with ⟨e, _⟩ | ⟨a', c', e, h1, h2, h3⟩
  · cases e
  · cases e
    have := h3 0 h0
    have h4 := World.block_lt_of_cell? w _ this
    have e : (a.add 0).block = a.block := by unfold Addr.add; split <;> rfl
    rwa [e] at h4
theorem s3bd (a : List Int) (h : a.length ≤ 5000) : 0 ≤ (sT3 a).bl ∧ (sT3 a).bl ≤ 100 ∧ 0 ≤ (sT3 a).ino ∧ (sT3 a).ino ≤ 100 := by
  have c := allN_small a.length h
  have h1 : (sT3 a).ino = 18 := s2in
  have h2 : (sT3 a).bl = 99 - allN a.length := by show sT2.bl - allN a.length = _; rw [s2bl]
  omega
theorem o3bd (a : List Int) (h : a.length ≤ 5000) : 0 ≤ (oT3 a).bl ∧ (oT3 a).bl ≤ 100 ∧ 0 ≤ (oT3 a).ino ∧ (oT3 a).ino ≤ 100 := by
  have c := allN_small a.length h
  have h1 : (oT3 a).ino = 17 := o2in
  have h2 : (oT3 a).bl = 99 - allN a.length := by show oT2.bl - allN a.length = _; rw [o2bl]
  omega
set_option maxHeartbeats 6400000 in
set_option maxRecDepth 100000 in
theorem law_replaces (va vb : Value) (s : Bool) (xs ys : List Int) (w : World) (hT : Tab w) (ha : Bs w va xs) (hA : IsB xs) (hb : Bs w vb ys) (hB : IsB ys) :
    Calls Tryd.prog 5 #[va, vb, .bool s] w fun e w' => e = .returned (.bool true) ∧ Chg (fun _ => False) w w' := by
  obtain ⟨a0, c0, rfl⟩ := ha.form'
  obtain ⟨a1, c1, rfl⟩ := hb.form'
  go_enter Tryd.func5, Tryd.ntmps5
  go_wp2_with fail
  refine (known_any w hT).mono ?_
  rintro e w1 ⟨rfl, B1⟩
  have fin : ∀ w', Below w.heap.size w w' → Hid (Chg (fun _ => False) w w') := fun w' h => Chg.ofBelowC h
  by_cases h1 : 5000 < xs.length
  · have H := fin _ B1
    have q : (5000 : Int) < xs.length := by omega
    go_wp2_with fail
    go_ret
    exact ⟨rfl, H.out⟩
  have q1 : ¬ (5000 : Int) < xs.length := by omega
  by_cases h2 : 5000 < ys.length
  · have H := fin _ B1
    have q : (5000 : Int) < ys.length := by omega
    go_wp2_with fail
    go_ret
    exact ⟨rfl, H.out⟩
  have q2 : ¬ (5000 : Int) < ys.length := by omega
  have la : xs.length ≤ 5000 := by omega
  have lb : ys.length ≤ 5000 := by omega
  clear h1 h2
  have HAB : Hid (Bs w (.slice a0 xs.length c0) xs ∧ IsB xs ∧ Bs w (.slice a1 ys.length c1) ys ∧ IsB ys ∧ xs.length ≤ 5000 ∧ ys.length ≤ 5000) := ⟨ha, hA, hb, hB, la, lb⟩
  clear ha hA hb hB la lb
  have APP : ∀ (wk : World) (t : Nat) (T T' : Ts) (K : Nat) (p : ByteArray) (c : Int), K ≤ 1000 → Lw w1.heap.size w1 wk t T K → p.size ≤ 3000 →
      (doR T ⟨3, p, ⟨#[]⟩, xs, 0⟩ = (c, T') → Hid (Calls Tryd.prog 8 #[ptr t, .agg #[.int .i64 3, .string p, .string ⟨#[]⟩, .slice a0 xs.length c0, .int .i64 0]] wk fun e w' => e = .returned (.int .i64 c) ∧ Lw w1.heap.size w1 w' t T' (K + 2))) ∧
      (doR T ⟨3, p, ⟨#[]⟩, ys, 0⟩ = (c, T') → Hid (Calls Tryd.prog 8 #[ptr t, .agg #[.int .i64 3, .string p, .string ⟨#[]⟩, .slice a1 ys.length c1, .int .i64 0]] wk fun e w' => e = .returned (.int .i64 c) ∧ Lw w1.heap.size w1 w' t T' (K + 2))) := by
    intro wk t T T' K p c hK L hp
    have Bk : Below w.heap.size w wk := B1.trans (L.bel.mono B1.size)
    have ht := L.tN.1
    have hz := B1.size
    obtain ⟨x1, x2, x3, x4, _⟩ := HAB.out
    refine ⟨fun hr => ?_, fun hr => ?_⟩
    · refine (L.do_ (by omega) ⟨3, p, ⟨#[]⟩, xs, 0⟩ (.slice a0 xs.length c0) (x1.kept (Chg.ofBelowC Bk) (fun _ _ _ _ _ h => h)) x2 (fun a n c e h0 => ?_) hp (show (⟨#[]⟩ : ByteArray).size ≤ 3000 by decide) hr).mono (fun e w' h => ⟨h.1, h.2.1⟩)
      cases e
      have := x1.blk h0
      omega
    · refine (L.do_ (by omega) ⟨3, p, ⟨#[]⟩, ys, 0⟩ (.slice a1 ys.length c1) (x3.kept (Chg.ofBelowC Bk) (fun _ _ _ _ _ h => h)) x4 (fun a n c e h0 => ?_) hp (show (⟨#[]⟩ : ByteArray).size ≤ 3000 by decide) hr).mono (fun e w' h => ⟨h.1, h.2.1⟩)
      cases e
      have := x3.blk h0
      omega
  have NIL : ∀ (wk : World) (t : Nat) (T T' : Ts) (K : Nat) (k : Int) (p q : ByteArray) (c : Int), K ≤ 1000 → Lw w1.heap.size w1 wk t T K → p.size ≤ 3000 → q.size ≤ 3000 → doR T ⟨k, p, q, [], 0⟩ = (c, T') → Hid (Calls Tryd.prog 8 #[ptr t, .agg #[.int .i64 k, .string p, .string q, .slice none 0 0, .int .i64 0]] wk fun e w' => e = .returned (.int .i64 c) ∧ Lw w1.heap.size w1 w' t T' (K + 2)) := fun wk t T T' K k p q c hK L hp hq hr => (L.donil (by omega) k p q hp hq hr).mono (fun e w' h => ⟨h.1, h.2.1⟩)
  have HN : Hid (Calls Tryd.prog 7 #[.int .i64 100, .int .i64 20] w1 fun e w' => ∃ t, e = .returned (.tuple #[ptr t, .int .i64 0]) ∧ Lw w1.heap.size w1 w' t (tr0 100 19) 0) := Lw.new 100 20 w1 (tab_below hT B1) (by omega) (by omega) (by omega) (by omega)
  have HB1 : Hid (Below w.heap.size w w1) := B1
  clear B1
  cases s
  · skip
    go_wp2_with fail
    refine HN.out.mono ?_
    clear HN
    rintro e w2 ⟨t, rfl, L⟩
    have H2 : Hid (Lw w1.heap.size w1 w2 t (tr0 100 19) 0) := L
    clear L
    have HC := NIL w2 t (tr0 100 19) (oT1) 0 2 ⟨#[47, 100]⟩ ⟨#[]⟩ 0 (by omega) H2.out (by decide) (by decide) o0
    clear H2
    go_wp2_with fail
    refine HC.out.mono ?_
    clear HC
    rintro e w3 ⟨rfl, L⟩
    have H3 : Hid (Lw w1.heap.size w1 w3 t (oT1) 2) := L
    clear L
    have HC := NIL w3 t (oT1) (oT2) 2 1 ⟨#[47, 120]⟩ ⟨#[]⟩ 0 (by omega) H3.out (by decide) (by decide) o1
    clear H3
    go_wp2_with fail
    refine HC.out.mono ?_
    clear HC
    rintro e w4 ⟨rfl, L⟩
    have H4 : Hid (Lw w1.heap.size w1 w4 t (oT2) 4) := L
    clear L
    have HC := (APP w4 t oT2 (oT3 xs) 4 ⟨#[47, 120]⟩ 0 (by omega) H4.out (by decide)).1 (o2 xs HAB.out.2.2.2.2.1)
    clear H4
    go_wp2_with fail
    refine HC.out.mono ?_
    clear HC
    rintro e w5 ⟨rfl, L⟩
    have H5 : Hid (Lw w1.heap.size w1 w5 t (oT3 xs) 6) := L
    clear L
    have HF : Hid (Calls Tryd.prog 9 #[ptr t] w5 fun e w' => e = .returned (.tuple #[.int .i64 (oT3 xs).bl, .int .i64 (oT3 xs).ino]) ∧ Lw w1.heap.size w1 w' t (oT3 xs) 6) := H5.out.free.mono (fun e w' h => ⟨h.1, H5.out.kept h.2⟩)
    have bd := o3bd xs HAB.out.2.2.2.2.1
    obtain ⟨X, hX⟩ : ∃ X, Hid ((oT3 xs).bl = X) := ⟨_, rfl⟩
    obtain ⟨Y, hY⟩ : ∃ Y, Hid ((oT3 xs).ino = Y) := ⟨_, rfl⟩
    rw [hX.out, hY.out] at HF bd
    obtain ⟨bd1, bd2, bd3, bd4⟩ := bd
    clear H5
    go_wp2_with fail
    refine HF.out.mono ?_
    clear HF
    rintro e w6 ⟨rfl, L⟩
    have H6 : Hid (Lw w1.heap.size w1 w6 t (oT3 xs) 6) := L
    clear L
    have HC := NIL w6 t (oT3 xs) (oT4 xs) 6 1 ⟨#[47, 100, 47, 121]⟩ ⟨#[]⟩ 0 (by omega) H6.out (by decide) (by decide) (o3 xs HAB.out.2.2.2.2.1)
    clear H6
    go_wp2_with fail
    refine HC.out.mono ?_
    clear HC
    rintro e w7 ⟨rfl, L⟩
    have H7 : Hid (Lw w1.heap.size w1 w7 t (oT4 xs) 8) := L
    clear L
    have HC := (APP w7 t (oT4 xs) (oT5 xs ys) 8 ⟨#[47, 100, 47, 121]⟩ 0 (by omega) H7.out (by decide)).2 (o4 xs ys HAB.out.2.2.2.2.1 HAB.out.2.2.2.2.2)
    clear H7
    go_wp2_with fail
    refine HC.out.mono ?_
    clear HC
    rintro e w8 ⟨rfl, L⟩
    have H8 : Hid (Lw w1.heap.size w1 w8 t (oT5 xs ys) 10) := L
    clear L
    have HC := NIL w8 t (oT5 xs ys) (oT6 xs ys) 10 7 ⟨#[47, 120]⟩ ⟨#[47, 100, 47, 121]⟩ 0 (by omega) H8.out (by decide) (by decide) (o5 xs ys HAB.out.2.2.2.2.1 HAB.out.2.2.2.2.2)
    clear H8
    go_wp2_with fail
    refine HC.out.mono ?_
    clear HC
    rintro e w9 ⟨rfl, L⟩
    have H9 : Hid (Lw w1.heap.size w1 w9 t (oT6 xs ys) 12) := L
    clear L
    have HC := H9.out.read (s := ⟨#[47, 100, 47, 121]⟩) (by decide) (o6 xs ys).1 (o6 xs ys).2.1
    go_wp2_with fail
    refine HC.mono ?_
    clear HC
    rintro e wA ⟨v, rfl, hv, BA⟩
    have HA : Hid (Lw w1.heap.size w1 wA t (oT6 xs ys) 12 ∧ Bs wA v xs) := ⟨H9.out.kept BA, Bs.ofOwns hv⟩
    obtain ⟨av, cv, rfl⟩ := own_form' hv
    clear H9 hv BA
    have HC := HA.out.1.statno (s := ⟨#[47, 120]⟩) (by decide) (o6 xs ys).2.2 (by decide)
    go_wp2_with fail
    refine HC.mono ?_
    clear HC
    rintro e wB ⟨rfl, BB⟩
    have BB2 := BB.trans ((below_alloc wB (inO false 0 0)).mono BB.size)
    have HBB : Hid (Lw w1.heap.size w1 (wB.alloc (inO false 0 0)) t (oT6 xs ys) 12 ∧ Bs (wB.alloc (inO false 0 0)) (.slice av xs.length cv) xs) := ⟨HA.out.1.kept BB2, HA.out.2.kept (Chg.ofBelowC BB2) (fun _ _ _ _ _ h => h)⟩
    clear HA BB BB2
    have HC := HBB.out.1.free
    rw [(o7 xs ys).1, (o7 xs ys).2, hX.out, hY.out] at HC
    go_wp2_with fail
    refine HC.mono ?_
    clear HC
    rintro e wC ⟨rfl, BC⟩
    have LC := HBB.out.1.kept BC
    have BE : Below w.heap.size w wC := HB1.out.trans (LC.bel.mono HB1.out.size)
    obtain ⟨Z, hZ⟩ : ∃ Z, Hid (strC xs = Z) := ⟨_, rfl⟩
    have hr1 := run_strC (HBB.out.2.kept (Chg.ofBelowC BC) (fun _ _ _ _ _ h => h))
    have hr2 := run_strC (HAB.out.1.kept (Chg.ofBelowC BE) (fun _ _ _ _ _ h => h))
    rw [hZ.out] at hr1 hr2
    have HE := fin _ BE
    clear LC BE HBB BC APP NIL hZ
    go_wp2_with fail
    go_ret
    exact ⟨rfl, HE.out⟩
  · skip
    go_wp2_with fail
    refine HN.out.mono ?_
    clear HN
    rintro e w2 ⟨t, rfl, L⟩
    have H2 : Hid (Lw w1.heap.size w1 w2 t (tr0 100 19) 0) := L
    clear L
    have HC := NIL w2 t (tr0 100 19) (sT2) 0 1 ⟨#[47, 120]⟩ ⟨#[]⟩ 0 (by omega) H2.out (by decide) (by decide) s1
    clear H2
    go_wp2_with fail
    refine HC.out.mono ?_
    clear HC
    rintro e w3 ⟨rfl, L⟩
    have H3 : Hid (Lw w1.heap.size w1 w3 t (sT2) 2) := L
    clear L
    have HC := (APP w3 t sT2 (sT3 xs) 2 ⟨#[47, 120]⟩ 0 (by omega) H3.out (by decide)).1 (s2 xs HAB.out.2.2.2.2.1)
    clear H3
    go_wp2_with fail
    refine HC.out.mono ?_
    clear HC
    rintro e w4 ⟨rfl, L⟩
    have H4 : Hid (Lw w1.heap.size w1 w4 t (sT3 xs) 4) := L
    clear L
    have HF : Hid (Calls Tryd.prog 9 #[ptr t] w4 fun e w' => e = .returned (.tuple #[.int .i64 (sT3 xs).bl, .int .i64 (sT3 xs).ino]) ∧ Lw w1.heap.size w1 w' t (sT3 xs) 4) := H4.out.free.mono (fun e w' h => ⟨h.1, H4.out.kept h.2⟩)
    have bd := s3bd xs HAB.out.2.2.2.2.1
    obtain ⟨X, hX⟩ : ∃ X, Hid ((sT3 xs).bl = X) := ⟨_, rfl⟩
    obtain ⟨Y, hY⟩ : ∃ Y, Hid ((sT3 xs).ino = Y) := ⟨_, rfl⟩
    rw [hX.out, hY.out] at HF bd
    obtain ⟨bd1, bd2, bd3, bd4⟩ := bd
    clear H4
    go_wp2_with fail
    refine HF.out.mono ?_
    clear HF
    rintro e w5 ⟨rfl, L⟩
    have H5 : Hid (Lw w1.heap.size w1 w5 t (sT3 xs) 4) := L
    clear L
    have HC := NIL w5 t (sT3 xs) (sT4 xs) 4 1 ⟨#[47, 121]⟩ ⟨#[]⟩ 0 (by omega) H5.out (by decide) (by decide) (s3 xs HAB.out.2.2.2.2.1)
    clear H5
    go_wp2_with fail
    refine HC.out.mono ?_
    clear HC
    rintro e w6 ⟨rfl, L⟩
    have H6 : Hid (Lw w1.heap.size w1 w6 t (sT4 xs) 6) := L
    clear L
    have HC := (APP w6 t (sT4 xs) (sT5 xs ys) 6 ⟨#[47, 121]⟩ 0 (by omega) H6.out (by decide)).2 (s4 xs ys HAB.out.2.2.2.2.1 HAB.out.2.2.2.2.2)
    clear H6
    go_wp2_with fail
    refine HC.out.mono ?_
    clear HC
    rintro e w7 ⟨rfl, L⟩
    have H7 : Hid (Lw w1.heap.size w1 w7 t (sT5 xs ys) 8) := L
    clear L
    have HC := NIL w7 t (sT5 xs ys) (sT6 xs ys) 8 7 ⟨#[47, 120]⟩ ⟨#[47, 121]⟩ 0 (by omega) H7.out (by decide) (by decide) (s5 xs ys HAB.out.2.2.2.2.1 HAB.out.2.2.2.2.2)
    clear H7
    go_wp2_with fail
    refine HC.out.mono ?_
    clear HC
    rintro e w8 ⟨rfl, L⟩
    have H8 : Hid (Lw w1.heap.size w1 w8 t (sT6 xs ys) 10) := L
    clear L
    have HC := H8.out.read (s := ⟨#[47, 121]⟩) (by decide) (s6 xs ys).1 (s6 xs ys).2.1
    go_wp2_with fail
    refine HC.mono ?_
    clear HC
    rintro e wA ⟨v, rfl, hv, BA⟩
    have HA : Hid (Lw w1.heap.size w1 wA t (sT6 xs ys) 10 ∧ Bs wA v xs) := ⟨H8.out.kept BA, Bs.ofOwns hv⟩
    obtain ⟨av, cv, rfl⟩ := own_form' hv
    clear H8 hv BA
    have HC := HA.out.1.statno (s := ⟨#[47, 120]⟩) (by decide) (s6 xs ys).2.2 (by decide)
    go_wp2_with fail
    refine HC.mono ?_
    clear HC
    rintro e wB ⟨rfl, BB⟩
    have BB2 := BB.trans ((below_alloc wB (inO false 0 0)).mono BB.size)
    have HBB : Hid (Lw w1.heap.size w1 (wB.alloc (inO false 0 0)) t (sT6 xs ys) 10 ∧ Bs (wB.alloc (inO false 0 0)) (.slice av xs.length cv) xs) := ⟨HA.out.1.kept BB2, HA.out.2.kept (Chg.ofBelowC BB2) (fun _ _ _ _ _ h => h)⟩
    clear HA BB BB2
    have HC := HBB.out.1.free
    rw [(s7 xs ys).1, (s7 xs ys).2, hX.out, hY.out] at HC
    go_wp2_with fail
    refine HC.mono ?_
    clear HC
    rintro e wC ⟨rfl, BC⟩
    have LC := HBB.out.1.kept BC
    have BE : Below w.heap.size w wC := HB1.out.trans (LC.bel.mono HB1.out.size)
    obtain ⟨Z, hZ⟩ : ∃ Z, Hid (strC xs = Z) := ⟨_, rfl⟩
    have hr1 := run_strC (HBB.out.2.kept (Chg.ofBelowC BC) (fun _ _ _ _ _ h => h))
    have hr2 := run_strC (HAB.out.1.kept (Chg.ofBelowC BE) (fun _ _ _ _ _ h => h))
    rw [hZ.out] at hr1 hr2
    have HE := fin _ BE
    clear LC BE HBB BC APP NIL hZ
    go_wp2_with fail
    go_ret
    exact ⟨rfl, HE.out⟩
end Go.Proofs.YtdcmkcplklkfmabDoor

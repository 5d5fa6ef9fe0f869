/-
  The document's tree: Create, Mkdir.
-/
import Derived.Test.YtlnjnimenihhnaaGreatDoorVTie4
namespace Go.Proofs.YtlnjnimenihhnaaGreatDoor
open Go.RowKit Go.Maps

set_option maxHeartbeats 6400000 in
set_option maxRecDepth 100000 in
theorem rmake_ok {r q m k _K : Nat} {G : Nat → Prop} {R : Rs} {es : List En} {s : Nat} {kn : List ByteArray} {f : ByteArray → Nat} {x : ByteArray} (n N1 c b0 off : Nat) (hN1 : N1 = n + 1) (d : Bool) (w : World) (hbr : ¬ b0 = r) (hbq : ¬ b0 = q) (h : Rt w r q G R) (cx : w.cell? ⟨b0, off + n, none⟩ = some (.string x)) (hn : n ≤ 1000) (hnc : n < c) (hm : R.at m = .dir es) (hS : Sl es s kn f) (hx : nameB x = true) (hk : ¬ x ∈ kn) (hP : Spo es s kn f x k) (hl : R.L.length ≤ 60001) (hel : es.length ≤ 60000)
    (hb : 0 ≤ R.bl ∧ R.bl ≤ 10000000000) (hi : 0 < R.ino ∧ R.ino ≤ 1000000) (hf : furB s kn.length ≤ R.bl)
    (HW : Calls Tryz.prog 59 #[ptr r, .slice (some ⟨b0, off, none⟩) n c] w fun e w' => e = .returned (.tuple #[.int .i64 (m : Nat), .int .i64 0]) ∧ Below w.heap.size w w') :
    Calls Tryz.prog 31 #[ptr r, .slice (some ⟨b0, off, none⟩) N1 c, .bool d] w fun e w' => e = .returned (.int .i64 0) ∧ Hid (Rto w w' r q G ⟨(frL R.L (newTh d)).set m (.dir (puE k es x ((frN R.L : Nat) + 1))), R.bl - furB s kn.length, R.ino - 1⟩) := by
  have hx1 : 1 ≤ x.size := (nameB_parts hx).1
  have hll := Sl.len hS
  have hfb := furB_bd s kn.length
  have hmg : ¬ R.at m = .gone := by rw [hm]; simp
  have hno : IdxN es x (-1) := hS.idxNo hx1 hk
  obtain ⟨hml, cc, a1, d1, cL, c0, c1, c2, c3, hE, _⟩ := h.dirAt hm
  have hlen := hP.len 1
  obtain ⟨L, hL⟩ : ∃ L, Hid (max s (kn.length + 1) = L) := ⟨_, rfl⟩
  have hfur := hP.fur
  rw [hL.out] at hlen hfur
  have hL1 : 1 ≤ L ∧ L ≤ 60001 := by
    have := hL.out
    have h2 := (puE_at hP.le x 1).1
    have h3 : (puE k es x 1).length ≤ es.length + 1 := by unfold puE; split <;> simp
    omega
  -- what stays while nothing but new blocks changes
  have HS : ∀ w', Hid (Below w.heap.size w w') → (Hid (Below w.heap.size w w') ∧ w'.cell? ⟨r, 0, none⟩ = some (.slice (some ⟨q, 0, none⟩) R.L.length cc) ∧ w'.cell? ⟨r, 1, none⟩ = some (.int .i64 R.bl) ∧ w'.cell? ⟨r, 2, none⟩ = some (.int .i64 R.ino) ∧ w'.cell? ⟨q, m * 4 + 1, none⟩ = some (.bool true) ∧ w'.cell? ⟨q, m * 4 + 3, none⟩ = some (.slice a1 es.length d1) ∧ w'.cell? ⟨b0, off + n, none⟩ = some (.string x)) := fun w' hb => by
    have hc := Chg.ofBelowC hb.out
    exact ⟨hb, hc.cell cL (fun h => h), hc.cell h.cB (fun h => h), hc.cell h.cI (fun h => h), hc.cell c1 (fun h => h), hc.cell c3 (fun h => h), hc.cell cx (fun h => h)⟩
  have HA : ∀ w', Hid (Below w.heap.size w w') → Hid (Calls Tryz.prog 60 #[.slice a1 es.length d1, .string x] w' fun e w'' => e = .returned (.int .i64 (-1)) ∧ w'' = w') := fun w' hb =>
    (rat_any (.slice a1 es.length d1) es x w' (hE.below hb.out) (by omega)).mono (by
      rintro e w' ⟨r', rfl, hr', rfl⟩
      exact ⟨by rw [hr'.out.unique hno], rfl⟩)
  have HPu : ∀ w', Hid (Below w.heap.size w w') → Hid (Calls Tryz.prog 61 #[.slice a1 es.length d1, .string x, .int .i64 1] w' fun e w'' => ∃ g uc y, e = .returned (.tuple #[.slice (some ⟨g, 0, none⟩) L uc, .int .i64 y, .int .i64 0]) ∧ Hid (Below w.heap.size w w'') ∧ Hid (w''.ownsRow w.heap.size 116 2 (.slice (some ⟨g, 0, none⟩) L uc) L (ecells (puE k es x 1)))) := fun w' hb =>
    (hP.put (.slice a1 es.length d1) w' 1 (hE.below hb.out) (by omega) (by show decide _ = true; decide)).mono (by
      rintro e w'' ⟨u, y, rfl, hF⟩
      have ho := own_down hF.out.1 hb.out.size
      rw [hlen] at ho
      have hB : Below w.heap.size w w'' := hb.out.trans (hF.out.2.mono hb.out.size)
      rcases ho.2 with ⟨_, h0⟩ | ⟨g, cap, cur, rfl, _⟩
      · omega
      · exact ⟨g, cap, y, rfl, hB, ho⟩)
  have HN1 : ∀ (w' : World) (g uc : Nat), Hid (w'.ownsRow w.heap.size 116 2 (.slice (some ⟨g, 0, none⟩) L uc) L (ecells (puE k es x 1))) → ∀ j, Hid (Calls Tryz.prog 62 #[.slice (some ⟨g, 0, none⟩) L uc] (w'.drewN j) fun e w'' => e = .returned (.int .i64 (slB L)) ∧ w'' = w'.drewN j) := fun w' g uc ho j => by
    have := rneed_any (.slice (some ⟨g, 0, none⟩) L uc) (puE k es x 1) (w'.drewN j) ((Es.ofOwns ho.out).more (Chg.drewN _ _ _)) (by omega)
    rw [hlen] at this
    exact this
  have HN2 : ∀ w', Hid (Below w.heap.size w w') → ∀ j, Hid (Calls Tryz.prog 62 #[.slice a1 es.length d1] (w'.drewN j) fun e w'' => e = .returned (.int .i64 (slB es.length)) ∧ w'' = w'.drewN j) := fun w' hb j =>
    rneed_any (.slice a1 es.length d1) es (w'.drewN j) (hE.below (bN hb j).out) (by omega)
  have HWH : Hid (Calls Tryz.prog 59 #[ptr r, .slice (some ⟨b0, off, none⟩) n c] w fun e w' => e = .returned (.tuple #[.int .i64 (m : Nat), .int .i64 0]) ∧ Below w.heap.size w w') := HW
  obtain ⟨X1, hX1⟩ : ∃ X, slB L = X := ⟨_, rfl⟩
  obtain ⟨X2, hX2⟩ : ∃ X, slB es.length = X := ⟨_, rfl⟩
  have b1 := slB_bd L
  have b2 := slB_bd es.length
  rw [hX1] at HN1 b1
  rw [hX2] at HN2 b2
  have hfx : Hid (furB s kn.length = X1 - X2) := by
    show _ = _
    rw [← hfur, ← hX1, ← hX2, hll]
  have hfx' := hfx.out
  have g1 : decide (R.ino = 0) = false := by simp; omega
  have g2 : (R.ino == 0) = false := by simp; omega
  have g3 : ¬ R.ino = 0 := by omega
  have g4 : decide (R.bl < X1 - X2) = false := by simp; omega
  have g5 : ¬ (R.bl < X1 - X2) := by omega
  have i1 : (n : Int) < (N1 : Int) := by omega
  have i2 : n ≤ N1 := by omega
  have i3 : N1 ≤ c := by omega
  have w7 : (N1 : Int) - 1 = n := by omega
  have w8 : ¬ (N1 : Int) = 0 := by omega
  have w9 : ((N1 : Int) == 0) = false := by simp; omega
  have q2 : (m : Int) < R.L.length := by omega
  have HBD : Hid (0 ≤ R.bl ∧ R.bl ≤ 10000000000 ∧ 0 < R.ino ∧ R.ino ≤ 1000000) := ⟨hb.1, hb.2, hi.1, hi.2⟩
  have HMM : Hid (R.at m = .dir es ∧ (∀ i, (puE k es x i).length = L) ∧ ¬ m = frN R.L) := ⟨hm, fun i => (hP.len i).trans hL.out, fun e => hmg (by rw [e]; exact frN_gone _)⟩
  have HX : Hid (0 ≤ X1 ∧ X1 ≤ 20000 ∧ 0 ≤ X2 ∧ X2 ≤ 20000) := ⟨b1.1, b1.2, b2.1, b2.2⟩
  have HR : Hid (Rt w r q G R) := h
  have HPP : Hid (Spo es s kn f x k) := hP
  have HSH : Hid _ := HS
  have HAH : Hid _ := HA
  have HPH : Hid _ := HPu
  have HNH : Hid _ := HN1
  have HMH : Hid _ := HN2
  clear HS HA HPu HN1 HN2 hS hN1 hll hfb hx1 hm hk hx hf hb hi
  clear h HW hE c0 c1 c2 c3 cL cx hP hno hfur hX1 hX2 hfx' hlen hmg b1 b2
  go_enter Tryz.func31, Tryz.ntmps31
  go_wp2_with fail
  refine HWH.out.mono ?_
  clear HWH w7 w8 w9
  rintro e w1 ⟨rfl, B1⟩
  have HB1 : Hid (Below w.heap.size w w1) := B1
  clear B1
  obtain ⟨_, z0, z1, z2, z3, z4, z5⟩ := HSH.out w1 HB1
  go_wp2_with fail
  have HA1 : Hid (∀ j, Calls Tryz.prog 60 #[.slice a1 es.length d1, .string x] (w1.drewN j) fun e w'' => e = .returned (.int .i64 (-1)) ∧ w'' = w1.drewN j) := fun j => (HAH.out _ (bN HB1 j)).out
  go_quiet ((go_at_call 60; exact Calls.quiet_of_same (HA1.out _)))
  go_wp2_with fail
  have HB2 := bN HB1 nq
  generalize w1.drewN nq = w2 at *
  clear HB1 z0 z1 z2 z3 z4 z5
  go_region_held (fun w' => (Hid (Below w.heap.size w w') ∧ w'.cell? ⟨r, 0, none⟩ = some (.slice (some ⟨q, 0, none⟩) R.L.length cc) ∧ w'.cell? ⟨r, 1, none⟩ = some (.int .i64 R.bl) ∧ w'.cell? ⟨r, 2, none⟩ = some (.int .i64 R.ino) ∧ w'.cell? ⟨q, m * 4 + 1, none⟩ = some (.bool true) ∧ w'.cell? ⟨q, m * 4 + 3, none⟩ = some (.slice a1 es.length d1) ∧ w'.cell? ⟨b0, off + n, none⟩ = some (.string x))) (exact HSH.out _ (by first | with_reducible assumption | exact bD HB2 | exact bN HB2 _ | exact bD (bN HB2 _)))
    (first | (go_at_call 61; refine (HPH.out _ (by first | with_reducible assumption | exact bD HB2 | exact bN HB2 _ | exact bD (bN HB2 _))).out.mono ?_; rintro e w3 ⟨g, uc, y, rfl, HB3, HO3⟩))
  go_wp2_with fail
  obtain ⟨_, z0, z1, z2, z3, z4, z5⟩ := HSH.out w3 HB3
  have HK1 := HNH.out w3 g uc HO3
  have HK2 := HMH.out w3 HB3
  have hx := HX.out
  go_quiet (first | (go_at_call 62; exact Calls.quiet_of_same (HK1 _).out) | (go_at_call 62; exact Calls.quiet_of_same (HK2 _).out))
  have HB4 := bN HB3 nq
  have HO4 : Hid ((w3.drewN nq).ownsRow w.heap.size 116 2 (.slice (some ⟨g, 0, none⟩) L uc) L (ecells (puE k es x 1))) := HO3.out
  generalize w3.drewN nq = w4 at *
  clear HB3 HO3 z0 z1 z2 z3 z4 z5 HK1 HK2 hx
  obtain ⟨_, z0, z1, z2, z3, z4, z5⟩ := HSH.out w4 HB4
  have R4 : Hid (Rt w4 r q G R) := HR.out.below HB4.out
  have HF : Hid (Calls Tryz.prog 63 #[ptr r, .agg #[.bool true, .bool d, .slice none 0 0, .slice none 0 0]] w4 fun e w' => e = .returned (.int .i64 (frN R.L : Nat)) ∧ ∃ q', (q' = q ∨ w4.heap.size ≤ q') ∧ Rt w' r q' G { R with L := frL R.L (newTh d) } ∧ Chg (fun b => b = r ∨ b = q) w4 w') := rfresh_any w4 R4.out d (by omega) (by omega)
  go_wp2_with fail
  refine HF.out.mono ?_
  clear HF z0 z1 z2 z3 z4
  rintro e w5 ⟨rfl, q', hq', hR5, hc5⟩
  obtain ⟨F, hF⟩ : ∃ F, Hid (frN R.L = F) := ⟨_, rfl⟩
  have hFl : F ≤ 60001 := by rw [← hF.out]; exact Nat.le_trans (frN_le _) hl
  rw [hF.out]
  -- where the slots lie
  have hglt : w.heap.size ≤ g ∧ g < w4.heap.size := by
    obtain ⟨g', cap, e, hg, hg2, _⟩ := own_place HO4.out (puE_at HPP.out.le x 1).1
    injection e with e1 e2 e3
    injection e1 with e1
    injection e1 with e1
    subst e1
    exact ⟨hg, hg2⟩
  have hlt := HR.out.lt
  have hgr : ¬ g = r := by omega
  have hgq : ¬ g = q := by omega
  have hgq' : ¬ g = q' := by rcases hq' with h | h <;> omega
  have hgG : ¬ G g := fun h => by have := HR.out.gl g h; omega
  have ho5 := own_farC HO4.out hc5 (fun e => e.elim hgr hgq)
  have z5' := hc5.cell z5 (fun e => e.elim hbr hbq)
  have hm5 : ({ R with L := frL R.L (newTh d) } : Rs).at m = .dir es := (frL_other R.L (newTh d) HMM.out.2.2).trans HMM.out.1
  obtain ⟨iI, y0, y1, HI⟩ := fin_I hR5 ho5 (puE_at HPP.out.le x 1).1 x (by rw [(puE_at HPP.out.le x 1).2]) ((F : Int) + 1) hgr hgq' hgG
  have kL : (k : Int) < L := by
    have h1 := (puE_at HPP.out.le x 1).1
    rw [HMM.out.2.1 1] at h1
    omega
  have HA5 : Hid (Calls Tryz.prog 60 #[.slice (some ⟨g, 0, none⟩) L uc, .string x] w5 fun e w'' => e = .returned (.int .i64 (k : Int)) ∧ w'' = w5) :=
    (rat_any (.slice (some ⟨g, 0, none⟩) L uc) (puE k es x 1) x w5 (Es.ofOwns ho5) (by rw [HMM.out.2.1 1]; omega)).mono (by
      rintro e w' ⟨r', rfl, hr', rfl⟩
      exact ⟨by rw [hr'.out.unique (HPP.out.idx 1)], rfl⟩)
  have HM5 : Hid (({ R with L := frL R.L (newTh d) } : Rs).at m = .dir es) := hm5
  have HC5 : Hid (Chg (fun b => b = r ∨ b = q) w4 w5 ∧ (q' = q ∨ w4.heap.size ≤ q')) := ⟨hc5, hq'⟩
  clear hR5 ho5 hm5 hc5 hq' z5 R4 HO4
  go_wp2_with fail
  refine HA5.out.mono ?_
  clear HA5
  rintro e w6 ⟨rfl, rfl⟩
  go_upto_region 17 with fail
  obtain ⟨w7, hw7⟩ : ∃ w7, w6.setCell ⟨g, k * 2 + 1, none⟩ (.int .i64 ((F : Int) + 1)) = w7 := ⟨_, rfl⟩
  rw [hw7]
  obtain ⟨hR7, ho7, hc7⟩ := HI.out w7 hw7
  clear HI y0 y1 z5' hw7
  have hHC7 : Hid (Chg (fun b => b = g) w6 w7) := hc7
  rw [puE_set HPP.out.le] at ho7
  obtain ⟨c', a', d', s0, s3, sf, sl, HS7⟩ := fin_S hR7 HM5.out ho7 hgr hgq'
  have q3 : (m : Int) < (frL R.L (newTh d)).length := by have h : m < (frL R.L (newTh d)).length := sl; omega
  have s0' : w7.cell? ⟨r, 0, none⟩ = some (.slice (some ⟨q', 0, none⟩) (frL R.L (newTh d)).length c') := s0
  clear hR7 ho7 hc7 s0
  go_upto_region 18 with fail
  obtain ⟨w8, hw8⟩ : ∃ w8, w7.setCell ⟨q', m * 4 + 3, none⟩ (.slice (some ⟨g, 0, none⟩) L uc) = w8 := ⟨_, rfl⟩
  rw [hw8]
  obtain ⟨t1, tf, _, HR8, HC8⟩ := HS7.out w8 hw8
  have t1' : w8.cell? ⟨r, 1, none⟩ = some (.int .i64 R.bl) := t1
  clear HS7 hw8 s0' s3 sf t1
  obtain ⟨u1, u2, u3, u4⟩ := HBD.out
  obtain ⟨v1, v2, v3, v4⟩ := HX.out
  go_upto_region 19 with fail
  obtain ⟨w9, hw9⟩ : ∃ w9, w8.setCell ⟨r, 1, none⟩ (.int .i64 (R.bl - (X1 - X2))) = w9 := ⟨_, rfl⟩
  rw [hw9]
  obtain ⟨t2, tf2, HR9, HC9⟩ := fin_B HR8.out (R.bl - (X1 - X2)) w9 hw9
  have t2' : w9.cell? ⟨r, 2, none⟩ = some (.int .i64 R.ino) := t2
  clear hw9 t1' tf t2
  go_upto_region 20 with fail
  obtain ⟨wz, hwz⟩ : ∃ wz, w9.setCell ⟨r, 2, none⟩ (.int .i64 (R.ino - 1)) = wz := ⟨_, rfl⟩
  rw [hwz]
  obtain ⟨hRz, hcz⟩ := fin_N HR9.out (R.ino - 1) wz hwz
  clear hwz t2' tf2
  have HZ : Hid (Rto w wz r q G ⟨(frL R.L (newTh d)).set m (.dir (puE k es x ((frN R.L : Nat) + 1))), R.bl - furB s kn.length, R.ino - 1⟩) := by
    have e5 : Chg (fun b => b = r ∨ b = q) w w6 := ((Chg.ofBelowC HB4.out).mono (fun _ _ h => h.elim)).trans HC5.out.1 (fun _ _ h => h)
    refine ⟨⟨q', _, by rw [hF.out, hfx.out]; exact hRz, ?_, ?_⟩, ?_⟩
    · rcases HC5.out.2 with h | h
      · exact .inl h
      · exact .inr (Nat.le_trans HB4.out.size h)
    · rintro b (h | rfl)
      · exact .inl h
      · exact .inr hglt.1
    · have f1 := e5.trans hHC7.out (fun i hi e => by subst e; omega)
      have f2 := f1.trans HC8.out (fun i hi e => by
        subst e
        rcases HC5.out.2 with h | h
        · exact .inr h
        · have := HB4.out.size; omega)
      exact (f2.trans HC9.out (fun i hi e => .inl e)).trans hcz (fun i hi e => .inl e)
  clear hRz hcz
  go_wp2_with fail
  go_ret
  exact ⟨rfl, HZ⟩
end Go.Proofs.YtlnjnimenihhnaaGreatDoor

namespace Go.Proofs.YtlnjnimenihhnaaGreatDoor
open Go.RowKit Go.Maps

set_option maxHeartbeats 1600000 in
set_option maxRecDepth 100000 in
theorem rmake_nil {r : Nat} (a : Option Addr) (c : Nat) (d : Bool) (w : World) :
    Calls Tryz.prog 31 #[ptr r, .slice a 0 c, .bool d] w fun e w' => e = .returned (.int .i64 9) ∧ w' = w := by
  go_enter Tryz.func31, Tryz.ntmps31
  go_wp2_with fail
  go_ret
  exact ⟨rfl, rfl⟩
set_option maxHeartbeats 1600000 in
set_option maxRecDepth 100000 in
theorem rmake_err {r : Nat} (n N1 c b0 off : Nat) (hN1 : N1 = n + 1) (d : Bool) (w : World) (hnc : n < c) (hn : n ≤ 1000) (m ec : Int) (he : ¬ ec = 0)
    (HW : Calls Tryz.prog 59 #[ptr r, .slice (some ⟨b0, off, none⟩) n c] w fun e w' => e = .returned (.tuple #[.int .i64 m, .int .i64 ec]) ∧ Below w.heap.size w w') :
    Calls Tryz.prog 31 #[ptr r, .slice (some ⟨b0, off, none⟩) N1 c, .bool d] w fun e w' => e = .returned (.int .i64 ec) ∧ Below w.heap.size w w' := by
  have i1 : (n : Int) < (N1 : Int) := by omega
  have i2 : n ≤ N1 := by omega
  have i3 : N1 ≤ c := by omega
  have w7 : (N1 : Int) - 1 = n := by omega
  have w8 : ¬ (N1 : Int) = 0 := by omega
  have w9 : ((N1 : Int) == 0) = false := by simp; omega
  have e1 : (ec == 0) = false := by simpa using he
  have e2 : decide (ec = 0) = false := by simpa using he
  have HWH : Hid (Calls Tryz.prog 59 #[ptr r, .slice (some ⟨b0, off, none⟩) n c] w fun e w' => e = .returned (.tuple #[.int .i64 m, .int .i64 ec]) ∧ Below w.heap.size w w') := HW
  clear HW
  go_enter Tryz.func31, Tryz.ntmps31
  go_wp2_with fail
  refine HWH.out.mono ?_
  clear HWH w7 w8 w9
  rintro e w1 ⟨rfl, B1⟩
  have HB1 : Hid (Below w.heap.size w w1) := B1
  clear B1
  go_wp2_with fail
  go_ret
  exact ⟨rfl, HB1.out⟩
set_option maxHeartbeats 1600000 in
set_option maxRecDepth 100000 in
theorem rmake_file {r q m : Nat} {G : Nat → Prop} {R : Rs} {bs : List Int} (n N1 c b0 off : Nat) (hN1 : N1 = n + 1) (d : Bool) (w : World) (h : Rt w r q G R) (hm : R.at m = .file bs) (_hl : R.L.length ≤ 60001) (hnc : n < c) (hn : n ≤ 1000)
    (HW : Calls Tryz.prog 59 #[ptr r, .slice (some ⟨b0, off, none⟩) n c] w fun e w' => e = .returned (.tuple #[.int .i64 (m : Nat), .int .i64 0]) ∧ Below w.heap.size w w') :
    Calls Tryz.prog 31 #[ptr r, .slice (some ⟨b0, off, none⟩) N1 c, .bool d] w fun e w' => e = .returned (.int .i64 11) ∧ Below w.heap.size w w' := by
  have i1 : (n : Int) < (N1 : Int) := by omega
  have i2 : n ≤ N1 := by omega
  have i3 : N1 ≤ c := by omega
  have w7 : (N1 : Int) - 1 = n := by omega
  have w8 : ¬ (N1 : Int) = 0 := by omega
  have w9 : ((N1 : Int) == 0) = false := by simp; omega
  have HWH : Hid (Calls Tryz.prog 59 #[ptr r, .slice (some ⟨b0, off, none⟩) n c] w fun e w' => e = .returned (.tuple #[.int .i64 (m : Nat), .int .i64 0]) ∧ Below w.heap.size w w') := HW
  have HR : Hid (Rt w r q G R) := h
  clear HW h
  go_enter Tryz.func31, Tryz.ntmps31
  go_wp2_with fail
  refine HWH.out.mono ?_
  clear HWH w7 w8 w9
  rintro e w1 ⟨rfl, B1⟩
  have HB1 : Hid (Below w.heap.size w w1) := B1
  obtain ⟨hml, cc, a1, d1, cL, c0, c1, c2, c3, hE, _⟩ := (HR.out.below B1).fileAt hm
  have q2 : (m : Int) < R.L.length := by omega
  clear B1 HR c0 c2 c3 hE
  go_wp2_with fail
  go_ret
  exact ⟨rfl, HB1.out⟩
set_option maxHeartbeats 1600000 in
set_option maxRecDepth 100000 in
theorem rmake_is {r q m : Nat} {G : Nat → Prop} {R : Rs} {es : List En} {x : ByteArray} (n N1 c b0 off k : Nat) (hN1 : N1 = n + 1) (d : Bool) (w : World) (h : Rt w r q G R) (cx : w.cell? ⟨b0, off + n, none⟩ = some (.string x)) (hm : R.at m = .dir es) (hi : IdxN es x (k : Int)) (_hl : R.L.length ≤ 60001) (hel : es.length ≤ 60000) (hnc : n < c) (hn : n ≤ 1000)
    (HW : Calls Tryz.prog 59 #[ptr r, .slice (some ⟨b0, off, none⟩) n c] w fun e w' => e = .returned (.tuple #[.int .i64 (m : Nat), .int .i64 0]) ∧ Below w.heap.size w w') :
    Calls Tryz.prog 31 #[ptr r, .slice (some ⟨b0, off, none⟩) N1 c, .bool d] w fun e w' => e = .returned (.int .i64 9) ∧ Below w.heap.size w w' := by
  have i1 : (n : Int) < (N1 : Int) := by omega
  have i2 : n ≤ N1 := by omega
  have i3 : N1 ≤ c := by omega
  have w7 : (N1 : Int) - 1 = n := by omega
  have w8 : ¬ (N1 : Int) = 0 := by omega
  have w9 : ((N1 : Int) == 0) = false := by simp; omega
  have HWH : Hid (Calls Tryz.prog 59 #[ptr r, .slice (some ⟨b0, off, none⟩) n c] w fun e w' => e = .returned (.tuple #[.int .i64 (m : Nat), .int .i64 0]) ∧ Below w.heap.size w w') := HW
  have HR : Hid (Rt w r q G R ∧ IdxN es x (k : Int)) := ⟨h, hi⟩
  clear HW h hi
  go_enter Tryz.func31, Tryz.ntmps31
  go_wp2_with fail
  refine HWH.out.mono ?_
  clear HWH w7 w8 w9
  rintro e w1 ⟨rfl, B1⟩
  have HB1 : Hid (Below w.heap.size w w1) := B1
  obtain ⟨hml, cc, a1, d1, cL, c0, c1, c2, c3, hE, _⟩ := (HR.out.1.below B1).dirAt hm
  have cx1 := (Chg.ofBelowC B1).cell cx (fun h => h)
  have HA1 : Hid (∀ j, Calls Tryz.prog 60 #[.slice a1 es.length d1, .string x] (w1.drewN j) fun e w'' => e = .returned (.int .i64 (k : Int)) ∧ w'' = w1.drewN j) := fun j =>
    (rat_any (.slice a1 es.length d1) es x (w1.drewN j) (hE.more (Chg.drewN _ _ _)) (by omega)).mono (by
      rintro e w' ⟨r', rfl, hr', rfl⟩
      exact ⟨by rw [hr'.out.unique HR.out.2], rfl⟩)
  have q2 : (m : Int) < R.L.length := by omega
  clear B1 HR c0 c2 hE cx
  go_wp2_with fail
  go_quiet ((go_at_call 60; exact Calls.quiet_of_same (HA1.out _)))
  have HB2 := bN HB1 nq
  go_wp2_with fail
  go_ret
  exact ⟨rfl, HB2.out⟩
set_option maxHeartbeats 6400000 in
set_option maxRecDepth 100000 in
theorem rmake_full0 {r q m k _K : Nat} {G : Nat → Prop} {R : Rs} {es : List En} {s : Nat} {kn : List ByteArray} {f : ByteArray → Nat} {x : ByteArray} (n N1 c b0 off : Nat) (hN1 : N1 = n + 1) (d : Bool) (w : World) (_hbr : ¬ b0 = r) (_hbq : ¬ b0 = q) (h : Rt w r q G R) (cx : w.cell? ⟨b0, off + n, none⟩ = some (.string x)) (hn : n ≤ 1000) (hnc : n < c) (hm : R.at m = .dir es) (hS : Sl es s kn f) (hx : nameB x = true) (hk : ¬ x ∈ kn) (hP : Spo es s kn f x k) (_hl : R.L.length ≤ 60001) (hel : es.length ≤ 60000)
    (_hb : 0 ≤ R.bl ∧ R.bl ≤ 10000000000) (hf : R.ino = 0)
    (HW : Calls Tryz.prog 59 #[ptr r, .slice (some ⟨b0, off, none⟩) n c] w fun e w' => e = .returned (.tuple #[.int .i64 (m : Nat), .int .i64 0]) ∧ Below w.heap.size w w') :
    Calls Tryz.prog 31 #[ptr r, .slice (some ⟨b0, off, none⟩) N1 c, .bool d] w fun e w' => e = .returned (.int .i64 7) ∧ Below w.heap.size w w' := by
  have hx1 : 1 ≤ x.size := (nameB_parts hx).1
  have hll := Sl.len hS
  have hfb := furB_bd s kn.length
  have hno : IdxN es x (-1) := hS.idxNo hx1 hk
  obtain ⟨hml, cc, a1, d1, cL, c0, c1, c2, c3, hE, _⟩ := h.dirAt hm
  have hlen := hP.len 1
  obtain ⟨L, hL⟩ : ∃ L, Hid (max s (kn.length + 1) = L) := ⟨_, rfl⟩
  have hfur := hP.fur
  rw [hL.out] at hlen hfur
  have hL1 : 1 ≤ L ∧ L ≤ 60001 := by
    have := hL.out
    have h2 := (puE_at hP.le x 1).1
    have h3 : (puE k es x 1).length ≤ es.length + 1 := by unfold puE; split <;> simp
    omega
  -- what stays while nothing but new blocks changes
  have HS : ∀ w', Hid (Below w.heap.size w w') → (Hid (Below w.heap.size w w') ∧ w'.cell? ⟨r, 0, none⟩ = some (.slice (some ⟨q, 0, none⟩) R.L.length cc) ∧ w'.cell? ⟨r, 1, none⟩ = some (.int .i64 R.bl) ∧ w'.cell? ⟨r, 2, none⟩ = some (.int .i64 R.ino) ∧ w'.cell? ⟨q, m * 4 + 1, none⟩ = some (.bool true) ∧ w'.cell? ⟨q, m * 4 + 3, none⟩ = some (.slice a1 es.length d1) ∧ w'.cell? ⟨b0, off + n, none⟩ = some (.string x)) := fun w' hb => by
    have hc := Chg.ofBelowC hb.out
    exact ⟨hb, hc.cell cL (fun h => h), hc.cell h.cB (fun h => h), hc.cell h.cI (fun h => h), hc.cell c1 (fun h => h), hc.cell c3 (fun h => h), hc.cell cx (fun h => h)⟩
  have HA : ∀ w', Hid (Below w.heap.size w w') → Hid (Calls Tryz.prog 60 #[.slice a1 es.length d1, .string x] w' fun e w'' => e = .returned (.int .i64 (-1)) ∧ w'' = w') := fun w' hb =>
    (rat_any (.slice a1 es.length d1) es x w' (hE.below hb.out) (by omega)).mono (by
      rintro e w' ⟨r', rfl, hr', rfl⟩
      exact ⟨by rw [hr'.out.unique hno], rfl⟩)
  have HPu : ∀ w', Hid (Below w.heap.size w w') → Hid (Calls Tryz.prog 61 #[.slice a1 es.length d1, .string x, .int .i64 1] w' fun e w'' => ∃ g uc y, e = .returned (.tuple #[.slice (some ⟨g, 0, none⟩) L uc, .int .i64 y, .int .i64 0]) ∧ Hid (Below w.heap.size w w'') ∧ Hid (w''.ownsRow w.heap.size 116 2 (.slice (some ⟨g, 0, none⟩) L uc) L (ecells (puE k es x 1)))) := fun w' hb =>
    (hP.put (.slice a1 es.length d1) w' 1 (hE.below hb.out) (by omega) (by show decide _ = true; decide)).mono (by
      rintro e w'' ⟨u, y, rfl, hF⟩
      have ho := own_down hF.out.1 hb.out.size
      rw [hlen] at ho
      have hB : Below w.heap.size w w'' := hb.out.trans (hF.out.2.mono hb.out.size)
      rcases ho.2 with ⟨_, h0⟩ | ⟨g, cap, cur, rfl, _⟩
      · omega
      · exact ⟨g, cap, y, rfl, hB, ho⟩)
  have HN1 : ∀ (w' : World) (g uc : Nat), Hid (w'.ownsRow w.heap.size 116 2 (.slice (some ⟨g, 0, none⟩) L uc) L (ecells (puE k es x 1))) → ∀ j, Hid (Calls Tryz.prog 62 #[.slice (some ⟨g, 0, none⟩) L uc] (w'.drewN j) fun e w'' => e = .returned (.int .i64 (slB L)) ∧ w'' = w'.drewN j) := fun w' g uc ho j => by
    have := rneed_any (.slice (some ⟨g, 0, none⟩) L uc) (puE k es x 1) (w'.drewN j) ((Es.ofOwns ho.out).more (Chg.drewN _ _ _)) (by omega)
    rw [hlen] at this
    exact this
  have HN2 : ∀ w', Hid (Below w.heap.size w w') → ∀ j, Hid (Calls Tryz.prog 62 #[.slice a1 es.length d1] (w'.drewN j) fun e w'' => e = .returned (.int .i64 (slB es.length)) ∧ w'' = w'.drewN j) := fun w' hb j =>
    rneed_any (.slice a1 es.length d1) es (w'.drewN j) (hE.below (bN hb j).out) (by omega)
  have HWH : Hid (Calls Tryz.prog 59 #[ptr r, .slice (some ⟨b0, off, none⟩) n c] w fun e w' => e = .returned (.tuple #[.int .i64 (m : Nat), .int .i64 0]) ∧ Below w.heap.size w w') := HW
  obtain ⟨X1, hX1⟩ : ∃ X, slB L = X := ⟨_, rfl⟩
  obtain ⟨X2, hX2⟩ : ∃ X, slB es.length = X := ⟨_, rfl⟩
  have b1 := slB_bd L
  have b2 := slB_bd es.length
  rw [hX1] at HN1 b1
  rw [hX2] at HN2 b2
  have hfx : Hid (furB s kn.length = X1 - X2) := by
    show _ = _
    rw [← hfur, ← hX1, ← hX2, hll]
  have hfx' := hfx.out
  have g1 : decide (R.ino = 0) = true := by simp [hf]
  have g2 : (R.ino == 0) = true := by simp [hf]
  have i1 : (n : Int) < (N1 : Int) := by omega
  have i2 : n ≤ N1 := by omega
  have i3 : N1 ≤ c := by omega
  have w7 : (N1 : Int) - 1 = n := by omega
  have w8 : ¬ (N1 : Int) = 0 := by omega
  have w9 : ((N1 : Int) == 0) = false := by simp; omega
  have q2 : (m : Int) < R.L.length := by omega
  have HX : Hid (0 ≤ X1 ∧ X1 ≤ 20000 ∧ 0 ≤ X2 ∧ X2 ≤ 20000) := ⟨b1.1, b1.2, b2.1, b2.2⟩
  have HSH : Hid _ := HS
  have HAH : Hid _ := HA
  have HPH : Hid _ := HPu
  have HNH : Hid _ := HN1
  have HMH : Hid _ := HN2
  clear HS HA HPu HN1 HN2 hS hN1 hll hfb hx1 hm hk hx hf _hb
  clear h HW hE c0 c1 c2 c3 cL cx hP hno hfur hX1 hX2 hfx' hlen b1 b2
  go_enter Tryz.func31, Tryz.ntmps31
  go_wp2_with fail
  refine HWH.out.mono ?_
  clear HWH w7 w8 w9
  rintro e w1 ⟨rfl, B1⟩
  have HB1 : Hid (Below w.heap.size w w1) := B1
  clear B1
  obtain ⟨_, z0, z1, z2, z3, z4, z5⟩ := HSH.out w1 HB1
  go_wp2_with fail
  have HA1 : Hid (∀ j, Calls Tryz.prog 60 #[.slice a1 es.length d1, .string x] (w1.drewN j) fun e w'' => e = .returned (.int .i64 (-1)) ∧ w'' = w1.drewN j) := fun j => (HAH.out _ (bN HB1 j)).out
  go_quiet ((go_at_call 60; exact Calls.quiet_of_same (HA1.out _)))
  go_wp2_with fail
  have HB2 := bN HB1 nq
  generalize w1.drewN nq = w2 at *
  clear HB1 z0 z1 z2 z3 z4 z5
  go_region_held (fun w' => (Hid (Below w.heap.size w w') ∧ w'.cell? ⟨r, 0, none⟩ = some (.slice (some ⟨q, 0, none⟩) R.L.length cc) ∧ w'.cell? ⟨r, 1, none⟩ = some (.int .i64 R.bl) ∧ w'.cell? ⟨r, 2, none⟩ = some (.int .i64 R.ino) ∧ w'.cell? ⟨q, m * 4 + 1, none⟩ = some (.bool true) ∧ w'.cell? ⟨q, m * 4 + 3, none⟩ = some (.slice a1 es.length d1) ∧ w'.cell? ⟨b0, off + n, none⟩ = some (.string x))) (exact HSH.out _ (by first | with_reducible assumption | exact bD HB2 | exact bN HB2 _ | exact bD (bN HB2 _)))
    (first | (go_at_call 61; refine (HPH.out _ (by first | with_reducible assumption | exact bD HB2 | exact bN HB2 _ | exact bD (bN HB2 _))).out.mono ?_; rintro e w3 ⟨g, uc, y, rfl, HB3, HO3⟩))
  go_wp2_with fail
  obtain ⟨_, z0, z1, z2, z3, z4, z5⟩ := HSH.out w3 HB3
  have HK1 := HNH.out w3 g uc HO3
  have HK2 := HMH.out w3 HB3
  have hx := HX.out
  go_quiet (first | (go_at_call 62; exact Calls.quiet_of_same (HK1 _).out) | (go_at_call 62; exact Calls.quiet_of_same (HK2 _).out))
  have HB4 := bN HB3 nq
  generalize w3.drewN nq = w4 at *
  clear HB3 HO3 z0 z1 z2 z3 z4 z5 HK1 HK2 hx
  obtain ⟨_, z0, z1, z2, z3, z4, z5⟩ := HSH.out w4 HB4
  go_wp2_with fail
  go_ret
  exact ⟨rfl, HB4.out⟩
set_option maxHeartbeats 6400000 in
set_option maxRecDepth 100000 in
theorem rmake_full1 {r q m k _K : Nat} {G : Nat → Prop} {R : Rs} {es : List En} {s : Nat} {kn : List ByteArray} {f : ByteArray → Nat} {x : ByteArray} (n N1 c b0 off : Nat) (hN1 : N1 = n + 1) (d : Bool) (w : World) (_hbr : ¬ b0 = r) (_hbq : ¬ b0 = q) (h : Rt w r q G R) (cx : w.cell? ⟨b0, off + n, none⟩ = some (.string x)) (hn : n ≤ 1000) (hnc : n < c) (hm : R.at m = .dir es) (hS : Sl es s kn f) (hx : nameB x = true) (hk : ¬ x ∈ kn) (hP : Spo es s kn f x k) (_hl : R.L.length ≤ 60001) (hel : es.length ≤ 60000)
    (_hb : 0 ≤ R.bl ∧ R.bl ≤ 10000000000) (hi : ¬ R.ino = 0) (hf : R.bl < furB s kn.length)
    (HW : Calls Tryz.prog 59 #[ptr r, .slice (some ⟨b0, off, none⟩) n c] w fun e w' => e = .returned (.tuple #[.int .i64 (m : Nat), .int .i64 0]) ∧ Below w.heap.size w w') :
    Calls Tryz.prog 31 #[ptr r, .slice (some ⟨b0, off, none⟩) N1 c, .bool d] w fun e w' => e = .returned (.int .i64 7) ∧ Below w.heap.size w w' := by
  have hx1 : 1 ≤ x.size := (nameB_parts hx).1
  have hll := Sl.len hS
  have hfb := furB_bd s kn.length
  have hno : IdxN es x (-1) := hS.idxNo hx1 hk
  obtain ⟨hml, cc, a1, d1, cL, c0, c1, c2, c3, hE, _⟩ := h.dirAt hm
  have hlen := hP.len 1
  obtain ⟨L, hL⟩ : ∃ L, Hid (max s (kn.length + 1) = L) := ⟨_, rfl⟩
  have hfur := hP.fur
  rw [hL.out] at hlen hfur
  have hL1 : 1 ≤ L ∧ L ≤ 60001 := by
    have := hL.out
    have h2 := (puE_at hP.le x 1).1
    have h3 : (puE k es x 1).length ≤ es.length + 1 := by unfold puE; split <;> simp
    omega
  -- what stays while nothing but new blocks changes
  have HS : ∀ w', Hid (Below w.heap.size w w') → (Hid (Below w.heap.size w w') ∧ w'.cell? ⟨r, 0, none⟩ = some (.slice (some ⟨q, 0, none⟩) R.L.length cc) ∧ w'.cell? ⟨r, 1, none⟩ = some (.int .i64 R.bl) ∧ w'.cell? ⟨r, 2, none⟩ = some (.int .i64 R.ino) ∧ w'.cell? ⟨q, m * 4 + 1, none⟩ = some (.bool true) ∧ w'.cell? ⟨q, m * 4 + 3, none⟩ = some (.slice a1 es.length d1) ∧ w'.cell? ⟨b0, off + n, none⟩ = some (.string x)) := fun w' hb => by
    have hc := Chg.ofBelowC hb.out
    exact ⟨hb, hc.cell cL (fun h => h), hc.cell h.cB (fun h => h), hc.cell h.cI (fun h => h), hc.cell c1 (fun h => h), hc.cell c3 (fun h => h), hc.cell cx (fun h => h)⟩
  have HA : ∀ w', Hid (Below w.heap.size w w') → Hid (Calls Tryz.prog 60 #[.slice a1 es.length d1, .string x] w' fun e w'' => e = .returned (.int .i64 (-1)) ∧ w'' = w') := fun w' hb =>
    (rat_any (.slice a1 es.length d1) es x w' (hE.below hb.out) (by omega)).mono (by
      rintro e w' ⟨r', rfl, hr', rfl⟩
      exact ⟨by rw [hr'.out.unique hno], rfl⟩)
  have HPu : ∀ w', Hid (Below w.heap.size w w') → Hid (Calls Tryz.prog 61 #[.slice a1 es.length d1, .string x, .int .i64 1] w' fun e w'' => ∃ g uc y, e = .returned (.tuple #[.slice (some ⟨g, 0, none⟩) L uc, .int .i64 y, .int .i64 0]) ∧ Hid (Below w.heap.size w w'') ∧ Hid (w''.ownsRow w.heap.size 116 2 (.slice (some ⟨g, 0, none⟩) L uc) L (ecells (puE k es x 1)))) := fun w' hb =>
    (hP.put (.slice a1 es.length d1) w' 1 (hE.below hb.out) (by omega) (by show decide _ = true; decide)).mono (by
      rintro e w'' ⟨u, y, rfl, hF⟩
      have ho := own_down hF.out.1 hb.out.size
      rw [hlen] at ho
      have hB : Below w.heap.size w w'' := hb.out.trans (hF.out.2.mono hb.out.size)
      rcases ho.2 with ⟨_, h0⟩ | ⟨g, cap, cur, rfl, _⟩
      · omega
      · exact ⟨g, cap, y, rfl, hB, ho⟩)
  have HN1 : ∀ (w' : World) (g uc : Nat), Hid (w'.ownsRow w.heap.size 116 2 (.slice (some ⟨g, 0, none⟩) L uc) L (ecells (puE k es x 1))) → ∀ j, Hid (Calls Tryz.prog 62 #[.slice (some ⟨g, 0, none⟩) L uc] (w'.drewN j) fun e w'' => e = .returned (.int .i64 (slB L)) ∧ w'' = w'.drewN j) := fun w' g uc ho j => by
    have := rneed_any (.slice (some ⟨g, 0, none⟩) L uc) (puE k es x 1) (w'.drewN j) ((Es.ofOwns ho.out).more (Chg.drewN _ _ _)) (by omega)
    rw [hlen] at this
    exact this
  have HN2 : ∀ w', Hid (Below w.heap.size w w') → ∀ j, Hid (Calls Tryz.prog 62 #[.slice a1 es.length d1] (w'.drewN j) fun e w'' => e = .returned (.int .i64 (slB es.length)) ∧ w'' = w'.drewN j) := fun w' hb j =>
    rneed_any (.slice a1 es.length d1) es (w'.drewN j) (hE.below (bN hb j).out) (by omega)
  have HWH : Hid (Calls Tryz.prog 59 #[ptr r, .slice (some ⟨b0, off, none⟩) n c] w fun e w' => e = .returned (.tuple #[.int .i64 (m : Nat), .int .i64 0]) ∧ Below w.heap.size w w') := HW
  obtain ⟨X1, hX1⟩ : ∃ X, slB L = X := ⟨_, rfl⟩
  obtain ⟨X2, hX2⟩ : ∃ X, slB es.length = X := ⟨_, rfl⟩
  have b1 := slB_bd L
  have b2 := slB_bd es.length
  rw [hX1] at HN1 b1
  rw [hX2] at HN2 b2
  have hfx : Hid (furB s kn.length = X1 - X2) := by
    show _ = _
    rw [← hfur, ← hX1, ← hX2, hll]
  have hfx' := hfx.out
  have g1 : decide (R.ino = 0) = false := by simpa using hi
  have g2 : (R.ino == 0) = false := by simpa using hi
  have g4 : decide (R.bl < X1 - X2) = true := by simp; omega
  have g5 : R.bl < X1 - X2 := by omega
  have i1 : (n : Int) < (N1 : Int) := by omega
  have i2 : n ≤ N1 := by omega
  have i3 : N1 ≤ c := by omega
  have w7 : (N1 : Int) - 1 = n := by omega
  have w8 : ¬ (N1 : Int) = 0 := by omega
  have w9 : ((N1 : Int) == 0) = false := by simp; omega
  have q2 : (m : Int) < R.L.length := by omega
  have HX : Hid (0 ≤ X1 ∧ X1 ≤ 20000 ∧ 0 ≤ X2 ∧ X2 ≤ 20000) := ⟨b1.1, b1.2, b2.1, b2.2⟩
  have HSH : Hid _ := HS
  have HAH : Hid _ := HA
  have HPH : Hid _ := HPu
  have HNH : Hid _ := HN1
  have HMH : Hid _ := HN2
  clear HS HA HPu HN1 HN2 hS hN1 hll hfb hx1 hm hk hx hf _hb
  clear h HW hE c0 c1 c2 c3 cL cx hP hno hfur hX1 hX2 hfx' hlen b1 b2
  go_enter Tryz.func31, Tryz.ntmps31
  go_wp2_with fail
  refine HWH.out.mono ?_
  clear HWH w7 w8 w9
  rintro e w1 ⟨rfl, B1⟩
  have HB1 : Hid (Below w.heap.size w w1) := B1
  clear B1
  obtain ⟨_, z0, z1, z2, z3, z4, z5⟩ := HSH.out w1 HB1
  go_wp2_with fail
  have HA1 : Hid (∀ j, Calls Tryz.prog 60 #[.slice a1 es.length d1, .string x] (w1.drewN j) fun e w'' => e = .returned (.int .i64 (-1)) ∧ w'' = w1.drewN j) := fun j => (HAH.out _ (bN HB1 j)).out
  go_quiet ((go_at_call 60; exact Calls.quiet_of_same (HA1.out _)))
  go_wp2_with fail
  have HB2 := bN HB1 nq
  generalize w1.drewN nq = w2 at *
  clear HB1 z0 z1 z2 z3 z4 z5
  go_region_held (fun w' => (Hid (Below w.heap.size w w') ∧ w'.cell? ⟨r, 0, none⟩ = some (.slice (some ⟨q, 0, none⟩) R.L.length cc) ∧ w'.cell? ⟨r, 1, none⟩ = some (.int .i64 R.bl) ∧ w'.cell? ⟨r, 2, none⟩ = some (.int .i64 R.ino) ∧ w'.cell? ⟨q, m * 4 + 1, none⟩ = some (.bool true) ∧ w'.cell? ⟨q, m * 4 + 3, none⟩ = some (.slice a1 es.length d1) ∧ w'.cell? ⟨b0, off + n, none⟩ = some (.string x))) (exact HSH.out _ (by first | with_reducible assumption | exact bD HB2 | exact bN HB2 _ | exact bD (bN HB2 _)))
    (first | (go_at_call 61; refine (HPH.out _ (by first | with_reducible assumption | exact bD HB2 | exact bN HB2 _ | exact bD (bN HB2 _))).out.mono ?_; rintro e w3 ⟨g, uc, y, rfl, HB3, HO3⟩))
  go_wp2_with fail
  obtain ⟨_, z0, z1, z2, z3, z4, z5⟩ := HSH.out w3 HB3
  have HK1 := HNH.out w3 g uc HO3
  have HK2 := HMH.out w3 HB3
  have hx := HX.out
  go_quiet (first | (go_at_call 62; exact Calls.quiet_of_same (HK1 _).out) | (go_at_call 62; exact Calls.quiet_of_same (HK2 _).out))
  have HB4 := bN HB3 nq
  generalize w3.drewN nq = w4 at *
  clear HB3 HO3 z0 z1 z2 z3 z4 z5 HK1 HK2 hx
  obtain ⟨_, z0, z1, z2, z3, z4, z5⟩ := HSH.out w4 HB4
  go_wp2_with fail
  go_ret
  exact ⟨rfl, HB4.out⟩
end Go.Proofs.YtlnjnimenihhnaaGreatDoor

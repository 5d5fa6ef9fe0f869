/-
  The document's tree: Unlink, Rmdir, done.
-/
import Derived.Test.YtlnjnimenihhnaaGreatDoorVOver
import Derived.Deep.DeepCutAuto
namespace Go.Proofs.YtlnjnimenihhnaaGreatDoor
open Go.RowKit Go.Maps

set_option maxHeartbeats 6400000 in
set_option maxRecDepth 100000 in
theorem rrem_file {r q k m i : Nat} {G : Nat → Prop} {R R1 : Rs} {bs0 : List Int} {es : List En} {x : ByteArray} (n N1 c b0 off : Nat) (hN1 : N1 = n + 1) (w : World) (hbr : ¬ b0 = r) (hbq : ¬ b0 = q) (h : Rt w r q G R) (cx : w.cell? ⟨b0, off + n, none⟩ = some (.string x)) (hnc : n < c) (hn : n ≤ 1000) (hk : R.at k = .file bs0) (hm : R1.at m = .dir es) (hi : IdxN es x (i : Int)) (hel : es.length ≤ 100000)
    (HW1 : Calls Tryz.prog 59 #[ptr r, .slice (some ⟨b0, off, none⟩) N1 c] w fun e w'' => e = .returned (.tuple #[.int .i64 (k : Nat), .int .i64 0]) ∧ Below w.heap.size w w'')
    (HW2 : ∀ w', Below w.heap.size w w' → Calls Tryz.prog 59 #[ptr r, .slice (some ⟨b0, off, none⟩) n c] w' fun e w'' => e = .returned (.tuple #[.int .i64 (m : Nat), .int .i64 0]) ∧ Below w'.heap.size w' w'')
    (HF : ∀ w', Below w.heap.size w w' → Calls Tryz.prog 67 #[ptr r, .int .i64 (k : Nat)] w' fun e w'' => e = .returned (.tuple #[]) ∧ Hid (Rt w'' r q G R1 ∧ Chg (fun b => b = r ∨ b = q) w' w'')) :
    Calls Tryz.prog 33 #[ptr r, .slice (some ⟨b0, off, none⟩) N1 c, .bool false] w fun e w' => e = .returned (.int .i64 0) ∧ Hid (Rto w w' r q G ⟨R1.L.set m (.dir (es.set i En.fr)), R1.bl, R1.ino⟩) := by
  have HWH1 : Hid (Calls Tryz.prog 59 #[ptr r, .slice (some ⟨b0, off, none⟩) N1 c] w fun e w'' => e = .returned (.tuple #[.int .i64 (k : Nat), .int .i64 0]) ∧ Below w.heap.size w w'') := HW1
  have HWH2 : Hid (∀ w', Below w.heap.size w w' → Calls Tryz.prog 59 #[ptr r, .slice (some ⟨b0, off, none⟩) n c] w' fun e w'' => e = .returned (.tuple #[.int .i64 (m : Nat), .int .i64 0]) ∧ Below w'.heap.size w' w'') := HW2
  have HFH : Hid (∀ w', Below w.heap.size w w' → Calls Tryz.prog 67 #[ptr r, .int .i64 (k : Nat)] w' fun e w'' => e = .returned (.tuple #[]) ∧ Hid (Rt w'' r q G R1 ∧ Chg (fun b => b = r ∨ b = q) w' w'')) := HF
  have HR : Hid (Rt w r q G R ∧ R1.at m = .dir es ∧ IdxN es x (i : Int) ∧ w.cell? ⟨b0, off + n, none⟩ = some (.string x) ∧ ¬ b0 = r ∧ ¬ b0 = q ∧ R.at k = .file bs0) := ⟨h, hm, hi, cx, hbr, hbq, hk⟩
  have i1 : (n : Int) < (N1 : Int) := by omega
  have i2 : n ≤ N1 := by omega
  have i3 : N1 ≤ c := by omega
  have w7 : (N1 : Int) - 1 = n := by omega
  have w8 : ¬ (N1 : Int) = 0 := by omega
  have w9 : ((N1 : Int) == 0) = false := by simp; omega
  have w10 : decide ((N1 : Int) = 0) = false := by simp; omega
  clear HW1 HW2 HF h hm hi cx hbr hbq hk hN1
  go_enter Tryz.func33, Tryz.ntmps33
  go_wp2_with fail
  refine HWH1.out.mono ?_
  clear HWH1
  rintro e w1 ⟨rfl, B1⟩
  have HB1 : Hid (Below w.heap.size w w1) := B1
  obtain ⟨hml, cc, a1, d1, z0, _, z1, _, _, _, _, _, _⟩ := (HR.out.1.below B1).fileAt HR.out.2.2.2.2.2.2
  have q2 : (k : Int) < R.L.length := by omega
  clear B1 hml
  go_wp2_with fail
  refine (HWH2.out w1 HB1.out).mono ?_
  clear HWH2 w7 w8 w9 w10 z0 z1
  rintro e w3 ⟨rfl, B3⟩
  have HB3 : Hid (Below w.heap.size w w3) := HB1.out.trans (B3.mono HB1.out.size)
  clear B3
  go_wp2_with fail
  refine (HFH.out w3 HB3.out).mono ?_
  clear HFH
  rintro e w4 ⟨rfl, HX⟩
  obtain ⟨hR4, hc4⟩ := HX.out
  obtain ⟨hml4, cc4, a4, d4, cL4, _, _, _, c34, hE4, _, _⟩ := hR4.dirAt HR.out.2.1
  have cx4 := hc4.cell ((Chg.ofBelowC HB3.out).cell HR.out.2.2.2.1 (fun h => h)) (fun e => e.elim HR.out.2.2.2.2.1 HR.out.2.2.2.2.2.1)
  have q4 : (m : Int) < R1.L.length := by omega
  have HS : Hid (∀ w', Hid (Below w4.heap.size w4 w') → (Hid (Below w4.heap.size w4 w') ∧ w'.cell? ⟨r, 0, none⟩ = some (.slice (some ⟨q, 0, none⟩) R1.L.length cc4) ∧ w'.cell? ⟨q, m * 4 + 3, none⟩ = some (.slice a4 es.length d4) ∧ w'.cell? ⟨b0, off + n, none⟩ = some (.string x))) := fun w' hb => by
    have hc := Chg.ofBelowC hb.out
    exact ⟨hb, hc.cell cL4 (fun h => h), hc.cell c34 (fun h => h), hc.cell cx4 (fun h => h)⟩
  have HT : Hid (∀ w', Hid (Below w4.heap.size w4 w') → Calls Tryz.prog 68 #[.slice a4 es.length d4, .string x] w' fun e w'' => ∃ g uc y, e = .returned (.tuple #[.slice (some ⟨g, 0, none⟩) es.length uc, .int .i64 y, .int .i64 0]) ∧ Hid (Below w4.heap.size w4 w'') ∧ Hid (w''.ownsRow w4.heap.size 116 2 (.slice (some ⟨g, 0, none⟩) es.length uc) es.length (ecells (es.set i En.fr)))) := fun w' hb =>
    (vtake_ok (.slice a4 es.length d4) es x i w' (hE4.below hb.out) (by omega) HR.out.2.2.1).mono (by
      rintro e w'' ⟨u, rfl, hF⟩
      have ho := own_down hF.out.1 hb.out.size
      rw [List.length_set] at ho
      have hB : Below w4.heap.size w4 w'' := hb.out.trans (hF.out.2.mono hb.out.size)
      rcases ho.2 with ⟨_, h0⟩ | ⟨g, cap, cur, rfl, _⟩
      · have := HR.out.2.2.1.lt
        omega
      · exact ⟨g, cap, _, rfl, hB, ho⟩)
  have HR4 : Hid (Rt w4 r q G R1 ∧ Chg (fun b => b = r ∨ b = q) w w4 ∧ w.heap.size ≤ w4.heap.size) := ⟨hR4, ((Chg.ofBelowC HB3.out).mono (fun _ _ h => h.elim)).trans hc4 (fun _ _ h => h), Nat.le_trans HB3.out.size hc4.size⟩
  have HB5 : Hid (Below w4.heap.size w4 w4) := Below.refl _ _
  clear HX hR4 hc4 cL4 c34 hE4 cx4 hml4
  go_upto_region 13 with fail
  go_region_held (fun w' => (Hid (Below w4.heap.size w4 w') ∧ w'.cell? ⟨r, 0, none⟩ = some (.slice (some ⟨q, 0, none⟩) R1.L.length cc4) ∧ w'.cell? ⟨q, m * 4 + 3, none⟩ = some (.slice a4 es.length d4) ∧ w'.cell? ⟨b0, off + n, none⟩ = some (.string x))) (exact HS.out _ (by first | with_reducible assumption | exact bD HB5 | exact bN HB5 _ | exact bD (bN HB5 _)))
    (first | (go_at_call 68; refine (HT.out _ (by first | with_reducible assumption | exact bD HB5 | exact bN HB5 _ | exact bD (bN HB5 _))).mono ?_; rintro e w5 ⟨g, uc, y, rfl, HB6, HO6⟩))
  have hlt := HR4.out.1.lt
  have hgg : w4.heap.size ≤ g := by
    obtain ⟨g', cap, e, hg, _⟩ := own_place HO6.out (show i < (es.set i En.fr).length by rw [List.length_set]; exact HR.out.2.2.1.lt)
    injection e with e1 e2 e3
    injection e1 with e1
    injection e1 with e1
    subst e1
    exact hg
  have hgr : ¬ g = r := by omega
  have hgq : ¬ g = q := by omega
  obtain ⟨c', a', d', s0, s3, sf, sl, HS7⟩ := fin_S (HR4.out.1.below HB6.out) HR.out.2.1 HO6.out hgr hgq
  clear HS HT
  go_upto_region 15 with fail
  obtain ⟨w8, hw8⟩ : ∃ w8, w5.setCell ⟨q, m * 4 + 3, none⟩ (.slice (some ⟨g, 0, none⟩) es.length uc) = w8 := ⟨_, rfl⟩
  rw [hw8]
  obtain ⟨t1, tf, _, HR8, HC8⟩ := HS7.out w8 hw8
  clear HS7 hw8 s0 s3 sf t1 tf
  have HZ : Hid (Rto w w8 r q G ⟨R1.L.set m (.dir (es.set i En.fr)), R1.bl, R1.ino⟩) := by
    refine ⟨⟨q, _, HR8.out, .inl rfl, ?_⟩, ?_⟩
    · rintro b (h | rfl)
      · exact .inl h
      · have := HR4.out.2.2
        exact .inr (by omega)
    · exact (HR4.out.2.1.trans ((Chg.ofBelowC HB6.out).mono (fun _ _ h => h.elim)) (S' := fun _ => False) (fun _ _ h => h.elim)).trans HC8.out (fun _ _ h => .inr h)
  go_wp2_with fail
  go_ret
  exact ⟨rfl, HZ⟩
set_option maxHeartbeats 6400000 in
set_option maxRecDepth 100000 in
theorem rrem_dir {r q k m i : Nat} {G : Nat → Prop} {R R1 : Rs} {es0 : List En} {es : List En} {x : ByteArray} (n N1 c b0 off : Nat) (hN1 : N1 = n + 1) (w : World) (hbr : ¬ b0 = r) (hbq : ¬ b0 = q) (h : Rt w r q G R) (cx : w.cell? ⟨b0, off + n, none⟩ = some (.string x)) (hnc : n < c) (hn : n ≤ 1000) (hk : R.at k = .dir es0) (hn0 : (namesL es0).length = 0) (hel0 : es0.length ≤ 100000) (hm : R1.at m = .dir es) (hi : IdxN es x (i : Int)) (hel : es.length ≤ 100000)
    (HW1 : Calls Tryz.prog 59 #[ptr r, .slice (some ⟨b0, off, none⟩) N1 c] w fun e w'' => e = .returned (.tuple #[.int .i64 (k : Nat), .int .i64 0]) ∧ Below w.heap.size w w'')
    (HW2 : ∀ w', Below w.heap.size w w' → Calls Tryz.prog 59 #[ptr r, .slice (some ⟨b0, off, none⟩) n c] w' fun e w'' => e = .returned (.tuple #[.int .i64 (m : Nat), .int .i64 0]) ∧ Below w'.heap.size w' w'')
    (HF : ∀ w', Below w.heap.size w w' → Calls Tryz.prog 67 #[ptr r, .int .i64 (k : Nat)] w' fun e w'' => e = .returned (.tuple #[]) ∧ Hid (Rt w'' r q G R1 ∧ Chg (fun b => b = r ∨ b = q) w' w'')) :
    Calls Tryz.prog 33 #[ptr r, .slice (some ⟨b0, off, none⟩) N1 c, .bool true] w fun e w' => e = .returned (.int .i64 0) ∧ Hid (Rto w w' r q G ⟨R1.L.set m (.dir (es.set i En.fr)), R1.bl, R1.ino⟩) := by
  have HWH1 : Hid (Calls Tryz.prog 59 #[ptr r, .slice (some ⟨b0, off, none⟩) N1 c] w fun e w'' => e = .returned (.tuple #[.int .i64 (k : Nat), .int .i64 0]) ∧ Below w.heap.size w w'') := HW1
  have HWH2 : Hid (∀ w', Below w.heap.size w w' → Calls Tryz.prog 59 #[ptr r, .slice (some ⟨b0, off, none⟩) n c] w' fun e w'' => e = .returned (.tuple #[.int .i64 (m : Nat), .int .i64 0]) ∧ Below w'.heap.size w' w'') := HW2
  have HFH : Hid (∀ w', Below w.heap.size w w' → Calls Tryz.prog 67 #[ptr r, .int .i64 (k : Nat)] w' fun e w'' => e = .returned (.tuple #[]) ∧ Hid (Rt w'' r q G R1 ∧ Chg (fun b => b = r ∨ b = q) w' w'')) := HF
  have HR : Hid (Rt w r q G R ∧ R1.at m = .dir es ∧ IdxN es x (i : Int) ∧ w.cell? ⟨b0, off + n, none⟩ = some (.string x) ∧ ¬ b0 = r ∧ ¬ b0 = q ∧ R.at k = .dir es0) := ⟨h, hm, hi, cx, hbr, hbq, hk⟩
  have i1 : (n : Int) < (N1 : Int) := by omega
  have i2 : n ≤ N1 := by omega
  have i3 : N1 ≤ c := by omega
  have w7 : (N1 : Int) - 1 = n := by omega
  have w8 : ¬ (N1 : Int) = 0 := by omega
  have w9 : ((N1 : Int) == 0) = false := by simp; omega
  have w10 : decide ((N1 : Int) = 0) = false := by simp; omega
  clear HW1 HW2 HF h hm hi cx hbr hbq hk hN1
  go_enter Tryz.func33, Tryz.ntmps33
  go_wp2_with fail
  refine HWH1.out.mono ?_
  clear HWH1
  rintro e w1 ⟨rfl, B1⟩
  have HB1 : Hid (Below w.heap.size w w1) := B1
  obtain ⟨hml, cc, a1, d1, z0, _, z1, _, z3, hE, _, _⟩ := (HR.out.1.below B1).dirAt HR.out.2.2.2.2.2.2
  have q2 : (k : Int) < R.L.length := by omega
  have HN : Hid (Calls Tryz.prog 66 #[.slice a1 es0.length d1] w1 fun e w' => ∃ a c, e = .returned (.slice a 0 c) ∧ Below w1.heap.size w1 w') := (rnames_any _ es0 w1 hE (by omega)).mono (by
    rintro e w' ⟨u, rfl, ho, hb⟩
    rw [hn0] at ho
    obtain ⟨a, c, rfl⟩ := own_sl1 ho
    exact ⟨a, c, rfl, hb⟩)
  clear B1 hml hE
  go_wp2_with fail
  refine HN.out.mono ?_
  clear HN z3
  rintro e w2 ⟨a2, c2, rfl, B2⟩
  have HB2 : Hid (Below w.heap.size w w2) := HB1.out.trans (B2.mono HB1.out.size)
  clear B2
  go_wp2_with fail
  refine (HWH2.out w2 HB2.out).mono ?_
  clear HWH2 w7 w8 w9 w10 z0 z1
  rintro e w3 ⟨rfl, B3⟩
  have HB3 : Hid (Below w.heap.size w w3) := HB2.out.trans (B3.mono HB2.out.size)
  clear B3
  go_wp2_with fail
  refine (HFH.out w3 HB3.out).mono ?_
  clear HFH
  rintro e w4 ⟨rfl, HX⟩
  obtain ⟨hR4, hc4⟩ := HX.out
  obtain ⟨hml4, cc4, a4, d4, cL4, _, _, _, c34, hE4, _, _⟩ := hR4.dirAt HR.out.2.1
  have cx4 := hc4.cell ((Chg.ofBelowC HB3.out).cell HR.out.2.2.2.1 (fun h => h)) (fun e => e.elim HR.out.2.2.2.2.1 HR.out.2.2.2.2.2.1)
  have q4 : (m : Int) < R1.L.length := by omega
  have HS : Hid (∀ w', Hid (Below w4.heap.size w4 w') → (Hid (Below w4.heap.size w4 w') ∧ w'.cell? ⟨r, 0, none⟩ = some (.slice (some ⟨q, 0, none⟩) R1.L.length cc4) ∧ w'.cell? ⟨q, m * 4 + 3, none⟩ = some (.slice a4 es.length d4) ∧ w'.cell? ⟨b0, off + n, none⟩ = some (.string x))) := fun w' hb => by
    have hc := Chg.ofBelowC hb.out
    exact ⟨hb, hc.cell cL4 (fun h => h), hc.cell c34 (fun h => h), hc.cell cx4 (fun h => h)⟩
  have HT : Hid (∀ w', Hid (Below w4.heap.size w4 w') → Calls Tryz.prog 68 #[.slice a4 es.length d4, .string x] w' fun e w'' => ∃ g uc y, e = .returned (.tuple #[.slice (some ⟨g, 0, none⟩) es.length uc, .int .i64 y, .int .i64 0]) ∧ Hid (Below w4.heap.size w4 w'') ∧ Hid (w''.ownsRow w4.heap.size 116 2 (.slice (some ⟨g, 0, none⟩) es.length uc) es.length (ecells (es.set i En.fr)))) := fun w' hb =>
    (vtake_ok (.slice a4 es.length d4) es x i w' (hE4.below hb.out) (by omega) HR.out.2.2.1).mono (by
      rintro e w'' ⟨u, rfl, hF⟩
      have ho := own_down hF.out.1 hb.out.size
      rw [List.length_set] at ho
      have hB : Below w4.heap.size w4 w'' := hb.out.trans (hF.out.2.mono hb.out.size)
      rcases ho.2 with ⟨_, h0⟩ | ⟨g, cap, cur, rfl, _⟩
      · have := HR.out.2.2.1.lt
        omega
      · exact ⟨g, cap, _, rfl, hB, ho⟩)
  have HR4 : Hid (Rt w4 r q G R1 ∧ Chg (fun b => b = r ∨ b = q) w w4 ∧ w.heap.size ≤ w4.heap.size) := ⟨hR4, ((Chg.ofBelowC HB3.out).mono (fun _ _ h => h.elim)).trans hc4 (fun _ _ h => h), Nat.le_trans HB3.out.size hc4.size⟩
  have HB5 : Hid (Below w4.heap.size w4 w4) := Below.refl _ _
  clear HX hR4 hc4 cL4 c34 hE4 cx4 hml4
  go_upto_region 13 with fail
  go_region_held (fun w' => (Hid (Below w4.heap.size w4 w') ∧ w'.cell? ⟨r, 0, none⟩ = some (.slice (some ⟨q, 0, none⟩) R1.L.length cc4) ∧ w'.cell? ⟨q, m * 4 + 3, none⟩ = some (.slice a4 es.length d4) ∧ w'.cell? ⟨b0, off + n, none⟩ = some (.string x))) (exact HS.out _ (by first | with_reducible assumption | exact bD HB5 | exact bN HB5 _ | exact bD (bN HB5 _)))
    (first | (go_at_call 68; refine (HT.out _ (by first | with_reducible assumption | exact bD HB5 | exact bN HB5 _ | exact bD (bN HB5 _))).mono ?_; rintro e w5 ⟨g, uc, y, rfl, HB6, HO6⟩))
  have hlt := HR4.out.1.lt
  have hgg : w4.heap.size ≤ g := by
    obtain ⟨g', cap, e, hg, _⟩ := own_place HO6.out (show i < (es.set i En.fr).length by rw [List.length_set]; exact HR.out.2.2.1.lt)
    injection e with e1 e2 e3
    injection e1 with e1
    injection e1 with e1
    subst e1
    exact hg
  have hgr : ¬ g = r := by omega
  have hgq : ¬ g = q := by omega
  obtain ⟨c', a', d', s0, s3, sf, sl, HS7⟩ := fin_S (HR4.out.1.below HB6.out) HR.out.2.1 HO6.out hgr hgq
  clear HS HT
  go_upto_region 15 with fail
  obtain ⟨w8, hw8⟩ : ∃ w8, w5.setCell ⟨q, m * 4 + 3, none⟩ (.slice (some ⟨g, 0, none⟩) es.length uc) = w8 := ⟨_, rfl⟩
  rw [hw8]
  obtain ⟨t1, tf, _, HR8, HC8⟩ := HS7.out w8 hw8
  clear HS7 hw8 s0 s3 sf t1 tf
  have HZ : Hid (Rto w w8 r q G ⟨R1.L.set m (.dir (es.set i En.fr)), R1.bl, R1.ino⟩) := by
    refine ⟨⟨q, _, HR8.out, .inl rfl, ?_⟩, ?_⟩
    · rintro b (h | rfl)
      · exact .inl h
      · have := HR4.out.2.2
        exact .inr (by omega)
    · exact (HR4.out.2.1.trans ((Chg.ofBelowC HB6.out).mono (fun _ _ h => h.elim)) (S' := fun _ => False) (fun _ _ h => h.elim)).trans HC8.out (fun _ _ h => .inr h)
  go_wp2_with fail
  go_ret
  exact ⟨rfl, HZ⟩
end Go.Proofs.YtlnjnimenihhnaaGreatDoor

namespace Go.Proofs.YtlnjnimenihhnaaGreatDoor
open Go.RowKit Go.Maps

set_option maxHeartbeats 6400000 in
set_option maxRecDepth 100000 in
theorem rren_err {r : Nat} {va vb : Option Addr} {N1 c1 N2 c2 : Nat} (w : World) {k ec : Int} (he : ¬ ec = 0)
    (HL : Calls Tryz.prog 59 #[ptr r, .slice va N1 c1] w fun e w'' => e = .returned (.tuple #[.int .i64 k, .int .i64 ec]) ∧ Below w.heap.size w w'') :
    Calls Tryz.prog 34 #[ptr r, .slice va N1 c1, .slice vb N2 c2] w fun e w' => e = .returned (.int .i64 ec) ∧ Below w.heap.size w w' := by
  have HWL : Hid (Calls Tryz.prog 59 #[ptr r, .slice va N1 c1] w fun e w'' => e = .returned (.tuple #[.int .i64 k, .int .i64 ec]) ∧ Below w.heap.size w w'') := HL
  have e1 : (ec == 0) = false := by simpa using he
  have e2 : decide (ec = 0) = false := by simpa using he
  clear HL
  go_enter Tryz.func34, Tryz.ntmps34
  go_wp2_with fail
  refine HWL.out.mono ?_
  clear HWL
  rintro e w1 ⟨rfl, B1⟩
  have HB1 : Hid (Below w.heap.size w w1) := B1
  clear B1
  go_wp2_with fail
  go_ret
  exact ⟨rfl, HB1.out⟩
set_option maxHeartbeats 6400000 in
set_option maxRecDepth 100000 in
theorem rren_busy1 {r : Nat} {va vb : Option Addr} {N1 c1 N2 c2 : Nat} (w : World) {k : Int} (h0 : N1 = 0)
    (HL : Calls Tryz.prog 59 #[ptr r, .slice va N1 c1] w fun e w'' => e = .returned (.tuple #[.int .i64 k, .int .i64 0]) ∧ Below w.heap.size w w'') :
    Calls Tryz.prog 34 #[ptr r, .slice va N1 c1, .slice vb N2 c2] w fun e w' => e = .returned (.int .i64 13) ∧ Below w.heap.size w w' := by
  subst h0
  have HWL : Hid (Calls Tryz.prog 59 #[ptr r, .slice va 0 c1] w fun e w'' => e = .returned (.tuple #[.int .i64 k, .int .i64 0]) ∧ Below w.heap.size w w'') := HL
  clear HL
  go_enter Tryz.func34, Tryz.ntmps34
  go_wp2_with fail
  refine HWL.out.mono ?_
  clear HWL
  rintro e w1 ⟨rfl, B1⟩
  have HB1 : Hid (Below w.heap.size w w1) := B1
  clear B1
  go_wp2_with fail
  go_ret
  exact ⟨rfl, HB1.out⟩
set_option maxHeartbeats 6400000 in
set_option maxRecDepth 100000 in
theorem rren_busy2 {r : Nat} {va vb : Option Addr} {N1 c1 N2 c2 : Nat} (w : World) {k : Int} (h0 : ¬ N1 = 0) (h1 : N2 = 0)
    (HL : Calls Tryz.prog 59 #[ptr r, .slice va N1 c1] w fun e w'' => e = .returned (.tuple #[.int .i64 k, .int .i64 0]) ∧ Below w.heap.size w w'') :
    Calls Tryz.prog 34 #[ptr r, .slice va N1 c1, .slice vb N2 c2] w fun e w' => e = .returned (.int .i64 13) ∧ Below w.heap.size w w' := by
  subst h1
  have HWL : Hid (Calls Tryz.prog 59 #[ptr r, .slice va N1 c1] w fun e w'' => e = .returned (.tuple #[.int .i64 k, .int .i64 0]) ∧ Below w.heap.size w w'') := HL
  clear HL
  have w8 : ¬ (N1 : Int) = 0 := by omega
  have w9 : ((N1 : Int) == 0) = false := by simp; omega
  have w13 : decide ((N1 : Int) = 0) = false := by simp; omega
  go_enter Tryz.func34, Tryz.ntmps34
  go_wp2_with fail
  refine HWL.out.mono ?_
  clear HWL
  rintro e w1 ⟨rfl, B1⟩
  have HB1 : Hid (Below w.heap.size w w1) := B1
  clear B1
  go_wp2_with fail
  go_ret
  exact ⟨rfl, HB1.out⟩
set_option maxHeartbeats 6400000 in
set_option maxRecDepth 100000 in
theorem rren_err2 {r _q : Nat} {_G : Nat → Prop} {_R : Rs} (n1 n2 N1 N2 c1 c2 b1 b2 o1 o2 : Nat) (hN1 : N1 = n1 + 1) (hN2 : N2 = n2 + 1) (hc1 : n1 < c1) (hc2 : n2 < c2) (hn1 : n1 ≤ 1000) (hn2 : n2 ≤ 1000) (w : World) {k tt ec : Int} (he : ¬ ec = 0)
    (HL : ∀ w', Below w.heap.size w w' → Calls Tryz.prog 59 #[ptr r, .slice (some ⟨b1, o1, none⟩) N1 c1] w' fun e w'' => e = .returned (.tuple #[.int .i64 (k), .int .i64 0]) ∧ Below w'.heap.size w' w'')
    (HM : ∀ w', Below w.heap.size w w' → Calls Tryz.prog 59 #[ptr r, .slice (some ⟨b2, o2, none⟩) n2 c2] w' fun e w'' => e = .returned (.tuple #[.int .i64 (tt), .int .i64 ec]) ∧ Below w'.heap.size w' w'') :
    Calls Tryz.prog 34 #[ptr r, .slice (some ⟨b1, o1, none⟩) N1 c1, .slice (some ⟨b2, o2, none⟩) N2 c2] w fun e w' => e = .returned (.int .i64 ec) ∧ Below w.heap.size w w' := by
  have HWL : Hid (∀ w', Below w.heap.size w w' → Calls Tryz.prog 59 #[ptr r, .slice (some ⟨b1, o1, none⟩) N1 c1] w' fun e w'' => e = .returned (.tuple #[.int .i64 (k), .int .i64 0]) ∧ Below w'.heap.size w' w'') := HL
  have HWM : Hid (∀ w', Below w.heap.size w w' → Calls Tryz.prog 59 #[ptr r, .slice (some ⟨b2, o2, none⟩) n2 c2] w' fun e w'' => e = .returned (.tuple #[.int .i64 (tt), .int .i64 ec]) ∧ Below w'.heap.size w' w'') := HM
  have i1 : (n1 : Int) < (N1 : Int) := by omega
  have i2 : n1 ≤ N1 := by omega
  have i3 : N1 ≤ c1 := by omega
  have i4 : (n2 : Int) < (N2 : Int) := by omega
  have i5 : n2 ≤ N2 := by omega
  have i6 : N2 ≤ c2 := by omega
  have w7 : (N1 : Int) - 1 = n1 := by omega
  have w8 : ¬ (N1 : Int) = 0 := by omega
  have w9 : ((N1 : Int) == 0) = false := by simp; omega
  have w10 : (N2 : Int) - 1 = n2 := by omega
  have w11 : ¬ (N2 : Int) = 0 := by omega
  have w12 : ((N2 : Int) == 0) = false := by simp; omega
  have w13 : decide ((N1 : Int) = 0) = false := by simp; omega
  have w14 : decide ((N2 : Int) = 0) = false := by simp; omega
  have e1 : (ec == 0) = false := by simpa using he
  have e2 : decide (ec = 0) = false := by simpa using he
  clear HL HM hN1 hN2
  go_enter Tryz.func34, Tryz.ntmps34
  go_wp2_with fail
  refine (HWL.out w (Below.refl _ _)).mono ?_
  clear HWL
  rintro e w1 ⟨rfl, B1⟩
  have HB1 : Hid (Below w.heap.size w w1) := B1
  clear B1
  go_wp2_with fail
  refine (HWM.out w1 HB1.out).mono ?_
  clear HWM
  rintro e w2 ⟨rfl, B2⟩
  have HB2 : Hid (Below w.heap.size w w2) := HB1.out.trans (B2.mono HB1.out.size)
  clear B2
  clear w7 w8 w9 w10 w11 w12 w13 w14
  go_wp2_with fail
  go_ret
  exact ⟨rfl, HB2.out⟩
set_option maxHeartbeats 6400000 in
set_option maxRecDepth 100000 in
theorem rren_file {r q : Nat} {G : Nat → Prop} {R : Rs} (n1 n2 N1 N2 c1 c2 b1 b2 o1 o2 : Nat) (hN1 : N1 = n1 + 1) (hN2 : N2 = n2 + 1) (hc1 : n1 < c1) (hc2 : n2 < c2) (hn1 : n1 ≤ 1000) (hn2 : n2 ≤ 1000) (w : World) {bs : List Int} {k : Int} {tt : Nat} (h : Rt w r q G R) (hto : R.at tt = .file bs)
    (HL : ∀ w', Below w.heap.size w w' → Calls Tryz.prog 59 #[ptr r, .slice (some ⟨b1, o1, none⟩) N1 c1] w' fun e w'' => e = .returned (.tuple #[.int .i64 (k), .int .i64 0]) ∧ Below w'.heap.size w' w'')
    (HM : ∀ w', Below w.heap.size w w' → Calls Tryz.prog 59 #[ptr r, .slice (some ⟨b2, o2, none⟩) n2 c2] w' fun e w'' => e = .returned (.tuple #[.int .i64 (tt : Nat), .int .i64 0]) ∧ Below w'.heap.size w' w'') :
    Calls Tryz.prog 34 #[ptr r, .slice (some ⟨b1, o1, none⟩) N1 c1, .slice (some ⟨b2, o2, none⟩) N2 c2] w fun e w' => e = .returned (.int .i64 11) ∧ Below w.heap.size w w' := by
  have HWL : Hid (∀ w', Below w.heap.size w w' → Calls Tryz.prog 59 #[ptr r, .slice (some ⟨b1, o1, none⟩) N1 c1] w' fun e w'' => e = .returned (.tuple #[.int .i64 (k), .int .i64 0]) ∧ Below w'.heap.size w' w'') := HL
  have HWM : Hid (∀ w', Below w.heap.size w w' → Calls Tryz.prog 59 #[ptr r, .slice (some ⟨b2, o2, none⟩) n2 c2] w' fun e w'' => e = .returned (.tuple #[.int .i64 (tt : Nat), .int .i64 0]) ∧ Below w'.heap.size w' w'') := HM
  have i1 : (n1 : Int) < (N1 : Int) := by omega
  have i2 : n1 ≤ N1 := by omega
  have i3 : N1 ≤ c1 := by omega
  have i4 : (n2 : Int) < (N2 : Int) := by omega
  have i5 : n2 ≤ N2 := by omega
  have i6 : N2 ≤ c2 := by omega
  have w7 : (N1 : Int) - 1 = n1 := by omega
  have w8 : ¬ (N1 : Int) = 0 := by omega
  have w9 : ((N1 : Int) == 0) = false := by simp; omega
  have w10 : (N2 : Int) - 1 = n2 := by omega
  have w11 : ¬ (N2 : Int) = 0 := by omega
  have w12 : ((N2 : Int) == 0) = false := by simp; omega
  have w13 : decide ((N1 : Int) = 0) = false := by simp; omega
  have w14 : decide ((N2 : Int) = 0) = false := by simp; omega
  have HR : Hid (Rt w r q G R) := h
  clear HL HM hN1 hN2 h
  go_enter Tryz.func34, Tryz.ntmps34
  go_wp2_with fail
  refine (HWL.out w (Below.refl _ _)).mono ?_
  clear HWL
  rintro e w1 ⟨rfl, B1⟩
  have HB1 : Hid (Below w.heap.size w w1) := B1
  clear B1
  go_wp2_with fail
  refine (HWM.out w1 HB1.out).mono ?_
  clear HWM
  rintro e w2 ⟨rfl, B2⟩
  have HB2 : Hid (Below w.heap.size w w2) := HB1.out.trans (B2.mono HB1.out.size)
  clear B2
  obtain ⟨tl, tc, ta, td, tL, t0, t1, t2, t3, _, _, _, _⟩ := (HR.out.below HB2.out).fileAt hto
  have qt : (tt : Int) < R.L.length := by omega
  clear w7 w8 w9 w10 w11 w12 w13 w14
  go_wp2_with fail
  go_ret
  exact ⟨rfl, HB2.out⟩
end Go.Proofs.YtlnjnimenihhnaaGreatDoor

/-
  The document's tree: Cut, done.
-/
import Derived.Test.YtlnjnimenihhnaaGreatDoorVData2
import Derived.Deep.DeepCutAuto
namespace Go.Proofs.YtlnjnimenihhnaaGreatDoor
open Go.RowKit Go.Maps
attribute [local go_sem ↓] appV_eq

set_option maxHeartbeats 6400000 in
set_option maxRecDepth 100000 in
theorem rcut_ok {r : Nat} {va : Option Addr} {vn vc : Nat} {p q0 : ByteArray} {da : Option Addr} {dn dc : Nat} {N : Nat} {w : World} {q m : Nat} {G : Nat → Prop} {R : Rs} {bs : List Int} (h : Rt w r q G R) (hm : R.at m = .file bs) (hb : bs.length ≤ 8458240) (hbl : 0 ≤ R.bl ∧ R.bl ≤ 10000000000) (hN : N ≤ bs.length)
    (HW : ∀ w', Below w.heap.size w w' → Calls Tryz.prog 59 #[ptr r, .slice va vn vc] w' fun e w'' => e = .returned (.tuple #[.int .i64 (m : Nat), .int .i64 0]) ∧ Below w'.heap.size w' w'') :
    Calls Tryz.prog 32 #[ptr r, .agg #[.int .i64 4, .string p, .string q0, .slice da dn dc, .int .i64 (N : Nat)], .slice va vn vc] w fun e w' => e = .returned (.int .i64 0) ∧ Hid (Rto w w' r q G ⟨R.L.set m (.file (bs.take N)), R.bl + allN bs.length - allN N, R.ino⟩) := by
  have B0 : Below w.heap.size w (w.alloc (opV 4 p q0 (.slice da dn dc) N)) := below_alloc w _
  have HWH : Hid (Calls Tryz.prog 59 #[ptr r, .slice va vn vc] (w.alloc (opV 4 p q0 (.slice da dn dc) N)) fun e w'' => e = .returned (.tuple #[.int .i64 (m : Nat), .int .i64 0]) ∧ Below (w.alloc (opV 4 p q0 (.slice da dn dc) N)).heap.size (w.alloc (opV 4 p q0 (.slice da dn dc) N)) w'') := HW _ B0
  have HB : Hid (Below w.heap.size w (w.alloc (opV 4 p q0 (.slice da dn dc) N)) ∧ Rt w r q G R) := ⟨B0, h⟩
  have HO : Hid _ := opv_cells w 4 p q0 (.slice da dn dc) N
  have HL : Hid (r < w.heap.size ∧ q < w.heap.size) := h.lt
  clear HW B0 h
  go_enter Tryz.func32, Tryz.ntmps32
  go_wp2_with fail
  refine HWH.out.mono ?_
  clear HWH
  rintro e w1 ⟨rfl, B1⟩
  have B2 := HB.out.1.trans (B1.mono HB.out.1.size)
  obtain ⟨hml, cc, a1, d1, cL, c0, c1, c2, c3, hE, hI, hga, _⟩ := (HB.out.2.below B2).fileAt hm
  have q2 : (m : Int) < R.L.length := by omega
  obtain ⟨o0, o1, o2, o3, o4⟩ := HO.out
  have hc1 := Chg.ofBelowC B1
  have p0 := hc1.cell o0 (fun h => h)
  have p4 := hc1.cell o4 (fun h => h)
  have bA : Below w1.heap.size w1 (w1.alloc (thB a1 bs.length d1)) := below_alloc w1 _
  have x2 : (w1.alloc (thB a1 bs.length d1)).cell? ⟨w1.heap.size, 2, none⟩ = some (.slice a1 bs.length d1) := by
    rw [cell_of_row _ w1.heap.size _ _ _ _ (heap_alloc_new w1 _)]; rfl
  have x1 : (w1.alloc (thB a1 bs.length d1)).cell? ⟨w1.heap.size, 1, none⟩ = some (.bool false) := by
    rw [cell_of_row _ w1.heap.size _ _ _ _ (heap_alloc_new w1 _)]; rfl
  have r0 := (Chg.ofBelowC bA).cell p0 (fun h => h)
  have r4 := (Chg.ofBelowC bA).cell p4 (fun h => h)
  have hBa := B2.trans (bA.mono B2.size)
  have hE2 := hE.kept (Chg.ofBelowC bA) (fun _ _ _ _ _ h => h)
  have hw1 : Hid (w.heap.size < w1.heap.size) := by
    have := B1.size
    have e : (w.alloc (opV 4 p q0 (.slice da dn dc) N)).heap.size = w.heap.size + 1 := by simp
    show w.heap.size < w1.heap.size
    omega
  obtain ⟨X, HX0⟩ : ∃ X, Hid (w1.heap.size = X) := ⟨_, rfl⟩
  have hwX := hw1.out
  rw [HX0.out] at x1 x2 hwX
  have hsz : (w1.alloc (thB a1 bs.length d1)).heap.size = X + 1 := by rw [← HX0.out]; simp
  have HW3 : Hid (∀ wa, w1.alloc (thB a1 bs.length d1) = wa → wa.cell? ⟨w.heap.size, 0, none⟩ = some (.int .i64 4) ∧ wa.cell? ⟨w.heap.size, 4, none⟩ = some (.int .i64 (N : Nat)) ∧ wa.cell? ⟨X, 1, none⟩ = some (.bool false) ∧ wa.cell? ⟨X, 2, none⟩ = some (.slice a1 bs.length d1) ∧ Below w.heap.size w wa ∧ Bs wa (.slice a1 bs.length d1) bs ∧ wa.heap.size = X + 1) := by
    rintro wa rfl
    exact ⟨r0, r4, x1, x2, hBa, hE2, hsz⟩
  have HD : Hid (IsB bs ∧ (∀ p, a1 = some p → G p.block) ∧ w.heap.size < X ∧ R.at m = .file bs) := ⟨hI, hga, hwX, hm⟩
  have HRR : Hid (Rt w r q G R) := HB.out.2
  clear B1 B2 HB HO o0 o1 o2 o3 o4 hc1 bA p0 p4 x1 x2 r0 r4 hBa hE2 hsz hE hI hga hw1 hwX hm
  go_upto_region 5 with fail
  rw [HX0.out]
  obtain ⟨wa, hwa⟩ : ∃ wa, w1.alloc (thB a1 bs.length d1) = wa := ⟨_, rfl⟩
  rw [hwa]
  obtain ⟨r0, r4, x1, x2, hBa, hE, hsz⟩ := HW3.out wa hwa
  clear HW3 hwa HX0 cL c0 c1 c2 c3
  have hRa := HRR.out.below hBa
  have cB := hRa.cB
  have fB := hRa.fr 1
  have HA : Hid (Rt wa r q G R ∧ Below w.heap.size w wa ∧ Bs wa (.slice a1 bs.length d1) bs ∧ wa.heap.size = X + 1) := ⟨hRa, hBa, hE, hsz⟩
  have n1 : ¬ ((N : Int) < 0) := by omega
  have n2 : ¬ ((bs.length : Int) < N) := by omega
  have n3 : N ≤ bs.length := hN
  have HK1 : Hid (∀ w', Calls Tryz.prog 64 #[.int .i64 (bs.length : Int)] w' fun e w'' => e = .returned (.int .i64 (allN (bs.length : Int))) ∧ w'' = w') := fun w' => refAll_any _ w'
  have HK2 : Hid (∀ w', Calls Tryz.prog 64 #[.int .i64 (N : Int)] w' fun e w'' => e = .returned (.int .i64 (allN (N : Int))) ∧ w'' = w') := fun w' => refAll_any _ w'
  obtain ⟨A1, hA1⟩ : ∃ A, Hid (allN (bs.length : Int) = A) := ⟨_, rfl⟩
  obtain ⟨A2, hA2⟩ : ∃ A, Hid (allN (N : Int) = A) := ⟨_, rfl⟩
  have b1 := allN_bd (bs.length : Int)
  have b2 := allN_bd (N : Int)
  rw [hA1.out] at HK1 b1
  rw [hA2.out] at HK2 b2
  obtain ⟨b11, b12⟩ := b1
  obtain ⟨b21, b22⟩ := b2
  obtain ⟨u1, u2⟩ := hbl
  have hN0 : Hid (N ≤ bs.length) := hN
  clear hRa hBa hE hsz hN
  go_upto_region 10 with fail
  go_cut [50] from 42 to 57 (fun x wc => wc = (wa.setCell ⟨r, 1, none⟩ (.int .i64 (IntKind.i64.wrap (IntKind.i64.wrap (R.bl + A1) - A2)))).drew)
  case first =>
    clear r0 x1 n1 n2 n3 b11 b12 b21 b22 u1 u2 HRR HD HL hml HA q2
    go_region_with (first | (go_at_call 64; refine (HK1.out _).mono ?_; rintro e w5 ⟨rfl, rfl⟩) | (go_at_call 64; refine (HK2.out _).mono ?_; rintro e w5 ⟨rfl, rfl⟩))
    all_goals
      go_wp2_with fail
      go_meet
      exact rfl
  case rest =>
    have ev : IntKind.i64.wrap (IntKind.i64.wrap (R.bl + A1) - A2) = R.bl + A1 - A2 := by
      have h1 : IntKind.i64.wrap (R.bl + A1) = R.bl + A1 := by rw [IntKind.wrap_i64]; omega
      rw [h1, IntKind.wrap_i64]; omega
    rw [ev] at hcut
    have HD1 := HD.out
    have h5 := (HA.out.1.setBl (R.bl + A1 - A2)).below (below_drew _ _)
    have c5 : Chg (fun b => b = r) wa (wa.setCell ⟨r, 1, none⟩ (.int .i64 (R.bl + A1 - A2))).drew := (Chg.setCell (S := fun b => b = r) wa ⟨r, 1, none⟩ (.int .i64 (R.bl + A1 - A2)) rfl).trans (Chg.drew (fun _ => False) _) (fun _ _ h => h.elim)
    have HW5 : Hid (Rt wc r q G ⟨R.L, R.bl + A1 - A2, R.ino⟩ ∧ Chg (fun b => b = r) wa wc) := by rw [hcut]; exact ⟨h5, c5⟩
    clear hcut ev h5 c5 cB fB
    have hlt := HL.out
    have y4 := HW5.out.2.cell r4 (by show ¬ w.heap.size = r; omega)
    have y2 := HW5.out.2.cell x2 (by show ¬ X = r; omega)
    obtain ⟨HR5, hc5⟩ := HW5.out
    have hsz5 := hc5.size
    have hsza := HA.out.2.2.2
    have hBs : Bs wc (.slice a1 bs.length d1) bs := HA.out.2.2.1.kept hc5 (fun p n c e _ e2 => HA.out.1.gr (by
      injection e with e1
      exact e2 ▸ HD1.2.1 _ e1))
    have hBf := hBs.frontV hN0.out
    have hC : ∀ w', Below wc.heap.size wc w' → (∃ u, w'.cell? ⟨q, m * 4 + 2, none⟩ = some u) ∧ w'.frozen? ⟨q, m * 4 + 2, none⟩ = false := fun w' hb => by
      obtain ⟨_, cz, _, _, k0, _, _, k2, _, _, _, _, kf⟩ := (HR5.below hb).fileAt (k := m) HD1.2.2.2
      exact ⟨⟨_, k2⟩, kf _⟩
    obtain ⟨_, cz, _, _, y0, _⟩ := HR5.fileAt (k := m) HD1.2.2.2
    have y0' : wc.cell? ⟨r, 0, none⟩ = some (.slice (some ⟨q, 0, none⟩) R.L.length cz) := y0
    have bE : Below wc.heap.size wc (wc.alloc (.cells #[] 5)) := below_alloc wc _
    have bE' : Below wc.heap.size wc (wc.alloc (.cells #[] 5)).drew := ⟨bE.os, bE.tape, bE.output, bE.size, bE.block⟩
    obtain ⟨v1, n1, k1, w6, e1, H1⟩ := run_appB (wc.alloc (.cells #[] 5)).drew wc.heap.size (.slice (some ⟨wc.heap.size, 0, none⟩) 0 0) (.slice a1 N d1) 0 [] (bs.take N) (lit_own5V wc _ (Nat.le_refl _)) (hBf.kept (Chg.ofBelowC bE') (fun _ _ _ _ _ h => h)) (by simp; omega) bE'.size
    obtain ⟨ho1, hb1, en1⟩ := H1.out
    clear en1
    have b6 := bE'.trans hb1
    have z0 := (Chg.ofBelowC bE).cell y0' (fun h => h)
    have z2 := (Chg.ofBelowC bE).cell y2 (fun h => h)
    have z4 := (Chg.ofBelowC bE).cell y4 (fun h => h)
    have s0 := (Chg.ofBelowC b6).cell y0' (fun h => h)
    have s2 := (Chg.ofBelowC b6).cell y2 (fun h => h)
    have s4 := (Chg.ofBelowC b6).cell y4 (fun h => h)
    obtain ⟨⟨_, t2⟩, tf⟩ := hC _ b6
    have hE1 : Bs w6 (.slice v1 n1 k1) (bs.take N) := by have := Bs.ofOwns ho1; simpa using this
    have hblk : ∀ p, v1 = some p → wc.heap.size ≤ p.block ∧ p.block < w6.heap.size := by
      intro p hp
      rcases ho1.2 with ⟨h, _⟩ | ⟨g, cap, cur, e, hb, hg, _⟩
      · injection h with h; rw [hp] at h; cases h
      · injection e with e
        rw [hp] at e; cases e
        exact ⟨hb, lt_of_block hg⟩
    have hl5 := HR5.lt
    have h7 := (HR5.below b6).setB (k := m) (bs' := bs.take N) HD1.2.2.2 hE1 (HD1.1.take N) (a := v1) (n := n1) (d := k1) (fun p hp => by have := hblk p hp; omega)
    have HZ : Hid (Rto w (w6.setCell ⟨q, m * 4 + 2, none⟩ (.slice v1 n1 k1)) r q G ⟨R.L.set m (.file (bs.take N)), R.bl + allN bs.length - allN N, R.ino⟩) := by
      rw [hA1.out, hA2.out]
      have hs := HA.out.2.1.size
      refine ⟨⟨q, _, h7, .inl rfl, ?_⟩, ?_⟩
      · rintro b (h | ⟨p, hp, rfl⟩)
        · exact .inl h
        · have := hblk p hp
          exact .inr (by omega)
      · have f0 := ((Chg.ofBelowC HA.out.2.1).mono (S' := fun b => b = r ∨ b = q) (fun _ _ h => h.elim)).trans hc5 (fun _ _ h => .inl h)
        have f1 := f0.trans ((Chg.ofBelowC b6).mono (fun _ _ h => h.elim)) (S' := fun _ => False) (fun _ _ h => h.elim)
        exact f1.trans (Chg.setCell (S := fun b => b = q) _ _ _ rfl) (fun _ _ h => .inr h)
    have n3' : N ≤ d1 := by
      rcases hBs with ⟨h, h2⟩ | ⟨a', c', e, g1, _⟩
      · rw [h2] at n3; simp at n3; omega
      · injection e with _ _ e3; omega
    clear H1 ho1 hb1 hE1 hblk hl5 h7 b6 bE bE' hC hBs hBf hc5 hsz5 hsza HR5 HD1 HD HA HL HW5 HRR hlt y0 r4 x2 r0 x1
    go_wp2_with fail
    go_region
    go_wp2_with fail
    go_ret
    exact ⟨rfl, HZ⟩
end Go.Proofs.YtlnjnimenihhnaaGreatDoor

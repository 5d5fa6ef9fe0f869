/-
  known of the laws answers true, and begun makes a log.
-/
import Derived.Test.YtkkmdmnjlncgfaaWUp
namespace Go.Proofs.Ytkkmdmnjlncgfaa
open Go.RowKit Go.Maps

theorem eqL_some (a : Addr) (w : World) : (binOp .eql 29 (.pointer (some a)) (.pointer none)).run Try.prog w = .ok (.bool false) w := by kernel_rfl
theorem eqL_none (w : World) : (binOp .eql 29 (.pointer none) (.pointer none)).run Try.prog w = .ok (.bool true) w := by kernel_rfl
theorem neL_some (a : Addr) (w : World) : (binOp .neq 29 (.pointer (some a)) (.pointer none)).run Try.prog w = .ok (.bool true) w := by kernel_rfl
theorem eqT_some (a : Addr) (w : World) : (binOp .eql 35 (.pointer (some a)) (.pointer none)).run Try.prog w = .ok (.bool false) w := by kernel_rfl

def KnownA (w : World) (ux uy : Value) (tb ta : ByteArray) (e : Ending) (w1 : World) : Prop :=
  ∃ u, e = .returned u ∧ (convert 39 9 u).run Try.prog w1 = .ok (.string tb) w1 ∧ (convert 39 9 ux).run Try.prog w1 = .ok (.string tb) w1 ∧ (convert 39 9 uy).run Try.prog w1 = .ok (.string ta) w1 ∧
    (∀ o, (convert 39 9 ux).run Try.prog (w1.alloc o) = .ok (.string tb) (w1.alloc o)) ∧ (∀ o, (convert 39 9 uy).run Try.prog (w1.alloc o) = .ok (.string ta) (w1.alloc o)) ∧
    Hid (Calls Try.prog 22 #[.slice (some ⟨w1.heap.size, 0, none⟩) 1 1] (w1.alloc (.cells #[.int .u8 97] 5 (1, 2))) fun e w2 => ∃ u, e = .returned u ∧ (convert 39 9 u).run Try.prog w2 = .ok (.string ta) w2 ∧ (convert 39 9 ux).run Try.prog w2 = .ok (.string tb) w2 ∧ (convert 39 9 uy).run Try.prog w2 = .ok (.string ta) w2 ∧ Hid (Chg (fun _ => False) w w2))
theorem known_last {w w16 : World} {ux uy : Value} {A B : List Int} (hc : Chg (fun _ => False) w w16) (bx : Bs w16 ux B) (hby : Bs w16 uy A) (hB : full [98] = B) (hA : full [97] = A) :
    Calls Try.prog 22 #[.slice (some ⟨w16.heap.size, 0, none⟩) 1 1] (w16.drew.alloc (.cells #[.int .u8 98] 5 (1, 2))) (KnownA w ux uy (strOf B) (strOf A)) := by
  refine (full_any _ [98] _ (Bs.oneF w16.drew 98 (1, 2)) (by decide)).mono ?_
  rintro e w1 ⟨u, rfl, fr⟩
  have c0 : Chg (fun _ => False) w16 w1 := ((Chg.drew (fun _ => False) w16).trans (Chg.alloc (fun _ => False) w16.drew _) (fun _ _ h => h)).trans fr.chg (fun _ _ h => h)
  have bx1 := bx.kept c0 (fun _ _ _ _ _ h => h)
  have by1 := hby.kept c0 (fun _ _ _ _ _ h => h)
  have bu := fr.bs
  rw [hB] at bu
  refine ⟨u, rfl, run_str bu, run_str bx1, run_str by1, fun o => run_str (bx1.kept (Chg.alloc (fun _ => False) w1 o) (fun _ _ _ _ _ h => h)), fun o => run_str (by1.kept (Chg.alloc (fun _ => False) w1 o) (fun _ _ _ _ _ h => h)), ?_⟩
  refine (full_any _ [97] _ (Bs.oneF w1 97 (1, 2)) (by decide)).mono ?_
  rintro e w2 ⟨u2, rfl, fr2⟩
  have c2 : Chg (fun _ => False) w1 w2 := (Chg.alloc (fun _ => False) w1 _).trans fr2.chg (fun _ _ h => h)
  have bu2 := fr2.bs
  rw [hA] at bu2
  exact ⟨u2, rfl, run_str bu2, run_str (bx1.kept c2 (fun _ _ _ _ _ h => h)), run_str (by1.kept c2 (fun _ _ _ _ _ h => h)), (hc.trans c0 (fun _ _ h => h)).trans c2 (fun _ _ h => h)⟩


theorem Nw.ofNew {w w1 : World} {F : Nat → Prop} (hc : Chg (fun _ => False) w w1) (hF : ∀ b, F b → w.heap.size ≤ b) : Nw (fun b => b < w.heap.size) w w1 F (fun _ => False) := ⟨hc, hF, fun _ h => h.elim, fun b hb => ⟨Nat.lt_of_lt_of_le hb hc.size, fun hf => by have := hF b hf; omega, fun h => h⟩⟩

set_option maxHeartbeats 3200000 in
set_option maxRecDepth 100000 in
theorem known_any (w : World) : Calls Try.prog 8 #[] w fun e w' => e = .returned (.bool true) ∧ Chg (fun _ => False) w w' := by
  have kc := fun (w : World) (C : Array Value) (n c : Nat) => Lib.run_convert_bytes_const (P := Try.prog) w 39 5 C n c Try.underlying39 Try.underlying5
  obtain ⟨A, hA⟩ : ∃ A, full [97] = A := ⟨_, rfl⟩
  obtain ⟨B, hB⟩ : ∃ B, full [98] = B := ⟨_, rfl⟩
  have HA : Hid (full [97] = A ∧ A.length = 512) := ⟨hA, by rw [← hA]; exact full_len _⟩
  have HB : Hid (full [98] = B ∧ B.length = 512) := ⟨hB, by rw [← hB]; exact full_len _⟩
  clear hA hB
  go_enter Try.func8, Try.ntmps8
  go_wp2_with fail
  refine (new_ok 135 w (by decide) (by decide)).mono ?_
  rintro e w1 ⟨F, p, rfl, h1, hc1, hF⟩
  have H1 : Hid (Dk w1 F p (St.new 135) ∧ Nw (fun b => b < w.heap.size) w w1 F (fun _ => False)) := ⟨h1, Nw.ofNew hc1 hF⟩
  clear h1 hc1 hF
  go_wp2_with fail
  refine (format_up (N := 72) (K := 70) F (St.new 135) H1.out.1 H1.out.2 (fun _ => rfl) rfl (by decide) rfl (by decide) (by decide) (by decide)).mono ?_
  rintro e w2 ⟨pl, rfl, h2, _⟩
  have H2 : Hid (LogUp (fun b => b < w.heap.size) w w2 p pl 70 (fun _ => zeros 512) (fun _ => none) 0 72) := h2
  clear h2 H1
  have hq := eqL_some ⟨pl, 0, none⟩
  go_wp2_with fail
  refine (blocks_up H2.out).mono ?_
  rintro e w3 ⟨rfl, rfl⟩
  go_wp2_with fail
  refine (room_any ⟨pl, 0, none⟩ w3).mono ?_
  rintro e w4 ⟨rfl, rfl⟩
  go_wp2_with fail
  refine (begin_up H2.out).mono ?_
  rintro e w5 ⟨q, rfl, h5, _⟩
  have H5 : Hid (TxUp (fun b => b < w.heap.size) w w5 p pl q 70 (fun _ => zeros 512) (fun _ => none) 0 true (fun _ => none) 0 72) := h5
  clear h5 H2
  have hq2 := eqT_some ⟨q, 0, none⟩
  go_wp2_with fail
  refine (full_any _ [97] _ (Bs.oneF w5 97 _) (by decide)).mono ?_
  rintro e w6 ⟨u, rfl, fr⟩
  obtain ⟨ua, uc, rfl, hu⟩ := fr.form
  rw [HA.out.1] at fr
  have N6 : Hid (NewB w5 w6 (.slice ua 512 uc) A) := fr.newB (Chg.alloc (fun _ => False) w5 _)
  clear fr hu
  go_wp2_with fail
  refine (write_up 3 A ua uc H5.out N6.out HA.out.2 (by decide) (.inr (by decide))).mono ?_
  rintro e w7 ⟨rfl, h7, _⟩
  have H7 : Hid (TxUp (fun b => b < w.heap.size) w w7 p pl q 70 (fun _ => zeros 512) (fun _ => none) 0 true (upd (fun _ => none) 3 (some A)) (ks 70 (upd (fun _ => none) 3 (some A))).length 72) := h7
  clear h7 H5 N6
  go_wp2_with fail
  refine (commit_up H7.out (by decide) (by decide)).mono ?_
  rintro e w8 ⟨rfl, f8, com8, pend8, h8, _, hv8, _⟩
  have H8 : Hid (LogUp (fun b => b < w.heap.size) w w8 p pl 70 f8 com8 pend8 200 ∧ ∀ n, ovr f8 com8 n = ovr (ovr (fun _ => zeros 512) (fun _ => none)) (upd (fun _ => none) 3 (some A)) n) := ⟨h8.log, hv8⟩
  clear h8 hv8 H7
  go_wp2_with fail
  refine (sync_up H8.out.1 (by decide)).mono ?_
  rintro e w9 ⟨rfl, h9, _⟩
  have H9 : Hid (LogUp (fun b => b < w.heap.size) w w9 p pl 70 (ovr f8 com8) (fun _ => none) 0 328 ∧ ovr f8 com8 3 = A) := ⟨h9, by rw [H8.out.2]; exact ovr_some (upd_same _ _ _)⟩
  clear h9 H8
  obtain ⟨f9, hf9⟩ : ∃ f9, ovr f8 com8 = f9 := ⟨_, rfl⟩
  rw [hf9] at H9
  clear hf9
  go_wp2_with fail
  refine (begin_up H9.out.1).mono ?_
  rintro e w10 ⟨q2, rfl, h10, _⟩
  have H10 : Hid (TxUp (fun b => b < w.heap.size) w w10 p pl q2 70 f9 (fun _ => none) 0 true (fun _ => none) 0 328 ∧ f9 3 = A) := ⟨h10, H9.out.2⟩
  clear h10 H9 hq2
  have hq2 := eqT_some ⟨q2, 0, none⟩
  go_wp2_with fail
  refine (full_any _ [98] _ (Bs.oneF w10 98 _) (by decide)).mono ?_
  rintro e w11 ⟨u, rfl, fr⟩
  obtain ⟨ua, uc, rfl, hu⟩ := fr.form
  rw [HB.out.1] at fr
  have N6 : Hid (NewB w10 w11 (.slice ua 512 uc) B) := fr.newB (Chg.alloc (fun _ => False) w10 _)
  clear fr hu
  go_wp2_with fail
  refine (write_up 3 B ua uc H10.out.1 N6.out HB.out.2 (by decide) (.inr (by decide))).mono ?_
  rintro e w12 ⟨rfl, h12, _⟩
  have H12 : Hid (TxUp (fun b => b < w.heap.size) w w12 p pl q2 70 f9 (fun _ => none) 0 true (upd (fun _ => none) 3 (some B)) (ks 70 (upd (fun _ => none) 3 (some B))).length 328 ∧ f9 3 = A) := ⟨h12, H10.out.2⟩
  clear h12 H10 N6
  go_wp2_with fail
  refine (commit_up H12.out.1 (by decide) (by decide)).mono ?_
  rintro e w13 ⟨rfl, f13, com13, pend13, h13, _, hv13, hr13⟩
  have hf13 : f13 = f9 := by
    rcases hr13 with ⟨_, h, _⟩ | ⟨_, _, _, h⟩
    · exact h
    · exfalso
      have e1 : (ks 70 (mrg (fun _ => none) (upd (fun _ => none) 3 (some B)))).length ≤ 63 := by
        rw [ks_cnt, cntF_congr (p' := fun n => n == 3) (fun n _ => by
          rw [mrg_some]
          by_cases e : n = 3
          · subst e; simp [upd_same]
          · simp [upd_other _ _ e, e])]
        decide
      omega
  subst hf13
  have H13 : Hid (LogUp (fun b => b < w.heap.size) w w13 p pl 70 f13 com13 pend13 456 ∧ f13 3 = A ∧ ovr f13 com13 3 = B) := ⟨h13.log, H12.out.2, by rw [hv13]; exact ovr_some (upd_same _ _ _)⟩
  clear h13 hv13 hr13 H12
  go_wp2_with fail
  refine (read_up 3 H13.out.1 (by decide) (by decide)).mono ?_
  rintro e w14 ⟨ux, rfl, frx⟩
  rw [H13.out.2.2] at frx
  have H14 : Hid (LogUp (addX (fun b => b < w.heap.size) w13.heap.size w14.heap.size) w w14 p pl 70 f13 com13 pend13 456 ∧ f13 3 = A ∧ Bs w14 ux B) := ⟨H13.out.1.add frx.chg, H13.out.2.1, frx.bs⟩
  have HXN : Hid (∀ g, ux.ownBlock = some g → addX (fun b => b < w.heap.size) w13.heap.size w14.heap.size g) := fun g hg => .inr (frx.own.lt g hg)
  clear frx H13
  obtain ⟨X, hX⟩ : ∃ X, addX (fun b => b < w.heap.size) w13.heap.size w14.heap.size = X := ⟨_, rfl⟩
  rw [hX] at H14 HXN
  clear hX
  go_wp2_with fail
  refine (cut_up (.slice none 0 0) [] H14.out.1 (.inl ⟨rfl, rfl⟩) (fun h => absurd rfl h) (by decide)).mono ?_
  rintro e w15 ⟨rfl, h15, s15⟩
  have H15 : Hid (DkUp X w w15 p 70 f13 true 456 ∧ f13 3 = A ∧ Bs w15 ux B) := ⟨h15, H14.out.2.1, H14.out.2.2.sm s15 HXN.out⟩
  clear h15 s15 H14
  go_wp2_with fail
  refine (on_up H15.out.1).mono ?_
  rintro e w16 ⟨rfl, h16, s16⟩
  have H16 : Hid (DkUp X w w16 p 70 f13 false 456 ∧ f13 3 = A ∧ Bs w16 ux B) := ⟨h16, H15.out.2.1, H15.out.2.2.sm s16 HXN.out⟩
  clear h16 s16 H15
  go_wp2_with fail
  refine (open_up (by decide) H16.out.1 (by decide)).mono ?_
  rintro e w17 ⟨pm, rfl, h17, s17⟩
  have H17 : Hid (LogUp X w w17 p pm 70 f13 (fun _ => none) 0 520 ∧ f13 3 = A ∧ Bs w17 ux B) := ⟨h17, H16.out.2.1, H16.out.2.2.sm s17 HXN.out⟩
  clear h17 s17 H16 hq
  have hq := eqL_some ⟨pm, 0, none⟩
  go_wp2_with fail
  refine (read_up 3 H17.out.1 (by decide) (by decide)).mono ?_
  rintro e w18 ⟨uy, rfl, fry⟩
  rw [show ovr f13 (fun _ => none) 3 = A from H17.out.2.1] at fry
  have hcw : Chg (fun _ => False) w w18 := H17.out.1.chg.trans fry.chg (fun _ _ h => h)
  have bx := H17.out.2.2.kept fry.chg (fun _ _ _ _ _ h => h)
  have hby := fry.bs
  clear fry H17 hq hq2
  obtain ⟨tb, qb⟩ : ∃ t, strOf B = t := ⟨_, rfl⟩
  obtain ⟨ta, qa⟩ : ∃ t, strOf A = t := ⟨_, rfl⟩
  have KN := known_last hcw bx hby HB.out.1 HA.out.1
  rw [qb, qa] at KN
  have HL : Hid (Calls Try.prog 22 #[.slice (some ⟨w18.heap.size, 0, none⟩) 1 1] (w18.drew.alloc (.cells #[.int .u8 98] 5 (1, 2))) (KnownA w ux uy tb ta)) := KN
  have s1 : (convert 39 9 ux).run Try.prog w18.drew = .ok (.string tb) w18.drew := qb ▸ run_str (w := w18.drew) bx
  have s2 : (convert 39 9 uy).run Try.prog w18.drew = .ok (.string ta) w18.drew := qa ▸ run_str (w := w18.drew) hby
  have hbo : ∀ o, Bs (w18.alloc o) ux B := fun o => bx.kept (Chg.alloc (fun _ => False) w18 o) (fun _ _ _ _ _ h => h)
  have hbp : ∀ o, Bs (w18.alloc o) uy A := fun o => hby.kept (Chg.alloc (fun _ => False) w18 o) (fun _ _ _ _ _ h => h)
  have z1 : ∀ o, (convert 39 9 ux).run Try.prog (w18.alloc o).drew = .ok (.string tb) (w18.alloc o).drew := fun o => qb ▸ run_str (w := (w18.alloc o).drew) (hbo o)
  have z2 : ∀ o, (convert 39 9 uy).run Try.prog (w18.alloc o).drew = .ok (.string ta) (w18.alloc o).drew := fun o => qa ▸ run_str (w := (w18.alloc o).drew) (hbp o)
  have kcd : ∀ (C : Array Value) (n c : Nat), (convert 39 39 (.slice (some ⟨w18.heap.size, 0, none⟩) n c)).run Try.prog (w18.alloc (.cells C 5)).drew = .ok (.slice (some ⟨w18.heap.size, 0, none⟩) n c) (w18.alloc (.cells C 5 (C.size, C.size + 1))).drew := fun C n c => kc w18.drew C n c
  clear bx hby KN hcw qa qb hbo hbp HXN HA HB
  go_wp2_with fail
  go_region_held (fun w' => (convert 39 9 ux).run Try.prog w' = .ok (.string tb) w' ∧ (convert 39 9 uy).run Try.prog w' = .ok (.string ta) w')
    (first | assumption | exact ⟨s1, s2⟩ | exact ⟨z1 _, z2 _⟩ | exact ⟨x2, x3⟩ | exact ⟨x4 _, x5 _⟩ | exact ⟨y2, y3⟩)
    (first | (go_at_call 22; refine HL.out.mono ?_; clear HL; rintro e w19 ⟨u19, rfl, x1, x2, x3, x4, x5, HM⟩) | (go_at_call 22; refine HM.out.mono ?_; rintro e w20 ⟨u20, rfl, y1, y2, y3, HE⟩))
  all_goals
    go_wp2
    go_ret
    exact ⟨rfl, HE.out⟩

set_option maxHeartbeats 1600000 in
/-- begun: a log of 70 blocks. -/
theorem begun_any (w : World) : Calls Try.prog 29 #[] w fun e w' => ∃ p pl, e = .returned (.tuple #[.pointer (some ⟨pl, 0, none⟩), .pointer (some ⟨p, 0, none⟩)]) ∧ LogUp (fun b => b < w.heap.size) w w' p pl 70 (fun _ => zeros 512) (fun _ => none) 0 72 := by
  go_enter Try.func29, Try.ntmps29
  go_wp2_with fail
  refine (new_ok 135 w (by decide) (by decide)).mono ?_
  rintro e w1 ⟨F, p, rfl, h1, hc1, hF⟩
  have H1 : Hid (Dk w1 F p (St.new 135) ∧ Nw (fun b => b < w.heap.size) w w1 F (fun _ => False)) := ⟨h1, Nw.ofNew hc1 hF⟩
  clear h1 hc1 hF
  go_wp2_with fail
  refine (format_up (N := 72) (K := 70) F (St.new 135) H1.out.1 H1.out.2 (fun _ => rfl) rfl (by decide) rfl (by decide) (by decide) (by decide)).mono ?_
  rintro e w2 ⟨pl, rfl, h2, _⟩
  have H2 : Hid (LogUp (fun b => b < w.heap.size) w w2 p pl 70 (fun _ => zeros 512) (fun _ => none) 0 72) := h2
  clear h2 H1
  go_wp2
  go_ret2
  exact ⟨p, pl, rfl, H2.out⟩
end Go.Proofs.Ytkkmdmnjlncgfaa

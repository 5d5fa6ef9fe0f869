/-
  The contract of the reference's Flush, and of the law's comparison of two lists of numbers.
-/
import Derived.Test.YtioloobeakjbeaaRC9
namespace Go.Proofs.Ytioloobeakjbeaa
open Go.RowKit Go.Maps
attribute [local go_sem ↓] Go.wp_at_zero Go.wp_at_succ

theorem heldTo_dirty (C : Ca) (nb : Nat) : heldTo C true nb = C.dirties nb := rfl
theorem heldTo_held (C : Ca) (nb : Nat) : heldTo C false nb = C.held nb := rfl

set_option maxHeartbeats 1600000 in
theorem ints_any (v u : Value) (l : List Int) (w : World) (hv : Is w v l) (hu : Is w u l) (hl : l.length ≤ 1048576) : Calls Try.prog 17 #[v, u] w fun e w' => e = .returned (.bool true) ∧ Chg (fun _ => False) w w' := by
  obtain ⟨va, vc, rfl, _⟩ := hv.form
  obtain ⟨ua, uc, rfl, _⟩ := hu.form
  have HH : Hid (Is w (.slice va l.length vc) l ∧ Is w (.slice ua l.length uc) l) := ⟨hv, hu⟩
  clear hv hu
  obtain ⟨n, hn⟩ : ∃ n, l.length = n := ⟨_, rfl⟩
  have HN : Hid (l.length = n) := hn
  rw [hn] at hl HH
  rw [hn]
  clear hn
  go_enter Try.func17, Try.ntmps17
  go_wp2_with fail
  go_loopg [5] n (fun gg x wr => ∃ i : Nat, i ≤ n ∧ x = .int .i64 (i : Int) ∧ n - i ≤ gg ∧ Hid (Chg (fun _ => False) w wr))
  case atStart => exact ⟨0, Nat.zero_le _, rfl, by omega, Chg.refl _ _⟩
  case round =>
    obtain ⟨i, hi, rfl, hgg, HX⟩ := hrel
    by_cases hlt : i < n
    · have g1 : decide ((i : Int) < (n : Int)) = true := by simp; omega
      have g1' : (i : Int) < (n : Int) := by omega
      have hlt2 : i < l.length := by rw [HN.out]; exact hlt
      obtain ⟨b1, o1, rfl, f1⟩ := (HH.out.1.kept HX.out (fun _ _ h => h)).nth hlt2
      obtain ⟨b2, o2, rfl, f2⟩ := (HH.out.2.kept HX.out (fun _ _ h => h)).nth hlt2
      have d1 := f1 i hlt2
      have d2 := f2 i hlt2
      clear f1 f2
      generalize l.getD i 0 = x at *
      go_wp2_with fail
      go_region
      all_goals
        go_wp2
        go_roundg (n - (i + 1))
        case measure => omega
        case rel => exact ⟨i + 1, by omega, by go_num, Nat.le_refl _, HX.out.trans (Chg.drew _ _) (fun _ _ h => h)⟩
    · have hie : i = n := by omega
      subst hie
      have g1 : decide ((i : Int) < (i : Int)) = false := by simp
      go_wp2
      go_ret
      exact ⟨rfl, HX.out⟩

set_option maxHeartbeats 3200000 in
set_option maxRecDepth 100000 in
theorem rflush_any (G H : Nat → Prop) (c q : Nat) (S : St) (C : Ca) (lv : Value) (w : World) (h : RCk w G H c q S C lv) (hw : C.Wf S.nb) (hnb : S.nb ≤ 16384) (hx : S.writes + 16384 < 1099511627776) :
    Calls Try.prog 37 #[.pointer (some ⟨c, 0, none⟩)] w fun e w' => e = .returned (.int .i64 (flush S C).e) ∧ EvTo G H c q w w' (flush S C).S (flush S C).C := by
  have hdl := dirties_le C S.nb
  have HD := rheld_any G H c q S C lv true w h hw hnb
  rw [heldTo_dirty] at HD
  have HDD : Hid _ := HD
  have HK : Hid (RCk w G H c q S C lv ∧ C.Wf S.nb) := ⟨h, hw⟩
  have HFl : Hid (flush S C = if (flushTo S C (C.dirties S.nb)).e ≠ 0 then flushTo S C (C.dirties S.nb) else ⟨(flushTo S C (C.dirties S.nb)).S.syncE, (flushTo S C (C.dirties S.nb)).S.sync, (flushTo S C (C.dirties S.nb)).C⟩) := (show flush S C = _ from rfl)
  have HLH : Hid ((∀ n ∈ C.dirties S.nb, C.isDirty n = true) ∧ (C.dirties S.nb).Nodup) := ⟨fun n hn => (mem_dirties.1 hn).2, dirties_nodup C S.nb⟩
  generalize C.dirties S.nb = L at *
  clear h HD hw
  go_enter Try.func37, Try.ntmps37
  go_wp2_with fail
  refine (show Calls _ _ _ _ _ from HDD.out).mono ?_
  clear HDD
  rintro e w1 ⟨v, rfl, ho, hc⟩
  have HK1 : Hid (RCk w1 G H c q S C lv ∧ Chg (fun _ => False) w w1) := ⟨HK.out.1.kept hc (fun _ _ h => h), hc⟩
  have HVN : Hid (∀ g, v.ownBlock = some g → w.heap.size ≤ g ∧ g < w1.heap.size ∧ ¬ G g ∧ ¬ H g) := (show ∀ g, v.ownBlock = some g → _ from fun g hg => by
    obtain ⟨h1, h2⟩ := ho.lt g hg
    exact ⟨h1, h2, fun e => by have := HK.out.1.rk.lt g e; omega, fun e => by have := HK.out.1.rc.lt g e; omega⟩)
  have HV : Hid (w1.ownsRow w.heap.size 3 1 v L.length (icells L)) := ho
  obtain ⟨va, vc, hvf⟩ := own_form ho
  subst hvf
  clear ho hc
  go_wp2_with fail
  go_loopg [4, 5, 6] (L.length) (fun gg x _ _ wr => ∃ (j : Nat) (Sj : St) (Cj : Ca) (Gj : Nat → Prop), j ≤ L.length ∧ x = .int .i64 (j : Int) ∧ L.length - j ≤ gg ∧
    Hid (RCk wr Gj H c q Sj Cj lv ∧ Chg (fun b => G b ∨ H b) w1 wr ∧ (∀ b, Gj b → G b ∨ w1.heap.size ≤ b) ∧ flushTo S C L = flushTo Sj Cj (L.drop j) ∧ Sj.nb = S.nb ∧ Sj.writes ≤ S.writes + j ∧ Cj.Wf S.nb ∧ ∀ n ∈ L.drop j, Cj.isDirty n = true))
  case atStart => exact ⟨0, S, C, G, Nat.zero_le _, rfl, by omega, HK1.out.1, Chg.refl _ _, fun _ h => .inl h, rfl, rfl, Nat.le_refl _, HK.out.2, HLH.out.1⟩
  case round =>
    obtain ⟨j, Sj, Cj, Gj, hj, rfl, hgg, HX⟩ := hrel
    have c0 := HX.out.1.rc.c0
    by_cases hlt : j < L.length
    · have k1 : decide ((j : Int) < (L.length : Int)) = true := by simp; omega
      have k1' : (j : Int) < (L.length : Int) := by omega
      obtain ⟨gn, hva⟩ : ∃ g, va = some ⟨g, 0, none⟩ := by
        rcases HV.out.2 with ⟨e, h0⟩ | ⟨g, cap, cur, e, _⟩
        · omega
        · simp at e; exact ⟨g, e.1⟩
      subst hva
      have hrow : w1.cell? ⟨gn, j, none⟩ = some (.int .i64 ((L.getD j 0 : Nat) : Int)) := own_cells HV.out j hlt
      obtain ⟨n1, n2, n3, n4⟩ := HVN.out gn rfl
      have hcell : wr.cell? ⟨gn, j, none⟩ = some (.int .i64 ((L.getD j 0 : Nat) : Int)) := HX.out.2.1.cell hrow (fun e => by
        rcases e with e | e
        · exact n3 e
        · exact n4 e)
      have hdrop := drop_head hlt
      have hdirty : Cj.isDirty (L.getD j 0) = true := HX.out.2.2.2.2.2.2.2 _ (by rw [hdrop]; simp)
      obtain ⟨hd1, hd2, hd3⟩ := Ca.isDirty_item HX.out.2.2.2.2.2.2.1 hdirty
      obtain ⟨xs, ys, hL⟩ := List.append_of_mem hd3
      obtain ⟨x, hxe⟩ : ∃ x, Cj.item (L.getD j 0) = x := ⟨_, rfl⟩
      rw [hxe] at hd1 hd2 hL
      have hxm : x ∈ Cj.L := by rw [hL]; simp
      have hW := HX.out.2.2.2.2.2.2.1
      have hft : flushTo S C L = if Sj.writeE x.n x.b ≠ 0 then ⟨Sj.writeE x.n x.b, Sj.write x.n x.b, Cj⟩ else flushTo (Sj.write x.n x.b) (Cj.mod x.n fun i => { i with dirty := false }) (L.drop (j + 1)) := by
        rw [HX.out.2.2.2.1, hdrop]
        show (if cleanE Sj (Cj.item (L.getD j 0)) ≠ 0 then _ else _) = _
        rw [hxe]
        have e1 : cleanE Sj x = Sj.writeE x.n x.b := by unfold cleanE; rw [if_pos hd1]
        have e2 : cleanS Sj x = Sj.write x.n x.b := by unfold cleanS; rw [if_pos hd1]
        rw [e1, e2, hd2]
      have hlt2 : xs.length < Cj.L.length := by rw [hL]; simp
      have hii : Cj.L[xs.length] = x := by simp [hL]
      obtain ⟨g, cap, hlv, hcap, hgc, _⟩ := HX.out.1.rc.sm hlt2
      have hR := HX.out.1
      rw [hlv] at hR
      have c2 := hR.rc.c2
      have i1 := hR.rc.item (k := 1) hlt2 (by decide) rfl
      rw [hii] at i1
      have hll : Cj.L.length ≤ 1024 := Nat.le_trans hW.few hW.top
      have HF : Hid (Calls Try.prog 47 #[.pointer (some ⟨c, 0, none⟩), .int .i64 ((L.getD j 0 : Nat) : Int)] wr fun e w' => e = .returned (.int .i64 (xs.length : Int)) ∧ w' = wr) := by
        refine (rfind_any H c q Cj _ _ wr hR.rc hll).mono ?_
        rintro e w' ⟨k, rfl, hf, rfl⟩
        refine ⟨?_, rfl⟩
        rcases hf with ⟨xs2, x2, ys2, hL2, hx2, rfl⟩ | ⟨hf, _⟩
        · have hu := hW.uniq
          have hx2' : x2.n = x.n := by omega
          have hi2 : (Cj.L.map It.n)[xs2.length]? = some x.n := by rw [hL2]; simp [hx2']
          have hi1 : (Cj.L.map It.n)[xs.length]? = some x.n := by rw [hL]; simp
          have hlt3 : xs2.length < (Cj.L.map It.n).length := by rw [hL2]; simp
          have := (List.getElem?_inj hlt3 hu).1 (hi2.trans hi1.symm)
          rw [this]
        · exact absurd (by omega) (hf x hxm)
      have hbl := hW.len x hxm
      obtain ⟨E, hE⟩ : ∃ E, Sj.writeE x.n x.b = E := ⟨_, rfl⟩
      have cd := Chg.drew (fun _ => False) wr
      have hRd := hR.kept cd (fun _ _ h => h)
      have W0 := rwrite_any Gj q Sj x.n x.b wr.drew hRd.rk (by have := HX.out.2.2.2.2.2.1; omega) (by omega)
      rw [hE] at W0
      have hxn : (x.n : Int) = ((L.getD j 0 : Nat) : Int) := by rw [hd2]
      obtain ⟨nn, hnn⟩ : ∃ z, ((L.getD j 0 : Nat) : Int) = z := ⟨_, rfl⟩
      obtain ⟨i, hi⟩ : ∃ z, xs.length = z := ⟨_, rfl⟩
      obtain ⟨t, ht⟩ : ∃ z, strOf x.b = z := ⟨_, rfl⟩
      obtain ⟨N, hN⟩ : ∃ z, Cj.L.length = z := ⟨_, rfl⟩
      have WR : Hid (Calls Try.prog 63 #[.pointer (some ⟨q, 0, none⟩), .int .i64 nn, .string t] wr.drew fun e w2 => e = .returned (.int .i64 E) ∧ w2.cell? ⟨c, 0, none⟩ = some (.pointer (some ⟨q, 0, none⟩)) ∧ w2.cell? ⟨gn, j, none⟩ = some (.int .i64 nn) ∧ w2.cell? ⟨c, 2, none⟩ = some (.slice (some ⟨g, 0, none⟩) N cap) ∧ w2.cell? ⟨g, i * 4 + 1, none⟩ = some (.string t) ∧
          (∃ dd, w2.cell? ⟨g, i * 4 + 2, none⟩ = some (.bool dd)) ∧ w2.frozen? ⟨g, i * 4 + 2, none⟩ = false ∧
          (E ≠ 0 → Hid (flushTo S C L = ⟨E, Sj.write x.n x.b, Cj⟩ ∧ ∃ G2, RCk w2 G2 H c q (Sj.write x.n x.b) Cj lv ∧ Chg (fun b => G b ∨ H b) w1 w2 ∧ ∀ b, G2 b → G b ∨ w1.heap.size ≤ b)) ∧
          (E = 0 → Hid (∃ (Sk : St) (Ck : Ca) (G2 : Nat → Prop), RCk (w2.setCell ⟨g, i * 4 + 2, none⟩ (.bool false)) G2 H c q Sk Ck lv ∧ Chg (fun b => G b ∨ H b) w1 (w2.setCell ⟨g, i * 4 + 2, none⟩ (.bool false)) ∧ (∀ b, G2 b → G b ∨ w1.heap.size ≤ b) ∧ flushTo S C L = flushTo Sk Ck (L.drop (j + 1)) ∧ Sk.nb = S.nb ∧ Sk.writes ≤ S.writes + (j + 1) ∧ Ck.Wf S.nb ∧ ∀ n ∈ L.drop (j + 1), Ck.isDirty n = true))) := by
        rw [← hnn, ← ht, ← hxn]
        refine W0.mono ?_
        rintro e w2 ⟨rfl, ht2⟩
        obtain ⟨G2, m1, m2, m3⟩ := hRd.disk ht2
        have j1 := m1.rc.item (k := 1) hlt2 (by decide) rfl
        have j2 := m1.rc.item (k := 2) hlt2 (by decide) rfl
        rw [hii] at j1 j2
        have m2' : Chg Gj wr w2 := (cd.mono (fun _ _ h => h.elim)).trans m2 (fun _ _ h => h)
        have hG12 : ∀ b, G2 b → G b ∨ w1.heap.size ≤ b := fun b hb => by
          rcases m3 b hb with e | e
          · exact HX.out.2.2.1 b e
          · exact .inr (Nat.le_trans HX.out.2.1.size e)
        have hch : Chg (fun b => G b ∨ H b) w1 w2 := HX.out.2.1.trans m2' (fun k hk e => by
          rcases HX.out.2.2.1 k e with e | e
          · exact .inl e
          · omega)
        have hcn : w2.cell? ⟨gn, j, none⟩ = some (.int .i64 ((L.getD j 0 : Nat) : Int)) := hch.cell hrow (fun e => by
          rcases e with e | e
          · exact n3 e
          · exact n4 e)
        refine ⟨rfl, m1.rc.c0, by rw [hxn]; exact hcn, by rw [← hN]; exact m1.rc.c2, by rw [← hi]; exact j1, ⟨_, by rw [← hi]; exact j2⟩, m1.rc.gfr _, fun h0 => ?_, fun h0 => ?_⟩
        · refine ⟨by rw [hft, hE, if_pos h0], G2, by rw [hlv]; exact m1, hch, hG12⟩
        · obtain ⟨a1, z1⟩ := m1.rc.setItem (xs := xs) (ys := ys) (x := x) (y := { x with dirty := false }) hL (k := 2) (by decide) (v := .bool false) rfl _ (mod_eq hW hL fun i => { i with dirty := false })
          rw [← hi]
          have hnot : ∀ b, G2 b → ¬ H b := m1.no
          refine ⟨Sj.write x.n x.b, Cj.mod x.n fun i => { i with dirty := false }, G2, ⟨m1.rk.kept z1 (fun b hb hH => hnot b hb hH), by rw [hlv]; exact a1, hnot⟩, hch.trans z1 (fun _ _ h => .inr h), hG12, by rw [hft, hE, if_neg (by simpa using h0)], (St.write_nb _ _ _).trans HX.out.2.2.2.2.1, ?_, Ca.mod_wf hW _ _ (fun _ => rfl) (fun _ => rfl) (fun _ => Nat.le_refl _), fun n hn => ?_⟩
          · have := St.write_writes_le Sj x.n x.b
            have := HX.out.2.2.2.2.2.1
            omega
          · have hnd : (L.drop j).Nodup := HLH.out.2.sublist (List.drop_sublist _ _)
            rw [hdrop, List.nodup_cons] at hnd
            have hne : n ≠ x.n := fun e => hnd.1 (by rw [hd2] at e; rw [← e]; exact hn)
            rw [Ca.isDirty_mod hne]
            exact HX.out.2.2.2.2.2.2.2 n (by rw [hdrop]; exact List.mem_cons_of_mem _ hn)
      rw [hnn] at hcell HF
      rw [hi] at HF i1
      rw [ht] at i1
      rw [hN] at c2
      have hiN : (i : Int) < (N : Int) := by omega
      have hN1 : N ≤ 1024 := by omega
      clear hR hRd W0 cd hft hdrop hdirty hd1 hd2 hd3 hL hxe hxm hW hlt2 hii hlv hcap hgc hll hbl hE hxn hnn hi ht hN hrow n1 n2 n3 n4
      go_wp2_with fail
      refine (show Calls _ _ _ _ _ from HF.out).mono ?_
      rintro e w2 ⟨rfl, rfl⟩
      clear HF
      go_wp2_with fail
      go_region_held (fun w' => w'.cell? ⟨c, 0, none⟩ = some (.pointer (some ⟨q, 0, none⟩)) ∧ w'.cell? ⟨gn, j, none⟩ = some (.int .i64 nn) ∧ w'.cell? ⟨c, 2, none⟩ = some (.slice (some ⟨g, 0, none⟩) N cap) ∧ w'.cell? ⟨g, i * 4 + 1, none⟩ = some (.string t))
        (first | assumption | exact ⟨c0, hcell, c2, i1⟩ | exact ⟨q0, q1, q2, q3⟩)
        (first | (go_at_call 63; refine WR.out.mono ?_; clear WR; rintro e w3 ⟨rfl, q0, q1, q2, q3, ⟨dd, q4⟩, q5, y1, y2⟩))
      all_goals
        clear c0 hcell c2 i1
        by_cases he : E = 0
        · have HY := y2 he
          subst he
          clear y1 y2
          go_wp2
          go_roundg (L.length - (j + 1))
          case measure => omega
          case rel =>
            obtain ⟨Sk, Ck, G2, hh⟩ := HY.out
            exact ⟨j + 1, Sk, Ck, G2, by omega, by go_num, Nat.le_refl _, hh⟩
        · have HY := y1 he
          have he0 : (E == 0) = false := by simpa using he
          clear y1 y2
          go_wp2
          go_ret
          obtain ⟨hf, G2, m1, m2, m3⟩ := HY.out
          rw [HFl.out, hf, if_pos he]
          exact ⟨rfl, EvTo.after HK1.out.2 ⟨G2, H, lv, m1, m2, m3, fun _ h => .inl h⟩⟩
    · have hje : j = L.length := by omega
      subst hje
      have k1 : decide ((L.length : Int) < (L.length : Int)) = false := by simp
      have hf : flushTo S C L = ⟨0, Sj, Cj⟩ := by rw [HX.out.2.2.2.1, List.drop_length]; rfl
      have HF : Hid (flush S C = ⟨Sj.syncE, Sj.sync, Cj⟩) := (show flush S C = ⟨Sj.syncE, Sj.sync, Cj⟩ by rw [HFl.out, hf, if_neg (by simp)])
      have hww : Sj.writes < 1099511627776 := by have := HX.out.2.2.2.2.2.1; omega
      have HS : Hid _ := rsync_any Gj q Sj wr HX.out.1.rk hww
      clear hf HFl
      go_wp2_with fail
      refine (show Calls _ _ _ _ _ from HS.out).mono ?_
      rintro e w2 ⟨rfl, ht⟩
      have HT : Hid (RTo Gj q wr w2 Sj.sync) := ht
      clear ht c0 HS
      go_wp2
      go_ret
      rw [HF.out]
      obtain ⟨G2, m1, m2, m3⟩ := HX.out.1.disk HT.out
      refine ⟨rfl, EvTo.after HK1.out.2 ⟨G2, H, lv, m1, HX.out.2.1.trans m2 (fun k hk e => ?_), fun b hb => ?_, fun _ h => .inl h⟩⟩
      · rcases HX.out.2.2.1 k e with e | e
        · exact .inl e
        · omega
      · rcases m3 b hb with e | e
        · exact HX.out.2.2.1 b e
        · exact .inr (Nat.le_trans HX.out.2.1.size e)
end Go.Proofs.Ytioloobeakjbeaa

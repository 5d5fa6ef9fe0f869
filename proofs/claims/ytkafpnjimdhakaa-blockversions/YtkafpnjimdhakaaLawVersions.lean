/-
  BlockVersions answers true.
-/
import Derived.Test.YtkafpnjimdhakaaKnown
namespace Go.Proofs.Ytkafpnjimdhakaa
open Go.RowKit Go.Maps
attribute [local go_sem ↓] Go.wp_at_zero Go.wp_at_succ

def ver0 (first : Int) : St := ((St.new 3).write 2 (full [first])).sync
def vst (first : Int) (bs : List Int) : Nat → St
  | 0 => ver0 first
  | i + 1 => (vst first bs i).write 2 (full [bs.getD i 0])
structure VF (S : St) (first : Int) (bs : List Int) (i : Nat) : Prop where
  nb : S.nb = 3
  off : S.off = false
  arm : S.arm = 0
  wr : S.writes = 1 + i
  w0 : S.wait 0 = []
  w1 : S.wait 1 = []
  w2 : S.wait 2 = (List.range i).map fun j => full [bs.getD j 0]
  syn : S.syn 2 = full [first]
theorem ver0_w (first : Int) : ((St.new 3).write 2 (full [first])).writes = 1 := by
  rw [show ((2 : Int)) = ((2 : Nat) : Int) from rfl, write_of rfl (by decide) (full_len _) (by decide)]; rfl
theorem ver0_facts (first : Int) (bs : List Int) : VF (ver0 first) first bs 0 := by
  unfold ver0
  rw [show ((2 : Int)) = ((2 : Nat) : Int) from rfl, write_of rfl (by decide) (full_len _) (by decide)]
  have gen : ∀ A : List Int, full [first] = A → VF (((St.new 3).wrote 2 A).sync) first bs 0 := fun A hA => ⟨rfl, rfl, rfl, rfl, rfl, rfl, rfl, hA.symm⟩
  exact gen _ rfl
theorem vst_facts (first : Int) (bs : List Int) : ∀ i, VF (vst first bs i) first bs i
  | 0 => ver0_facts first bs
  | i + 1 => by
    have h := vst_facts first bs i
    have e : vst first bs (i + 1) = (vst first bs i).wrote 2 (full [bs.getD i 0]) := by
      show (vst first bs i).write 2 (full [bs.getD i 0]) = _
      rw [show ((2 : Int)) = ((2 : Nat) : Int) from rfl]
      exact write_of h.off (by rw [h.nb]; decide) (full_len _) (by rw [h.arm]; decide)
    rw [e]
    refine ⟨h.nb, h.off, h.arm, ?_, ?_, ?_, ?_, h.syn⟩
    · show (vst first bs i).writes + 1 = 1 + (i + 1); rw [h.wr]; omega
    · show upd (vst first bs i).wait 2 ((vst first bs i).wait 2 ++ [full [bs.getD i 0]]) 0 = []; rw [upd_other _ _ (by decide)]; exact h.w0
    · show upd (vst first bs i).wait 2 ((vst first bs i).wait 2 ++ [full [bs.getD i 0]]) 1 = []; rw [upd_other _ _ (by decide)]; exact h.w1
    · show upd (vst first bs i).wait 2 ((vst first bs i).wait 2 ++ [full [bs.getD i 0]]) 2 = _; rw [upd_same, h.w2, List.range_succ]; simp
theorem vst_cut {S : St} {first : Int} {bs : List Int} {i : Nat} (h : VF S first bs i) (hw : S.Wf) (q : Int) : (S.cut [q]).on.readV 2 = S.ver 2 (St.pickN q i) ∧ (S.cut [q]).on.readE 2 = 0 := by
  have hl : (S.wait 2).length = i := by rw [h.w2]; simp
  have hnb : (S.cut [q]).on.nb = 3 := by show (S.cut [q]).nb = 3; rw [St.cut_nb, h.nb]
  have e : (S.cut [q]).on.readE 2 = 0 := by unfold St.readE; rw [hnb]; rfl
  refine ⟨?_, e⟩
  unfold St.readV
  rw [if_pos e]
  have hwt : (S.cut [q]).on.wait 2 = [] := St.cut_wait hw [q] h.off 2
  show (S.cut [q]).on.last 2 = _
  have e2 : (S.cut [q]).on.last 2 = (S.cut [q]).syn 2 := by unfold St.last St.ver; rw [hwt]; rfl
  rw [e2]
  unfold St.cut
  rw [if_neg (by simp [h.off])]
  show (S.cutTo [q] S.keys).syn 2 = _
  by_cases h0 : i = 0
  · have hk : S.keys = [] := by
      unfold St.keys
      rw [h.nb]
      have : S.wait 2 = [] := List.eq_nil_of_length_eq_zero (by omega)
      simp [List.range, List.range.loop, h.w0, h.w1, this]
    rw [hk, h0]
    have : St.pickN q 0 = 0 := by have := St.pickN_le q 0; omega
    rw [this]; rfl
  · have hk : S.keys = [2] := by
      unfold St.keys
      rw [h.nb]
      have : (S.wait 2).isEmpty = false := by cases hx : S.wait 2; · rw [hx] at hl; simp at hl; omega
                                              · rfl
      simp [List.range, List.range.loop, h.w0, h.w1, this]
    rw [hk]
    simp [St.cutTo, St.settle, upd_same, hl]
theorem vst_ver {S : St} {first : Int} {bs : List Int} {i k : Nat} (h : VF S first bs i) (hk : k ≤ i) : S.ver 2 k = full [if k = 0 then first else bs.getD (k - 1) 0] := by
  unfold St.ver
  by_cases h0 : k = 0
  · rw [if_pos h0, if_pos h0]; exact h.syn
  · rw [if_neg h0, if_neg h0, h.w2]
    have : k - 1 < i := by omega
    simp [List.getD, this]

/-- What Full of the byte that is wanted finds at the end. -/
def VerA (w : World) (ux : Value) (tb : ByteArray) (e : Ending) (w1 : World) : Prop :=
  ∃ u, e = .returned u ∧ (convert 32 9 u).run Try.prog w1 = .ok (.string tb) w1 ∧ (convert 32 9 ux).run Try.prog w1 = .ok (.string tb) w1 ∧ Hid (Chg (fun _ => False) w w1)
theorem ver_last {w w16 : World} {ux : Value} {x : Int} (hc : Chg (fun _ => False) w w16) (bx : Bs w16 ux (full [x])) :
    Calls Try.prog 22 #[.slice (some ⟨w16.heap.size, 0, none⟩) 1 1] (w16.drew.alloc (.cells #[.int .u8 x] 5)) (VerA w ux (strOf (full [x]))) := by
  refine (full_any _ [x] _ (Bs.one w16.drew x) (by simp)).mono ?_
  rintro e w1 ⟨u, rfl, fr⟩
  have c0 : Chg (fun _ => False) w16 w1 := ((Chg.drew (fun _ => False) w16).trans (Chg.alloc (fun _ => False) w16.drew _) (fun _ _ h => h)).trans fr.chg (fun _ _ h => h)
  exact ⟨u, rfl, run_str fr.bs, run_str (bx.kept c0 (fun _ _ _ _ _ h => h)), hc.trans c0 (fun _ _ h => h)⟩

theorem tmod_pick (pick : Int) (L k : Nat) (hk : St.pickN pick L = k) : (pick.tmod ((L : Int) + 1) = (k : Int) ∧ (k : Int) ≤ L) ∨ ∃ t, pick.tmod ((L : Int) + 1) = t ∧ t < 0 ∧ -((L : Int) + 1) < t ∧ t + (L : Int) + 1 = (k : Int) := by
  have hp : (0 : Int) < (L : Int) + 1 := by omega
  have h0 := Int.emod_nonneg pick (b := (L : Int) + 1) (by omega)
  have h1 := Int.emod_lt_of_pos pick hp
  have hkE : (k : Int) = pick % ((L : Int) + 1) := by
    rw [← hk]; unfold St.pickN
    omega
  by_cases hq : 0 ≤ pick
  · left
    have := Int.tmod_eq_emod_of_nonneg (b := (L : Int) + 1) hq
    omega
  · have h6 : pick.tmod ((L : Int) + 1) = -((-pick).tmod ((L : Int) + 1)) := by rw [← Int.neg_tmod]; simp
    have h6b := Int.tmod_eq_emod_of_nonneg (a := -pick) (b := (L : Int) + 1) (by omega)
    have h7 := Int.emod_nonneg (-pick) (b := (L : Int) + 1) (by omega)
    have h8 := Int.emod_lt_of_pos (-pick) hp
    by_cases hz : (-pick) % ((L : Int) + 1) = 0
    · left
      have hd : ((L : Int) + 1) ∣ pick := (Int.dvd_neg).1 (Int.dvd_of_emod_eq_zero hz)
      have := Int.emod_eq_zero_of_dvd hd
      omega
    · right
      refine ⟨_, rfl, by omega, by omega, ?_⟩
      have e9 := Int.emod_add_mul_ediv (-pick) ((L : Int) + 1)
      have e10 : pick = (((L : Int) + 1) - (-pick) % ((L : Int) + 1)) + ((L : Int) + 1) * (-((-pick) / ((L : Int) + 1)) - 1) := by
        rw [Int.mul_sub, Int.mul_neg]; omega
      have e11 := congrArg (· % ((L : Int) + 1)) e10
      simp only [Int.add_mul_emod_self_left] at e11
      have e12 := Int.emod_eq_of_lt (a := ((L : Int) + 1) - (-pick) % ((L : Int) + 1)) (b := (L : Int) + 1) (by omega) (by omega)
      omega

set_option maxHeartbeats 3200000 in
set_option maxRecDepth 100000 in
theorem law_versions (first pick : Int) (v : Value) (bs : List Int) (w : World) (hb : Bs w v bs) :
    Calls Try.prog 5 #[.int .u8 first, v, .int .i64 pick] w fun e w' => e = .returned (.bool true) ∧ Chg (fun _ => False) w w' := by
  obtain ⟨va, vc, rfl, hvc⟩ := hb.form
  by_cases hbig : 200 < bs.length
  · have k1 : (200 : Int) < (bs.length : Int) := by omega
    clear hb
    go_enter Try.func5, Try.ntmps5
    go_wp2_with fail
    refine (known_any w).mono ?_
    rintro e w1 ⟨rfl, c1⟩
    go_wp2
    go_ret
    exact ⟨rfl, c1⟩
  have k1 : ¬ (200 : Int) < (bs.length : Int) := by omega
  have HB : Hid (Bs w (.slice va bs.length vc) bs) := hb
  clear hb
  go_enter Try.func5, Try.ntmps5
  go_wp2_with fail
  refine (known_any w).mono ?_
  rintro e w1 ⟨rfl, c1⟩
  go_wp2_with fail
  refine (new_ok 3 w1 (by decide) (by decide)).mono ?_
  rintro e w2 ⟨F, p, rfl, h2, c2, hF⟩
  have hq := eq25_some ⟨p, 0, none⟩
  have H2 : Hid (Dk w2 F p (St.new 3) ∧ Chg (fun _ => False) w w2 ∧ ∀ b, F b → w.heap.size ≤ b) := ⟨h2, c1.trans c2 (fun _ _ h => h), fun b hb => Nat.le_trans c1.size (hF b hb)⟩
  clear h2 c1 c2 hF
  go_wp2_with fail
  -- Write(2, Full([first]))
  refine (full_any _ [first] _ (Bs.one w2 first) (by simp)).mono ?_
  rintro e w3 ⟨u, rfl, fr⟩
  obtain ⟨ua, uc, rfl, hu⟩ := fr.form
  have N3 := full_next H2.out.1 fr H2.out.2
  have H3 : Hid (Dk w3 F p (St.new 3) ∧ Bs w3 (.slice ua 512 uc) (full [first]) ∧ (∀ g, (Value.slice ua 512 uc).ownBlock = some g → ¬ F g) ∧ Chg (fun _ => False) w w3 ∧ ∀ b, F b → w.heap.size ≤ b) := N3
  clear fr H2 N3
  go_wp2_with fail
  refine (write_any F p (St.new 3) 2 _ (full [first]) w3 H3.out.1 H3.out.2.1 H3.out.2.2.1 (by decide)).mono ?_
  rintro e w4 ⟨rfl, h4⟩
  obtain ⟨F4, H4⟩ := step_next H3.out.2.2.2 h4
  clear H3 h4
  go_wp2_with fail
  -- Sync
  refine (sync_any F4 p ((St.new 3).write 2 (full [first])) w4 H4.1 (by rw [ver0_w]; decide)).mono ?_
  rintro e w5 ⟨rfl, h5⟩
  obtain ⟨F5, H5⟩ := step_next H4.2 h5
  have REL0 : ∃ F, Dk w5 F p (vst first bs 0) ∧ Chg (fun _ => False) w w5 ∧ ∀ b, F b → w.heap.size ≤ b := ⟨F5, H5⟩
  clear H4 h5 H5 hq hu
  go_wp2_with fail
  go_loopw [9] (fun x wr => ∃ i : Nat, i ≤ bs.length ∧ x = .int .i64 (i : Int) ∧ ∃ F, Dk wr F p (vst first bs i) ∧ Chg (fun _ => False) w wr ∧ ∀ b, F b → w.heap.size ≤ b) (fun x _ => bs.length - (intOf x).toNat)
  case atStart => exact ⟨0, Nat.zero_le _, rfl, REL0⟩
  case round =>
    clear REL0
    obtain ⟨i, hiL, rfl, F6, h6, c6, hF6⟩ := hrel
    have hbr := HB.out.kept c6 (fun _ _ _ _ _ h => h)
    have HV : Hid (VF (vst first bs i) first bs i) := vst_facts first bs i
    by_cases hlt : i < bs.length
    · obtain ⟨b, off, rfl, hcs⟩ := hbr.at hlt
      have hcell := hcs i hlt
      have hsub : Bs wr (.slice (some ⟨b, off + i, none⟩) 1 (vc - i)) [bs.getD i 0] := by
        rcases hbr with ⟨e, _⟩ | ⟨a, c, e, h1, h2, _⟩
        · cases e
        · cases e
          refine .inr ⟨_, vc - i, rfl, by simp; omega, by omega, fun j hj => ?_⟩
          have h0 : j = 0 := by simp at hj; omega
          subst h0
          have e2 : (⟨b, off + i, none⟩ : Addr).add 0 = ⟨b, off + i, none⟩ := by unfold Addr.add; split <;> simp_all
          rw [e2, hcell]; rfl
      have HS : Hid (Bs wr (.slice (some ⟨b, off + i, none⟩) 1 (vc - i)) [bs.getD i 0]) := hsub
      have H6 : Hid (Dk wr F6 p (vst first bs i) ∧ Chg (fun _ => False) w wr ∧ ∀ b, F6 b → w.heap.size ≤ b) := ⟨h6, c6, hF6⟩
      have g1 : ¬ vc = i := by omega
      have g2 : (i : Int) + 1 ≤ (vc : Int) := by omega
      have g3 : (i : Int) < (bs.length : Int) := by omega
      clear hsub hcs hcell hbr h6 c6 hF6
      go_wp2_with fail
      refine (full_any _ [bs.getD i 0] wr HS.out (by simp)).mono ?_
      rintro e w7 ⟨u, rfl, fr⟩
      obtain ⟨ub, ud, rfl, hu⟩ := fr.form
      have H7 : Hid (Dk w7 F6 p (vst first bs i) ∧ Bs w7 (.slice ub 512 ud) (full [bs.getD i 0]) ∧ (∀ g, (Value.slice ub 512 ud).ownBlock = some g → ¬ F6 g) ∧ Chg (fun _ => False) w w7 ∧ ∀ b, F6 b → w.heap.size ≤ b) :=
        ⟨H6.out.1.kept fr.chg (fun _ _ h => h), fr.bs, Bs.off H6.out.1 (Chg.refl _ _) fr, H6.out.2.1.trans fr.chg (fun _ _ h => h), H6.out.2.2⟩
      clear fr H6 HS
      go_wp2_with fail
      refine (write_any F6 p (vst first bs i) 2 _ (full [bs.getD i 0]) w7 H7.out.1 H7.out.2.1 H7.out.2.2.1 (by rw [HV.out.wr]; omega)).mono ?_
      rintro e w8 ⟨rfl, h8⟩
      obtain ⟨F8, H8⟩ := step_next H7.out.2.2.2 h8
      have REL1 : ∃ F, Dk w8 F p (vst first bs (i + 1)) ∧ Chg (fun _ => False) w w8 ∧ ∀ b, F b → w.heap.size ≤ b := ⟨F8, H8⟩
      clear H7 h8 H8 hu
      go_wp2
      go_roundw
      case rel => exact ⟨i + 1, by omega, by go_num, REL1⟩
      case measure => simp [intOf]; omega
    · have hie : i = bs.length := by omega
      have H6 : Hid (Dk wr F6 p (vst first bs i) ∧ Chg (fun _ => False) w wr ∧ (∀ b, F6 b → w.heap.size ≤ b) ∧ Bs wr (.slice va bs.length vc) bs) := ⟨h6, c6, hF6, hbr⟩
      have g3 : ¬ (i : Int) < (bs.length : Int) := by omega
      clear h6 c6 hF6 hbr
      obtain ⟨S6, hS6⟩ : ∃ S6, vst first bs i = S6 := ⟨_, rfl⟩
      rw [hS6] at H6 HV
      rw [hie] at HV
      clear hS6
      go_wp2_with fail
      -- Cut(pick)
      have ca := Chg.alloc (fun _ => False) wr (.cells #[.int .i64 pick] 3)
      have d0 := H6.out.1.kept ca (fun _ _ h => h)
      have hx6 : S6.writes < 1099511627776 := by rw [HV.out.wr]; omega
      refine (cut_any F6 p S6 _ [pick] _ d0 (Is.one wr pick) (fun g hg hf => by cases hg; have := H6.out.1.lt _ hf; simp at this) hx6).mono ?_
      rintro e w10 ⟨rfl, h10⟩
      obtain ⟨F10, d10, c10, hF10⟩ := step_next ⟨H6.out.2.1.trans ca (fun _ _ h => h), H6.out.2.2.1⟩ h10
      have H10 : Hid (Dk w10 F10 p (S6.cut [pick]) ∧ Chg (fun _ => False) w w10 ∧ ∀ b, F10 b → w.heap.size ≤ b) := ⟨d10, c10, hF10⟩
      have HW : Hid S6.Wf := d0.wf
      clear H6 ca d0 h10 d10 c10 hF10
      go_wp2_with fail
      -- On
      refine (on_any F10 p (S6.cut [pick]) w10 H10.out.1).mono ?_
      rintro e w11 ⟨rfl, d11, c11⟩
      obtain ⟨F11, d11', c11', hF11⟩ := step_next H10.out.2 (To.own H10.out.1.fp d11 c11)
      have H11 : Hid (Dk w11 F11 p (S6.cut [pick]).on ∧ Chg (fun _ => False) w w11 ∧ ∀ b, F11 b → w.heap.size ≤ b) := ⟨d11', c11', hF11⟩
      clear H10 d11 c11 d11' c11' hF11
      go_wp2_with fail
      -- Read(2)
      refine (read_any F11 p (S6.cut [pick]).on 2 w11 H11.out.1 (by show (S6.cut [pick]).writes < _; rw [St.cut_writes]; exact hx6)).mono ?_
      rintro e w12 ⟨ux, rfl, frx⟩
      obtain ⟨hv1, hv2⟩ := vst_cut HV.out HW.out pick
      obtain ⟨k, hk⟩ : ∃ k, St.pickN pick bs.length = k := ⟨_, rfl⟩
      have hkl : k ≤ bs.length := by rw [← hk]; exact St.pickN_le _ _
      rw [hk, vst_ver HV.out hkl] at hv1
      rw [hv2]
      rw [hv1] at frx
      have hcw : Chg (fun _ => False) w w12 := H11.out.2.1.trans frx.chg (fun _ _ h => h)
      have bx := frx.bs
      have hb12 := HB.out.kept hcw (fun _ _ _ _ _ h => h)
      have t3 := tmod_pick pick bs.length k hk
      obtain ⟨x, hx⟩ : ∃ x, (if k = 0 then first else bs.getD (k - 1) 0) = x := ⟨_, rfl⟩
      rw [hx] at bx
      obtain ⟨tb, qb⟩ : ∃ t, strOf (full [x]) = t := ⟨_, rfl⟩
      have KN := ver_last hcw bx
      rw [qb] at KN
      have HL : Hid (Calls Try.prog 22 #[.slice (some ⟨w12.heap.size, 0, none⟩) 1 1] (w12.drew.alloc (.cells #[.int .u8 x] 5)) (VerA w ux tb)) := KN
      have s1 : (convert 32 9 ux).run Try.prog w12.drew = .ok (.string tb) w12.drew := qb ▸ run_str (w := w12.drew) bx
      have hbo : ∀ o, Bs (w12.alloc o) ux (full [x]) := fun o => bx.kept (Chg.alloc (fun _ => False) w12 o) (fun _ _ _ _ _ h => h)
      have z1 : ∀ o, (convert 32 9 ux).run Try.prog (w12.alloc o).drew = .ok (.string tb) (w12.alloc o).drew := fun o => qb ▸ run_str (w := (w12.alloc o).drew) (hbo o)
      have hL9 : bs.length ≤ 200 := by omega
      clear frx H11 hv1 hv2 hk HV HW hx6 HB KN bx hcw hbo qb hiL hlt hie g3
      rcases t3 with ⟨ht, htb⟩ | ⟨t, ht, htn, htm, hts⟩
      · by_cases h0 : k = 0
        · subst h0
          simp only [if_true] at hx
          subst hx
          simp only [Int.natCast_zero] at ht
          clear hb12
          go_wp2_with fail
          go_region_held (fun w' => (convert 32 9 ux).run Try.prog w' = .ok (.string tb) w')
            (first | assumption | exact z1 _ | exact y2)
            (first | (go_at_call 22; refine HL.out.mono ?_; clear HL; rintro e w18 ⟨u18, rfl, y1, y2, HE⟩))
          all_goals
            go_wp2
            go_ret
            exact ⟨rfl, HE.out⟩
        · obtain ⟨j, rfl⟩ : ∃ j, k = j + 1 := ⟨k - 1, by omega⟩
          simp only [Nat.add_sub_cancel, h0, if_false] at hx
          have hj : j < bs.length := by omega
          obtain ⟨b, off, rfl, hcs⟩ := hb12.at hj
          have hcell := hcs j hj
          rw [hx] at hcell
          have hji : (j : Int) < (bs.length : Int) := by omega
          have e9 : ((j + 1 : Nat) : Int) = (j : Int) + 1 := by omega
          rw [e9] at ht
          clear hb12 hcs hx h0 e9
          go_wp2_with fail
          go_region_held (fun w' => (convert 32 9 ux).run Try.prog w' = .ok (.string tb) w')
            (first | assumption | exact z1 _ | exact y2)
            (first | (go_at_call 22; refine HL.out.mono ?_; clear HL; rintro e w18 ⟨u18, rfl, y1, y2, HE⟩))
          all_goals
            go_wp2
            go_ret
            exact ⟨rfl, HE.out⟩
      · have hk0 : ¬ k = 0 := by omega
        obtain ⟨j, rfl⟩ : ∃ j, k = j + 1 := ⟨k - 1, by omega⟩
        simp only [Nat.add_sub_cancel, hk0, if_false] at hx
        have hj : j < bs.length := by omega
        obtain ⟨b, off, rfl, hcs⟩ := hb12.at hj
        have hcell := hcs j hj
        rw [hx] at hcell
        have hji : (j : Int) < (bs.length : Int) := by omega
        have e9 : t + (bs.length : Int) + 1 = (j : Int) + 1 := by omega
        have e10 : t + (bs.length : Int) = (j : Int) := by omega
        clear hb12 hcs hx hk0 hts
        go_wp2_with fail
        go_region_held (fun w' => (convert 32 9 ux).run Try.prog w' = .ok (.string tb) w')
          (first | assumption | exact z1 _ | exact y2)
          (first | (go_at_call 22; refine HL.out.mono ?_; clear HL; rintro e w18 ⟨u18, rfl, y1, y2, HE⟩))
        all_goals
          go_wp2
          go_ret
          exact ⟨rfl, HE.out⟩
end Go.Proofs.Ytkafpnjimdhakaa

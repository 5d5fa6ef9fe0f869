/-
  The contract of Format of package wal.
-/
import Derived.Test.YtdcmcgdalanjjaaGreatWMem
namespace Go.Proofs.YtdcmcgdalanjjaaGreat
open Go.RowKit Go.Maps

/-- What Format leaves: a log whose blocks are bytes 0, or the power has gone: the disk is as it was, or has no head. -/
def FmTo (F : Nat → Prop) (p K : Nat) (S : St) (w : World) (e : Ending) (w' : World) : Prop :=
  (∃ pl F' G m V S', e = .returned (.tuple #[.pointer (some ⟨pl, 0, none⟩), .int .i64 0]) ∧ Lk w' F' G p pl K S' (fun _ => none) 0 (.pointer none) m V ∧ Chg F w w' ∧ (∀ b, F' b → F b ∨ w.heap.size ≤ b) ∧ (∀ b, G b → w.heap.size ≤ b) ∧ Onw S S' (K + 2) ∧ Clean S' K (fun _ => zeros 512)) ∨
  (∃ S', e = .returned (.tuple #[.pointer none, .int .i64 6]) ∧ To F p w w' S' ∧ Gone S S' (K + 2) ∧ (S'.syn = S.syn ∨ S'.syn 0 = zeros 512))

theorem To.bs {F : Nat → Prop} {p : Nat} {w w' : World} {S' : St} {v : Value} {bs : List Int} (h : To F p w w' S') (hb : Bs w v bs) (hv : ∀ g, v.ownBlock = some g → ¬ F g) : Bs w' v bs := by
  obtain ⟨F', d, c, f⟩ := h
  exact hb.kept c (fun a _ _ e _ hf => hv a.block (by rw [e]; rfl) hf)

set_option maxHeartbeats 3200000 in
set_option maxRecDepth 100000 in
theorem format_any (F : Nat → Prop) (p K : Nat) (S : St) (w : World) (h : Dk w F p S) (hc : ∀ n, S.wait n = []) (hK : S.nb = K + 65) (hK1 : 1 ≤ K) (hoff : S.off = false) (hx : S.writes + 20000 < 1099511627776) :
    Calls Tryz.prog 26 #[.pointer (some ⟨p, 0, none⟩)] w fun e w' => FmTo F p K S w e w' := by
  obtain ⟨i0, hi, hz0, hz1, hz2⟩ := info_parts info5
  have HU : Hid (Calls Tryz.prog 51 #[.pointer (some ⟨p, 0, none⟩)] w fun e w' => e = .returned (.int .i64 0) ∧ w' = w) := usable_on F p S w h (by omega) hoff
  have HD : Hid (Dk w F p S) := h
  have hwf := h.wf
  have htop := hwf.top
  have hK2 : K ≤ 16384 := by omega
  have HWF : Hid (S.Wf ∧ (∀ n, S.wait n = []) ∧ S.off = false) := ⟨hwf, hc, hoff⟩
  clear h hc hwf hoff
  go_enter Tryz.func26, Tryz.ntmps26
  go_wp2_with fail
  refine HU.out.mono ?_
  rintro e w0 ⟨rfl, rfl⟩
  clear HU
  go_wp2_with (refine wpList_make_full _ rfl _ _ 63 rfl w0.heap.size 5 i0 (.int .u8 0) 1 Tryz.underlying63 hi hz0 hz1 .i64 .i64 _ _ 512 rfl rfl rfl rfl (by rw [hz2]; omega) (by unfold maxLen; omega) (Nat.le_refl _) ?_; intro w1 own1 grow1)
  rw [made_bytes] at own1
  have hc1 := Chg.of_none grow1
  have hbz := Bs.ofOwns own1
  have hgw : w0.heap.size < w1.heap.size := (own1.lt _ rfl).2
  have d1 := HD.out.kept hc1 (fun _ _ h => h)
  have hno : ∀ g, (Value.slice (some ⟨w0.heap.size, 0, none⟩) 512 512).ownBlock = some g → ¬ F g := fun g hg hf => by
    have e := own_at hg
    have := HD.out.lt _ hf
    omega
  have FX : Hid (Calls Tryz.prog 52 #[.pointer (some ⟨p, 0, none⟩), .int .i64 ((0 : Nat) : Int), .slice (some ⟨w0.heap.size, 0, none⟩) 512 512] w1 fun e w' => ∃ E S', e = .returned (.int .i64 E) ∧ FixTo S 0 (zeros 512) E S' ∧ To F p w1 w' S') :=
    fix_any F p S 0 _ (zeros 512) w1 d1 hbz hno (by omega) HWF.out.2.2 (by omega) (zeros_len 512)
  have HB : Hid (Bs w1 (.slice (some ⟨w0.heap.size, 0, none⟩) 512 512) (zeros 512)) := hbz
  have HN : Hid (∀ g, (Value.slice (some ⟨w0.heap.size, 0, none⟩) 512 512).ownBlock = some g → ¬ F g) := hno
  have HC1 : Hid (Chg (fun _ => False) w0 w1) := hc1
  clear own1 grow1 hbz d1 hno HD hc1
  go_wp2_with fail
  refine FX.out.mono ?_
  rintro e w2 ⟨E, S1, rfl, hfx, t2⟩
  clear FX
  rcases hfx with ⟨rfl, hS1, ha⟩ | ⟨rfl, hS1, ha⟩
  rotate_left
  · -- the power goes at once
    have HQ : Hid (FmTo F p K S w0 (.returned (.tuple #[.pointer none, .int .i64 6])) w2) := by
      refine .inr ⟨S1, rfl, ?_, ?_, .inl ?_⟩
      · obtain ⟨F2, d2, c2, f2⟩ := t2
        exact ⟨F2, d2, HC1.out.trans' c2, fun b hb => by
          rcases f2 b hb with h | h
          · exact .inl h
          · have := HC1.out.size; exact .inr (by omega)⟩
      · rw [hS1]; exact ((Onw.refl HWF.out.1 HWF.out.2.2).cut ha _).mono (by omega)
      · rw [hS1]; exact funext fun n => St.cut_syn _ (HWF.out.2.1 n)
    clear t2 hS1 ha
    go_wp2
    go_ret2
    exact HQ.out
  · have ho1 : Onw S S1 1 := by
      rw [hS1]
      exact ((Onw.refl HWF.out.1 HWF.out.2.2).push (by omega) (zeros_len 512)).synced
    have hz1' : S1.syn 0 = zeros 512 := by rw [hS1]; exact St.pushed_last_same S 0 (zeros 512)
    have hw1' : ∀ n, S1.wait n = [] := by rw [hS1]; exact fun _ => rfl
    have hnb1 : S1.nb = K + 65 := ho1.nb.trans hK
    have HO : Hid (Onw S S1 1 ∧ S1.syn 0 = zeros 512) := ⟨ho1, hz1'⟩
    have HT2 : Hid (To F p w1 w2 S1 ∧ Zer S1 S1 0) := ⟨t2, Zer.start ho1.wf ho1.off hw1'⟩
    have hwr1 := ho1.wr
    have HP : Hid (S.nb = K + 65 ∧ S1.nb = K + 65 ∧ S1.writes ≤ S.writes + 1) := ⟨hK, hnb1, hwr1⟩
    clear hS1 ha t2 ho1 hz1' hw1' hnb1 hwr1 hK
    go_wp2
    go_loopw [7, 8] (fun x _ wr => ∃ i Si, i ≤ K ∧ x = .int .i64 ((65 + i : Nat) : Int) ∧ Hid (To F p w1 wr Si ∧ Zer S1 Si i)) (fun x _ _ => K + 65 - (intOf x).toNat)
    case atStart => exact ⟨0, S1, Nat.zero_le _, rfl, HT2⟩
    case round =>
      obtain ⟨i, Si, hiK, rfl, HI⟩ := hrel
      clear HT2
      obtain ⟨Fi, di, ci, fi⟩ := HI.out.1
      have hon := HI.out.2.on
      have hnbi : Si.nb = K + 65 := hon.nb.trans HP.out.2.1
      have HDI : Hid (Dk wr Fi p Si) := di
      have HNI : Hid (∀ g, (Value.slice (some ⟨w0.heap.size, 0, none⟩) 512 512).ownBlock = some g → ¬ Fi g) := fun g hg hf => by
        rcases fi g hf with h | h
        · exact HN.out g hg h
        · have e := own_at hg; omega
      have HBI : Hid (Bs wr (.slice (some ⟨w0.heap.size, 0, none⟩) 512 512) (zeros 512)) := HI.out.1.bs HB.out HN.out
      have hwri : Si.writes ≤ S1.writes + i := hon.wr
      have hwr1 := HP.out.2.2
      have HCI : Hid (Chg F w1 wr ∧ ∀ b, Fi b → F b ∨ w1.heap.size ≤ b) := ⟨ci, fi⟩
      have hoffi := hon.off
      clear ci fi di hon
      go_wp2_with fail
      refine (blocks_any Fi p Si wr HDI.out).mono ?_
      rintro e w3 ⟨rfl, rfl⟩
      rw [hnbi]
      by_cases hlt : i < K
      · have kb : ((65 + i : Nat) : Int) < ((K + 65 : Nat) : Int) := by omega
        have WR : Hid (Calls Tryz.prog 53 #[.pointer (some ⟨p, 0, none⟩), .int .i64 ((65 + i : Nat) : Int), .slice (some ⟨w0.heap.size, 0, none⟩) 512 512] w3 fun e w' => e = .returned (.int .i64 (Si.writeE ((65 + i : Nat) : Int) (zeros 512))) ∧ To Fi p w3 w' (Si.write ((65 + i : Nat) : Int) (zeros 512))) :=
          write_any Fi p Si _ _ (zeros 512) w3 HDI.out HBI.out HNI.out (by omega)
        have WC := St.write_cases (S := Si) (n := 65 + i) (b := zeros 512) hoffi (by omega) (zeros_len 512)
        rcases WC with ⟨e1, e2, e3⟩ | ⟨e1, e2, e3⟩
        · rw [e1, e2] at WR
          have HZ : Hid (Zer S1 (Si.pushed (65 + i) (zeros 512)) (i + 1)) := HI.out.2.push (by omega)
          clear e1 e2 e3
          obtain ⟨S2, hS2⟩ : ∃ S2, Si.pushed (65 + i) (zeros 512) = S2 := ⟨_, rfl⟩
          rw [hS2] at WR HZ
          clear hS2
          go_wp2_with fail
          refine WR.out.mono ?_
          rintro e w4 ⟨rfl, t4⟩
          have HT4 : Hid (To F p w1 w4 S2) := To.trans HCI.out.1 HCI.out.2 t4
          clear WR t4 HI HDI HNI HBI HCI
          go_wp2
          go_roundw
          case rel => exact ⟨i + 1, S2, by omega, by go_num, HT4.out, HZ.out⟩
          case measure => simp [intOf]; omega
        · rw [e1, e2] at WR
          have HZ : Hid (Gone S1 (Si.cut Si.picks) i ∧ (Si.cut Si.picks).syn 0 = S1.syn 0) := HI.out.2.cut e3 _
          clear e1 e2 e3
          obtain ⟨S2, hS2⟩ : ∃ S2, Si.cut Si.picks = S2 := ⟨_, rfl⟩
          rw [hS2] at WR HZ
          clear hS2
          go_wp2_with fail
          refine WR.out.mono ?_
          rintro e w4 ⟨rfl, t4⟩
          have HQ : Hid (FmTo F p K S w0 (.returned (.tuple #[.pointer none, .int .i64 6])) w4) := by
            refine .inr ⟨S2, rfl, ?_, (HO.out.1.gone HZ.out.1).mono (by omega), .inr (HZ.out.2.trans HO.out.2)⟩
            obtain ⟨F2, d2, c2, f2⟩ := To.trans HCI.out.1 HCI.out.2 t4
            exact ⟨F2, d2, HC1.out.trans' c2, fun b hb => by
              rcases f2 b hb with h | h
              · exact .inl h
              · have := HC1.out.size; exact .inr (by omega)⟩
          clear WR t4 HI HDI HNI HBI HCI
          go_wp2
          go_ret2
          exact HQ.out
      · have hie : i = K := by omega
        subst hie
        have kb : ¬ (((65 + i : Nat) : Int) < ((i + 65 : Nat) : Int)) := by omega
        have hs1 : Si.sync = Si.synced := by unfold St.sync; rw [if_neg (by simp [hoffi])]
        have hs2 : Si.syncE = 0 := by unfold St.syncE; rw [if_neg (by simp [hoffi])]
        have SY : Hid (Calls Tryz.prog 54 #[.pointer (some ⟨p, 0, none⟩)] w3 fun e w' => e = .returned (.int .i64 0) ∧ To Fi p w3 w' Si.synced) := by
          have := sync_any Fi p Si w3 HDI.out (by omega)
          rw [hs1, hs2] at this
          exact this
        clear hs1 hs2
        go_wp2_with fail
        refine SY.out.mono ?_
        rintro e w4 ⟨rfl, t4⟩
        have t4' := To.trans HCI.out.1 HCI.out.2 t4
        obtain ⟨F4, d4, c4, f4⟩ := t4'
        have HT4 : Hid (Dk w4 F4 p Si.synced ∧ Chg F w1 w4 ∧ ∀ b, F4 b → F b ∨ w1.heap.size ≤ b) := ⟨d4, c4, f4⟩
        clear SY t4 HDI HNI HBI HCI d4 c4 f4
        go_wp2_with fail
        refine (layHead_any (.slice none 0 0) [] w4 (.inl ⟨rfl, rfl⟩) (by simp)).mono ?_
        rintro e w5 ⟨u, rfl, ho5, hc5⟩
        obtain ⟨ua, uc, rfl⟩ := cown_slice ho5
        have hb5 : Bs w5 (.slice ua 512 uc) (headB []) := Bs.ofOwns ho5
        have d5 := HT4.out.1.kept hc5 (fun _ _ h => h)
        have FX : Hid (Calls Tryz.prog 52 #[.pointer (some ⟨p, 0, none⟩), .int .i64 ((0 : Nat) : Int), .slice ua 512 uc] w5 fun e w' => ∃ E S', e = .returned (.int .i64 E) ∧ FixTo Si.synced 0 (headB []) E S' ∧ To F4 p w5 w' S') :=
          fix_any F4 p Si.synced 0 _ (headB []) w5 d5 hb5 (fun g hg hf => by
            have h1 := (ho5.lt g hg).1
            have h2 := HT4.out.1.lt g hf
            omega) (by show Si.writes + 1 < _; omega) hoffi (by show 0 < Si.nb; omega) (headB_len [])
        have HC5 : Hid (Chg (fun _ => False) w4 w5) := hc5
        clear ho5 hb5 d5 hc5
        go_wp2_with fail
        refine FX.out.mono ?_
        rintro e w6 ⟨E, S6, rfl, hfx, t6⟩
        clear FX
        have HT6 : Hid (To F p w0 w6 S6) := by
          obtain ⟨F6, d6, c6, f6⟩ := t6
          refine ⟨F6, d6, HC1.out.trans' ((HT4.out.2.1.trans (HC5.out.mono (fun _ _ h => h.elim) (S' := F)) (fun _ _ h => h)).trans c6 (fun b hb hf => ?_)), fun b hb => ?_⟩
          · rcases HT4.out.2.2 b hf with h | h
            · exact h
            · omega
          · have hz := HC1.out.size
            rcases f6 b hb with h | h
            · rcases HT4.out.2.2 b h with h2 | h2
              · exact .inl h2
              · exact .inr (by omega)
            · have h1 := HT4.out.2.1.size
              have h2 := HC5.out.size
              exact .inr (by omega)
        rcases hfx with ⟨rfl, hS6, ha⟩ | ⟨rfl, hS6, ha⟩
        · have HZ : Hid (Onw S S6 (i + 2) ∧ Clean S6 i (fun _ => zeros 512)) := by
            have hh := HI.out.2.head HP.out.2.1
            rw [← hS6] at hh
            exact ⟨(HO.out.1.trans hh.1).mono (by omega), hh.2⟩
          clear hS6 ha t6 HI
          go_wp2_with fail
          refine (over_any p i w6).mono ?_
          rintro e w7 ⟨pl, G, m, V, rfl, hl7, hg7, hc7⟩
          have HQ : Hid (FmTo F p i S w0 (.returned (.tuple #[.pointer (some ⟨pl, 0, none⟩), .int .i64 0])) w7) := by
            obtain ⟨F6, d6, c6, f6⟩ := HT6.out
            refine .inl ⟨pl, F6, G, m, V, S6, rfl, ⟨d6.kept hc7 (fun _ _ h => h), hl7, fun b hf hg => ?_, HZ.out.2.nb⟩, c6.trans hc7 (fun _ _ h => h.elim), f6, fun b hg => ?_, HZ.out.1, HZ.out.2⟩
            · have h1 := d6.lt b hf
              have h2 := hg7 b hg
              omega
            · have h1 := hg7 b hg
              have h2 := c6.size
              omega
          clear hl7 hg7 hc7 HT6 HZ
          go_wp2
          go_ret2
          exact HQ.out
        · have HQ : Hid (FmTo F p i S w0 (.returned (.tuple #[.pointer none, .int .i64 6])) w6) := by
            have hh := HI.out.2.headCut ha Si.synced.picks
            refine .inr ⟨S6, rfl, HT6.out, ?_, .inr ?_⟩
            · rw [hS6]; exact (HO.out.1.gone hh.1).mono (by omega)
            · rw [hS6]; exact hh.2.trans HO.out.2
          clear hS6 ha t6 HI HT6
          go_wp2
          go_ret2
          exact HQ.out
end Go.Proofs.YtdcmcgdalanjjaaGreat

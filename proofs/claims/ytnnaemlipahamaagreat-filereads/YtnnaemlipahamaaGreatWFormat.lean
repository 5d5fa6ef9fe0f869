/-
  The contract of Format of package wal.
-/
import Derived.Test.YtnnaemlipahamaaGreatWMem
import Derived.Test.YtnnaemlipahamaaGreatWHome
import Derived.Deep.RegionHeldLaw
namespace Go.Proofs.YtnnaemlipahamaaGreat
open Go.RowKit Go.Maps

/-- What Format leaves: a log whose blocks are bytes 0, or the power has gone: the disk is as it was, or has no head. -/
def FmTo (F : Nat → Prop) (p K : Nat) (S : St) (w : World) (e : Ending) (w' : World) : Prop :=
  (∃ pl F' G m V S', e = .returned (.tuple #[.pointer (some ⟨pl, 0, none⟩), .int .i64 0]) ∧ Lk w' F' G p pl K S' (fun _ => none) 0 (.pointer none) m V ∧ Chg F w w' ∧ (∀ b, F' b → F b ∨ w.heap.size ≤ b) ∧ (∀ b, G b → w.heap.size ≤ b) ∧ Onw S S' (K + 2) ∧ Clean S' K (fun _ => zeros 512)) ∨
  (∃ S', e = .returned (.tuple #[.pointer none, .int .i64 6]) ∧ To F p w w' S' ∧ Gone S S' (K + 2) ∧ (S'.syn = S.syn ∨ S'.syn 0 = zeros 512))

theorem To.bs {F : Nat → Prop} {p : Nat} {w w' : World} {S' : St} {v : Value} {bs : List Int} (h : To F p w w' S') (hb : Bs w v bs) (hv : ∀ g, v.ownBlock = some g → ¬ F g) : Bs w' v bs := by
  obtain ⟨F', d, c, f⟩ := h
  exact hb.kept c (fun a _ _ e _ hf => hv a.block (by rw [e]; rfl) hf)

set_option maxHeartbeats 3200000 in
set_option maxRecDepth 100000 in
theorem format_any (F : Nat → Prop) (p K : Nat) (S : St) (w : World) (h : Dk w F p S) (hc : ∀ n, S.wait n = []) (hK : S.nb = K + 65) (hK1 : 1 ≤ K) (hoff : S.off = false) (hx : S.writes + 20000 < 1099511627776) :
    Calls Tryz.prog 22 #[.pointer (some ⟨p, 0, none⟩)] w fun e w' => FmTo F p K S w e w' := by
  obtain ⟨i0, hi, hz0, hz1, hz2⟩ := info_parts info5
  have HU : Hid (Calls Tryz.prog 52 #[.pointer (some ⟨p, 0, none⟩)] w fun e w' => e = .returned (.int .i64 0) ∧ w' = w) := usable_on F p S w h (by omega) hoff
  have HD : Hid (Dk w F p S) := h
  have hwf := h.wf
  have htop := hwf.top
  have hK2 : K ≤ 16384 := by omega
  have HWF : Hid (S.Wf ∧ (∀ n, S.wait n = []) ∧ S.off = false) := ⟨hwf, hc, hoff⟩
  clear h hc hwf hoff
  go_enter Tryz.func22, Tryz.ntmps22
  go_wp2_with fail
  refine HU.out.mono ?_
  rintro e w0 ⟨rfl, rfl⟩
  clear HU
  go_wp2_with (refine wpList_make_full _ rfl _ _ 33 rfl w0.heap.size 5 i0 (.int .u8 0) 1 Tryz.underlying33 hi hz0 hz1 .i64 .i64 _ _ 512 rfl rfl rfl rfl (by rw [hz2]; omega) (by unfold maxLen; omega) (Nat.le_refl _) ?_; intro w1 own1 grow1)
  rw [made_bytes] at own1
  have hc1 := Chg.of_none grow1
  have hbz := Bs.ofOwns own1
  have hgw : w0.heap.size < w1.heap.size := (own1.lt _ rfl).2
  have d1 := HD.out.kept hc1 (fun _ _ h => h)
  have hno : ∀ g, (Value.slice (some ⟨w0.heap.size, 0, none⟩) 512 512).ownBlock = some g → ¬ F g := fun g hg hf => by
    have e := own_at hg
    have := HD.out.lt _ hf
    omega
  have FX : Hid (Calls Tryz.prog 53 #[.pointer (some ⟨p, 0, none⟩), .int .i64 ((0 : Nat) : Int), .slice (some ⟨w0.heap.size, 0, none⟩) 512 512] w1 fun e w' => ∃ E S', e = .returned (.int .i64 E) ∧ FixTo S 0 (zeros 512) E S' ∧ To F p w1 w' S') :=
    fix_any F p S 0 _ (zeros 512) w1 d1 hbz hno (by omega) HWF.out.2.2 (by omega) (zeros_len 512)
  have HB : Hid (Bs w1 (.slice (some ⟨w0.heap.size, 0, none⟩) 512 512) (zeros 512)) := hbz
  have HN : Hid (∀ g, (Value.slice (some ⟨w0.heap.size, 0, none⟩) 512 512).ownBlock = some g → ¬ F g) := hno
  have HC1 : Hid (Chg (fun _ => False) w0 w1) := hc1
  clear own1 grow1 hbz d1 hno HD hc1
  go_wp2_with fail
  refine FX.out.mono ?_
  rintro e w2 ⟨E, S1, rfl, hfx, t2⟩
  clear FX
  rcases hfx with ⟨rfl, hS1, ha⟩ | ⟨rfl, hS1, ha⟩
  rotate_left
  · -- the power goes at once
    have HQ : Hid (FmTo F p K S w0 (.returned (.tuple #[.pointer none, .int .i64 6])) w2) := by
      refine .inr ⟨S1, rfl, ?_, ?_, .inl ?_⟩
      · obtain ⟨F2, d2, c2, f2⟩ := t2
        exact ⟨F2, d2, HC1.out.trans' c2, fun b hb => by
          rcases f2 b hb with h | h
          · exact .inl h
          · have := HC1.out.size; exact .inr (by omega)⟩
      · rw [hS1]; exact ((Onw.refl HWF.out.1 HWF.out.2.2).cut ha _).mono (by omega)
      · rw [hS1]; exact funext fun n => St.cut_syn _ (HWF.out.2.1 n)
    clear t2 hS1 ha
    go_wp2
    go_ret2
    exact HQ.out
  · have ho1 : Onw S S1 1 := by
      rw [hS1]
      exact ((Onw.refl HWF.out.1 HWF.out.2.2).push (by omega) (zeros_len 512)).synced
    have hz1' : S1.syn 0 = zeros 512 := by rw [hS1]; exact St.pushed_last_same S 0 (zeros 512)
    have hw1' : ∀ n, S1.wait n = [] := by rw [hS1]; exact fun _ => rfl
    have hnb1 : S1.nb = K + 65 := ho1.nb.trans hK
    have HO : Hid (Onw S S1 1 ∧ S1.syn 0 = zeros 512) := ⟨ho1, hz1'⟩
    have HT2 : Hid (To F p w1 w2 S1 ∧ Zer S1 S1 0) := ⟨t2, Zer.start ho1.wf ho1.off hw1'⟩
    have hwr1 := ho1.wr
    have HP : Hid (S.nb = K + 65 ∧ S1.nb = K + 65 ∧ S1.writes ≤ S.writes + 1) := ⟨hK, hnb1, hwr1⟩
    clear hS1 ha t2 ho1 hz1' hw1' hnb1 hwr1 hK
    go_wp2
    go_loopw [7, 8] (fun x _ wr => ∃ i Si, i ≤ K ∧ x = .int .i64 ((65 + i : Nat) : Int) ∧ Hid (To F p w1 wr Si ∧ Zer S1 Si i)) (fun x _ _ => K + 65 - (intOf x).toNat)
    case atStart => exact ⟨0, S1, Nat.zero_le _, rfl, HT2⟩
    case round =>
      obtain ⟨i, Si, hiK, rfl, HI⟩ := hrel
      clear HT2
      obtain ⟨Fi, di, ci, fi⟩ := HI.out.1
      have hon := HI.out.2.on
      have hnbi : Si.nb = K + 65 := hon.nb.trans HP.out.2.1
      have HDI : Hid (Dk wr Fi p Si) := di
      have HNI : Hid (∀ g, (Value.slice (some ⟨w0.heap.size, 0, none⟩) 512 512).ownBlock = some g → ¬ Fi g) := fun g hg hf => by
        rcases fi g hf with h | h
        · exact HN.out g hg h
        · have e := own_at hg; omega
      have HBI : Hid (Bs wr (.slice (some ⟨w0.heap.size, 0, none⟩) 512 512) (zeros 512)) := HI.out.1.bs HB.out HN.out
      have hwri : Si.writes ≤ S1.writes + i := hon.wr
      have hwr1 := HP.out.2.2
      have HCI : Hid (Chg F w1 wr ∧ ∀ b, Fi b → F b ∨ w1.heap.size ≤ b) := ⟨ci, fi⟩
      have hoffi := hon.off
      clear ci fi di hon
      go_wp2_with fail
      refine (blocks_any Fi p Si wr HDI.out).mono ?_
      rintro e w3 ⟨rfl, rfl⟩
      rw [hnbi]
      by_cases hlt : i < K
      · have kb : ((65 + i : Nat) : Int) < ((K + 65 : Nat) : Int) := by omega
        have WR : Hid (Calls Tryz.prog 55 #[.pointer (some ⟨p, 0, none⟩), .int .i64 ((65 + i : Nat) : Int), .slice (some ⟨w0.heap.size, 0, none⟩) 512 512] w3 fun e w' => e = .returned (.int .i64 (Si.writeE ((65 + i : Nat) : Int) (zeros 512))) ∧ To Fi p w3 w' (Si.write ((65 + i : Nat) : Int) (zeros 512))) :=
          write_any Fi p Si _ _ (zeros 512) w3 HDI.out HBI.out HNI.out (by omega)
        have WC := St.write_cases (S := Si) (n := 65 + i) (b := zeros 512) hoffi (by omega) (zeros_len 512)
        rcases WC with ⟨e1, e2, e3⟩ | ⟨e1, e2, e3⟩
        · rw [e1, e2] at WR
          have HZ : Hid (Zer S1 (Si.pushed (65 + i) (zeros 512)) (i + 1)) := HI.out.2.push (by omega)
          clear e1 e2 e3
          obtain ⟨S2, hS2⟩ : ∃ S2, Si.pushed (65 + i) (zeros 512) = S2 := ⟨_, rfl⟩
          rw [hS2] at WR HZ
          clear hS2
          go_wp2_with fail
          refine WR.out.mono ?_
          rintro e w4 ⟨rfl, t4⟩
          have HT4 : Hid (To F p w1 w4 S2) := To.trans HCI.out.1 HCI.out.2 t4
          clear WR t4 HI HDI HNI HBI HCI
          go_wp2
          go_roundw
          case rel => exact ⟨i + 1, S2, by omega, by go_num, HT4.out, HZ.out⟩
          case measure => simp [intOf]; omega
        · rw [e1, e2] at WR
          have HZ : Hid (Gone S1 (Si.cut Si.picks) i ∧ (Si.cut Si.picks).syn 0 = S1.syn 0) := HI.out.2.cut e3 _
          clear e1 e2 e3
          obtain ⟨S2, hS2⟩ : ∃ S2, Si.cut Si.picks = S2 := ⟨_, rfl⟩
          rw [hS2] at WR HZ
          clear hS2
          go_wp2_with fail
          refine WR.out.mono ?_
          rintro e w4 ⟨rfl, t4⟩
          have HQ : Hid (FmTo F p K S w0 (.returned (.tuple #[.pointer none, .int .i64 6])) w4) := by
            refine .inr ⟨S2, rfl, ?_, (HO.out.1.gone HZ.out.1).mono (by omega), .inr (HZ.out.2.trans HO.out.2)⟩
            obtain ⟨F2, d2, c2, f2⟩ := To.trans HCI.out.1 HCI.out.2 t4
            exact ⟨F2, d2, HC1.out.trans' c2, fun b hb => by
              rcases f2 b hb with h | h
              · exact .inl h
              · have := HC1.out.size; exact .inr (by omega)⟩
          clear WR t4 HI HDI HNI HBI HCI
          go_wp2
          go_ret2
          exact HQ.out
      · have hie : i = K := by omega
        subst hie
        have kb : ¬ (((65 + i : Nat) : Int) < ((i + 65 : Nat) : Int)) := by omega
        have hs1 : Si.sync = Si.synced := by unfold St.sync; rw [if_neg (by simp [hoffi])]
        have hs2 : Si.syncE = 0 := by unfold St.syncE; rw [if_neg (by simp [hoffi])]
        have SY : Hid (Calls Tryz.prog 56 #[.pointer (some ⟨p, 0, none⟩)] w3 fun e w' => e = .returned (.int .i64 0) ∧ To Fi p w3 w' Si.synced) := by
          have := sync_any Fi p Si w3 HDI.out (by omega)
          rw [hs1, hs2] at this
          exact this
        clear hs1 hs2
        go_wp2_with fail
        refine SY.out.mono ?_
        rintro e w4 ⟨rfl, t4⟩
        have t4' := To.trans HCI.out.1 HCI.out.2 t4
        obtain ⟨F4, d4, c4, f4⟩ := t4'
        have HT4 : Hid (Dk w4 F4 p Si.synced ∧ Chg F w1 w4 ∧ ∀ b, F4 b → F b ∨ w1.heap.size ≤ b) := ⟨d4, c4, f4⟩
        clear SY t4 HDI HNI HBI HCI d4 c4 f4
        go_wp2_with fail
        refine (layHead_any (.slice none 0 0) [] w4 (.inl ⟨rfl, rfl⟩) (by simp)).mono ?_
        rintro e w5 ⟨u, rfl, ho5, hc5⟩
        obtain ⟨ua, uc, rfl⟩ := cown_slice ho5
        have hb5 : Bs w5 (.slice ua 512 uc) (headB []) := Bs.ofOwns ho5
        have d5 := HT4.out.1.kept hc5 (fun _ _ h => h)
        have FX : Hid (Calls Tryz.prog 53 #[.pointer (some ⟨p, 0, none⟩), .int .i64 ((0 : Nat) : Int), .slice ua 512 uc] w5 fun e w' => ∃ E S', e = .returned (.int .i64 E) ∧ FixTo Si.synced 0 (headB []) E S' ∧ To F4 p w5 w' S') :=
          fix_any F4 p Si.synced 0 _ (headB []) w5 d5 hb5 (fun g hg hf => by
            have h1 := (ho5.lt g hg).1
            have h2 := HT4.out.1.lt g hf
            omega) (by show Si.writes + 1 < _; omega) hoffi (by show 0 < Si.nb; omega) (headB_len [])
        have HC5 : Hid (Chg (fun _ => False) w4 w5) := hc5
        clear ho5 hb5 d5 hc5
        go_wp2_with fail
        refine FX.out.mono ?_
        rintro e w6 ⟨E, S6, rfl, hfx, t6⟩
        clear FX
        have HT6 : Hid (To F p w0 w6 S6) := by
          obtain ⟨F6, d6, c6, f6⟩ := t6
          refine ⟨F6, d6, HC1.out.trans' ((HT4.out.2.1.trans (HC5.out.mono (fun _ _ h => h.elim) (S' := F)) (fun _ _ h => h)).trans c6 (fun b hb hf => ?_)), fun b hb => ?_⟩
          · rcases HT4.out.2.2 b hf with h | h
            · exact h
            · omega
          · have hz := HC1.out.size
            rcases f6 b hb with h | h
            · rcases HT4.out.2.2 b h with h2 | h2
              · exact .inl h2
              · exact .inr (by omega)
            · have h1 := HT4.out.2.1.size
              have h2 := HC5.out.size
              exact .inr (by omega)
        rcases hfx with ⟨rfl, hS6, ha⟩ | ⟨rfl, hS6, ha⟩
        · have HZ : Hid (Onw S S6 (i + 2) ∧ Clean S6 i (fun _ => zeros 512)) := by
            have hh := HI.out.2.head HP.out.2.1
            rw [← hS6] at hh
            exact ⟨(HO.out.1.trans hh.1).mono (by omega), hh.2⟩
          clear hS6 ha t6 HI
          go_wp2_with fail
          refine (over_any p i w6).mono ?_
          rintro e w7 ⟨pl, G, m, V, rfl, hl7, hg7, hc7⟩
          have HQ : Hid (FmTo F p i S w0 (.returned (.tuple #[.pointer (some ⟨pl, 0, none⟩), .int .i64 0])) w7) := by
            obtain ⟨F6, d6, c6, f6⟩ := HT6.out
            refine .inl ⟨pl, F6, G, m, V, S6, rfl, ⟨d6.kept hc7 (fun _ _ h => h), hl7, fun b hf hg => ?_, HZ.out.2.nb⟩, c6.trans hc7 (fun _ _ h => h.elim), f6, fun b hg => ?_, HZ.out.1, HZ.out.2⟩
            · have h1 := d6.lt b hf
              have h2 := hg7 b hg
              omega
            · have h1 := hg7 b hg
              have h2 := c6.size
              omega
          clear hl7 hg7 hc7 HT6 HZ
          go_wp2
          go_ret2
          exact HQ.out
        · have HQ : Hid (FmTo F p i S w0 (.returned (.tuple #[.pointer none, .int .i64 6])) w6) := by
            have hh := HI.out.2.headCut ha Si.synced.picks
            refine .inr ⟨S6, rfl, HT6.out, ?_, .inr ?_⟩
            · rw [hS6]; exact (HO.out.1.gone hh.1).mono (by omega)
            · rw [hS6]; exact hh.2.trans HO.out.2
          clear hS6 ha t6 HI HT6
          go_wp2
          go_ret2
          exact HQ.out
end Go.Proofs.YtnnaemlipahamaaGreat

namespace Go.Proofs.YtnnaemlipahamaaGreat
open Go.RowKit Go.Maps

/-- What Open leaves: the log, or the power has gone: what lasted lasts. -/
def OpTo (F : Nat → Prop) (p K : Nat) (f : Nat → List Int) (S : St) (w : World) (e : Ending) (w' : World) : Prop :=
  (∃ pl F' G m V S', e = .returned (.tuple #[.pointer (some ⟨pl, 0, none⟩), .int .i64 0]) ∧ Lk w' F' G p pl K S' (fun _ => none) 0 (.pointer none) m V ∧ Chg F w w' ∧ (∀ b, F' b → F b ∨ w.heap.size ≤ b) ∧ (∀ b, G b → w.heap.size ≤ b) ∧ Onw S S' 64 ∧ Clean S' K f) ∨
  (∃ S', e = .returned (.tuple #[.pointer none, .int .i64 6]) ∧ To F p w w' S' ∧ Gone S S' 64 ∧ Lasts S' K f)

theorem Holds.synced {S : St} {K : Nat} {f : Nat → List Int} {hs : List Nat} (h : Holds S K f hs) : Holds S.synced K f hs :=
  h.same (St.synced_wf h.wf) rfl (funext fun n => St.last_calm (h.calm n)) (fun _ => rfl)

set_option maxHeartbeats 800000 in
theorem format_small (F : Nat → Prop) (p : Nat) (S : St) (w : World) (h : Dk w F p S) (hnb : S.nb ≤ 65) : Calls Tryz.prog 22 #[.pointer (some ⟨p, 0, none⟩)] w fun e w' => e = .returned (.tuple #[.pointer none, .int .i64 1]) ∧ w' = w := by
  go_enter Tryz.func22, Tryz.ntmps22
  go_wp2_with fail
  refine (usable_small F p S w h hnb).mono ?_
  rintro e w0 ⟨rfl, rfl⟩
  clear h
  go_wp2
  go_ret2
  exact ⟨rfl, rfl⟩
end Go.Proofs.YtnnaemlipahamaaGreat

namespace Go.Proofs.YtnnaemlipahamaaGreat
open Go.RowKit Go.Maps

theorem Chg.ofBelow {w w' : World} (h : Below w.heap.size w w') : Chg (fun _ => False) w w' := ⟨h.os, h.tape, h.output, h.size, fun k hk _ => h.block k hk⟩

/-- The blocks that were committed, by their numbers. -/
def ks (K : Nat) (com : Nat → Option (List Int)) : List Nat := (List.range K).filter fun n => (com n).isSome
theorem ks_vf (K : Nat) (com : Nat → Option (List Int)) (V : Nat → Value) : keysOf K (vf com V) = ks K com := by
  unfold keysOf ks
  refine List.filter_congr (fun n _ => ?_)
  unfold vf
  cases com n <;> rfl
theorem mem_ks {K n : Nat} {com : Nat → Option (List Int)} : n ∈ ks K com ↔ n < K ∧ (com n).isSome = true := by simp [ks, List.mem_filter]
theorem ks_valid {K : Nat} {com : Nat → Option (List Int)} (h : (ks K com).length ≤ 63) : Valid K (ks K com) :=
  ⟨h, fun _n hn => (mem_ks.1 hn).1, List.Pairwise.filter _ List.nodup_range⟩

/-- com without the first i of hs. -/
def less (com : Nat → Option (List Int)) (hs : List Nat) (i : Nat) (n : Nat) : Option (List Int) := if n ∈ hs.take i then none else com n
theorem less_zero (com : Nat → Option (List Int)) (hs : List Nat) : less com hs 0 = com := by funext n; simp [less]
theorem less_succ {com : Nat → Option (List Int)} {hs : List Nat} {i n : Nat} (h : hs[i]? = some n) : upd (less com hs i) n none = less com hs (i + 1) := by
  funext k
  have e : hs.take (i + 1) = hs.take i ++ [n] := by rw [List.take_add_one, h]; rfl
  unfold less
  rw [e]
  by_cases hk : k = n
  · subst hk; rw [upd_same]; simp
  · rw [upd_other _ _ hk]; simp [hk]
theorem less_end {K : Nat} {com : Nat → Option (List Int)} (h : ∀ n b, com n = some b → n < K) : less com (ks K com) (ks K com).length = fun _ => none := by
  funext n
  unfold less
  rw [List.take_length]
  split
  · rfl
  · rename_i hn
    cases hc : com n with
    | none => rfl
    | some b => exact absurd (mem_ks.2 ⟨h n b hc, by rw [hc]; rfl⟩) hn

section
variable {F G : Nat → Prop} {pd pl K : Nat} {S : St} {com : Nat → Option (List Int)} {pend : Nat} {ov : Value} {m : Nat} {V : Nat → Value}
/-- The log's map alone has changed. -/
theorem Lk.remap {w w' : World} {com' : Nat → Option (List Int)} (h : Lk w F G pd pl K S com pend ov m V) (hc : Chg (fun b => b = m) w w') (hm : MapIs w' m K (vf com' V)) (hs : ∀ n b, com' n = some b → com n = some b) : Lk w' F G pd pl K S com' pend ov m V := by
  obtain ⟨es, cl, hom⟩ := h.lg.mb.map.obj
  have hmG := h.lg.mb.fm
  have hmF : ∀ b, F b → ¬ b = m := fun b hf e => h.no b hf (e ▸ hmG)
  have hpm : ¬ pl = m := fun e => by rw [e] at h; have := h.lg.blk; rw [hom] at this; cases this
  refine ⟨h.dk.kept hc hmF, ⟨(hc.block pl h.lg.pl_lt hpm).trans h.lg.blk, ⟨hm, fun n b hb => ?_, hmG⟩, h.lg.fp, fun b hb => Nat.lt_of_lt_of_le (h.lg.lt b hb) hc.size⟩, h.no, h.nb⟩
  obtain ⟨h1, h2, g, c, e, ho, hg⟩ := h.lg.mb.row n b (hs n b hb)
  rw [e] at ho ⊢
  refine ⟨h1, h2, g, c, rfl, own_same ho (fun g' hg' => ?_), hg⟩
  have e' := own_at hg'
  subst e'
  refine hc.block _ (ho.lt _ rfl).2 (fun e2 => ?_)
  obtain ⟨cur, hcur⟩ := own_obj ho rfl
  rw [e2, hom] at hcur
  cases hcur
/-- The log's struct alone has changed. -/
theorem Lk.restruct {w : World} {pend' : Nat} {ov' : Value} (h : Lk w F G pd pl K S com pend ov m V) {w' : World} (hc : Chg (fun b => b = pl) w w') (hb : w'.heap[pl]? = some (.cells #[.pointer (some ⟨pd, 0, none⟩), .map (some m), .int .i64 (pend' : Int), ov'] 83 (0, 0))) : Lk w' F G pd pl K S com pend' ov' m V := by
  obtain ⟨es, cl, hom⟩ := h.lg.mb.map.obj
  have hmp : ¬ m = pl := fun e => by have := h.lg.blk; rw [← e, hom] at this; cases this
  refine ⟨h.dk.kept hc (fun b hf e => h.no b hf (e ▸ h.lg.fp)), ⟨hb, h.lg.mb.kept hc hmp (fun g hg ⟨cur, hcur⟩ e => ?_), h.lg.fp, fun b hb => Nat.lt_of_lt_of_le (h.lg.lt b hb) hc.size⟩, h.no, h.nb⟩
  rw [e, h.lg.blk] at hcur
  cases hcur

/-- What Sync leaves. -/
def SyTo (F G : Nat → Prop) (pd pl K : Nat) (S : St) (com : Nat → Option (List Int)) (pend : Nat) (ov : Value) (m : Nat) (V : Nat → Value) (f : Nat → List Int) (w : World) (e : Ending) (w' : World) : Prop :=
  (∃ F' S', e = .returned (.int .i64 0) ∧ Lk w' F' G pd pl K S' (fun _ => none) 0 ov m V ∧ Chg (fun b => F b ∨ b = pl ∨ b = m) w w' ∧ (∀ b, F' b → F b ∨ w.heap.size ≤ b) ∧ Onw S S' 128 ∧ Clean S' K (ovr f com)) ∨
  (∃ F' S', e = .returned (.int .i64 6) ∧ Lk w' F' G pd pl K S' com pend ov m V ∧ Chg F w w' ∧ (∀ b, F' b → F b ∨ w.heap.size ≤ b) ∧ Gone S S' 128 ∧ (Lasts S' K f ∨ Lasts S' K (ovr f com)))

set_option maxHeartbeats 3200000 in
set_option maxRecDepth 100000 in
theorem lsync_any (f : Nat → List Int) (w : World) (h : Lk w F G pd pl K S com pend ov m V) (hcl : Clean S K f) (hoff : S.off = false) (hk : (ks K com).length ≤ 63) (hx : S.writes + 2000 < 1099511627776) :
    Calls Tryz.prog 40 #[.pointer (some ⟨pl, 0, none⟩)] w fun e w' => SyTo F G pd pl K S com pend ov m V f w e w' := by
  have HK : Hid (Lk w F G pd pl K S com pend ov m V ∧ Clean S K f ∧ S.off = false) := ⟨h, hcl, hoff⟩
  have c0 := h.lg.c0
  have c1 := h.lg.c1
  have hK := h.top
  obtain ⟨hs, hhs⟩ : ∃ hs, ks K com = hs := ⟨_, rfl⟩
  rw [hhs] at hk
  have HS : Hid (ks K com = hs) := hhs
  have HV : Hid (Valid K hs) := by have := ks_valid (K := K) (com := com) (by rw [hhs]; exact hk); rw [hhs] at this; exact this
  clear h hcl hoff hhs
  go_enter Tryz.func40, Tryz.ntmps40
  go_wp2_with fail
  refine (off_any F pd S w HK.out.1.dk).mono ?_
  rintro e w0 ⟨rfl, rfl⟩
  rw [HK.out.2.2]
  go_wp2_with fail
  refine (keysB_any (some m) w0).mono ?_
  rintro e w1 ⟨rfl, hw1⟩
  have hk1 : w1.heap[w0.heap.size]? = some (.cells #[.map (some m)] 81 (0, 0)) := by rw [hw1]; exact heap_alloc_new w0 _
  have hc1 : Chg (fun _ => False) w0 w1 := by rw [hw1]; exact Chg.alloc _ _ _
  have hm1 := (HK.out.1.kept hc1).lg.mb.map
  clear hw1
  go_wp2_with fail
  refine (sortedB_any w0.heap.size m K (vf com V) w1 hm1 hK hk1).mono ?_
  rintro e w2 ⟨v, rfl, ho2, hb2⟩
  rw [ks_vf, HS.out] at ho2
  obtain ⟨va, vc, rfl⟩ := own_slice ho2
  have hc2 : Chg (fun _ => False) w0 w2 := hc1.trans (Chg.ofBelow hb2) (fun _ _ h => h)
  have H2 : Hid (Lk w2 F G pd pl K S com pend ov m V ∧ Chg (fun _ => False) w0 w2 ∧ w2.ownsRow w0.heap.size 3 1 (.slice va hs.length vc) hs.length (icells hs)) := ⟨HK.out.1.kept hc2, hc2, own_mono ho2 hc1.size⟩
  have HVF : Hid (∀ a, va = some a → w0.heap.size ≤ a.block ∧ a.block < w2.heap.size) := fun a ha => by
    have h1 := ho2.lt a.block (by rw [ha]; rfl)
    have h2 := hc1.size
    exact ⟨by omega, h1.2⟩
  have RE : Hid (Calls Tryz.prog 73 #[.pointer (some ⟨pl, 0, none⟩), .slice va hs.length vc] w2 fun e w' => Ran F pd S 64 (fun S' => Holds S' K (ovr f com) hs) (fun S' => Lasts S' K f) w2 e w') := by
    refine record_any f hs va vc w2 H2.out.1 (Is.ofI H2.out.2.2) (fun a ha hf => ?_) HK.out.2.1 HK.out.2.2 HV.out (fun n hn => ?_) (fun n hn hm => ?_) (by omega)
    · have h1 := HK.out.1.dk.lt _ hf
      have h2 := HVF.out a ha
      omega
    · rw [← HS.out] at hn; exact (mem_ks.1 hn).2
    · cases hc : com n with
      | none => rfl
      | some b => exact absurd (by rw [← HS.out]; exact mem_ks.2 ⟨hn, by rw [hc]; rfl⟩) hm
  clear ho2 hb2 hc1 hm1 hk1 c0 c1 hc2
  go_wp2_with fail
  refine RE.out.mono ?_
  rintro e w3 ⟨E, S3, rfl, t3, hr3⟩
  clear RE
  rcases hr3 with ⟨rfl, hon3, hh3⟩ | ⟨rfl, hgo3, hla3⟩
  rotate_left
  · have HQ : Hid (SyTo F G pd pl K S com pend ov m V f w0 (.returned (.int .i64 6)) w3) := by
      obtain ⟨F3, hk3, cc3, f3⟩ := H2.out.1.to t3 hgo3.nb
      exact .inr ⟨F3, S3, rfl, hk3, H2.out.2.1.trans' cc3, fun b hb => by
        rcases f3 b hb with h | h
        · exact .inl h
        · have := H2.out.2.1.size; exact .inr (by omega), hgo3.mono (by omega), .inl hla3⟩
    clear t3 hgo3 hla3 H2
    go_wp2
    go_ret
    exact HQ.out
  have hi3 : Is w3 (.slice va hs.length vc) (hs.map fun n : Nat => (n : Int)) := by
    obtain ⟨F3, d3, c3, f3⟩ := t3
    exact (Is.ofI H2.out.2.2).kept c3 (fun g hg => by
      cases va with
      | none => cases hg
      | some a =>
        have e : g = a.block := by cases hg; rfl
        rw [e]; intro hf
        have h1 := HK.out.1.dk.lt _ hf
        have h2 := HVF.out a rfl
        omega)
  obtain ⟨F3, hk3, cc3, f3⟩ := H2.out.1.to t3 hon3.nb
  have H3 : Hid (Lk w3 F3 G pd pl K S3 com pend ov m V ∧ Chg F w0 w3 ∧ (∀ b, F3 b → F b ∨ w2.heap.size ≤ b) ∧ Onw S S3 64) := ⟨hk3, H2.out.2.1.trans' cc3, f3, hon3⟩
  have BH : Hid (Calls Tryz.prog 74 #[.pointer (some ⟨pl, 0, none⟩), .slice va hs.length vc] w3 fun e w' => Ran F3 pd S3 64 (fun S' => Clean S' K (ovr f com)) (fun S' => Lasts S' K (ovr f com)) w3 e w') := by
    refine home_any (ovr f com) hs va vc w3 hk3 hi3 (fun a ha hf => ?_) hh3 hon3.off (by have := hon3.wr; omega)
    have h2 := HVF.out a ha
    rcases f3 _ hf with h | h
    · have h1 := HK.out.1.dk.lt _ h
      omega
    · omega
  have HI3 : Hid (Is w3 (.slice va hs.length vc) (hs.map fun n : Nat => (n : Int))) := hi3
  have hz2 := H2.out.2.1.size
  clear t3 hi3 hk3 cc3 f3 hon3 hh3 H2
  go_wp2_with fail
  refine BH.out.mono ?_
  rintro e w4 ⟨E, S4, rfl, t4, hr4⟩
  clear BH
  rcases hr4 with ⟨rfl, hon4, hh4⟩ | ⟨rfl, hgo4, hla4⟩
  rotate_left
  · have HQ : Hid (SyTo F G pd pl K S com pend ov m V f w0 (.returned (.int .i64 6)) w4) := by
      obtain ⟨F4, hk4, cc4, f4⟩ := H3.out.1.to t4 hgo4.nb
      have hz3 := H3.out.2.1.size
      refine .inr ⟨F4, S4, rfl, hk4, H3.out.2.1.trans cc4 (fun b hb hf => ?_), fun b hb => ?_, (H3.out.2.2.2.gone hgo4).mono (by omega), .inr hla4⟩
      · rcases H3.out.2.2.1 b hf with h | h
        · exact h
        · omega
      · rcases f4 b hb with h | h
        · rcases H3.out.2.2.1 b h with h | h
          · exact .inl h
          · exact .inr (by omega)
        · exact .inr (by omega)
    clear t4 hgo4 hla4 H3
    go_wp2
    go_ret
    exact HQ.out
  have hi4 : Is w4 (.slice va hs.length vc) (hs.map fun n : Nat => (n : Int)) := by
    obtain ⟨F4, d4, c4, f4⟩ := t4
    exact HI3.out.kept c4 (fun g hg => by
      cases va with
      | none => cases hg
      | some a =>
        have e : g = a.block := by cases hg; rfl
        rw [e]; intro hf
        have h2 := HVF.out a rfl
        rcases H3.out.2.2.1 _ hf with h | h
        · have h1 := HK.out.1.dk.lt _ h
          omega
        · omega)
  obtain ⟨F4, hk4, cc4, f4⟩ := H3.out.1.to t4 hon4.nb
  have H4 : Hid (Lk w4 F4 G pd pl K S4 com pend ov m V ∧ Chg F w0 w4 ∧ (∀ b, F4 b → F b ∨ w0.heap.size ≤ b) ∧ Onw S S4 128 ∧ Clean S4 K (ovr f com) ∧ Is w4 (.slice va hs.length vc) (hs.map fun n : Nat => (n : Int))) := by
    have hz3 := H3.out.2.1.size
    refine ⟨hk4, H3.out.2.1.trans cc4 (fun b hb hf => ?_), fun b hb => ?_, (H3.out.2.2.2.trans hon4).mono (by omega), hh4, hi4⟩
    · rcases H3.out.2.2.1 b hf with h | h
      · exact h
      · omega
    · rcases f4 b hb with h | h
      · rcases H3.out.2.2.1 b h with h | h
        · exact .inl h
        · exact .inr (by omega)
      · exact .inr (by omega)
  have HVM : Hid (∀ a, va = some a → a.block ≠ m) := fun a ha e => by
    have h1 := HVF.out a ha
    have h2 := HK.out.1.lg.lt m HK.out.1.lg.mb.fm
    omega
  clear t4 hi4 hk4 cc4 f4 hon4 hh4 H3 HI3
  go_wp2
  go_loopw [7, 33] (fun _ x wr => ∃ i, i ≤ hs.length ∧ x = .int .i64 (i : Int) ∧ Hid (Lk wr F4 G pd pl K S4 (less com hs i) pend ov m V ∧ Chg (fun b => b = m) w4 wr)) (fun _ x _ => hs.length - (intOf x).toNat)
  case atStart => exact ⟨0, Nat.zero_le _, rfl, by rw [less_zero]; exact H4.out.1, Chg.refl _ _⟩
  case round =>
    obtain ⟨i, hile, rfl, HR⟩ := hrel
    have c0 := HR.out.1.lg.c0
    have c1 := HR.out.1.lg.c1
    by_cases hlt : i < hs.length
    · obtain ⟨n, hn⟩ : ∃ n, hs[i]? = some n := ⟨hs[i], List.getElem?_eq_getElem hlt⟩
      have his : Is wr (.slice va hs.length vc) (hs.map fun n : Nat => (n : Int)) := H4.out.2.2.2.2.2.kept HR.out.2 (fun g hg => by
        cases va with
        | none => cases hg
        | some a =>
          have e : g = a.block := by cases hg; rfl
          rw [e]; exact HVM.out a rfl)
      obtain ⟨bb, off, hva, hcs⟩ := his.nth (j := i) (by simpa using hlt)
      have hc := hcs i (by simpa using hlt)
      have hg : (hs.map fun n : Nat => (n : Int)).getD i 0 = (n : Int) := by simp [List.getD, hn]
      rw [hg] at hc
      have hnK : n < K := HV.out.lt n (List.mem_of_getElem? hn)
      have hki : (i : Int) < (hs.length : Int) := by omega
      obtain ⟨w5, hrun, hm5, hg5, hz5, _⟩ := HR.out.1.lg.mb.map.deleteB hK hnK 0
      have hc5 := Chg.of_grown hg5
      have H5 : Hid (Lk w5 F4 G pd pl K S4 (less com hs (i + 1)) pend ov m V ∧ Chg (fun b => b = m) w4 w5) := by
        rw [← vf_del, less_succ hn] at hm5
        refine ⟨HR.out.1.remap hc5 hm5 (fun k b hb => ?_), HR.out.2.trans hc5 (fun _ _ h => h)⟩
        rw [← less_succ hn] at hb
        by_cases e : k = n
        · subst e; rw [upd_same] at hb; cases hb
        · rw [upd_other _ _ e] at hb; exact hb
      subst hva
      clear his hcs hg hn hm5 hg5 hz5 hc5 HR
      go_wp2_with (refine wpList_delete_eq _ rfl _ _ _ _ rfl _ _ rfl rfl _ _ hrun ?_)
      go_wp2
      go_roundw
      case rel => exact ⟨i + 1, by omega, by go_num, H5⟩
      case measure => simp [intOf]; omega
    · have hie : i = hs.length := by omega
      subst hie
      have hki : ¬ ((hs.length : Int) < (hs.length : Int)) := by omega
      have c2 := HR.out.1.lg.c2
      have fr2 := HR.out.1.lg.fr 2
      have HQ : Hid (SyTo F G pd pl K S com pend ov m V f w0 (.returned (.int .i64 0)) (wr.setCell ⟨pl, 2, none⟩ (.int .i64 0))) := by
        have e0 : less com hs hs.length = fun _ => none := by
          rw [← HS.out]; exact less_end (fun n b hb => (HK.out.1.lg.mb.row n b hb).1)
        have hl := HR.out.1
        rw [e0] at hl
        have hcs : Chg (fun b => b = pl) wr (wr.setCell ⟨pl, 2, none⟩ (.int .i64 0)) := Chg.setCell _ _ _ rfl
        have hb : (wr.setCell ⟨pl, 2, none⟩ (.int .i64 0)).heap[pl]? = some (.cells #[.pointer (some ⟨pd, 0, none⟩), .map (some m), .int .i64 ((0 : Nat) : Int), ov] 83 (0, 0)) := by
          have := heap_setCell_same wr pl 2 _ 83 (.int .i64 0) hl.lg.blk
          simpa using this
        refine .inl ⟨F4, S4, rfl, hl.restruct hcs hb, ?_, H4.out.2.2.1, H4.out.2.2.2.1, H4.out.2.2.2.2.1⟩
        exact ((H4.out.2.1.mono (fun _ _ h => .inl h)).trans HR.out.2 (fun _ _ h => .inr (.inr h))).trans hcs (fun _ _ h => .inr (.inl h))
      clear HR H4
      go_wp2
      go_ret
      exact HQ.out
end
end Go.Proofs.YtnnaemlipahamaaGreat

namespace Go.Proofs.YtnnaemlipahamaaGreat
open Go.RowKit Go.Maps

def ovOf (live : Bool) (q : Nat) : Value := if live then .pointer (some ⟨q, 0, none⟩) else .pointer none

theorem infoTx : ∃ j, Tryz.prog.info? 85 = some j ∧ j.size ≠ 0 := by
  have h : (Tryz.prog.info? 85).map (fun i => i.size) = some 3 := by kernel_rfl
  obtain ⟨i, hi, e⟩ := Option.map_eq_some_iff.1 h
  exact ⟨i, hi, by rw [e]; decide⟩
theorem eqT_same (a : Nat) (w : World) : (binOp .eql 37 (.pointer (some ⟨a, 0, none⟩)) (.pointer (some ⟨a, 0, none⟩))).run Tryz.prog w = .ok (.bool true) w := by
  obtain ⟨j, hj, hs⟩ := infoTx
  have h : ∀ d : Nat, (Op.equalIn (d + 1) 37 (.pointer (some ⟨a, 0, none⟩)) (.pointer (some ⟨a, 0, none⟩))).run Tryz.prog w = .ok true w := fun d => by
    simp [Op.equalIn, run_underlying Tryz.underlying37, sizeOf, typeInfo, hj, run_sameAddr_same]
  simp only [binOp]
  simp [Op.equal, Op.maxDepth, h 9999]
theorem eqT_nil (a : Addr) (w : World) : (binOp .eql 37 (.pointer none) (.pointer (some a))).run Tryz.prog w = .ok (.bool false) w := by kernel_rfl
theorem neT_nil (a : Addr) (w : World) : (binOp .neq 37 (.pointer (some a)) (.pointer none)).run Tryz.prog w = .ok (.bool true) w := by kernel_rfl
theorem neT_none (w : World) : (binOp .neq 37 (.pointer none) (.pointer none)).run Tryz.prog w = .ok (.bool false) w := by kernel_rfl

/-- A log and its transaction at q, open while it is live. -/
structure Tk (w : World) (F G : Nat → Prop) (pd pl q K : Nat) (S : St) (com : Nat → Option (List Int)) (pend : Nat) (live : Bool) (own : Nat → Option (List Int)) (wrote m : Nat) (V : Nat → Value) (mt : Nat) (Vt : Nat → Value) : Prop where
  lk : Lk w F G pd pl K S com pend (ovOf live q) m V
  tx : TxAt w G pl q K own wrote mt Vt
  ne : mt ≠ m

section
variable {F G : Nat → Prop} {pd pl q K : Nat} {S : St} {com own : Nat → Option (List Int)} {pend wrote : Nat} {ov : Value} {live : Bool} {m mt : Nat} {V Vt : Nat → Value}
theorem Tk.kept {w w' : World} (h : Tk w F G pd pl q K S com pend live own wrote m V mt Vt) (hc : Chg (fun _ => False) w w') : Tk w' F G pd pl q K S com pend live own wrote m V mt Vt := ⟨h.lk.kept hc, h.tx.kept hc (fun _ _ h => h), h.ne⟩
theorem Lk.mono {w : World} (h : Lk w F G pd pl K S com pend ov m V) {G' : Nat → Prop} (hG : ∀ b, G b → G' b) (hl : ∀ b, G' b → b < w.heap.size) (hno : ∀ b, F b → ¬ G' b) : Lk w F G' pd pl K S com pend ov m V := ⟨h.dk, h.lg.mono hG hl, hno, h.nb⟩

/-- What Begin leaves. -/
def BgTo (F G : Nat → Prop) (pd pl K : Nat) (S : St) (com : Nat → Option (List Int)) (pend m : Nat) (V : Nat → Value) (w : World) (e : Ending) (w' : World) : Prop :=
  ∃ q G' mt Vt, e = .returned (.tuple #[.pointer (some ⟨q, 0, none⟩), .int .i64 0]) ∧ Tk w' F G' pd pl q K S com pend true (fun _ => none) 0 m V mt Vt ∧ Chg (fun b => b = pl) w w' ∧ ∀ b, G' b → G b ∨ w.heap.size ≤ b

theorem begun_tk {w : World} (h : Lk w F G pd pl K S com pend (.pointer none) m V) :
    BgTo F G pd pl K S com pend m V w (.returned (.tuple #[.pointer (some ⟨w.heap.size + 1, 0, none⟩), .int .i64 0])) (((w.setCell ⟨pl, 3, none⟩ (.pointer (some ⟨w.heap.size + 1, 0, none⟩))).alloc (.map #[] 0)).alloc (.cells #[.pointer (some ⟨pl, 0, none⟩), .map (some w.heap.size), .int .i64 0] 85)) := by
  have hcs : Chg (fun b => b = pl) w (w.setCell ⟨pl, 3, none⟩ (.pointer (some ⟨w.heap.size + 1, 0, none⟩))) := Chg.setCell _ _ _ rfl
  have hbl : (w.setCell ⟨pl, 3, none⟩ (.pointer (some ⟨w.heap.size + 1, 0, none⟩))).heap[pl]? = some (.cells #[.pointer (some ⟨pd, 0, none⟩), .map (some m), .int .i64 (pend : Int), .pointer (some ⟨w.heap.size + 1, 0, none⟩)] 83 (0, 0)) := by
    have := heap_setCell_same w pl 3 _ 83 (.pointer (some ⟨w.heap.size + 1, 0, none⟩)) h.lg.blk
    simpa using this
  have h0 := h.restruct hcs hbl
  have hs0 : (w.setCell ⟨pl, 3, none⟩ (.pointer (some ⟨w.heap.size + 1, 0, none⟩))).heap.size = w.heap.size := by simp
  obtain ⟨w0, hw0⟩ : ∃ w0, w.setCell ⟨pl, 3, none⟩ (.pointer (some ⟨w.heap.size + 1, 0, none⟩)) = w0 := ⟨_, rfl⟩
  rw [hw0] at h0 hcs hs0 ⊢
  clear hbl hw0
  obtain ⟨w1, hw1⟩ : ∃ w1, w0.alloc (.map #[] 0) = w1 := ⟨_, rfl⟩
  obtain ⟨w2, hw2⟩ : ∃ w2, w1.alloc (.cells #[.pointer (some ⟨pl, 0, none⟩), .map (some w.heap.size), .int .i64 0] 85) = w2 := ⟨_, rfl⟩
  rw [hw1, hw2]
  have hs1 : w1.heap.size = w.heap.size + 1 := by rw [← hw1, World.size_alloc, hs0]
  have hs2 : w2.heap.size = w.heap.size + 2 := by rw [← hw2, World.size_alloc, hs1]
  have hc2 : Chg (fun _ => False) w0 w2 := by rw [← hw2, ← hw1]; exact (Chg.alloc _ _ _).trans (Chg.alloc (fun _ => False) _ _) (fun _ _ h => h)
  have h2 := h0.kept hc2
  have hm2 : MapIs w2 w.heap.size K (fun _ => none) := by
    rw [← hw2, ← hw1, ← hs0]
    exact (MapIs.new w0 K).kept (Below.heap_alloc _ _ _ (by simp))
  have hb2 : w2.heap[w.heap.size + 1]? = some (.cells #[.pointer (some ⟨pl, 0, none⟩), .map (some w.heap.size), .int .i64 0] 85 (0, 0)) := by
    rw [← hw2, ← hs1]; exact heap_alloc_new w1 _
  have hgl : ∀ b, (G b ∨ b = w.heap.size ∨ b = w.heap.size + 1) → b < w2.heap.size := fun b hb => by
    rcases hb with e | e | e
    · have := h.lg.lt b e; omega
    · omega
    · omega
  refine ⟨w.heap.size + 1, fun b => G b ∨ b = w.heap.size ∨ b = w.heap.size + 1, w.heap.size, fun _ => .slice none 0 0, rfl, ⟨?_, ⟨hb2, ⟨?_, fun n b hb => (by cases hb), .inr (.inl rfl)⟩, .inr (.inr rfl), hgl⟩, ?_⟩, hcs.trans hc2 (fun _ _ h => h.elim), fun b hb => ?_⟩
  · refine h2.mono (fun b hb => .inl hb) hgl (fun b hf hg => ?_)
    rcases hg with e | e | e
    · exact h.no b hf e
    · have := h.dk.lt b hf; omega
    · have := h.dk.lt b hf; omega
  · have e : vf (fun _ => none) (fun _ => .slice none 0 0) = fun _ => none := by funext n; exact vf_none rfl
    rw [e]
    exact hm2
  · have := h.lg.lt m h.lg.mb.fm
    omega
  · rcases hb with e | e | e
    · exact .inl e
    · exact .inr (by omega)
    · exact .inr (by omega)

set_option maxHeartbeats 1600000 in
theorem begin_any (w : World) (h : Lk w F G pd pl K S com pend (.pointer none) m V) (hoff : S.off = false) :
    Calls Tryz.prog 9 #[.pointer (some ⟨pl, 0, none⟩)] w fun e w' => BgTo F G pd pl K S com pend m V w e w' := by
  have hmm := @run_makeMap Tryz.prog
  have c0 := h.lg.c0
  have c3 := h.lg.c3
  have f3 := h.lg.fr 3
  have hne := neT_none
  have hpl := h.lg.pl_lt
  have HQ : Hid (BgTo F G pd pl K S com pend m V w (.returned (.tuple #[.pointer (some ⟨w.heap.size + 1, 0, none⟩), .int .i64 0])) (((w.setCell ⟨pl, 3, none⟩ (.pointer (some ⟨w.heap.size + 1, 0, none⟩))).alloc (.map #[] 0)).alloc (.cells #[.pointer (some ⟨pl, 0, none⟩), .map (some w.heap.size), .int .i64 0] 85))) := begun_tk h
  have HD : Hid (Dk w F pd S) := h.dk
  clear h
  go_enter Tryz.func9, Tryz.ntmps9
  go_wp2_with fail
  refine (off_any F pd S w HD.out).mono ?_
  rintro e w1 ⟨rfl, rfl⟩
  rw [hoff]
  clear HD
  go_wp2
  go_ret2
  exact HQ.out
set_option maxHeartbeats 1600000 in
theorem begin_busy (a : Addr) (w : World) (h : Lk w F G pd pl K S com pend (.pointer (some a)) m V) (hoff : S.off = false) :
    Calls Tryz.prog 9 #[.pointer (some ⟨pl, 0, none⟩)] w fun e w' => e = .returned (.tuple #[.pointer none, .int .i64 15]) ∧ w' = w := by
  have c0 := h.lg.c0
  have c3 := h.lg.c3
  have hne := neT_nil a
  have HD : Hid (Dk w F pd S) := h.dk
  clear h
  go_enter Tryz.func9, Tryz.ntmps9
  go_wp2_with fail
  refine (off_any F pd S w HD.out).mono ?_
  rintro e w1 ⟨rfl, rfl⟩
  rw [hoff]
  clear HD
  go_wp2
  go_ret2
  exact ⟨rfl, rfl⟩

set_option maxHeartbeats 1600000 in
theorem lread_any (f : Nat → List Int) (n : Nat) (w : World) (h : Lk w F G pd pl K S com pend ov m V) (hf : S.last (65 + n) = f n) (hn : n < K) (hoff : S.off = false) (hx : S.writes < 1099511627776) :
    Calls Tryz.prog 99 #[.pointer (some ⟨pl, 0, none⟩), .int .i64 (n : Int)] w fun e w' => ∃ u, e = .returned (.tuple #[u, .int .i64 0]) ∧ Fresh w w' u (ovr f com n) := by
  have HK : Hid (Lk w F G pd pl K S com pend ov m V) := h
  have c0 := h.lg.c0
  have c1 := h.lg.c1
  have hK := h.top
  have hnb := h.nb
  have kd : decide (0 ≤ (n : Int) ∧ (n : Int) < K) = true := by simp; omega
  have lk := h.lg.mb.map.lookB2 hK hn
  cases hc : com n with
  | some b =>
    obtain ⟨g, c, e, _, _, hb⟩ := h.lg.lookB hK hc
    rw [vf_some hc, Option.getD_some, e] at lk
    have HB : Hid (Bs w (.slice (some ⟨g, 0, none⟩) 512 c) b ∧ b.length = 512) := ⟨hb, (h.lg.mb.row n b hc).2.1⟩
    have HE : Hid (ovr f com n = b) := ovr_some hc
    clear h hb e hc hf
    go_enter Tryz.func99, Tryz.ntmps99
    go_wp2_with fail
    refine (lhas_any (n : Int) w HK.out).mono ?_
    rintro e w1 ⟨rfl, rfl⟩
    rw [kd]
    go_wp2_with fail
    refine (off_any F pd S w1 HK.out.dk).mono ?_
    rintro e w2 ⟨rfl, rfl⟩
    rw [hoff]
    go_wp2_with fail
    refine (cloneB_any _ b w2 HB.out.1 (by have := HB.out.2; omega)).mono ?_
    rintro e w3 ⟨u, rfl, ho, hch⟩
    have HQ : Hid (Fresh w2 w3 u (ovr f com n)) := by rw [HE.out]; exact ⟨ho, hch⟩
    clear lk c0 c1 ho hch
    go_wp2
    go_ret2
    exact ⟨u, rfl, HQ.out⟩
  | none =>
    rw [vf_none hc] at lk
    have HE : Hid (ovr f com n = f n) := ovr_none hc
    have hr := readOn (S := S) (n := 65 + n) hoff (by omega)
    rw [hf] at hr
    have RD : Hid (Calls Tryz.prog 105 #[.pointer (some ⟨pd, 0, none⟩), .int .i64 (65 + (n : Int))] w fun e w' => ∃ u, e = .returned (.tuple #[u, .int .i64 0]) ∧ Fresh w w' u (f n)) := by
      have h1 := read_any F pd S ((65 + n : Nat) : Int) w h.dk hx
      rw [hr.1, hr.2] at h1
      have e1 : (65 : Int) + (n : Int) = ((65 + n : Nat) : Int) := by omega
      rw [e1]; exact h1
    clear h hc hf hr
    go_enter Tryz.func99, Tryz.ntmps99
    go_wp2_with fail
    refine (lhas_any (n : Int) w HK.out).mono ?_
    rintro e w1 ⟨rfl, rfl⟩
    rw [kd]
    go_wp2_with fail
    refine (off_any F pd S w1 HK.out.dk).mono ?_
    rintro e w2 ⟨rfl, rfl⟩
    rw [hoff]
    go_wp2_with fail
    refine RD.out.mono ?_
    rintro e w3 ⟨u, rfl, hfr⟩
    have HQ : Hid (Fresh w2 w3 u (ovr f com n)) := by rw [HE.out]; exact hfr
    clear lk c0 c1 hfr RD
    go_wp2
    go_ret2
    exact ⟨u, rfl, HQ.out⟩
set_option maxHeartbeats 1600000 in
theorem lread_out (n : Int) (w : World) (h : Lk w F G pd pl K S com pend ov m V) (hn : ¬ (0 ≤ n ∧ n < K)) :
    Calls Tryz.prog 99 #[.pointer (some ⟨pl, 0, none⟩), .int .i64 n] w fun e w' => e = .returned (.tuple #[.slice none 0 0, .int .i64 1]) ∧ w' = w := by
  have kd : decide (0 ≤ n ∧ n < K) = false := by simpa using hn
  go_enter Tryz.func99, Tryz.ntmps99
  go_wp2_with fail
  refine (lhas_any n w h).mono ?_
  rintro e w1 ⟨rfl, rfl⟩
  rw [kd]
  clear h hn
  go_wp2
  go_ret2
  exact ⟨rfl, rfl⟩

set_option maxHeartbeats 800000 in
theorem isOpen_any (w : World) (h : Tk w F G pd pl q K S com pend live own wrote m V mt Vt) : Calls Tryz.prog 37 #[.pointer (some ⟨q, 0, none⟩)] w fun e w' => e = .returned (.bool live) ∧ w' = w := by
  have t0 := h.tx.c0
  have c3 := h.lk.lg.c3
  clear h
  cases live with
  | true =>
    simp only [ovOf, if_true] at c3
    have he := eqT_same q w
    go_enter Tryz.func37, Tryz.ntmps37
    go_wp2
    go_ret
    exact ⟨rfl, rfl⟩
  | false =>
    simp only [ovOf] at c3
    have he := eqT_nil ⟨q, 0, none⟩ w
    go_enter Tryz.func37, Tryz.ntmps37
    go_wp2
    go_ret
    exact ⟨rfl, rfl⟩
set_option maxHeartbeats 1600000 in
theorem tread_any (f : Nat → List Int) (n : Nat) (w : World) (h : Tk w F G pd pl q K S com pend live own wrote m V mt Vt) (hf : S.last (65 + n) = f n) (hn : n < K) (hoff : S.off = false) (hx : S.writes < 1099511627776) :
    Calls Tryz.prog 68 #[.pointer (some ⟨q, 0, none⟩), .int .i64 (n : Int)] w fun e w' => ∃ u, e = .returned (.tuple #[u, .int .i64 0]) ∧ Fresh w w' u (ovr (ovr f com) own n) := by
  have HK : Hid (Tk w F G pd pl q K S com pend live own wrote m V mt Vt) := h
  have t0 := h.tx.c0
  have t1 := h.tx.c1
  have c0 := h.lk.lg.c0
  have hK := h.lk.top
  have lk := h.tx.mb.map.lookB2 hK hn
  cases hc : own n with
  | some b =>
    obtain ⟨h1, h2, g, c, e, ho, hg⟩ := h.tx.mb.row n b hc
    have hb := h.tx.mb.bs hc
    rw [e] at hb
    rw [vf_some hc, Option.getD_some, e] at lk
    have HB : Hid (Bs w (.slice (some ⟨g, 0, none⟩) 512 c) b ∧ b.length = 512) := ⟨hb, h2⟩
    have HE : Hid (ovr (ovr f com) own n = b) := ovr_some hc
    clear h hb e hc hf h1 h2 ho hg
    go_enter Tryz.func68, Tryz.ntmps68
    go_wp2_with fail
    refine (off_any F pd S w HK.out.lk.dk).mono ?_
    rintro e w2 ⟨rfl, rfl⟩
    rw [hoff]
    go_wp2_with fail
    refine (cloneB_any _ b w2 HB.out.1 (by have := HB.out.2; omega)).mono ?_
    rintro e w3 ⟨u, rfl, ho, hch⟩
    have HQ : Hid (Fresh w2 w3 u (ovr (ovr f com) own n)) := by rw [HE.out]; exact ⟨ho, hch⟩
    clear lk c0 t0 t1 ho hch
    go_wp2
    go_ret2
    exact ⟨u, rfl, HQ.out⟩
  | none =>
    rw [vf_none hc] at lk
    have HE : Hid (ovr (ovr f com) own n = ovr f com n ∧ S.last (65 + n) = f n) := ⟨ovr_none hc, hf⟩
    clear h hc hf
    go_enter Tryz.func68, Tryz.ntmps68
    go_wp2_with fail
    refine (off_any F pd S w HK.out.lk.dk).mono ?_
    rintro e w2 ⟨rfl, rfl⟩
    rw [hoff]
    go_wp2_with fail
    refine (lread_any f n w2 HK.out.lk HE.out.2 hn hoff hx).mono ?_
    rintro e w3 ⟨u, rfl, hfr⟩
    have HQ : Hid (Fresh w2 w3 u (ovr (ovr f com) own n)) := by rw [HE.out.1]; exact hfr
    clear lk c0 t0 t1 hfr
    go_wp2
    go_ret2
    exact ⟨u, rfl, HQ.out⟩
end
end Go.Proofs.YtnnaemlipahamaaGreat

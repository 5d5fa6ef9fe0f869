/-
  The contracts of record and bringHome of package wal.
-/
import Derived.Test.YtkkmdmnjlncgfaaWRead
namespace Go.Proofs.Ytkkmdmnjlncgfaa
open Go.RowKit Go.Maps

/-- f, but what com has. -/
def ovr (f : Nat → List Int) (com : Nat → Option (List Int)) (n : Nat) : List Int := (com n).getD (f n)
theorem ovr_none {f : Nat → List Int} {com : Nat → Option (List Int)} {n : Nat} (h : com n = none) : ovr f com n = f n := by simp [ovr, h]
theorem ovr_some {f : Nat → List Int} {com : Nat → Option (List Int)} {n : Nat} {b : List Int} (h : com n = some b) : ovr f com n = b := by simp [ovr, h]

/-- Done (what holds then), or the power has gone (what lasts then). -/
def Ran (F : Nat → Prop) (pd : Nat) (S : St) (k : Nat) (done cut : St → Prop) (w : World) (e : Ending) (w' : World) : Prop :=
  ∃ E S', e = .returned (.int .i64 E) ∧ To F pd w w' S' ∧ ((E = 0 ∧ Onw S S' k ∧ done S') ∨ (E = 6 ∧ Gone S S' k ∧ cut S'))

section
variable {F G : Nat → Prop} {pd pl K : Nat} {S : St} {com : Nat → Option (List Int)} {pend : Nat} {ov : Value} {m : Nat} {V : Nat → Value}
theorem LgAt.lookB {w : World} (h : LgAt w G pd pl K com pend ov m V) (hK : K ≤ 16384) {n : Nat} {b : List Int} (hn : com n = some b) : ∃ g c, V n = .slice (some ⟨g, 0, none⟩) 512 c ∧ G g ∧ (Instr.lookup 74 (.map (some m)) (.int .i64 (n : Int)) false).run Try.prog w = .ok (.slice (some ⟨g, 0, none⟩) 512 c) w ∧ Bs w (.slice (some ⟨g, 0, none⟩) 512 c) b := by
  obtain ⟨h1, h2, g, c, e, ho, hg⟩ := h.mb.row n b hn
  have hl := h.mb.map.lookB hK h1
  rw [vf_some hn] at hl
  have hb := h.mb.bs hn
  rw [e] at hb
  exact ⟨g, c, e, hg, by rw [hl, Option.getD_some, e], hb⟩
theorem Lk.lgTo {w w' : World} (h : Lk w F G pd pl K S com pend ov m V) {S' : St} (t : To F pd w w' S') : LgAt w' G pd pl K com pend ov m V := by
  obtain ⟨F', d, c, f⟩ := t
  exact h.lg.kept c (fun b hg hf => h.no b hf hg)
theorem Lk.to {w w' : World} (h : Lk w F G pd pl K S com pend ov m V) {S' : St} (t : To F pd w w' S') (hn : S'.nb = S.nb) : ∃ F', Lk w' F' G pd pl K S' com pend ov m V ∧ Chg F w w' ∧ ∀ b, F' b → F b ∨ w.heap.size ≤ b := by
  have hl := h.lgTo t
  obtain ⟨F', d, c, f⟩ := t
  refine ⟨F', ⟨d, hl, fun b hf hg => ?_, hn.trans h.nb⟩, c, f⟩
  rcases f b hf with e | e
  · exact h.no b e hg
  · have := h.lg.lt b hg; omega

set_option maxHeartbeats 3200000 in
set_option maxRecDepth 100000 in
theorem record_any (f : Nat → List Int) (hs : List Nat) (va : Option Addr) (vc : Nat) (w : World) (h : Lk w F G pd pl K S com pend ov m V) (hv : Is w (.slice va hs.length vc) (hs.map fun n : Nat => (n : Int))) (hvF : ∀ a, va = some a → ¬ F a.block) (hcl : Clean S K f) (hoff : S.off = false)
    (hval : Valid K hs) (hm1 : ∀ n ∈ hs, (com n).isSome) (hm2 : ∀ n, n < K → n ∉ hs → com n = none) (hx : S.writes + 1000 < 1099511627776) :
    Calls Try.prog 52 #[.pointer (some ⟨pl, 0, none⟩), .slice va hs.length vc] w fun e w' => Ran F pd S 64 (fun S' => Holds S' K (ovr f com) hs) (fun S' => Lasts S' K f) w e w' := by
  have hl := hval.len
  have HV : Hid (Valid K hs ∧ (∀ n ∈ hs, (com n).isSome) ∧ (∀ n, n < K → n ∉ hs → com n = none)) := ⟨hval, hm1, hm2⟩
  have HC : Hid (Clean S K f ∧ S.off = false) := ⟨hcl, hoff⟩
  have HK : Hid (Lk w F G pd pl K S com pend ov m V) := h
  have HI : Hid (Is w (.slice va hs.length vc) (hs.map fun n : Nat => (n : Int))) := hv
  have HF : Hid (∀ a, va = some a → ¬ F a.block) := hvF
  have hwf := h.dk.wf
  have hnb := h.nb
  have hK := h.top
  clear h hv hvF hcl hval hm1 hm2
  by_cases h0 : hs.length = 0
  · have hs0 : hs = [] := List.eq_nil_of_length_eq_zero h0
    have HQ : Hid (Ran F pd S 64 (fun S' => Holds S' K (ovr f com) hs) (fun S' => Lasts S' K f) w (.returned (.int .i64 0)) w) := by
      refine ⟨0, S, rfl, To.refl HK.out.dk, .inl ⟨rfl, (Onw.refl hwf hoff).mono (by omega), ?_⟩⟩
      subst hs0
      refine Holds.ext HC.out.1 (fun n hn => ?_)
      exact (ovr_none (HV.out.2.2 n hn (by simp))).symm
    have k0 : ((hs.length : Nat) : Int) = 0 := by omega
    clear hwf hnb
    go_enter Try.func52, Try.ntmps52
    go_wp2
    go_ret
    exact HQ.out
  · obtain ⟨xs, hxs⟩ : ∃ xs, (hs.map fun n => (com n).getD []) = xs := ⟨_, rfl⟩
    have HX : Hid (∀ j n, hs[j]? = some n → ∃ b, com n = some b ∧ xs.getD j [] = b ∧ b.length = 512) := by
      intro j n hj
      obtain ⟨b, hb⟩ := Option.isSome_iff_exists.1 (HV.out.2.1 n (List.mem_of_getElem? hj))
      refine ⟨b, hb, ?_, (HK.out.lg.mb.row n b hb).2.1⟩
      rw [← hxs]
      simp [List.getD, hj, hb]
    have k0 : (((hs.length : Nat) : Int) == 0) = false := by rw [beq_eq_false_iff_ne]; omega
    have HT0 : Hid (To F pd w w S ∧ Cop S S xs 0) := ⟨To.refl HK.out.dk, Cop.start hwf hoff HC.out.1.calm xs⟩
    clear hxs hwf hoff
    go_enter Try.func52, Try.ntmps52
    go_wp2
    go_loopw [5, 6, 7, 14] (fun _ _ _ x wr => ∃ i Si, i ≤ hs.length ∧ x = .int .i64 (i : Int) ∧ Hid (To F pd w wr Si ∧ Cop S Si xs i)) (fun _ _ _ x _ => hs.length - (intOf x).toNat)
    case atStart => exact ⟨0, S, Nat.zero_le _, rfl, HT0⟩
    case round =>
      obtain ⟨i, Si, hile, rfl, HR⟩ := hrel
      clear HT0
      have hlg := HK.out.lgTo HR.out.1
      have c0 := hlg.c0
      have c1 := hlg.c1
      obtain ⟨Fi, di, ci, fi⟩ := HR.out.1
      have hon := HR.out.2.on
      have hoffi := hon.off
      have hwri := hon.wr
      have hnbi : Si.nb = K + 65 := hon.nb.trans hnb
      have HD : Hid (Dk wr Fi pd Si ∧ Chg F w wr ∧ ∀ b, Fi b → F b ∨ w.heap.size ≤ b) := ⟨di, ci, fi⟩
      have his : Is wr (.slice va hs.length vc) (hs.map fun n : Nat => (n : Int)) := HI.out.kept ci (fun g hg => by
        cases va with
        | none => cases hg
        | some a =>
          have e : g = a.block := by cases hg; rfl
          rw [e]; exact HF.out a rfl)
      by_cases hlt : i < hs.length
      · obtain ⟨n, hn⟩ : ∃ n, hs[i]? = some n := ⟨hs[i], List.getElem?_eq_getElem hlt⟩
        obtain ⟨bb, off, hva, hcs⟩ := his.nth (j := i) (by simpa using hlt)
        have hc := hcs i (by simpa using hlt)
        have hg : (hs.map fun n : Nat => (n : Int)).getD i 0 = (n : Int) := by simp [List.getD, hn]
        rw [hg] at hc
        obtain ⟨b, hb, hxb, hbl⟩ := HX.out i n hn
        obtain ⟨g, c, _, hgG, lk, hbs⟩ := hlg.lookB hK hb
        have lkd : (Instr.lookup 74 (.map (some m)) (.int .i64 (n : Int)) false).run Try.prog wr.drew = .ok (.slice (some ⟨g, 0, none⟩) 512 c) wr.drew := by
          obtain ⟨g', c', _, _, lk', _⟩ := (hlg.kept (Chg.drew (fun _ => False) wr) (fun _ _ h => h)).lookB hK hb
          have := (hlg.mb.row n b hb)
          simp_all
        have hki : (i : Int) < (hs.length : Int) := by omega
        have wr1 : IntKind.i64.wrap (1 + (i : Int)) = 1 + (i : Int) := by rw [IntKind.wrap_i64]; omega
        have WR0 := write_any Fi pd Si ((1 + i : Nat) : Int) (.slice (some ⟨g, 0, none⟩) 512 c) b wr.drew (di.kept (Chg.drew (fun _ => False) wr) (fun _ _ h => h)) (hbs.kept (Chg.drew (fun _ => False) wr) (fun _ _ _ _ _ h => h)) (fun g' hg' hf => by
          have e := own_at hg'
          subst e
          rcases fi _ hf with h | h
          · exact HK.out.no _ h hgG
          · have := HK.out.lg.lt _ hgG; omega) (by omega)
        have WC := St.write_cases (S := Si) (n := 1 + i) (b := b) hoffi (by omega) hbl
        obtain ⟨E, hE⟩ : ∃ E, Si.writeE ((1 + i : Nat) : Int) b = E := ⟨_, rfl⟩
        obtain ⟨S2, hS2⟩ : ∃ S2, Si.write ((1 + i : Nat) : Int) b = S2 := ⟨_, rfl⟩
        rw [hE, hS2] at WR0 WC
        have WR : Hid (Calls Try.prog 37 #[.pointer (some ⟨pd, 0, none⟩), .int .i64 (1 + (i : Int)), .slice (some ⟨g, 0, none⟩) 512 c] wr.drew fun e w' => e = .returned (.int .i64 E) ∧ w'.cell? ⟨pl, 0, none⟩ = some (.pointer (some ⟨pd, 0, none⟩)) ∧ w'.cell? ⟨pl, 1, none⟩ = some (.map (some m)) ∧ (Instr.lookup 74 (.map (some m)) (.int .i64 (n : Int)) false).run Try.prog w' = .ok (.slice (some ⟨g, 0, none⟩) 512 c) w' ∧ Hid (To F pd w w' S2)) := by
          have e1 : (1 : Int) + (i : Int) = ((1 + i : Nat) : Int) := by omega
          rw [e1]
          refine WR0.mono ?_
          rintro e w' ⟨rfl, t⟩
          have t2 : To F pd w w' S2 := To.trans (ci.trans (Chg.drew F wr) (fun _ _ h => h)) fi t
          have hl2 := HK.out.lgTo t2
          obtain ⟨g', c', e', _, lk', _⟩ := hl2.lookB hK hb
          refine ⟨rfl, hl2.c0, hl2.c1, ?_, t2⟩
          have e'' := (hlg.lookB hK hb)
          obtain ⟨g2, c2, e2, _, lk2, _⟩ := e''
          have : Value.slice (some ⟨g', 0, none⟩) 512 c' = Value.slice (some ⟨g, 0, none⟩) 512 c := by
            rw [lk2] at lk
            injection lk with h1 h2
            rw [← h1, ← e', ← e2]
          rw [← this]; exact lk'
        have HN : Hid (hs[i]? = some n ∧ xs.getD i [] = b ∧ b.length = 512 ∧ Si.nb = K + 65) := ⟨hn, hxb, hbl, hnbi⟩
        have HWC : Hid ((E = 0 ∧ S2 = Si.pushed (1 + i) b ∧ Si.arm ≠ 1) ∨ (E = 6 ∧ S2 = Si.cut Si.picks ∧ Si.arm = 1)) := WC
        subst hva
        clear his hcs hg hn hxb hbl hb hgG hbs WR0 WC hE hS2 hlg di ci fi hon hoffi hnbi hwri HD
        go_wp2_with fail
        go_region_held (fun w' => w'.cell? ⟨pl, 0, none⟩ = some (.pointer (some ⟨pd, 0, none⟩)) ∧ w'.cell? ⟨pl, 1, none⟩ = some (.map (some m)) ∧ (Instr.lookup 74 (.map (some m)) (.int .i64 (n : Int)) false).run Try.prog w' = .ok (.slice (some ⟨g, 0, none⟩) 512 c) w')
          (first | assumption | exact ⟨c0, c1, lk⟩ | exact ⟨c0, c1, lkd⟩ | exact ⟨q0, q1, q2⟩)
          (first | (go_at_call 37; refine WR.out.mono ?_; clear WR; rintro e w2 ⟨rfl, q0, q1, q2, HT⟩))
        all_goals
          clear lk lkd c0 c1 hc wr1
          rcases HWC.out with ⟨hE, hS2, hA⟩ | ⟨hE, hS2, hA⟩
          · subst hE
            have HC2 : Hid (To F pd w w2 S2 ∧ Cop S S2 xs (i + 1)) := by
              refine ⟨HT.out, ?_⟩
              obtain ⟨n1, n2, n3, n4⟩ := HN.out
              rw [hS2, ← n2]
              exact HR.out.2.push (by omega) (by omega) (by rw [n2]; exact n3)
            clear hS2 hA HWC HR HT q0 q1 q2
            go_wp2
            go_roundw
            case rel => exact ⟨i + 1, S2, by omega, by go_num, HC2⟩
            case measure => simp [intOf]; omega
          · subst hE
            have HQ : Hid (Ran F pd S 64 (fun S' => Holds S' K (ovr f com) hs) (fun S' => Lasts S' K f) w (.returned (.int .i64 6)) w2) := by
              have hh := HR.out.2.cut HC.out.1 hA Si.picks
              refine ⟨6, S2, rfl, HT.out, .inr ⟨rfl, ?_, ?_⟩⟩
              · rw [hS2]; exact hh.1.mono (by omega)
              · rw [hS2]; exact hh.2
            clear hS2 hA HWC HR HT q0 q1 q2
            go_wp2
            go_ret
            exact HQ.out
      · have hie : i = hs.length := by omega
        subst hie
        have hki : ¬ ((hs.length : Int) < (hs.length : Int)) := by omega
        have SY : Hid (Calls Try.prog 38 #[.pointer (some ⟨pd, 0, none⟩)] wr fun e w' => e = .returned (.int .i64 0) ∧ To Fi pd wr w' Si.synced) := by
          have h1 := sync_any Fi pd Si wr di (by omega)
          rw [show Si.sync = Si.synced by unfold St.sync; rw [if_neg (by simp [hoffi])], show Si.syncE = 0 by unfold St.syncE; rw [if_neg (by simp [hoffi])]] at h1
          exact h1
        have HN : Hid (Si.nb = K + 65 ∧ Si.writes ≤ S.writes + hs.length ∧ Si.off = false) := ⟨hnbi, hwri, hoffi⟩
        clear his hlg di ci fi hon hoffi hnbi hwri c1
        go_wp2_with fail
        refine SY.out.mono ?_
        rintro e w4 ⟨rfl, t4⟩
        have t4' := To.trans HD.out.2.1 HD.out.2.2 t4
        have hl4 := HK.out.lgTo t4'
        have c4 := hl4.c0
        have LH : Hid (Calls Try.prog 39 #[.slice va hs.length vc] w4.drew fun e w5 => ∃ ua uc, e = .returned (.slice ua 512 uc) ∧ w5.cell? ⟨pl, 0, none⟩ = some (.pointer (some ⟨pd, 0, none⟩)) ∧
            Hid (Calls Try.prog 35 #[.pointer (some ⟨pd, 0, none⟩), .int .i64 ((0 : Nat) : Int), .slice ua 512 uc] w5 fun e w6 => ∃ E, e = .returned (.int .i64 E) ∧ w6.cell? ⟨pl, 0, none⟩ = some (.pointer (some ⟨pd, 0, none⟩)) ∧ Hid (∃ S6, FixTo Si.synced 0 (headB hs) E S6 ∧ To F pd w w6 S6))) := by
          obtain ⟨F4, d4, c4', f4⟩ := t4'
          have his4 : Is w4.drew (.slice va hs.length vc) (hs.map fun n : Nat => (n : Int)) := HI.out.kept (c4'.trans (Chg.drew F w4) (fun _ _ h => h)) (fun g hg => by
            cases va with
            | none => cases hg
            | some a =>
              have e : g = a.block := by cases hg; rfl
              rw [e]; exact HF.out a rfl)
          refine (layHead_any (.slice va hs.length vc) hs w4.drew his4 hl).mono ?_
          rintro e w5 ⟨u, rfl, ho5, hc5⟩
          obtain ⟨ua, uc, rfl⟩ := cown_slice ho5
          have hcc : Chg (fun _ => False) w4 w5 := (Chg.drew (fun _ => False) w4).trans hc5 (fun _ _ h => h)
          have hl5 := hl4.kept hcc (fun _ _ h => h)
          refine ⟨ua, uc, rfl, hl5.c0, ?_⟩
          have hb5 : Bs w5 (.slice ua 512 uc) (headB hs) := Bs.ofOwns ho5
          refine (fix_any F4 pd Si.synced 0 _ (headB hs) w5 (d4.kept hcc (fun _ _ h => h)) hb5 (fun g hg hf => by
              have h1 := (ho5.lt g hg).1
              have h2 := d4.lt g hf
              have h3 : w4.drew.heap.size = w4.heap.size := rfl
              omega) (by show Si.writes + 1 < _; have := HN.out.2.1; omega) HN.out.2.2 (by show 0 < Si.nb; rw [HN.out.1]; omega) (headB_len hs)).mono ?_
          rintro e w6 ⟨E, S6, rfl, hfx, t6⟩
          have t6' : To F pd w w6 S6 := To.trans (c4'.trans hcc (fun _ _ h => h.elim)) f4 (by
            obtain ⟨F6, d6, c6, f6⟩ := t6
            exact ⟨F6, d6, c6, f6⟩)
          exact ⟨E, rfl, (HK.out.lgTo t6').c0, S6, hfx, t6'⟩
        clear SY t4 t4' hl4 HD c0
        go_wp2_with fail
        go_region_held (fun w' => w'.cell? ⟨pl, 0, none⟩ = some (.pointer (some ⟨pd, 0, none⟩)))
          (first | assumption | exact c4 | exact q5 | exact q6)
          (first | (go_at_call 39; refine LH.out.mono ?_; clear LH; rintro e w5 ⟨ua, uc, rfl, q5, FX⟩) | (go_at_call 35; refine FX.out.mono ?_; clear FX; rintro e w6 ⟨E, rfl, q6, HS⟩))
        all_goals
          have HQ : Hid (Ran F pd S 64 (fun S' => Holds S' K (ovr f com) hs) (fun S' => Lasts S' K f) w (.returned (.int .i64 E)) w6) := by
            obtain ⟨S6, hfx, t6⟩ := HS.out
            refine ⟨E, S6, rfl, t6, ?_⟩
            rcases hfx with ⟨hE, hS6, hA⟩ | ⟨hE, hS6, hA⟩
            · have hh := HR.out.2.head (g := ovr f com) HC.out.1 HV.out.1 (fun j n hj => by
                obtain ⟨b, hb, hxb, _⟩ := HX.out j n hj
                rw [hxb, ovr_some hb]) (fun n hn hm => ovr_none (HV.out.2.2 n hn hm))
              rw [← hS6] at hh
              exact .inl ⟨hE, hh.1.mono (by omega), hh.2⟩
            · have hh := HR.out.2.headCut HC.out.1 hA Si.synced.picks
              rw [← hS6] at hh
              exact .inr ⟨hE, hh.1.mono (by omega), hh.2⟩
          clear HS HR c4 q5 q6
          go_wp2
          go_ret
          exact HQ.out
end
end Go.Proofs.Ytkkmdmnjlncgfaa

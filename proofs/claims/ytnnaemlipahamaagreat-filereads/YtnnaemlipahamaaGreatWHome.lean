/-
  The contract of bringHome of package wal.
-/
import Derived.Test.YtnnaemlipahamaaGreatWMem
namespace Go.Proofs.YtnnaemlipahamaaGreat
open Go.RowKit Go.Maps

section
variable {F G : Nat → Prop} {pd pl K : Nat} {S : St} {com : Nat → Option (List Int)} {pend : Nat} {ov : Value} {m : Nat} {V : Nat → Value}

theorem readOn {S : St} {n : Nat} (h0 : S.off = false) (hn : n < S.nb) : S.readE (n : Int) = 0 ∧ S.readV (n : Int) = S.last n := by
  have e : S.readE (n : Int) = 0 := by unfold St.readE; rw [if_neg (by simp [h0]), if_pos (by omega)]
  exact ⟨e, by unfold St.readV; rw [if_pos e, Int.toNat_natCast]⟩

set_option maxHeartbeats 3200000 in
set_option maxRecDepth 100000 in
theorem home_any (f : Nat → List Int) (hs : List Nat) (va : Option Addr) (vc : Nat) (w : World) (h : Lk w F G pd pl K S com pend ov m V) (hv : Is w (.slice va hs.length vc) (hs.map fun n : Nat => (n : Int))) (hvF : ∀ a, va = some a → ¬ F a.block) (hcl : Holds S K f hs) (hoff : S.off = false)
    (hx : S.writes + 1000 < 1099511627776) :
    Calls Tryz.prog 74 #[.pointer (some ⟨pl, 0, none⟩), .slice va hs.length vc] w fun e w' => Ran F pd S 64 (fun S' => Clean S' K f) (fun S' => Lasts S' K f) w e w' := by
  have hl := hcl.val.len
  have HC : Hid (Holds S K f hs ∧ S.off = false) := ⟨hcl, hoff⟩
  have HK : Hid (Lk w F G pd pl K S com pend ov m V) := h
  have HI : Hid (Is w (.slice va hs.length vc) (hs.map fun n : Nat => (n : Int))) := hv
  have HF : Hid (∀ a, va = some a → ¬ F a.block) := hvF
  have hwf := h.dk.wf
  have hnb := h.nb
  have hK := h.top
  clear h hv hvF hcl
  by_cases h0 : hs.length = 0
  · have hs0 : hs = [] := List.eq_nil_of_length_eq_zero h0
    have HQ : Hid (Ran F pd S 64 (fun S' => Clean S' K f) (fun S' => Lasts S' K f) w (.returned (.int .i64 0)) w) := by
      refine ⟨0, S, rfl, To.refl HK.out.dk, .inl ⟨rfl, (Onw.refl hwf hoff).mono (by omega), ?_⟩⟩
      subst hs0
      exact HC.out.1
    have k0 : ((hs.length : Nat) : Int) = 0 := by omega
    clear hwf hnb
    go_enter Tryz.func74, Tryz.ntmps74
    go_wp2
    go_ret
    exact HQ.out
  · have k0 : (((hs.length : Nat) : Int) == 0) = false := by rw [beq_eq_false_iff_ne]; omega
    have HT0 : Hid (To F pd w w S ∧ Hom S S K hs 0) := ⟨To.refl HK.out.dk, Hom.start hwf hoff HC.out.1.calm⟩
    clear hwf hoff
    go_enter Tryz.func74, Tryz.ntmps74
    go_wp2
    go_loopw [5, 6, 7, 8, 9, 16] (fun _ _ _ _ _ x wr => ∃ i Si, i ≤ hs.length ∧ x = .int .i64 (i : Int) ∧ Hid (To F pd w wr Si ∧ Hom S Si K hs i)) (fun _ _ _ _ _ x _ => hs.length - (intOf x).toNat)
    case atStart => exact ⟨0, S, Nat.zero_le _, rfl, HT0⟩
    case round =>
      obtain ⟨i, Si, hile, rfl, HR⟩ := hrel
      clear HT0
      have hlg := HK.out.lgTo HR.out.1
      have c0 := hlg.c0
      obtain ⟨Fi, di, ci, fi⟩ := HR.out.1
      have hon := HR.out.2.on
      have hoffi := hon.off
      have hwri := hon.wr
      have hnbi : Si.nb = K + 65 := hon.nb.trans hnb
      have HD : Hid (Dk wr Fi pd Si ∧ Chg F w wr ∧ ∀ b, Fi b → F b ∨ w.heap.size ≤ b) := ⟨di, ci, fi⟩
      have his : Is wr (.slice va hs.length vc) (hs.map fun n : Nat => (n : Int)) := HI.out.kept ci (fun g hg => by
        cases va with
        | none => cases hg
        | some a =>
          have e : g = a.block := by cases hg; rfl
          rw [e]; exact HF.out a rfl)
      by_cases hlt : i < hs.length
      · obtain ⟨n, hn⟩ : ∃ n, hs[i]? = some n := ⟨hs[i], List.getElem?_eq_getElem hlt⟩
        obtain ⟨bb, off, hva, hcs⟩ := his.nth (j := i) (by simpa using hlt)
        have hc := hcs i (by simpa using hlt)
        have hg : (hs.map fun n : Nat => (n : Int)).getD i 0 = (n : Int) := by simp [List.getD, hn]
        rw [hg] at hc
        have hnK : n < K := HC.out.1.val.lt n (List.mem_of_getElem? hn)
        have hki : (i : Int) < (hs.length : Int) := by omega
        obtain ⟨b, hb⟩ : ∃ b, S.syn (1 + i) = b := ⟨_, rfl⟩
        have hbl : b.length = 512 := by rw [← hb]; exact HC.out.1.wf.syn _ (by omega)
        have hrd := readOn (S := Si) (n := 1 + i) hoffi (by omega)
        rw [HR.out.2.read (by omega), hb] at hrd
        have RD : Hid (Calls Tryz.prog 105 #[.pointer (some ⟨pd, 0, none⟩), .int .i64 (1 + (i : Int))] wr fun e w' => ∃ u, e = .returned (.tuple #[u, .int .i64 0]) ∧ Fresh wr w' u b) := by
          have h1 := read_any Fi pd Si ((1 + i : Nat) : Int) wr di (by omega)
          rw [hrd.1, hrd.2] at h1
          have e1 : (1 : Int) + (i : Int) = ((1 + i : Nat) : Int) := by omega
          rw [e1]; exact h1
        have WC := St.write_cases (S := Si) (n := 65 + n) (b := b) hoffi (by omega) hbl
        have HN : Hid (hs[i]? = some n ∧ S.syn (1 + i) = b ∧ Si.nb = K + 65) := ⟨hn, hb, hnbi⟩
        subst hva
        clear his hcs hg hn hb hlg di ci fi hon hoffi hnbi hrd
        go_wp2_with fail
        refine RD.out.mono ?_
        rintro e w1 ⟨u, rfl, f1⟩
        obtain ⟨ua, uc, hu⟩ := cown_slice f1.own
        rw [hbl] at hu
        subst hu
        have cl1 : w1.cell? ⟨pl, 0, none⟩ = some (.pointer (some ⟨pd, 0, none⟩)) := f1.chg.cell c0 (fun h => h)
        have WR0 := write_any Fi pd Si ((65 + n : Nat) : Int) (.slice ua 512 uc) b w1 (HD.out.1.kept f1.chg (fun _ _ h => h)) f1.bs (fun g' hg' hf => by
          have h1 := f1.new _ hg'
          have h2 := HD.out.1.lt _ hf
          omega) (by omega)
        obtain ⟨E, hE⟩ : ∃ E, Si.writeE ((65 + n : Nat) : Int) b = E := ⟨_, rfl⟩
        obtain ⟨S2, hS2⟩ : ∃ S2, Si.write ((65 + n : Nat) : Int) b = S2 := ⟨_, rfl⟩
        rw [hE, hS2] at WR0 WC
        have WR : Hid (Calls Tryz.prog 55 #[.pointer (some ⟨pd, 0, none⟩), .int .i64 (65 + (n : Int)), .slice ua 512 uc] w1 fun e w' => e = .returned (.int .i64 E) ∧ Hid (To F pd w w' S2)) := by
          have e1 : (65 : Int) + (n : Int) = ((65 + n : Nat) : Int) := by omega
          rw [e1]
          refine WR0.mono ?_
          rintro e w' ⟨rfl, t⟩
          exact ⟨rfl, To.trans (HD.out.2.1.trans f1.chg (fun _ _ h => h.elim)) HD.out.2.2 t⟩
        clear RD WR0 hE hS2 f1 HD
        rcases WC with ⟨hE, hS2, hA⟩ | ⟨hE, hS2, hA⟩
        · have HC2 : Hid (Hom S S2 K hs (i + 1)) := by
            obtain ⟨n1, n2, n3⟩ := HN.out
            have := HR.out.2.push HC.out.1 n1
            rw [n2, ← hS2] at this
            exact this
          subst hE
          clear hS2 hA HR
          go_wp2_with fail
          refine WR.out.mono ?_
          rintro e w2 ⟨rfl, HT⟩
          clear WR cl1 c0 hc
          go_wp2
          go_roundw
          case rel => exact ⟨i + 1, S2, by omega, by go_num, HT.out, HC2.out⟩
          case measure => simp [intOf]; omega
        · have HC2 : Hid (Gone S S2 64 ∧ Lasts S2 K f) := by
            have hh := HR.out.2.cut HC.out.1 hA Si.picks
            rw [← hS2] at hh
            exact ⟨hh.1.mono (by omega), hh.2⟩
          subst hE
          clear hS2 hA HR
          go_wp2_with fail
          refine WR.out.mono ?_
          rintro e w2 ⟨rfl, HT⟩
          have HQ : Hid (Ran F pd S 64 (fun S' => Clean S' K f) (fun S' => Lasts S' K f) w (.returned (.int .i64 6)) w2) := ⟨6, S2, rfl, HT.out, .inr ⟨rfl, HC2.out.1, HC2.out.2⟩⟩
          clear WR cl1 c0 hc HT HC2
          go_wp2
          go_ret
          exact HQ.out
      · have hie : i = hs.length := by omega
        subst hie
        have hki : ¬ ((hs.length : Int) < (hs.length : Int)) := by omega
        have SY : Hid (Calls Tryz.prog 56 #[.pointer (some ⟨pd, 0, none⟩)] wr fun e w' => e = .returned (.int .i64 0) ∧ To Fi pd wr w' Si.synced) := by
          have h1 := sync_any Fi pd Si wr di (by omega)
          rw [show Si.sync = Si.synced by unfold St.sync; rw [if_neg (by simp [hoffi])], show Si.syncE = 0 by unfold St.syncE; rw [if_neg (by simp [hoffi])]] at h1
          exact h1
        have HN : Hid (Si.nb = K + 65 ∧ Si.writes ≤ S.writes + hs.length ∧ Si.off = false) := ⟨hnbi, hwri, hoffi⟩
        clear his hlg di ci fi hon hoffi hnbi hwri
        go_wp2_with fail
        refine SY.out.mono ?_
        rintro e w4 ⟨rfl, t4⟩
        have t4' := To.trans HD.out.2.1 HD.out.2.2 t4
        have hl4 := HK.out.lgTo t4'
        have c4 := hl4.c0
        have LH : Hid (Calls Tryz.prog 57 #[.slice none 0 0] w4.drew fun e w5 => ∃ ua uc, e = .returned (.slice ua 512 uc) ∧ w5.cell? ⟨pl, 0, none⟩ = some (.pointer (some ⟨pd, 0, none⟩)) ∧
            Hid (Calls Tryz.prog 53 #[.pointer (some ⟨pd, 0, none⟩), .int .i64 ((0 : Nat) : Int), .slice ua 512 uc] w5 fun e w6 => ∃ E, e = .returned (.int .i64 E) ∧ w6.cell? ⟨pl, 0, none⟩ = some (.pointer (some ⟨pd, 0, none⟩)) ∧ Hid (∃ S6, FixTo Si.synced 0 (headB []) E S6 ∧ To F pd w w6 S6))) := by
          obtain ⟨F4, d4, c4', f4⟩ := t4'
          refine (layHead_any (.slice none 0 0) [] w4.drew (.inl ⟨rfl, rfl⟩) (by simp)).mono ?_
          rintro e w5 ⟨u, rfl, ho5, hc5⟩
          obtain ⟨ua, uc, rfl⟩ := cown_slice ho5
          have hcc : Chg (fun _ => False) w4 w5 := (Chg.drew (fun _ => False) w4).trans hc5 (fun _ _ h => h)
          have hl5 := hl4.kept hcc (fun _ _ h => h)
          refine ⟨ua, uc, rfl, hl5.c0, ?_⟩
          have hb5 : Bs w5 (.slice ua 512 uc) (headB []) := Bs.ofOwns ho5
          refine (fix_any F4 pd Si.synced 0 _ (headB []) w5 (d4.kept hcc (fun _ _ h => h)) hb5 (fun g hg hf => by
              have h1 := (ho5.lt g hg).1
              have h2 := d4.lt g hf
              have h3 : w4.drew.heap.size = w4.heap.size := rfl
              omega) (by show Si.writes + 1 < _; have := HN.out.2.1; omega) HN.out.2.2 (by show 0 < Si.nb; rw [HN.out.1]; omega) (headB_len [])).mono ?_
          rintro e w6 ⟨E, S6, rfl, hfx, t6⟩
          have t6' : To F pd w w6 S6 := To.trans (c4'.trans hcc (fun _ _ h => h.elim)) f4 (by
            obtain ⟨F6, d6, c6, f6⟩ := t6
            exact ⟨F6, d6, c6, f6⟩)
          exact ⟨E, rfl, (HK.out.lgTo t6').c0, S6, hfx, t6'⟩
        clear SY t4 t4' hl4 HD c0
        go_wp2_with fail
        go_region_held (fun w' => w'.cell? ⟨pl, 0, none⟩ = some (.pointer (some ⟨pd, 0, none⟩)))
          (first | assumption | exact c4 | exact q5 | exact q6)
          (first | (go_at_call 57; refine LH.out.mono ?_; clear LH; rintro e w5 ⟨ua, uc, rfl, q5, FX⟩) | (go_at_call 53; refine FX.out.mono ?_; clear FX; rintro e w6 ⟨E, rfl, q6, HS⟩))
        all_goals
          have HQ : Hid (Ran F pd S 64 (fun S' => Clean S' K f) (fun S' => Lasts S' K f) w (.returned (.int .i64 E)) w6) := by
            obtain ⟨S6, hfx, t6⟩ := HS.out
            refine ⟨E, S6, rfl, t6, ?_⟩
            rcases hfx with ⟨hE, hS6, hA⟩ | ⟨hE, hS6, hA⟩
            · have hh := HR.out.2.head HC.out.1
              rw [← hS6] at hh
              exact .inl ⟨hE, hh.1.mono (by omega), hh.2⟩
            · have hh := HR.out.2.headCut HC.out.1 hA Si.synced.picks
              rw [← hS6] at hh
              exact .inr ⟨hE, hh.1.mono (by omega), hh.2⟩
          clear HS HR c4 q5 q6
          go_wp2
          go_ret
          exact HQ.out
end
end Go.Proofs.YtnnaemlipahamaaGreat

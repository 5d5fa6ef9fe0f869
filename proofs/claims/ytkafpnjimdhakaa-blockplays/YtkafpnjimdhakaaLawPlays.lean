/-
  BlockPlays answers true.
-/
import Derived.Test.YtkafpnjimdhakaaStepOps
namespace Go.Proofs.Ytkafpnjimdhakaa
open Go.RowKit Go.Maps
attribute [local go_sem ↓] Go.wp_at_zero Go.wp_at_succ

/-- What holds behind each operation may be said with less. -/
theorem wpAnyH_mono {P : Program} {md : Region.Mode} {ops : Array Oper} {Q : Exit → Act → World → Prop} {S S' : World → Prop} (hS : ∀ w, S' w → S w) : ∀ (fuel : Nat) (listed : Array Bool) (a : Act) (w : World), wpAnyH P md ops Q S' fuel listed a w → wpAnyH P md ops Q S fuel listed a w
  | 0, _, _, _, h => h
  | fuel + 1, _, _, _, h => ⟨h.1, fun i hi => wpOp_mono (fun a' w' h' => ⟨hS w' h'.1, wpAnyH_mono hS fuel _ a' w' h'.2⟩) (h.2 i hi)⟩

namespace St
theorem stp_writes (S : St) (d : ActD) : (S.stp d).writes ≤ S.writes + 1 := by
  unfold stp
  split
  · exact write_writes_le _ _ _
  · split
    · rw [sync_writes]; omega
    · split
      · exact Nat.le_succ _
      · split
        · rw [cut_writes]; omega
        · split
          · exact Nat.le_succ _
          · split
            · exact write_writes_le _ _ _
            · exact Nat.le_succ _
theorem stp_nb (S : St) (d : ActD) : (S.stp d).nb = S.nb := by
  unfold stp
  split
  · exact write_nb _ _ _
  · split
    · exact sync_nb _
    · split
      · rfl
      · split
        · exact cut_nb _ _
        · split
          · rfl
          · split
            · exact write_nb _ _ _
            · rfl
theorem cutP (S : St) (ps : List Int) : (S.cut ps).picks.length ≤ S.picks.length := by
  unfold cut; split
  · exact Nat.le_refl _
  · exact Nat.zero_le _
theorem writeP (S : St) (n : Int) (b : List Int) : (S.write n b).picks.length ≤ S.picks.length := by
  unfold write; split
  · exact Nat.le_refl _
  · split
    · exact Nat.le_refl _
    · split
      · exact cutP _ _
      · exact Nat.le_refl _
theorem stp_picks {S : St} {d : ActD} (hS : S.picks.length ≤ 100) (hd : d.ps.length ≤ 100) : (S.stp d).picks.length ≤ 100 := by
  unfold stp
  split
  · exact Nat.le_trans (writeP _ _ _) hS
  · split
    · have : S.sync.picks = S.picks := by unfold sync; split <;> rfl
      rw [this]; exact hS
    · split
      · exact hd
      · split
        · exact Nat.le_trans (cutP _ _) hS
        · split
          · exact Nat.zero_le _
          · split
            · exact Nat.le_trans (writeP _ _ _) hS
            · exact hS
end St

/-- All that is asked behind a step. -/
def AskC (_w : World) (q : Nat) (wa : Option Addr) (wc : Nat) (S : St) (w' : World) : Prop :=
  w'.cell? ⟨q, 1, none⟩ = some (.slice wa S.waiting wc) ∧ w'.cell? ⟨q, 2, none⟩ = some (.bool S.off) ∧ w'.cell? ⟨q, 5, none⟩ = some (.int .i64 (S.writes : Int))
theorem Rk.ask {w w' : World} {G : Nat → Prop} {q : Nat} {S : St} (h : Rk w' G q S) : ∃ wa wc, AskC w q wa wc S w' := by
  obtain ⟨R, lb, lc, wv, pv, s, h⟩ := h
  obtain ⟨wa, wc, rfl⟩ := h.wlen
  have c1 := h.c1
  have c2 := h.c2
  have c5 := h.c5
  rw [← waiting_len s.vers s.num] at c1
  rw [s.off] at c2
  rw [s.done] at c5
  exact ⟨wa, wc, c1, c2, c5⟩

/-- Step, Waiting, Off, Writes, Image and Image: all that the statement meets. -/
theorem plays_chain {w wr : World} {p q : Nat} {F G : Nat → Prop} {S : St} {b o : Nat} {d : ActD} (hd : Dk wr F p S) (hr : Rk wr G q S) (two : Two F G w wr) (ha : ActAt w b o d) (hl : d.bs.length ≤ 512 ∧ d.ps.length ≤ 100) (hx : S.writes + 1 < 1099511627776) {t : ByteArray} (ht : strOf (S.stp d).image = t) :
    Calls Try.prog 14 #[.pointer (some ⟨p, 0, none⟩), .pointer (some ⟨q, 0, none⟩), .agg #[.int .i64 d.op, .int .i64 d.n, d.bv, d.pv]] wr.drew fun e w1 => e = .returned (.bool true) ∧ ∃ wa wc,
      w1.cell? ⟨q, 1, none⟩ = some (.slice wa (S.stp d).waiting wc) ∧ w1.cell? ⟨q, 2, none⟩ = some (.bool (S.stp d).off) ∧ w1.cell? ⟨q, 5, none⟩ = some (.int .i64 ((S.stp d).writes : Int)) ∧
      Hid (Calls Try.prog 15 #[.pointer (some ⟨p, 0, none⟩)] w1 fun e w2 => e = .returned (.int .i64 ((S.stp d).waiting : Int)) ∧
        w2.cell? ⟨q, 1, none⟩ = some (.slice wa (S.stp d).waiting wc) ∧ w2.cell? ⟨q, 2, none⟩ = some (.bool (S.stp d).off) ∧ w2.cell? ⟨q, 5, none⟩ = some (.int .i64 ((S.stp d).writes : Int)) ∧
        Hid (Calls Try.prog 16 #[.pointer (some ⟨p, 0, none⟩)] w2 fun e w3 => e = .returned (.bool (S.stp d).off) ∧ w3 = w2) ∧
        Hid (Calls Try.prog 17 #[.pointer (some ⟨p, 0, none⟩)] w2 fun e w3 => e = .returned (.int .i64 ((S.stp d).writes : Int)) ∧ w3 = w2) ∧
        Hid (Calls Try.prog 18 #[.pointer (some ⟨p, 0, none⟩)] w2 fun e w3 => ∃ u, e = .returned u ∧ (convert 32 9 u).run Try.prog w3 = .ok (.string t) w3 ∧
          w3.cell? ⟨q, 1, none⟩ = some (.slice wa (S.stp d).waiting wc) ∧ w3.cell? ⟨q, 2, none⟩ = some (.bool (S.stp d).off) ∧ w3.cell? ⟨q, 5, none⟩ = some (.int .i64 ((S.stp d).writes : Int)) ∧
          Hid (Calls Try.prog 19 #[.pointer (some ⟨q, 0, none⟩)] w3 fun e w4 => e = .returned (.string t) ∧ (convert 32 9 u).run Try.prog w4 = .ok (.string t) w4 ∧
            w4.cell? ⟨q, 1, none⟩ = some (.slice wa (S.stp d).waiting wc) ∧ w4.cell? ⟨q, 2, none⟩ = some (.bool (S.stp d).off) ∧ w4.cell? ⟨q, 5, none⟩ = some (.int .i64 ((S.stp d).writes : Int)) ∧ Hid (Stepped w p q (S.stp d) w4)))) := by
  have cd := Chg.drew (fun _ => False) wr
  have hx' : (S.stp d).writes < 1099511627776 := by have := St.stp_writes S d; omega
  refine (step_any (hd.kept cd (fun _ _ h => h)) (hr.kept cd (fun _ _ h => h)) (two.more cd) ha hl (by omega)).mono ?_
  rintro e w1 ⟨rfl, F1, G1, d1, r1, two1⟩
  obtain ⟨wa, wc, a1, a2, a5⟩ := r1.ask (w := w)
  have keep : ∀ {w2}, Chg (fun _ => False) w1 w2 → w2.cell? ⟨q, 1, none⟩ = some (.slice wa (S.stp d).waiting wc) ∧ w2.cell? ⟨q, 2, none⟩ = some (.bool (S.stp d).off) ∧ w2.cell? ⟨q, 5, none⟩ = some (.int .i64 ((S.stp d).writes : Int)) := fun c => ⟨c.cell a1 (fun h => h), c.cell a2 (fun h => h), c.cell a5 (fun h => h)⟩
  refine ⟨rfl, wa, wc, a1, a2, a5, ?_⟩
  refine (waiting_any F1 p (S.stp d) w1 d1 hx').mono ?_
  rintro e w2 ⟨rfl, c2⟩
  obtain ⟨b1, b2, b5⟩ := keep c2
  have d2 := d1.kept c2 (fun _ _ h => h)
  refine ⟨rfl, b1, b2, b5, off_any F1 p (S.stp d) w2 d2, writes_any F1 p (S.stp d) w2 d2, ?_⟩
  refine (image_any F1 p (S.stp d) w2 d2 hx').mono ?_
  rintro e w3 ⟨u, uc, rfl, fr⟩
  have c3 := c2.trans fr.chg (fun _ _ h => h)
  obtain ⟨g1, g2, g5⟩ := keep c3
  refine ⟨_, rfl, by rw [← ht]; exact run_str fr.bs, g1, g2, g5, ?_⟩
  refine (rimage_any G1 q (S.stp d) w3 (r1.kept c3 (fun _ _ h => h)) hx').mono ?_
  rintro e w4 ⟨rfl, c4⟩
  have c5 := c3.trans c4 (fun _ _ h => h)
  obtain ⟨k1, k2, k5⟩ := keep c5
  exact ⟨by rw [ht], by rw [← ht]; exact run_str (fr.bs.kept c4 (fun _ _ _ _ _ h => h)), k1, k2, k5, F1, G1, d1.kept c5 (fun _ _ h => h), r1.kept c5 (fun _ _ h => h), two1.more c5⟩

set_option maxHeartbeats 1600000 in
set_option maxRecDepth 100000 in
theorem plays_out1 (n : Int) (lv : Value) (l : List ActD) (w : World) (hl : Acts w lv l) (hf : fewA l = false) :
    Calls Try.prog 3 #[.int .i64 n, lv] w fun e w' => e = .returned (.bool true) ∧ Chg (fun _ => False) w w' := by
  have HL : Hid (Acts w lv l) := hl
  clear hl
  go_enter Try.func3, Try.ntmps3
  go_wp2_with fail
  refine (known_any w).mono ?_
  rintro e w1 ⟨rfl, c1⟩
  go_wp2_with fail
  refine (few_any lv l w1 (HL.out.kept c1)).mono ?_
  rintro e w2 ⟨rfl, rfl⟩
  rw [hf]
  go_wp2
  go_ret
  exact ⟨rfl, c1⟩
set_option maxHeartbeats 1600000 in
set_option maxRecDepth 100000 in
theorem plays_out2 (n : Int) (lv : Value) (l : List ActD) (w : World) (hl : Acts w lv l) (hf : fewA l = true) (h40 : decide (40 < n) = true) (h16 : decide (n ≤ 16384) = true) :
    Calls Try.prog 3 #[.int .i64 n, lv] w fun e w' => e = .returned (.bool true) ∧ Chg (fun _ => False) w w' := by
  have HL : Hid (Acts w lv l) := hl
  clear hl
  go_enter Try.func3, Try.ntmps3
  go_wp2_with fail
  refine (known_any w).mono ?_
  rintro e w1 ⟨rfl, c1⟩
  go_wp2_with fail
  refine (few_any lv l w1 (HL.out.kept c1)).mono ?_
  rintro e w2 ⟨rfl, rfl⟩
  rw [hf]
  go_wp2
  go_ret
  exact ⟨rfl, c1⟩
set_option maxHeartbeats 1600000 in
set_option maxRecDepth 100000 in
theorem plays_out3 (n : Int) (lv : Value) (l : List ActD) (w : World) (hl : Acts w lv l) (hf : fewA l = true) (hn : n < 1 ∨ 16384 < n) :
    Calls Try.prog 3 #[.int .i64 n, lv] w fun e w' => e = .returned (.bool true) ∧ Chg (fun _ => False) w w' := by
  have HL : Hid (Acts w lv l) := hl
  have HN : Hid (n < 1 ∨ 16384 < n) := hn
  have q1 := eq25_nil
  have q2 := eq29_nil
  rcases hn with hn | hn
  · have h40 : decide (40 < n) = false := by simp; omega
    clear hl hn
    go_enter Try.func3, Try.ntmps3
    go_wp2_with fail
    refine (known_any w).mono ?_
    rintro e w1 ⟨rfl, c1⟩
    go_wp2_with fail
    refine (few_any lv l w1 (HL.out.kept c1)).mono ?_
    rintro e w2 ⟨rfl, rfl⟩
    rw [hf]
    go_wp2_with fail
    refine (new_bad n w2 HN.out).mono ?_
    rintro e w3 ⟨rfl, rfl⟩
    go_wp2_with fail
    refine (rnew_bad n w3 HN.out).mono ?_
    rintro e w4 ⟨rfl, rfl⟩
    go_wp2
    go_ret
    exact ⟨rfl, c1⟩
  · have h40 : decide (40 < n) = true := by simp; omega
    have h16 : decide (n ≤ 16384) = false := by simp; omega
    clear hl hn
    go_enter Try.func3, Try.ntmps3
    go_wp2_with fail
    refine (known_any w).mono ?_
    rintro e w1 ⟨rfl, c1⟩
    go_wp2_with fail
    refine (few_any lv l w1 (HL.out.kept c1)).mono ?_
    rintro e w2 ⟨rfl, rfl⟩
    rw [hf]
    go_wp2_with fail
    refine (new_bad n w2 HN.out).mono ?_
    rintro e w3 ⟨rfl, rfl⟩
    go_wp2_with fail
    refine (rnew_bad n w3 HN.out).mono ?_
    rintro e w4 ⟨rfl, rfl⟩
    go_wp2
    go_ret
    exact ⟨rfl, c1⟩

theorem few_lenP {l : List ActD} (h : fewA l = true) : l.length ≤ 150 ∧ ∀ i (hi : i < l.length), l[i].bs.length ≤ 512 ∧ l[i].ps.length ≤ 100 := by
  simp [fewA] at h
  refine ⟨h.1, fun i hi => ?_⟩
  have := h.2 l[i] (List.getElem_mem hi)
  simpa [ActD.few] using this

/-- What the loop keeps. -/
def PlayR (w : World) (nb q i p : Nat) (wr : World) : Prop := ∃ S : St, S.nb = nb ∧ S.writes ≤ i ∧ S.picks.length ≤ 100 ∧ Stepped w p q S wr
/-- A twin goes on. -/
theorem plays_twin {w wr : World} {nb q i p : Nat} (h : PlayR w nb q i p wr) (hi : i ≤ 150) :
    Calls Try.prog 12 #[.pointer (some ⟨p, 0, none⟩)] wr fun e w1 => ∃ p', e = .returned (.pointer (some ⟨p', 0, none⟩)) ∧ Hid (Calls Try.prog 13 #[.pointer (some ⟨p, 0, none⟩), .slice none 0 0] w1 fun e w2 => e = .returned (.tuple #[]) ∧ Hid (PlayR w nb q i p' w2)) := by
  obtain ⟨S, h1, h2, h3, F, G, d, r, two⟩ := h
  refine (twin_any F p S wr d (by omega) (by omega)).mono ?_
  rintro e w1 ⟨F', p', rfl, d', c1, hF'⟩
  refine ⟨p', rfl, ?_⟩
  refine (cut_arg F p S (.slice none 0 0) [] w1 (d.kept c1 (fun _ _ h => h)) (.inl ⟨rfl, rfl⟩) (fun hne => absurd rfl hne) (by omega)).mono ?_
  rintro e w2 ⟨rfl, F2, d2, c2, f2⟩
  refine ⟨rfl, S, h1, h2, h3, F', G, d'.kept c2 (fun b hb hf => by have := hF' b hb; have := d.lt b hf; omega), (r.kept c1 (fun _ _ h => h)).kept c2 (fun b hg hf => two.no b hf hg), ⟨(two.chg.trans c1 (fun _ _ h => h)).trans c2 (fun k hk hf => by have := two.f k hf; omega), fun b hb => Nat.le_trans two.chg.size (hF' b hb), two.g, fun b hb hg => by have := hF' b hb; have := r.lt b hg; omega⟩⟩

set_option maxHeartbeats 6400000 in
set_option maxRecDepth 100000 in
theorem plays_loop (nb : Nat) (lv : Value) (l : List ActD) (w : World) (hl : Acts w lv l) (hf : fewA l = true) (h1 : 1 ≤ nb) (h2 : nb ≤ 40) :
    Calls Try.prog 3 #[.int .i64 (nb : Int), lv] w fun e w' => e = .returned (.bool true) ∧ Chg (fun _ => False) w w' := by
  obtain ⟨hl1, hl2⟩ := few_lenP hf
  obtain ⟨la, lc, rfl⟩ := hl.form
  have HL : Hid (Acts w (.slice la l.length lc) l ∧ ∀ i (hi : i < l.length), l[i].bs.length ≤ 512 ∧ l[i].ps.length ≤ 100) := ⟨hl, hl2⟩
  have h40 : decide (40 < (nb : Int)) = false := by simp; omega
  clear hl hl2
  go_enter Try.func3, Try.ntmps3
  go_wp2_with fail
  refine (known_any w).mono ?_
  rintro e w1 ⟨rfl, c1⟩
  go_wp2_with fail
  refine (few_any _ l w1 (HL.out.1.kept c1)).mono ?_
  rintro e w2 ⟨rfl, rfl⟩
  rw [hf]
  clear hf
  go_wp2_with fail
  refine (new_ok nb w2 (by omega) (by omega)).mono ?_
  rintro e w3 ⟨F, p, rfl, h3, c3, hF⟩
  go_wp2_with fail
  refine (rnew_ok nb w3 (by omega) (by omega)).mono ?_
  rintro e w4 ⟨G, q, rfl, h4, c4, hG⟩
  have hq := eq25_some ⟨p, 0, none⟩
  have hq2 := eq29_some ⟨q, 0, none⟩
  have REL0 : PlayR w nb q 0 p w4 := ⟨St.new nb, rfl, Nat.le_refl _, Nat.zero_le _, F, G, h3.kept c4 (fun _ _ h => h), h4, ⟨(c1.trans c3 (fun _ _ h => h)).trans c4 (fun _ _ h => h), fun b hb => Nat.le_trans c1.size (hF b hb), fun b hb => Nat.le_trans (Nat.le_trans c1.size c3.size) (hG b hb), fun b hb hg => by have := h3.lt b hb; have := hG b hg; omega⟩⟩
  clear h3 c1 c3 c4 hF h4 hG h40
  go_wp2_with fail
  clear hq hq2
  go_loopw [5, 9, 10] (fun x y _ wr => ∃ (i p : Nat), i ≤ l.length ∧ x = .pointer (some ⟨p, 0, none⟩) ∧ y = .int .i64 (i : Int) ∧ PlayR w nb q i p wr) (fun _ y _ _ => l.length - (intOf y).toNat)
  case atStart => exact ⟨0, p, Nat.zero_le _, rfl, rfl, REL0⟩
  case round =>
    clear REL0
    obtain ⟨i, p2, hiL, rfl, rfl, hR⟩ := hrel
    by_cases hlt : i < l.length
    · obtain ⟨b, off, rfl, hat⟩ := HL.out.1.at hlt
      have hbl := HL.out.2 i hlt
      have hli : (i : Int) < (l.length : Int) := by omega
      obtain ⟨d, hd⟩ : ∃ d, l[i] = d := ⟨_, rfl⟩
      rw [hd] at hat hbl
      have cw : Chg (fun _ => False) w wr := by
        obtain ⟨_, _, _, _, _, _, _, _, two⟩ := hR
        exact two.chg
      have q0 := (hat.kept cw).op
      by_cases h7 : d.op = 7
      · have TW := plays_twin hR (by omega)
        have HT : Hid (Calls Try.prog 12 #[.pointer (some ⟨p2, 0, none⟩)] wr fun e w1 => ∃ p', e = .returned (.pointer (some ⟨p', 0, none⟩)) ∧ Hid (Calls Try.prog 13 #[.pointer (some ⟨p2, 0, none⟩), .slice none 0 0] w1 fun e w2 => e = .returned (.tuple #[]) ∧ Hid (PlayR w nb q i p' w2))) := TW
        rw [h7] at q0
        have HAT : Hid (ActAt w b (off + i * 4) d ∧ d.bs.length ≤ 512 ∧ d.ps.length ≤ 100) := ⟨hat, hbl⟩
        clear TW hR cw hat hbl HL
        go_wp2_with fail
        refine HT.out.mono ?_
        rintro e w5 ⟨p3, rfl, HU⟩
        clear HT q0
        have hq := eq25_some ⟨p3, 0, none⟩
        go_wp2_with fail
        refine HU.out.mono ?_
        rintro e w6 ⟨rfl, HV⟩
        have hat := HAT.out.1
        have hbl := HAT.out.2
        have hR6 := HV.out
        obtain ⟨S, e1, e2, e3, F6, G6, d6, r6, two6⟩ := hR6
        obtain ⟨t, ht⟩ : ∃ t, strOf (S.stp d).image = t := ⟨_, rfl⟩
        have CH := plays_chain d6 r6 two6 hat hbl (by omega) ht
        have a6 := hat.kept two6.chg
        have q0 := a6.op
        have q1 := a6.n
        have q2 := a6.bc
        have q3 := a6.pc
        have N1 : (S.stp d).nb = nb := by rw [St.stp_nb]; exact e1
        have N2 : (S.stp d).writes ≤ i + 1 := by have := St.stp_writes S d; omega
        have N3 : (S.stp d).picks.length ≤ 100 := St.stp_picks e3 hbl.2
        obtain ⟨S', hS'⟩ : ∃ S', S.stp d = S' := ⟨_, rfl⟩
        rw [hS'] at CH N1 N2 N3
        have HN : Hid (S'.nb = nb ∧ S'.writes ≤ i + 1 ∧ S'.picks.length ≤ 100) := ⟨N1, N2, N3⟩
        obtain ⟨W, hW⟩ : ∃ W, S'.waiting = W := ⟨_, rfl⟩
        obtain ⟨ofv, hof⟩ : ∃ x, S'.off = x := ⟨_, rfl⟩
        obtain ⟨wn, hwn⟩ : ∃ x, S'.writes = x := ⟨_, rfl⟩
        rw [hW, hof, hwn] at CH
        have HC : Hid (Calls Try.prog 14 #[.pointer (some ⟨p3, 0, none⟩), .pointer (some ⟨q, 0, none⟩), .agg #[.int .i64 d.op, .int .i64 d.n, d.bv, d.pv]] (w6).drew fun e w1 => e = .returned (.bool true) ∧ ∃ wa wc,
      w1.cell? ⟨q, 1, none⟩ = some (.slice wa W wc) ∧ w1.cell? ⟨q, 2, none⟩ = some (.bool ofv) ∧ w1.cell? ⟨q, 5, none⟩ = some (.int .i64 (wn : Int)) ∧
      Hid (Calls Try.prog 15 #[.pointer (some ⟨p3, 0, none⟩)] w1 fun e w2 => e = .returned (.int .i64 (W : Int)) ∧
        w2.cell? ⟨q, 1, none⟩ = some (.slice wa W wc) ∧ w2.cell? ⟨q, 2, none⟩ = some (.bool ofv) ∧ w2.cell? ⟨q, 5, none⟩ = some (.int .i64 (wn : Int)) ∧
        Hid (Calls Try.prog 16 #[.pointer (some ⟨p3, 0, none⟩)] w2 fun e w3 => e = .returned (.bool ofv) ∧ w3 = w2) ∧
        Hid (Calls Try.prog 17 #[.pointer (some ⟨p3, 0, none⟩)] w2 fun e w3 => e = .returned (.int .i64 (wn : Int)) ∧ w3 = w2) ∧
        Hid (Calls Try.prog 18 #[.pointer (some ⟨p3, 0, none⟩)] w2 fun e w3 => ∃ u, e = .returned u ∧ (convert 32 9 u).run Try.prog w3 = .ok (.string t) w3 ∧
          w3.cell? ⟨q, 1, none⟩ = some (.slice wa W wc) ∧ w3.cell? ⟨q, 2, none⟩ = some (.bool ofv) ∧ w3.cell? ⟨q, 5, none⟩ = some (.int .i64 (wn : Int)) ∧
          Hid (Calls Try.prog 19 #[.pointer (some ⟨q, 0, none⟩)] w3 fun e w4 => e = .returned (.string t) ∧ (convert 32 9 u).run Try.prog w4 = .ok (.string t) w4 ∧
            w4.cell? ⟨q, 1, none⟩ = some (.slice wa W wc) ∧ w4.cell? ⟨q, 2, none⟩ = some (.bool ofv) ∧ w4.cell? ⟨q, 5, none⟩ = some (.int .i64 (wn : Int)) ∧ Hid (Stepped w p3 q S' w4))))) := CH
        clear CH d6 r6 two6 hat hbl hd a6 ht hS' N1 N2 N3 hW hof hwn e1 e2 e3 HAT HU HV
        generalize d.n = dn at *
        generalize d.bv = dv at *
        generalize d.pv = dp at *
        generalize d.op = dop at *
        subst h7
        go_wp2_with fail
        clear hq
        refine wp_region_held_drew (S := fun _ => True) (by kernel_rfl) trivial (fun _ => ?_)
        refine wpAnyH_take (i := 0) (v := ?_) rfl (by kernel_rfl) (by kernel_rfl) (by kernel_rfl) (fun _ _ _ h => h) (Or.inl ⟨by rfl, ?_⟩) trivial ?_
        rotate_left
        · (intro w hSw; (try dsimp only at hSw); go_simp; try with_reducible rfl)
        simp only [List.getElem_toArray, List.getElem_cons_zero, Act.put, List.setIfInBounds_toArray, List.set_cons_zero, List.set_cons_succ]
        refine wpAnyH_take (i := 1) (v := ?_) rfl (by kernel_rfl) (by kernel_rfl) (by kernel_rfl) (fun _ _ _ h => h) (Or.inl ⟨by rfl, ?_⟩) trivial ?_
        rotate_left
        · (intro w hSw; (try dsimp only at hSw); go_simp; try with_reducible rfl)
        simp only [List.getElem_toArray, List.getElem_cons_succ, List.getElem_cons_zero, Act.put, List.setIfInBounds_toArray, List.set_cons_zero, List.set_cons_succ]
        refine wpAnyH_take (i := 2) (v := ?_) rfl (by kernel_rfl) (by kernel_rfl) (by kernel_rfl) (fun _ _ _ h => h) (Or.inl ⟨by rfl, ?_⟩) trivial ?_
        rotate_left
        · (intro w hSw; (try dsimp only at hSw); go_simp; try with_reducible rfl)
        simp only [List.getElem_toArray, List.getElem_cons_succ, List.getElem_cons_zero, Act.put, List.setIfInBounds_toArray, List.set_cons_zero, List.set_cons_succ]
        refine wpAnyH_take (i := 3) (v := ?_) rfl (by kernel_rfl) (by kernel_rfl) (by kernel_rfl) (fun _ _ _ h => h) (Or.inl ⟨by rfl, ?_⟩) trivial ?_
        rotate_left
        · (intro w hSw; (try dsimp only at hSw); go_simp; try with_reducible rfl)
        simp only [List.getElem_toArray, List.getElem_cons_succ, List.getElem_cons_zero, Act.put, List.setIfInBounds_toArray, List.set_cons_zero, List.set_cons_succ]
        refine wpAnyH_take (i := 4) (v := ?_) rfl (by kernel_rfl) (by kernel_rfl) (by kernel_rfl) (fun _ _ _ h => h) (Or.inl ⟨by rfl, ?_⟩) trivial ?_
        rotate_left
        · (intro w hSw; (try dsimp only at hSw); go_simp; try with_reducible rfl)
        simp only [List.getElem_toArray, List.getElem_cons_succ, List.getElem_cons_zero, Act.put, List.setIfInBounds_toArray, List.set_cons_zero, List.set_cons_succ]
        refine wpAnyH_ready (rs := [5]) (by kernel_rfl) (by simp) ?_
        refine AllReadyH.cons rfl (fun K hK => ?_) AllReadyH.nil
        go_simp
        refine hK.out _ _ trivial (fun hHeld => ?_)
        clear hK K
        refine wpAnyH_ready (rs := [6]) (by kernel_rfl) (by simp) ?_
        refine AllReadyH.cons rfl (fun K hK => ?_) AllReadyH.nil
        go_simp
        go_wp2_with (go_at_call 14; refine HC.out.mono ?_; clear HC; rintro e w7 ⟨rfl, wa, wc, x1, x2, x5, HD⟩)
        refine hK.out _ _ trivial (fun hHeld => ?_)
        clear hK K
        clear hHeld
        refine wpAnyH_mono (S' := (fun w' => w'.cell? ⟨q, 1, none⟩ = some (.slice wa W wc) ∧ w'.cell? ⟨q, 2, none⟩ = some (.bool ofv) ∧ w'.cell? ⟨q, 5, none⟩ = some (.int .i64 (wn : Int)))) (fun _ _ => trivial) _ _ _ _ ?_
        have hHeld : (fun w' => w'.cell? ⟨q, 1, none⟩ = some (.slice wa W wc) ∧ w'.cell? ⟨q, 2, none⟩ = some (.bool ofv) ∧ w'.cell? ⟨q, 5, none⟩ = some (.int .i64 (wn : Int))) w7 := ⟨x1, x2, x5⟩
        refine wpAnyH_take (i := 7) (v := ?_) rfl (by kernel_rfl) (by kernel_rfl) (by kernel_rfl) (fun _ _ _ h => h) (Or.inl ⟨by rfl, ?_⟩) hHeld ?_
        rotate_left
        · (intro w hSw; (try dsimp only at hSw); go_simp; try with_reducible rfl)
        simp only [List.getElem_toArray, List.getElem_cons_succ, List.getElem_cons_zero, Act.put, List.setIfInBounds_toArray, List.set_cons_zero, List.set_cons_succ]
        refine wpAnyH_take (i := 8) (v := ?_) rfl (by kernel_rfl) (by kernel_rfl) (by kernel_rfl) (fun _ _ _ h => h) (Or.inl ⟨by rfl, ?_⟩) hHeld ?_
        rotate_left
        · (intro w hSw; (try dsimp only at hSw); go_simp; try with_reducible rfl)
        simp only [List.getElem_toArray, List.getElem_cons_succ, List.getElem_cons_zero, Act.put, List.setIfInBounds_toArray, List.set_cons_zero, List.set_cons_succ]
        refine wpAnyH_take (i := 9) (v := ?_) rfl (by kernel_rfl) (by kernel_rfl) (by kernel_rfl) (fun _ _ _ h => h) (Or.inl ⟨by rfl, ?_⟩) hHeld ?_
        rotate_left
        · (intro w hSw; (try dsimp only at hSw); go_simp; try with_reducible rfl)
        simp only [List.getElem_toArray, List.getElem_cons_succ, List.getElem_cons_zero, Act.put, List.setIfInBounds_toArray, List.set_cons_zero, List.set_cons_succ]
        refine wpAnyH_take (i := 11) (v := ?_) rfl (by kernel_rfl) (by kernel_rfl) (by kernel_rfl) (fun _ _ _ h => h) (Or.inl ⟨by rfl, ?_⟩) hHeld ?_
        rotate_left
        · (intro w hSw; (try dsimp only at hSw); go_simp; try with_reducible rfl)
        simp only [List.getElem_toArray, List.getElem_cons_succ, List.getElem_cons_zero, Act.put, List.setIfInBounds_toArray, List.set_cons_zero, List.set_cons_succ]
        refine wpAnyH_take (i := 12) (v := ?_) rfl (by kernel_rfl) (by kernel_rfl) (by kernel_rfl) (fun _ _ _ h => h) (Or.inl ⟨by rfl, ?_⟩) hHeld ?_
        rotate_left
        · (intro w hSw; (try dsimp only at hSw); go_simp; try with_reducible rfl)
        simp only [List.getElem_toArray, List.getElem_cons_succ, List.getElem_cons_zero, Act.put, List.setIfInBounds_toArray, List.set_cons_zero, List.set_cons_succ]
        refine wpAnyH_take (i := 13) (v := ?_) rfl (by kernel_rfl) (by kernel_rfl) (by kernel_rfl) (fun _ _ _ h => h) (Or.inl ⟨by rfl, ?_⟩) hHeld ?_
        rotate_left
        · (intro w hSw; (try dsimp only at hSw); go_simp; try with_reducible rfl)
        simp only [List.getElem_toArray, List.getElem_cons_succ, List.getElem_cons_zero, Act.put, List.setIfInBounds_toArray, List.set_cons_zero, List.set_cons_succ]
        refine wpAnyH_take (i := 14) (v := ?_) rfl (by kernel_rfl) (by kernel_rfl) (by kernel_rfl) (fun _ _ _ h => h) (Or.inl ⟨by rfl, ?_⟩) hHeld ?_
        rotate_left
        · (intro w hSw; (try dsimp only at hSw); go_simp; try with_reducible rfl)
        simp only [List.getElem_toArray, List.getElem_cons_succ, List.getElem_cons_zero, Act.put, List.setIfInBounds_toArray, List.set_cons_zero, List.set_cons_succ]
        refine wpAnyH_take (i := 15) (v := ?_) rfl (by kernel_rfl) (by kernel_rfl) (by kernel_rfl) (fun _ _ _ h => h) (Or.inl ⟨by rfl, ?_⟩) hHeld ?_
        rotate_left
        · (intro w hSw; (try dsimp only at hSw); go_simp; try with_reducible rfl)
        simp only [List.getElem_toArray, List.getElem_cons_succ, List.getElem_cons_zero, Act.put, List.setIfInBounds_toArray, List.set_cons_zero, List.set_cons_succ]
        refine wpAnyH_ready (rs := [10]) (by kernel_rfl) (by simp) ?_
        refine AllReadyH.cons rfl (fun K hK => ?_) AllReadyH.nil
        go_simp
        go_wp2_with (go_at_call 15; refine HD.out.mono ?_; clear HD; rintro e w8 ⟨rfl, y1, y2, y5, H16, H17, H18⟩)
        refine hK.out _ _ ⟨y1, y2, y5⟩ (fun hHeld => ?_)
        clear hK K
        clear x1 x2 x5
        refine wpAnyH_take (i := 16) (v := ?_) rfl (by kernel_rfl) (by kernel_rfl) (by kernel_rfl) (fun _ _ _ h => h) (Or.inl ⟨by rfl, ?_⟩) hHeld ?_
        rotate_left
        · (intro w hSw; (try dsimp only at hSw); go_simp; try with_reducible rfl)
        simp only [List.getElem_toArray, List.getElem_cons_succ, List.getElem_cons_zero, Act.put, List.setIfInBounds_toArray, List.set_cons_zero, List.set_cons_succ]
        refine wpAnyH_take (i := 17) (v := ?_) rfl (by kernel_rfl) (by kernel_rfl) (by kernel_rfl) (fun _ _ _ h => h) (Or.inl ⟨by rfl, ?_⟩) hHeld ?_
        rotate_left
        · (intro w hSw; (try dsimp only at hSw); go_simp; try with_reducible rfl)
        simp only [List.getElem_toArray, List.getElem_cons_succ, List.getElem_cons_zero, Act.put, List.setIfInBounds_toArray, List.set_cons_zero, List.set_cons_succ]
        refine wpAnyH_take (i := 18) (v := ?_) rfl (by kernel_rfl) (by kernel_rfl) (by kernel_rfl) (fun _ _ _ h => h) (Or.inl ⟨by rfl, ?_⟩) hHeld ?_
        rotate_left
        · (intro w hSw; (try dsimp only at hSw); go_simp; try with_reducible rfl)
        simp only [List.getElem_toArray, List.getElem_cons_succ, List.getElem_cons_zero, Act.put, List.setIfInBounds_toArray, List.set_cons_zero, List.set_cons_succ]
        refine wpAnyH_take (i := 19) (v := ?_) rfl (by kernel_rfl) (by kernel_rfl) (by kernel_rfl) (fun _ _ _ h => h) (Or.inl ⟨by rfl, ?_⟩) hHeld ?_
        rotate_left
        · (intro w hSw; (try dsimp only at hSw); go_simp; try with_reducible rfl)
        simp only [List.getElem_toArray, List.getElem_cons_succ, List.getElem_cons_zero, Act.put, List.setIfInBounds_toArray, List.set_cons_zero, List.set_cons_succ]
        refine wpAnyH_take (i := 21) (v := ?_) rfl (by kernel_rfl) (by kernel_rfl) (by kernel_rfl) (fun _ _ _ h => h) (Or.inl ⟨by rfl, ?_⟩) hHeld ?_
        rotate_left
        · (intro w hSw; (try dsimp only at hSw); go_simp; try with_reducible rfl)
        simp only [List.getElem_toArray, List.getElem_cons_succ, List.getElem_cons_zero, Act.put, List.setIfInBounds_toArray, List.set_cons_zero, List.set_cons_succ]
        refine wpAnyH_take (i := 22) (v := ?_) rfl (by kernel_rfl) (by kernel_rfl) (by kernel_rfl) (fun _ _ _ h => h) (Or.inl ⟨by rfl, ?_⟩) hHeld ?_
        rotate_left
        · (intro w hSw; (try dsimp only at hSw); go_simp; try with_reducible rfl)
        simp only [List.getElem_toArray, List.getElem_cons_succ, List.getElem_cons_zero, Act.put, List.setIfInBounds_toArray, List.set_cons_zero, List.set_cons_succ]
        refine wpAnyH_take (i := 23) (v := ?_) rfl (by kernel_rfl) (by kernel_rfl) (by kernel_rfl) (fun _ _ _ h => h) (Or.inl ⟨by rfl, ?_⟩) hHeld ?_
        rotate_left
        · (intro w hSw; (try dsimp only at hSw); go_simp; try with_reducible rfl)
        simp only [List.getElem_toArray, List.getElem_cons_succ, List.getElem_cons_zero, Act.put, List.setIfInBounds_toArray, List.set_cons_zero, List.set_cons_succ]
        refine wpAnyH_take (i := 24) (v := ?_) rfl (by kernel_rfl) (by kernel_rfl) (by kernel_rfl) (fun _ _ _ h => h) (Or.inl ⟨by rfl, ?_⟩) hHeld ?_
        rotate_left
        · (intro w hSw; (try dsimp only at hSw); go_simp; try with_reducible rfl)
        simp only [List.getElem_toArray, List.getElem_cons_succ, List.getElem_cons_zero, Act.put, List.setIfInBounds_toArray, List.set_cons_zero, List.set_cons_succ]
        refine wpAnyH_ready (rs := [20]) (by kernel_rfl) (by simp) ?_
        refine AllReadyH.cons rfl (fun K hK => ?_) AllReadyH.nil
        go_simp
        go_wp2_with (go_at_call 16; refine H16.out.mono ?_; clear H16; rintro e w9 ⟨rfl, rfl⟩)
        refine hK.out _ _ ⟨y1, y2, y5⟩ (fun hHeld => ?_)
        clear hK K
        refine wpAnyH_take (i := 25) (v := ?_) rfl (by kernel_rfl) (by kernel_rfl) (by kernel_rfl) (fun _ _ _ h => h) (Or.inl ⟨by rfl, ?_⟩) hHeld ?_
        rotate_left
        · (intro w hSw; (try dsimp only at hSw); go_simp; try with_reducible rfl)
        simp only [List.getElem_toArray, List.getElem_cons_succ, List.getElem_cons_zero, Act.put, List.setIfInBounds_toArray, List.set_cons_zero, List.set_cons_succ]
        refine wpAnyH_take (i := 26) (v := ?_) rfl (by kernel_rfl) (by kernel_rfl) (by kernel_rfl) (fun _ _ _ h => h) (Or.inl ⟨by rfl, ?_⟩) hHeld ?_
        rotate_left
        · (intro w hSw; (try dsimp only at hSw); go_simp; try with_reducible rfl)
        simp only [List.getElem_toArray, List.getElem_cons_succ, List.getElem_cons_zero, Act.put, List.setIfInBounds_toArray, List.set_cons_zero, List.set_cons_succ]
        refine wpAnyH_take (i := 27) (v := ?_) rfl (by kernel_rfl) (by kernel_rfl) (by kernel_rfl) (fun _ _ _ h => h) (Or.inl ⟨by rfl, ?_⟩) hHeld ?_
        rotate_left
        · (intro w hSw; (try dsimp only at hSw); go_simp; try with_reducible rfl)
        simp only [List.getElem_toArray, List.getElem_cons_succ, List.getElem_cons_zero, Act.put, List.setIfInBounds_toArray, List.set_cons_zero, List.set_cons_succ]
        refine wpAnyH_take (i := 28) (v := ?_) rfl (by kernel_rfl) (by kernel_rfl) (by kernel_rfl) (fun _ _ _ h => h) (Or.inl ⟨by rfl, ?_⟩) hHeld ?_
        rotate_left
        · (intro w hSw; (try dsimp only at hSw); go_simp; try with_reducible rfl)
        simp only [List.getElem_toArray, List.getElem_cons_succ, List.getElem_cons_zero, Act.put, List.setIfInBounds_toArray, List.set_cons_zero, List.set_cons_succ]
        refine wpAnyH_take (i := 30) (v := ?_) rfl (by kernel_rfl) (by kernel_rfl) (by kernel_rfl) (fun _ _ _ h => h) (Or.inl ⟨by rfl, ?_⟩) hHeld ?_
        rotate_left
        · (intro w hSw; (try dsimp only at hSw); go_simp; try with_reducible rfl)
        simp only [List.getElem_toArray, List.getElem_cons_succ, List.getElem_cons_zero, Act.put, List.setIfInBounds_toArray, List.set_cons_zero, List.set_cons_succ]
        refine wpAnyH_take (i := 31) (v := ?_) rfl (by kernel_rfl) (by kernel_rfl) (by kernel_rfl) (fun _ _ _ h => h) (Or.inl ⟨by rfl, ?_⟩) hHeld ?_
        rotate_left
        · (intro w hSw; (try dsimp only at hSw); go_simp; try with_reducible rfl)
        simp only [List.getElem_toArray, List.getElem_cons_succ, List.getElem_cons_zero, Act.put, List.setIfInBounds_toArray, List.set_cons_zero, List.set_cons_succ]
        refine wpAnyH_take (i := 32) (v := ?_) rfl (by kernel_rfl) (by kernel_rfl) (by kernel_rfl) (fun _ _ _ h => h) (Or.inl ⟨by rfl, ?_⟩) hHeld ?_
        rotate_left
        · (intro w hSw; (try dsimp only at hSw); go_simp; try with_reducible rfl)
        simp only [List.getElem_toArray, List.getElem_cons_succ, List.getElem_cons_zero, Act.put, List.setIfInBounds_toArray, List.set_cons_zero, List.set_cons_succ]
        refine wpAnyH_take (i := 33) (v := ?_) rfl (by kernel_rfl) (by kernel_rfl) (by kernel_rfl) (fun _ _ _ h => h) (Or.inl ⟨by rfl, ?_⟩) hHeld ?_
        rotate_left
        · (intro w hSw; (try dsimp only at hSw); go_simp; try with_reducible rfl)
        simp only [List.getElem_toArray, List.getElem_cons_succ, List.getElem_cons_zero, Act.put, List.setIfInBounds_toArray, List.set_cons_zero, List.set_cons_succ]
        refine wpAnyH_ready (rs := [29]) (by kernel_rfl) (by simp) ?_
        refine AllReadyH.cons rfl (fun K hK => ?_) AllReadyH.nil
        go_simp
        go_wp2_with (go_at_call 17; refine H17.out.mono ?_; clear H17; rintro e w9 ⟨rfl, rfl⟩)
        refine hK.out _ _ ⟨y1, y2, y5⟩ (fun hHeld => ?_)
        clear hK K
        refine wpAnyH_take (i := 34) (v := ?_) rfl (by kernel_rfl) (by kernel_rfl) (by kernel_rfl) (fun _ _ _ h => h) (Or.inl ⟨by rfl, ?_⟩) hHeld ?_
        rotate_left
        · (intro w hSw; (try dsimp only at hSw); go_simp; try with_reducible rfl)
        simp only [List.getElem_toArray, List.getElem_cons_succ, List.getElem_cons_zero, Act.put, List.setIfInBounds_toArray, List.set_cons_zero, List.set_cons_succ]
        refine wpAnyH_take (i := 35) (v := ?_) rfl (by kernel_rfl) (by kernel_rfl) (by kernel_rfl) (fun _ _ _ h => h) (Or.inl ⟨by rfl, ?_⟩) hHeld ?_
        rotate_left
        · (intro w hSw; (try dsimp only at hSw); go_simp; try with_reducible rfl)
        simp only [List.getElem_toArray, List.getElem_cons_succ, List.getElem_cons_zero, Act.put, List.setIfInBounds_toArray, List.set_cons_zero, List.set_cons_succ]
        refine wpAnyH_take (i := 36) (v := ?_) rfl (by kernel_rfl) (by kernel_rfl) (by kernel_rfl) (fun _ _ _ h => h) (Or.inl ⟨by rfl, ?_⟩) hHeld ?_
        rotate_left
        · (intro w hSw; (try dsimp only at hSw); go_simp; try with_reducible rfl)
        simp only [List.getElem_toArray, List.getElem_cons_succ, List.getElem_cons_zero, Act.put, List.setIfInBounds_toArray, List.set_cons_zero, List.set_cons_succ]
        refine wpAnyH_take (i := 37) (v := ?_) rfl (by kernel_rfl) (by kernel_rfl) (by kernel_rfl) (fun _ _ _ h => h) (Or.inl ⟨by rfl, ?_⟩) hHeld ?_
        rotate_left
        · (intro w hSw; (try dsimp only at hSw); go_simp; try with_reducible rfl)
        simp only [List.getElem_toArray, List.getElem_cons_succ, List.getElem_cons_zero, Act.put, List.setIfInBounds_toArray, List.set_cons_zero, List.set_cons_succ]
        refine wpAnyH_take (i := 40) (v := ?_) rfl (by kernel_rfl) (by kernel_rfl) (by kernel_rfl) (fun _ _ _ h => h) (Or.inl ⟨by rfl, ?_⟩) hHeld ?_
        rotate_left
        · (intro w hSw; (try dsimp only at hSw); go_simp; try with_reducible rfl)
        simp only [List.getElem_toArray, List.getElem_cons_succ, List.getElem_cons_zero, Act.put, List.setIfInBounds_toArray, List.set_cons_zero, List.set_cons_succ]
        refine wpAnyH_ready (rs := [38]) (by kernel_rfl) (by simp) ?_
        refine AllReadyH.cons rfl (fun K hK => ?_) AllReadyH.nil
        go_simp
        go_wp2_with (go_at_call 18; refine H18.out.mono ?_; clear H18; rintro e w9 ⟨u9, rfl, s9, z1, z2, z5, H19⟩)
        refine hK.out _ _ ⟨z1, z2, z5⟩ (fun hHeld => ?_)
        clear hK K
        clear y1 y2 y5
        refine wpAnyH_ready (rs := [39, 41]) (by kernel_rfl) (by simp) ?_
        refine AllReadyH.cons rfl (fun K hK => ?_) (AllReadyH.cons rfl (fun K hK => ?_) AllReadyH.nil)
        · go_simp
          refine hK.out _ _ ⟨z1, z2, z5⟩ (fun hHeld => ?_)
          clear hK K
          refine wpAnyH_ready (rs := [41]) (by kernel_rfl) (by simp) ?_
          refine AllReadyH.cons rfl (fun K hK => ?_) AllReadyH.nil
          go_simp
          go_wp2_with (go_at_call 19; refine H19.out.mono ?_; clear H19; rintro e w10 ⟨rfl, s10, v1, v2, v5, HE⟩)
          refine hK.out _ _ ⟨v1, v2, v5⟩ (fun hHeld => ?_)
          clear hK K
          refine wpAnyH_take (i := 42) (v := ?_) rfl (by kernel_rfl) (by kernel_rfl) (by kernel_rfl) (fun _ _ _ h => h) (Or.inl ⟨by rfl, ?_⟩) hHeld ?_
          rotate_left
          · (intro w hSw; (try dsimp only at hSw); go_simp; try with_reducible rfl)
          simp only [List.getElem_toArray, List.getElem_cons_succ, List.getElem_cons_zero, Act.put, List.setIfInBounds_toArray, List.set_cons_zero, List.set_cons_succ]
          refine wpAnyH_take (i := 43) (v := ?_) rfl (by kernel_rfl) (by kernel_rfl) (by kernel_rfl) (fun _ _ _ h => h) (Or.inl ⟨by rfl, ?_⟩) hHeld ?_
          rotate_left
          · (intro w hSw; (try dsimp only at hSw); go_simp; try with_reducible rfl)
          simp only [List.getElem_toArray, List.getElem_cons_succ, List.getElem_cons_zero, Act.put, List.setIfInBounds_toArray, List.set_cons_zero, List.set_cons_succ]
          refine wpAnyH_done (by kernel_rfl) ?_ _
          go_wp2
          go_roundw
          case rel => exact ⟨i + 1, p3, by omega, rfl, by go_num, S', HN.out.1, HN.out.2.1, HN.out.2.2, HE.out⟩
          case measure => simp [intOf]; omega
        · go_simp
          go_wp2_with (go_at_call 19; refine H19.out.mono ?_; clear H19; rintro e w10 ⟨rfl, s10, v1, v2, v5, HE⟩)
          refine hK.out _ _ ⟨v1, v2, v5⟩ (fun hHeld => ?_)
          clear hK K
          refine wpAnyH_ready (rs := [39]) (by kernel_rfl) (by simp) ?_
          refine AllReadyH.cons rfl (fun K hK => ?_) AllReadyH.nil
          go_simp
          refine hK.out _ _ ⟨v1, v2, v5⟩ (fun hHeld => ?_)
          clear hK K
          refine wpAnyH_take (i := 42) (v := ?_) rfl (by kernel_rfl) (by kernel_rfl) (by kernel_rfl) (fun _ _ _ h => h) (Or.inl ⟨by rfl, ?_⟩) hHeld ?_
          rotate_left
          · (intro w hSw; (try dsimp only at hSw); go_simp; try with_reducible rfl)
          simp only [List.getElem_toArray, List.getElem_cons_succ, List.getElem_cons_zero, Act.put, List.setIfInBounds_toArray, List.set_cons_zero, List.set_cons_succ]
          refine wpAnyH_take (i := 43) (v := ?_) rfl (by kernel_rfl) (by kernel_rfl) (by kernel_rfl) (fun _ _ _ h => h) (Or.inl ⟨by rfl, ?_⟩) hHeld ?_
          rotate_left
          · (intro w hSw; (try dsimp only at hSw); go_simp; try with_reducible rfl)
          simp only [List.getElem_toArray, List.getElem_cons_succ, List.getElem_cons_zero, Act.put, List.setIfInBounds_toArray, List.set_cons_zero, List.set_cons_succ]
          refine wpAnyH_done (by kernel_rfl) ?_ _
          go_wp2
          go_roundw
          case rel => exact ⟨i + 1, p3, by omega, rfl, by go_num, S', HN.out.1, HN.out.2.1, HN.out.2.2, HE.out⟩
          case measure => simp [intOf]; omega
      · clear q0
        obtain ⟨S, e1, e2, e3, F6, G6, d6, r6, two6⟩ := hR
        obtain ⟨t, ht⟩ : ∃ t, strOf (S.stp d).image = t := ⟨_, rfl⟩
        have CH := plays_chain d6 r6 two6 hat hbl (by omega) ht
        have a6 := hat.kept two6.chg
        have q0 := a6.op
        have q1 := a6.n
        have q2 := a6.bc
        have q3 := a6.pc
        have N1 : (S.stp d).nb = nb := by rw [St.stp_nb]; exact e1
        have N2 : (S.stp d).writes ≤ i + 1 := by have := St.stp_writes S d; omega
        have N3 : (S.stp d).picks.length ≤ 100 := St.stp_picks e3 hbl.2
        obtain ⟨S', hS'⟩ : ∃ S', S.stp d = S' := ⟨_, rfl⟩
        rw [hS'] at CH N1 N2 N3
        have HN : Hid (S'.nb = nb ∧ S'.writes ≤ i + 1 ∧ S'.picks.length ≤ 100) := ⟨N1, N2, N3⟩
        obtain ⟨W, hW⟩ : ∃ W, S'.waiting = W := ⟨_, rfl⟩
        obtain ⟨ofv, hof⟩ : ∃ x, S'.off = x := ⟨_, rfl⟩
        obtain ⟨wn, hwn⟩ : ∃ x, S'.writes = x := ⟨_, rfl⟩
        rw [hW, hof, hwn] at CH
        have HC : Hid (Calls Try.prog 14 #[.pointer (some ⟨p2, 0, none⟩), .pointer (some ⟨q, 0, none⟩), .agg #[.int .i64 d.op, .int .i64 d.n, d.bv, d.pv]] (wr).drew fun e w1 => e = .returned (.bool true) ∧ ∃ wa wc,
      w1.cell? ⟨q, 1, none⟩ = some (.slice wa W wc) ∧ w1.cell? ⟨q, 2, none⟩ = some (.bool ofv) ∧ w1.cell? ⟨q, 5, none⟩ = some (.int .i64 (wn : Int)) ∧
      Hid (Calls Try.prog 15 #[.pointer (some ⟨p2, 0, none⟩)] w1 fun e w2 => e = .returned (.int .i64 (W : Int)) ∧
        w2.cell? ⟨q, 1, none⟩ = some (.slice wa W wc) ∧ w2.cell? ⟨q, 2, none⟩ = some (.bool ofv) ∧ w2.cell? ⟨q, 5, none⟩ = some (.int .i64 (wn : Int)) ∧
        Hid (Calls Try.prog 16 #[.pointer (some ⟨p2, 0, none⟩)] w2 fun e w3 => e = .returned (.bool ofv) ∧ w3 = w2) ∧
        Hid (Calls Try.prog 17 #[.pointer (some ⟨p2, 0, none⟩)] w2 fun e w3 => e = .returned (.int .i64 (wn : Int)) ∧ w3 = w2) ∧
        Hid (Calls Try.prog 18 #[.pointer (some ⟨p2, 0, none⟩)] w2 fun e w3 => ∃ u, e = .returned u ∧ (convert 32 9 u).run Try.prog w3 = .ok (.string t) w3 ∧
          w3.cell? ⟨q, 1, none⟩ = some (.slice wa W wc) ∧ w3.cell? ⟨q, 2, none⟩ = some (.bool ofv) ∧ w3.cell? ⟨q, 5, none⟩ = some (.int .i64 (wn : Int)) ∧
          Hid (Calls Try.prog 19 #[.pointer (some ⟨q, 0, none⟩)] w3 fun e w4 => e = .returned (.string t) ∧ (convert 32 9 u).run Try.prog w4 = .ok (.string t) w4 ∧
            w4.cell? ⟨q, 1, none⟩ = some (.slice wa W wc) ∧ w4.cell? ⟨q, 2, none⟩ = some (.bool ofv) ∧ w4.cell? ⟨q, 5, none⟩ = some (.int .i64 (wn : Int)) ∧ Hid (Stepped w p2 q S' w4))))) := CH
        clear CH d6 r6 two6 hat hbl hd a6 ht hS' N1 N2 N3 hW hof hwn e1 e2 e3 HL cw
        generalize d.n = dn at *
        generalize d.bv = dv at *
        generalize d.pv = dp at *
        generalize d.op = dop at *
        go_wp2_with fail
        refine wp_region_held_drew (S := fun _ => True) (by kernel_rfl) trivial (fun _ => ?_)
        refine wpAnyH_take (i := 0) (v := ?_) rfl (by kernel_rfl) (by kernel_rfl) (by kernel_rfl) (fun _ _ _ h => h) (Or.inl ⟨by rfl, ?_⟩) trivial ?_
        rotate_left
        · (intro w hSw; (try dsimp only at hSw); go_simp; try with_reducible rfl)
        simp only [List.getElem_toArray, List.getElem_cons_zero, Act.put, List.setIfInBounds_toArray, List.set_cons_zero, List.set_cons_succ]
        refine wpAnyH_take (i := 1) (v := ?_) rfl (by kernel_rfl) (by kernel_rfl) (by kernel_rfl) (fun _ _ _ h => h) (Or.inl ⟨by rfl, ?_⟩) trivial ?_
        rotate_left
        · (intro w hSw; (try dsimp only at hSw); go_simp; try with_reducible rfl)
        simp only [List.getElem_toArray, List.getElem_cons_succ, List.getElem_cons_zero, Act.put, List.setIfInBounds_toArray, List.set_cons_zero, List.set_cons_succ]
        refine wpAnyH_take (i := 2) (v := ?_) rfl (by kernel_rfl) (by kernel_rfl) (by kernel_rfl) (fun _ _ _ h => h) (Or.inl ⟨by rfl, ?_⟩) trivial ?_
        rotate_left
        · (intro w hSw; (try dsimp only at hSw); go_simp; try with_reducible rfl)
        simp only [List.getElem_toArray, List.getElem_cons_succ, List.getElem_cons_zero, Act.put, List.setIfInBounds_toArray, List.set_cons_zero, List.set_cons_succ]
        refine wpAnyH_take (i := 3) (v := ?_) rfl (by kernel_rfl) (by kernel_rfl) (by kernel_rfl) (fun _ _ _ h => h) (Or.inl ⟨by rfl, ?_⟩) trivial ?_
        rotate_left
        · (intro w hSw; (try dsimp only at hSw); go_simp; try with_reducible rfl)
        simp only [List.getElem_toArray, List.getElem_cons_succ, List.getElem_cons_zero, Act.put, List.setIfInBounds_toArray, List.set_cons_zero, List.set_cons_succ]
        refine wpAnyH_take (i := 4) (v := ?_) rfl (by kernel_rfl) (by kernel_rfl) (by kernel_rfl) (fun _ _ _ h => h) (Or.inl ⟨by rfl, ?_⟩) trivial ?_
        rotate_left
        · (intro w hSw; (try dsimp only at hSw); go_simp; try with_reducible rfl)
        simp only [List.getElem_toArray, List.getElem_cons_succ, List.getElem_cons_zero, Act.put, List.setIfInBounds_toArray, List.set_cons_zero, List.set_cons_succ]
        refine wpAnyH_ready (rs := [5]) (by kernel_rfl) (by simp) ?_
        refine AllReadyH.cons rfl (fun K hK => ?_) AllReadyH.nil
        go_simp
        refine hK.out _ _ trivial (fun hHeld => ?_)
        clear hK K
        refine wpAnyH_ready (rs := [6]) (by kernel_rfl) (by simp) ?_
        refine AllReadyH.cons rfl (fun K hK => ?_) AllReadyH.nil
        go_simp
        go_wp2_with (go_at_call 14; refine HC.out.mono ?_; clear HC; rintro e w7 ⟨rfl, wa, wc, x1, x2, x5, HD⟩)
        refine hK.out _ _ trivial (fun hHeld => ?_)
        clear hK K
        clear hHeld
        refine wpAnyH_mono (S' := (fun w' => w'.cell? ⟨q, 1, none⟩ = some (.slice wa W wc) ∧ w'.cell? ⟨q, 2, none⟩ = some (.bool ofv) ∧ w'.cell? ⟨q, 5, none⟩ = some (.int .i64 (wn : Int)))) (fun _ _ => trivial) _ _ _ _ ?_
        have hHeld : (fun w' => w'.cell? ⟨q, 1, none⟩ = some (.slice wa W wc) ∧ w'.cell? ⟨q, 2, none⟩ = some (.bool ofv) ∧ w'.cell? ⟨q, 5, none⟩ = some (.int .i64 (wn : Int))) w7 := ⟨x1, x2, x5⟩
        refine wpAnyH_take (i := 7) (v := ?_) rfl (by kernel_rfl) (by kernel_rfl) (by kernel_rfl) (fun _ _ _ h => h) (Or.inl ⟨by rfl, ?_⟩) hHeld ?_
        rotate_left
        · (intro w hSw; (try dsimp only at hSw); go_simp; try with_reducible rfl)
        simp only [List.getElem_toArray, List.getElem_cons_succ, List.getElem_cons_zero, Act.put, List.setIfInBounds_toArray, List.set_cons_zero, List.set_cons_succ]
        refine wpAnyH_take (i := 8) (v := ?_) rfl (by kernel_rfl) (by kernel_rfl) (by kernel_rfl) (fun _ _ _ h => h) (Or.inl ⟨by rfl, ?_⟩) hHeld ?_
        rotate_left
        · (intro w hSw; (try dsimp only at hSw); go_simp; try with_reducible rfl)
        simp only [List.getElem_toArray, List.getElem_cons_succ, List.getElem_cons_zero, Act.put, List.setIfInBounds_toArray, List.set_cons_zero, List.set_cons_succ]
        refine wpAnyH_take (i := 9) (v := ?_) rfl (by kernel_rfl) (by kernel_rfl) (by kernel_rfl) (fun _ _ _ h => h) (Or.inl ⟨by rfl, ?_⟩) hHeld ?_
        rotate_left
        · (intro w hSw; (try dsimp only at hSw); go_simp; try with_reducible rfl)
        simp only [List.getElem_toArray, List.getElem_cons_succ, List.getElem_cons_zero, Act.put, List.setIfInBounds_toArray, List.set_cons_zero, List.set_cons_succ]
        refine wpAnyH_take (i := 11) (v := ?_) rfl (by kernel_rfl) (by kernel_rfl) (by kernel_rfl) (fun _ _ _ h => h) (Or.inl ⟨by rfl, ?_⟩) hHeld ?_
        rotate_left
        · (intro w hSw; (try dsimp only at hSw); go_simp; try with_reducible rfl)
        simp only [List.getElem_toArray, List.getElem_cons_succ, List.getElem_cons_zero, Act.put, List.setIfInBounds_toArray, List.set_cons_zero, List.set_cons_succ]
        refine wpAnyH_take (i := 12) (v := ?_) rfl (by kernel_rfl) (by kernel_rfl) (by kernel_rfl) (fun _ _ _ h => h) (Or.inl ⟨by rfl, ?_⟩) hHeld ?_
        rotate_left
        · (intro w hSw; (try dsimp only at hSw); go_simp; try with_reducible rfl)
        simp only [List.getElem_toArray, List.getElem_cons_succ, List.getElem_cons_zero, Act.put, List.setIfInBounds_toArray, List.set_cons_zero, List.set_cons_succ]
        refine wpAnyH_take (i := 13) (v := ?_) rfl (by kernel_rfl) (by kernel_rfl) (by kernel_rfl) (fun _ _ _ h => h) (Or.inl ⟨by rfl, ?_⟩) hHeld ?_
        rotate_left
        · (intro w hSw; (try dsimp only at hSw); go_simp; try with_reducible rfl)
        simp only [List.getElem_toArray, List.getElem_cons_succ, List.getElem_cons_zero, Act.put, List.setIfInBounds_toArray, List.set_cons_zero, List.set_cons_succ]
        refine wpAnyH_take (i := 14) (v := ?_) rfl (by kernel_rfl) (by kernel_rfl) (by kernel_rfl) (fun _ _ _ h => h) (Or.inl ⟨by rfl, ?_⟩) hHeld ?_
        rotate_left
        · (intro w hSw; (try dsimp only at hSw); go_simp; try with_reducible rfl)
        simp only [List.getElem_toArray, List.getElem_cons_succ, List.getElem_cons_zero, Act.put, List.setIfInBounds_toArray, List.set_cons_zero, List.set_cons_succ]
        refine wpAnyH_take (i := 15) (v := ?_) rfl (by kernel_rfl) (by kernel_rfl) (by kernel_rfl) (fun _ _ _ h => h) (Or.inl ⟨by rfl, ?_⟩) hHeld ?_
        rotate_left
        · (intro w hSw; (try dsimp only at hSw); go_simp; try with_reducible rfl)
        simp only [List.getElem_toArray, List.getElem_cons_succ, List.getElem_cons_zero, Act.put, List.setIfInBounds_toArray, List.set_cons_zero, List.set_cons_succ]
        refine wpAnyH_ready (rs := [10]) (by kernel_rfl) (by simp) ?_
        refine AllReadyH.cons rfl (fun K hK => ?_) AllReadyH.nil
        go_simp
        go_wp2_with (go_at_call 15; refine HD.out.mono ?_; clear HD; rintro e w8 ⟨rfl, y1, y2, y5, H16, H17, H18⟩)
        refine hK.out _ _ ⟨y1, y2, y5⟩ (fun hHeld => ?_)
        clear hK K
        clear x1 x2 x5
        refine wpAnyH_take (i := 16) (v := ?_) rfl (by kernel_rfl) (by kernel_rfl) (by kernel_rfl) (fun _ _ _ h => h) (Or.inl ⟨by rfl, ?_⟩) hHeld ?_
        rotate_left
        · (intro w hSw; (try dsimp only at hSw); go_simp; try with_reducible rfl)
        simp only [List.getElem_toArray, List.getElem_cons_succ, List.getElem_cons_zero, Act.put, List.setIfInBounds_toArray, List.set_cons_zero, List.set_cons_succ]
        refine wpAnyH_take (i := 17) (v := ?_) rfl (by kernel_rfl) (by kernel_rfl) (by kernel_rfl) (fun _ _ _ h => h) (Or.inl ⟨by rfl, ?_⟩) hHeld ?_
        rotate_left
        · (intro w hSw; (try dsimp only at hSw); go_simp; try with_reducible rfl)
        simp only [List.getElem_toArray, List.getElem_cons_succ, List.getElem_cons_zero, Act.put, List.setIfInBounds_toArray, List.set_cons_zero, List.set_cons_succ]
        refine wpAnyH_take (i := 18) (v := ?_) rfl (by kernel_rfl) (by kernel_rfl) (by kernel_rfl) (fun _ _ _ h => h) (Or.inl ⟨by rfl, ?_⟩) hHeld ?_
        rotate_left
        · (intro w hSw; (try dsimp only at hSw); go_simp; try with_reducible rfl)
        simp only [List.getElem_toArray, List.getElem_cons_succ, List.getElem_cons_zero, Act.put, List.setIfInBounds_toArray, List.set_cons_zero, List.set_cons_succ]
        refine wpAnyH_take (i := 19) (v := ?_) rfl (by kernel_rfl) (by kernel_rfl) (by kernel_rfl) (fun _ _ _ h => h) (Or.inl ⟨by rfl, ?_⟩) hHeld ?_
        rotate_left
        · (intro w hSw; (try dsimp only at hSw); go_simp; try with_reducible rfl)
        simp only [List.getElem_toArray, List.getElem_cons_succ, List.getElem_cons_zero, Act.put, List.setIfInBounds_toArray, List.set_cons_zero, List.set_cons_succ]
        refine wpAnyH_take (i := 21) (v := ?_) rfl (by kernel_rfl) (by kernel_rfl) (by kernel_rfl) (fun _ _ _ h => h) (Or.inl ⟨by rfl, ?_⟩) hHeld ?_
        rotate_left
        · (intro w hSw; (try dsimp only at hSw); go_simp; try with_reducible rfl)
        simp only [List.getElem_toArray, List.getElem_cons_succ, List.getElem_cons_zero, Act.put, List.setIfInBounds_toArray, List.set_cons_zero, List.set_cons_succ]
        refine wpAnyH_take (i := 22) (v := ?_) rfl (by kernel_rfl) (by kernel_rfl) (by kernel_rfl) (fun _ _ _ h => h) (Or.inl ⟨by rfl, ?_⟩) hHeld ?_
        rotate_left
        · (intro w hSw; (try dsimp only at hSw); go_simp; try with_reducible rfl)
        simp only [List.getElem_toArray, List.getElem_cons_succ, List.getElem_cons_zero, Act.put, List.setIfInBounds_toArray, List.set_cons_zero, List.set_cons_succ]
        refine wpAnyH_take (i := 23) (v := ?_) rfl (by kernel_rfl) (by kernel_rfl) (by kernel_rfl) (fun _ _ _ h => h) (Or.inl ⟨by rfl, ?_⟩) hHeld ?_
        rotate_left
        · (intro w hSw; (try dsimp only at hSw); go_simp; try with_reducible rfl)
        simp only [List.getElem_toArray, List.getElem_cons_succ, List.getElem_cons_zero, Act.put, List.setIfInBounds_toArray, List.set_cons_zero, List.set_cons_succ]
        refine wpAnyH_take (i := 24) (v := ?_) rfl (by kernel_rfl) (by kernel_rfl) (by kernel_rfl) (fun _ _ _ h => h) (Or.inl ⟨by rfl, ?_⟩) hHeld ?_
        rotate_left
        · (intro w hSw; (try dsimp only at hSw); go_simp; try with_reducible rfl)
        simp only [List.getElem_toArray, List.getElem_cons_succ, List.getElem_cons_zero, Act.put, List.setIfInBounds_toArray, List.set_cons_zero, List.set_cons_succ]
        refine wpAnyH_ready (rs := [20]) (by kernel_rfl) (by simp) ?_
        refine AllReadyH.cons rfl (fun K hK => ?_) AllReadyH.nil
        go_simp
        go_wp2_with (go_at_call 16; refine H16.out.mono ?_; clear H16; rintro e w9 ⟨rfl, rfl⟩)
        refine hK.out _ _ ⟨y1, y2, y5⟩ (fun hHeld => ?_)
        clear hK K
        refine wpAnyH_take (i := 25) (v := ?_) rfl (by kernel_rfl) (by kernel_rfl) (by kernel_rfl) (fun _ _ _ h => h) (Or.inl ⟨by rfl, ?_⟩) hHeld ?_
        rotate_left
        · (intro w hSw; (try dsimp only at hSw); go_simp; try with_reducible rfl)
        simp only [List.getElem_toArray, List.getElem_cons_succ, List.getElem_cons_zero, Act.put, List.setIfInBounds_toArray, List.set_cons_zero, List.set_cons_succ]
        refine wpAnyH_take (i := 26) (v := ?_) rfl (by kernel_rfl) (by kernel_rfl) (by kernel_rfl) (fun _ _ _ h => h) (Or.inl ⟨by rfl, ?_⟩) hHeld ?_
        rotate_left
        · (intro w hSw; (try dsimp only at hSw); go_simp; try with_reducible rfl)
        simp only [List.getElem_toArray, List.getElem_cons_succ, List.getElem_cons_zero, Act.put, List.setIfInBounds_toArray, List.set_cons_zero, List.set_cons_succ]
        refine wpAnyH_take (i := 27) (v := ?_) rfl (by kernel_rfl) (by kernel_rfl) (by kernel_rfl) (fun _ _ _ h => h) (Or.inl ⟨by rfl, ?_⟩) hHeld ?_
        rotate_left
        · (intro w hSw; (try dsimp only at hSw); go_simp; try with_reducible rfl)
        simp only [List.getElem_toArray, List.getElem_cons_succ, List.getElem_cons_zero, Act.put, List.setIfInBounds_toArray, List.set_cons_zero, List.set_cons_succ]
        refine wpAnyH_take (i := 28) (v := ?_) rfl (by kernel_rfl) (by kernel_rfl) (by kernel_rfl) (fun _ _ _ h => h) (Or.inl ⟨by rfl, ?_⟩) hHeld ?_
        rotate_left
        · (intro w hSw; (try dsimp only at hSw); go_simp; try with_reducible rfl)
        simp only [List.getElem_toArray, List.getElem_cons_succ, List.getElem_cons_zero, Act.put, List.setIfInBounds_toArray, List.set_cons_zero, List.set_cons_succ]
        refine wpAnyH_take (i := 30) (v := ?_) rfl (by kernel_rfl) (by kernel_rfl) (by kernel_rfl) (fun _ _ _ h => h) (Or.inl ⟨by rfl, ?_⟩) hHeld ?_
        rotate_left
        · (intro w hSw; (try dsimp only at hSw); go_simp; try with_reducible rfl)
        simp only [List.getElem_toArray, List.getElem_cons_succ, List.getElem_cons_zero, Act.put, List.setIfInBounds_toArray, List.set_cons_zero, List.set_cons_succ]
        refine wpAnyH_take (i := 31) (v := ?_) rfl (by kernel_rfl) (by kernel_rfl) (by kernel_rfl) (fun _ _ _ h => h) (Or.inl ⟨by rfl, ?_⟩) hHeld ?_
        rotate_left
        · (intro w hSw; (try dsimp only at hSw); go_simp; try with_reducible rfl)
        simp only [List.getElem_toArray, List.getElem_cons_succ, List.getElem_cons_zero, Act.put, List.setIfInBounds_toArray, List.set_cons_zero, List.set_cons_succ]
        refine wpAnyH_take (i := 32) (v := ?_) rfl (by kernel_rfl) (by kernel_rfl) (by kernel_rfl) (fun _ _ _ h => h) (Or.inl ⟨by rfl, ?_⟩) hHeld ?_
        rotate_left
        · (intro w hSw; (try dsimp only at hSw); go_simp; try with_reducible rfl)
        simp only [List.getElem_toArray, List.getElem_cons_succ, List.getElem_cons_zero, Act.put, List.setIfInBounds_toArray, List.set_cons_zero, List.set_cons_succ]
        refine wpAnyH_take (i := 33) (v := ?_) rfl (by kernel_rfl) (by kernel_rfl) (by kernel_rfl) (fun _ _ _ h => h) (Or.inl ⟨by rfl, ?_⟩) hHeld ?_
        rotate_left
        · (intro w hSw; (try dsimp only at hSw); go_simp; try with_reducible rfl)
        simp only [List.getElem_toArray, List.getElem_cons_succ, List.getElem_cons_zero, Act.put, List.setIfInBounds_toArray, List.set_cons_zero, List.set_cons_succ]
        refine wpAnyH_ready (rs := [29]) (by kernel_rfl) (by simp) ?_
        refine AllReadyH.cons rfl (fun K hK => ?_) AllReadyH.nil
        go_simp
        go_wp2_with (go_at_call 17; refine H17.out.mono ?_; clear H17; rintro e w9 ⟨rfl, rfl⟩)
        refine hK.out _ _ ⟨y1, y2, y5⟩ (fun hHeld => ?_)
        clear hK K
        refine wpAnyH_take (i := 34) (v := ?_) rfl (by kernel_rfl) (by kernel_rfl) (by kernel_rfl) (fun _ _ _ h => h) (Or.inl ⟨by rfl, ?_⟩) hHeld ?_
        rotate_left
        · (intro w hSw; (try dsimp only at hSw); go_simp; try with_reducible rfl)
        simp only [List.getElem_toArray, List.getElem_cons_succ, List.getElem_cons_zero, Act.put, List.setIfInBounds_toArray, List.set_cons_zero, List.set_cons_succ]
        refine wpAnyH_take (i := 35) (v := ?_) rfl (by kernel_rfl) (by kernel_rfl) (by kernel_rfl) (fun _ _ _ h => h) (Or.inl ⟨by rfl, ?_⟩) hHeld ?_
        rotate_left
        · (intro w hSw; (try dsimp only at hSw); go_simp; try with_reducible rfl)
        simp only [List.getElem_toArray, List.getElem_cons_succ, List.getElem_cons_zero, Act.put, List.setIfInBounds_toArray, List.set_cons_zero, List.set_cons_succ]
        refine wpAnyH_take (i := 36) (v := ?_) rfl (by kernel_rfl) (by kernel_rfl) (by kernel_rfl) (fun _ _ _ h => h) (Or.inl ⟨by rfl, ?_⟩) hHeld ?_
        rotate_left
        · (intro w hSw; (try dsimp only at hSw); go_simp; try with_reducible rfl)
        simp only [List.getElem_toArray, List.getElem_cons_succ, List.getElem_cons_zero, Act.put, List.setIfInBounds_toArray, List.set_cons_zero, List.set_cons_succ]
        refine wpAnyH_take (i := 37) (v := ?_) rfl (by kernel_rfl) (by kernel_rfl) (by kernel_rfl) (fun _ _ _ h => h) (Or.inl ⟨by rfl, ?_⟩) hHeld ?_
        rotate_left
        · (intro w hSw; (try dsimp only at hSw); go_simp; try with_reducible rfl)
        simp only [List.getElem_toArray, List.getElem_cons_succ, List.getElem_cons_zero, Act.put, List.setIfInBounds_toArray, List.set_cons_zero, List.set_cons_succ]
        refine wpAnyH_take (i := 40) (v := ?_) rfl (by kernel_rfl) (by kernel_rfl) (by kernel_rfl) (fun _ _ _ h => h) (Or.inl ⟨by rfl, ?_⟩) hHeld ?_
        rotate_left
        · (intro w hSw; (try dsimp only at hSw); go_simp; try with_reducible rfl)
        simp only [List.getElem_toArray, List.getElem_cons_succ, List.getElem_cons_zero, Act.put, List.setIfInBounds_toArray, List.set_cons_zero, List.set_cons_succ]
        refine wpAnyH_ready (rs := [38]) (by kernel_rfl) (by simp) ?_
        refine AllReadyH.cons rfl (fun K hK => ?_) AllReadyH.nil
        go_simp
        go_wp2_with (go_at_call 18; refine H18.out.mono ?_; clear H18; rintro e w9 ⟨u9, rfl, s9, z1, z2, z5, H19⟩)
        refine hK.out _ _ ⟨z1, z2, z5⟩ (fun hHeld => ?_)
        clear hK K
        clear y1 y2 y5
        refine wpAnyH_ready (rs := [39, 41]) (by kernel_rfl) (by simp) ?_
        refine AllReadyH.cons rfl (fun K hK => ?_) (AllReadyH.cons rfl (fun K hK => ?_) AllReadyH.nil)
        · go_simp
          refine hK.out _ _ ⟨z1, z2, z5⟩ (fun hHeld => ?_)
          clear hK K
          refine wpAnyH_ready (rs := [41]) (by kernel_rfl) (by simp) ?_
          refine AllReadyH.cons rfl (fun K hK => ?_) AllReadyH.nil
          go_simp
          go_wp2_with (go_at_call 19; refine H19.out.mono ?_; clear H19; rintro e w10 ⟨rfl, s10, v1, v2, v5, HE⟩)
          refine hK.out _ _ ⟨v1, v2, v5⟩ (fun hHeld => ?_)
          clear hK K
          refine wpAnyH_take (i := 42) (v := ?_) rfl (by kernel_rfl) (by kernel_rfl) (by kernel_rfl) (fun _ _ _ h => h) (Or.inl ⟨by rfl, ?_⟩) hHeld ?_
          rotate_left
          · (intro w hSw; (try dsimp only at hSw); go_simp; try with_reducible rfl)
          simp only [List.getElem_toArray, List.getElem_cons_succ, List.getElem_cons_zero, Act.put, List.setIfInBounds_toArray, List.set_cons_zero, List.set_cons_succ]
          refine wpAnyH_take (i := 43) (v := ?_) rfl (by kernel_rfl) (by kernel_rfl) (by kernel_rfl) (fun _ _ _ h => h) (Or.inl ⟨by rfl, ?_⟩) hHeld ?_
          rotate_left
          · (intro w hSw; (try dsimp only at hSw); go_simp; try with_reducible rfl)
          simp only [List.getElem_toArray, List.getElem_cons_succ, List.getElem_cons_zero, Act.put, List.setIfInBounds_toArray, List.set_cons_zero, List.set_cons_succ]
          refine wpAnyH_done (by kernel_rfl) ?_ _
          go_wp2
          go_roundw
          case rel => exact ⟨i + 1, p2, by omega, rfl, by go_num, S', HN.out.1, HN.out.2.1, HN.out.2.2, HE.out⟩
          case measure => simp [intOf]; omega
        · go_simp
          go_wp2_with (go_at_call 19; refine H19.out.mono ?_; clear H19; rintro e w10 ⟨rfl, s10, v1, v2, v5, HE⟩)
          refine hK.out _ _ ⟨v1, v2, v5⟩ (fun hHeld => ?_)
          clear hK K
          refine wpAnyH_ready (rs := [39]) (by kernel_rfl) (by simp) ?_
          refine AllReadyH.cons rfl (fun K hK => ?_) AllReadyH.nil
          go_simp
          refine hK.out _ _ ⟨v1, v2, v5⟩ (fun hHeld => ?_)
          clear hK K
          refine wpAnyH_take (i := 42) (v := ?_) rfl (by kernel_rfl) (by kernel_rfl) (by kernel_rfl) (fun _ _ _ h => h) (Or.inl ⟨by rfl, ?_⟩) hHeld ?_
          rotate_left
          · (intro w hSw; (try dsimp only at hSw); go_simp; try with_reducible rfl)
          simp only [List.getElem_toArray, List.getElem_cons_succ, List.getElem_cons_zero, Act.put, List.setIfInBounds_toArray, List.set_cons_zero, List.set_cons_succ]
          refine wpAnyH_take (i := 43) (v := ?_) rfl (by kernel_rfl) (by kernel_rfl) (by kernel_rfl) (fun _ _ _ h => h) (Or.inl ⟨by rfl, ?_⟩) hHeld ?_
          rotate_left
          · (intro w hSw; (try dsimp only at hSw); go_simp; try with_reducible rfl)
          simp only [List.getElem_toArray, List.getElem_cons_succ, List.getElem_cons_zero, Act.put, List.setIfInBounds_toArray, List.set_cons_zero, List.set_cons_succ]
          refine wpAnyH_done (by kernel_rfl) ?_ _
          go_wp2
          go_roundw
          case rel => exact ⟨i + 1, p2, by omega, rfl, by go_num, S', HN.out.1, HN.out.2.1, HN.out.2.2, HE.out⟩
          case measure => simp [intOf]; omega
    · obtain ⟨S, e1, e2, e3, F6, G6, d6, r6, two6⟩ := hR
      have g3 : ¬ (i : Int) < (l.length : Int) := by omega
      have H6 : Hid (Dk wr F6 p2 S ∧ Chg (fun _ => False) w wr) := ⟨d6, two6.chg⟩
      clear d6 r6 two6 HL
      go_wp2_with fail
      refine (blocks_any F6 p2 S wr H6.out.1).mono ?_
      rintro e w7 ⟨rfl, rfl⟩
      rw [e1]
      go_wp2
      go_ret
      exact ⟨rfl, H6.out.2⟩

theorem law_plays (n : Int) (lv : Value) (l : List ActD) (w : World) (hl : Acts w lv l) :
    Calls Try.prog 3 #[.int .i64 n, lv] w fun e w' => e = .returned (.bool true) ∧ Chg (fun _ => False) w w' := by
  cases hf : fewA l
  · exact plays_out1 n lv l w hl hf
  by_cases h1 : n < 1
  · exact plays_out3 n lv l w hl hf (.inl h1)
  by_cases h2 : 16384 < n
  · exact plays_out3 n lv l w hl hf (.inr h2)
  by_cases h3 : 40 < n
  · exact plays_out2 n lv l w hl hf (by simpa using h3) (by simp; omega)
  obtain ⟨k, rfl⟩ := Int.eq_ofNat_of_zero_le (show 0 ≤ n by omega)
  exact plays_loop k lv l w hl hf (by omega) (by omega)
end Go.Proofs.Ytkafpnjimdhakaa

/-
  CachePlays answers true.
-/
import Derived.Test.YtioloobeakjbeaaRS
namespace Go.Proofs.Ytioloobeakjbeaa
open Go.RowKit Go.Maps
attribute [local go_sem ↓] Go.wp_at_zero Go.wp_at_succ

/-- What holds behind each operation may be said with less. -/
theorem wpAnyH_mono {P : Program} {md : Region.Mode} {ops : Array Oper} {Q : Exit → Act → World → Prop} {S S' : World → Prop} (hS : ∀ w, S' w → S w) : ∀ (fuel : Nat) (listed : Array Bool) (a : Act) (w : World), wpAnyH P md ops Q S' fuel listed a w → wpAnyH P md ops Q S fuel listed a w
  | 0, _, _, _, h => h
  | fuel + 1, _, _, _, h => ⟨h.1, fun i hi => wpOp_mono (fun a' w' h' => ⟨hS w' h'.1, wpAnyH_mono hS fuel _ a' w' h'.2⟩) (h.2 i hi)⟩

theorem Is.ofNats {w : World} {N : Nat} {v : Value} {L : List Nat} (h : w.ownsRow N 3 1 v L.length (icells L)) : Is w v (L.map fun n : Nat => (n : Int)) := by
  refine Is.ofOwns (n := L.length) (N := N) ?_
  rw [icells_map]; exact h

/-- What the comparisons read. -/
def Cells (r q : Nat) (hv mv ev : Int) (wa : Option Addr) (W wc : Nat) (w : World) : Prop := w.cell? ⟨r, 3, none⟩ = some (.int .i64 hv) ∧ w.cell? ⟨r, 4, none⟩ = some (.int .i64 mv) ∧ w.cell? ⟨r, 5, none⟩ = some (.int .i64 ev) ∧ w.cell? ⟨q, 1, none⟩ = some (.slice wa W wc)
theorem Cells.kept {r q : Nat} {hv mv ev : Int} {wa : Option Addr} {W wc : Nat} {w w' : World} (h : Cells r q hv mv ev wa W wc w) (hc : Chg (fun _ => False) w w') : Cells r q hv mv ev wa W wc w' :=
  ⟨hc.cell h.1 (fun h => h), hc.cell h.2.1 (fun h => h), hc.cell h.2.2.1 (fun h => h), hc.cell h.2.2.2 (fun h => h)⟩
theorem Stepped.cells {w : World} {c p r q : Nat} {S : St} {C : Ca} {W0 : World} (h : Stepped w c p r q S C W0) : ∃ wa wc, Cells r q (C.hits : Int) (C.misses : Int) (C.evicted : Int) wa S.waiting wc W0 := by
  obtain ⟨F, G, G2, H2, lv, h1, h2, _⟩ := h
  obtain ⟨R, lb, lc, wv, pv, s, hk⟩ := h2.rk
  obtain ⟨a, cp, e⟩ := hk.wlen
  have hl : S.waiting = R.W.length := waiting_len s.vers s.num
  refine ⟨a, cp, h2.rc.c3, h2.rc.c4, h2.rc.c5, ?_⟩
  rw [hl, ← e]; exact hk.c1

set_option maxHeartbeats 800000 in
theorem plays_chain {w : World} {c p r q : Nat} {S : St} {C : Ca} {WD : World} (h : Stepped w c p r q S C WD) (hx : Bd S C) {hv mv ev : Int} {wa : Option Addr} {W wc : Nat} {t : ByteArray} (hC : Cells r q hv mv ev wa W wc WD) (hW : S.waiting = W) (ht : strOf S.image = t) :
    Calls Try.prog 18 #[.pointer (some ⟨c, 0, none⟩)] WD fun e z1 => ∃ a1 n1 d1, e = .returned (.slice a1 n1 d1) ∧ (z1.cell? ⟨r, 3, none⟩ = some (.int .i64 hv) ∧ z1.cell? ⟨r, 4, none⟩ = some (.int .i64 mv) ∧ z1.cell? ⟨r, 5, none⟩ = some (.int .i64 ev) ∧ z1.cell? ⟨q, 1, none⟩ = some (.slice wa W wc)) ∧
      Hid (Calls Try.prog 19 #[.pointer (some ⟨r, 0, none⟩), .bool false] z1 fun e z2 => ∃ a2 n2 d2, e = .returned (.slice a2 n2 d2) ∧ (z2.cell? ⟨r, 3, none⟩ = some (.int .i64 hv) ∧ z2.cell? ⟨r, 4, none⟩ = some (.int .i64 mv) ∧ z2.cell? ⟨r, 5, none⟩ = some (.int .i64 ev) ∧ z2.cell? ⟨q, 1, none⟩ = some (.slice wa W wc)) ∧
      Hid (Calls Try.prog 17 #[.slice a1 n1 d1, .slice a2 n2 d2] z2 fun e z3 => e = .returned (.bool true) ∧ (z3.cell? ⟨r, 3, none⟩ = some (.int .i64 hv) ∧ z3.cell? ⟨r, 4, none⟩ = some (.int .i64 mv) ∧ z3.cell? ⟨r, 5, none⟩ = some (.int .i64 ev) ∧ z3.cell? ⟨q, 1, none⟩ = some (.slice wa W wc)) ∧
      Hid (Calls Try.prog 20 #[.pointer (some ⟨c, 0, none⟩)] z3 fun e z4 => ∃ a3 n3 d3, e = .returned (.slice a3 n3 d3) ∧ (z4.cell? ⟨r, 3, none⟩ = some (.int .i64 hv) ∧ z4.cell? ⟨r, 4, none⟩ = some (.int .i64 mv) ∧ z4.cell? ⟨r, 5, none⟩ = some (.int .i64 ev) ∧ z4.cell? ⟨q, 1, none⟩ = some (.slice wa W wc)) ∧
      Hid (Calls Try.prog 19 #[.pointer (some ⟨r, 0, none⟩), .bool true] z4 fun e z5 => ∃ a4 n4 d4, e = .returned (.slice a4 n4 d4) ∧ (z5.cell? ⟨r, 3, none⟩ = some (.int .i64 hv) ∧ z5.cell? ⟨r, 4, none⟩ = some (.int .i64 mv) ∧ z5.cell? ⟨r, 5, none⟩ = some (.int .i64 ev) ∧ z5.cell? ⟨q, 1, none⟩ = some (.slice wa W wc)) ∧
      Hid (Calls Try.prog 17 #[.slice a3 n3 d3, .slice a4 n4 d4] z5 fun e z6 => e = .returned (.bool true) ∧ (z6.cell? ⟨r, 3, none⟩ = some (.int .i64 hv) ∧ z6.cell? ⟨r, 4, none⟩ = some (.int .i64 mv) ∧ z6.cell? ⟨r, 5, none⟩ = some (.int .i64 ev) ∧ z6.cell? ⟨q, 1, none⟩ = some (.slice wa W wc)) ∧
      Hid (Calls Try.prog 21 #[.pointer (some ⟨p, 0, none⟩)] z6 fun e z7 => ∃ a5 n5 d5, e = .returned (.slice a5 n5 d5) ∧ (z7.cell? ⟨r, 3, none⟩ = some (.int .i64 hv) ∧ z7.cell? ⟨r, 4, none⟩ = some (.int .i64 mv) ∧ z7.cell? ⟨r, 5, none⟩ = some (.int .i64 ev) ∧ z7.cell? ⟨q, 1, none⟩ = some (.slice wa W wc)) ∧ (convert 39 9 (.slice a5 n5 d5)).run Try.prog z7 = .ok (.string t) z7 ∧
      Hid (Calls Try.prog 22 #[.pointer (some ⟨q, 0, none⟩)] z7 fun e z8 => e = .returned (.string t) ∧ (z8.cell? ⟨r, 3, none⟩ = some (.int .i64 hv) ∧ z8.cell? ⟨r, 4, none⟩ = some (.int .i64 mv) ∧ z8.cell? ⟨r, 5, none⟩ = some (.int .i64 ev) ∧ z8.cell? ⟨q, 1, none⟩ = some (.slice wa W wc)) ∧ (convert 39 9 (.slice a5 n5 d5)).run Try.prog z8 = .ok (.string t) z8 ∧
      Hid (Calls Try.prog 23 #[.pointer (some ⟨p, 0, none⟩)] z8 fun e z9 => e = .returned (.int .i64 (W : Int)) ∧ (z9.cell? ⟨r, 3, none⟩ = some (.int .i64 hv) ∧ z9.cell? ⟨r, 4, none⟩ = some (.int .i64 mv) ∧ z9.cell? ⟨r, 5, none⟩ = some (.int .i64 ev) ∧ z9.cell? ⟨q, 1, none⟩ = some (.slice wa W wc)) ∧ (convert 39 9 (.slice a5 n5 d5)).run Try.prog z9 = .ok (.string t) z9 ∧ Hid (Stepped w c p r q S C z9))))))))) := by
  obtain ⟨F, G, G2, H2, lv, h1, h2, h3, h4, h5, h6⟩ := id h
  have hwf := h1.wf.2
  have hnb := hx.nb
  have hle : ∀ b, (heldTo C b S.nb).length ≤ 16384 := fun b => Nat.le_trans (heldTo_le C b S.nb) hnb
  obtain ⟨m, rr, ls, nd, hk⟩ := id h1
  refine (held_any G c p S.nb C m rr ls nd WD hk.ca).mono ?_
  rintro e z1 ⟨v1, rfl, o1, c1⟩
  have i1 : Is z1 v1 ((heldTo C false S.nb).map fun n : Nat => (n : Int)) := Is.ofNats (N := WD.heap.size) o1
  obtain ⟨a1, d1, e1⟩ := own_form o1
  subst e1
  refine ⟨_, _, _, rfl, hC.kept c1, ?_⟩
  have hC1 := hC.kept c1
  have r1 := h2.kept c1 (fun _ _ h => h)
  refine (rheld_any G2 H2 r q S C lv false z1 r1 hwf hnb).mono ?_
  rintro e z2 ⟨v2, rfl, o2, c2⟩
  have i2 : Is z2 v2 ((heldTo C false S.nb).map fun n : Nat => (n : Int)) := Is.ofNats o2
  obtain ⟨a2, d2, e2⟩ := own_form o2
  subst e2
  have hC2 := hC1.kept c2
  refine ⟨_, _, _, rfl, hC2, ?_⟩
  refine (ints_any _ _ _ z2 (i1.kept c2 (fun _ _ h => h)) i2 (by rw [List.length_map]; exact Nat.le_trans (hle false) (by decide))).mono ?_
  rintro e z3 ⟨rfl, c3⟩
  have hC3 := hC2.kept c3
  refine ⟨rfl, hC3, ?_⟩
  have c13 : Chg (fun _ => False) WD z3 := (c1.trans c2 (fun _ _ h => h)).trans c3 (fun _ _ h => h)
  refine (dirty_any G c p S.nb C m rr ls nd z3 (hk.ca.kept c13 (fun _ _ h => h))).mono ?_
  rintro e z4 ⟨v3, rfl, o3, c4⟩
  have i3 : Is z4 v3 ((heldTo C true S.nb).map fun n : Nat => (n : Int)) := Is.ofNats (N := z3.heap.size) o3
  obtain ⟨a3, d3, e3⟩ := own_form o3
  subst e3
  have hC4 := hC3.kept c4
  refine ⟨_, _, _, rfl, hC4, ?_⟩
  have c14 := c13.trans c4 (fun _ _ h => h)
  refine (rheld_any G2 H2 r q S C lv true z4 (h2.kept c14 (fun _ _ h => h)) hwf hnb).mono ?_
  rintro e z5 ⟨v4, rfl, o4, c5⟩
  have i4 : Is z5 v4 ((heldTo C true S.nb).map fun n : Nat => (n : Int)) := Is.ofNats o4
  obtain ⟨a4, d4, e4⟩ := own_form o4
  subst e4
  have hC5 := hC4.kept c5
  refine ⟨_, _, _, rfl, hC5, ?_⟩
  refine (ints_any _ _ _ z5 (i3.kept c5 (fun _ _ h => h)) i4 (by rw [List.length_map]; exact Nat.le_trans (hle true) (by decide))).mono ?_
  rintro e z6 ⟨rfl, c6⟩
  have hC6 := hC5.kept c6
  refine ⟨rfl, hC6, ?_⟩
  have c16 : Chg (fun _ => False) WD z6 := (c14.trans c5 (fun _ _ h => h)).trans c6 (fun _ _ h => h)
  refine (image_any F p S z6 (h1.dk.kept c16 (fun _ _ h => h)) hx.w).mono ?_
  rintro e z7 ⟨a5, d5, rfl, fr⟩
  have hC7 := hC6.kept fr.chg
  refine ⟨_, _, _, rfl, hC7, by rw [← ht]; exact run_str fr.bs, ?_⟩
  have c17 := c16.trans fr.chg (fun _ _ h => h)
  refine (rimage_any G2 q S z7 (h2.rk.kept c17 (fun _ _ h => h)) hx.w).mono ?_
  rintro e z8 ⟨rfl, c8⟩
  have hC8 := hC7.kept c8
  refine ⟨by rw [ht], hC8, by rw [← ht]; exact run_str (fr.bs.kept c8 (fun _ _ _ _ _ h => h)), ?_⟩
  have c18 := c17.trans c8 (fun _ _ h => h)
  refine (waiting_any F p S z8 (h1.dk.kept c18 (fun _ _ h => h)) hx.w).mono ?_
  rintro e z9 ⟨rfl, c9⟩
  exact ⟨by rw [hW], hC8.kept c9, by rw [← ht]; exact run_str ((fr.bs.kept c8 (fun _ _ _ _ _ h => h)).kept c9 (fun _ _ _ _ _ h => h)), h.more (c18.trans c9 (fun _ _ h => h))⟩

/-! ### bounds -/
theorem unpin_same (C : Ca) (n : Int) : (unpin C n).hits = C.hits ∧ (unpin C n).misses = C.misses ∧ (unpin C n).evicted = C.evicted := by
  unfold unpin
  split <;> exact ⟨rfl, rfl, rfl⟩
set_option maxRecDepth 100000 in
theorem stpR_bd {S : St} {C : Ca} (hS : S.Wf) (hC : C.Wf S.nb) (d : ActD) : (stpR S C d).1.nb = S.nb ∧ (stpR S C d).1.writes ≤ S.writes + (S.nb + 1) ∧ (stpR S C d).2.hits + (stpR S C d).2.misses ≤ C.hits + C.misses + 1 ∧ (stpR S C d).2.evicted ≤ C.evicted + 1 := by
  have hg := get_full d.n hS hC
  have hp := put_full d.n (full d.bs) hS hC
  have hq := pin_full d.n hS hC
  have hf := flush_full hS hC
  have hd := dirties_le C S.nb
  have hu := unpin_same C d.n
  unfold stpR
  split
  · exact ⟨hg.nb, by have := hg.writes; show (get S C d.n).S.writes ≤ _; omega, hg.uses, hg.ev⟩
  split
  · exact ⟨hp.nb, by have := hp.writes; show (put S C d.n (full d.bs)).S.writes ≤ _; omega, hp.uses, hp.ev⟩
  split
  · exact ⟨hq.nb, by have := hq.writes; show (pin S C d.n).S.writes ≤ _; omega, hq.uses, hq.ev⟩
  split
  · refine ⟨rfl, by show S.writes ≤ _; omega, ?_, ?_⟩
    · show (unpin C d.n).hits + (unpin C d.n).misses ≤ _
      rw [hu.1, hu.2.1]; omega
    · show (unpin C d.n).evicted ≤ _
      rw [hu.2.2]; omega
  split
  · exact ⟨hf.nb, by have := hf.writes; show (flush S C).S.writes ≤ _; omega, hf.uses, hf.ev⟩
  split
  · exact ⟨rfl, by show S.writes ≤ _; omega, by show C.hits + C.misses ≤ _; omega, by show C.evicted ≤ _; omega⟩
  split
  · exact ⟨St.cut_nb _ _, by show (S.cut d.ps).writes ≤ _; rw [St.cut_writes]; omega, by show C.hits + C.misses ≤ _; omega, by show C.evicted ≤ _; omega⟩
  split
  · exact ⟨rfl, by show S.writes ≤ _; omega, by show C.hits + C.misses ≤ _; omega, by show C.evicted ≤ _; omega⟩
  split
  · exact ⟨rfl, by show S.writes ≤ _; omega, by show C.hits + C.misses ≤ _; omega, by show C.evicted ≤ _; omega⟩
  · exact ⟨rfl, by show S.writes ≤ _; omega, by show C.hits + C.misses ≤ _; omega, by show C.evicted ≤ _; omega⟩
theorem few_lenP {l : List ActD} (h : fewA l = true) : l.length ≤ 150 ∧ ∀ i (hi : i < l.length), l[i].bs.length ≤ 512 ∧ l[i].ps.length ≤ 50 := by
  simp [fewA] at h
  refine ⟨h.1, fun i hi => ?_⟩
  have := h.2 l[i] (List.getElem_mem hi)
  simpa [ActD.few] using this

/-- What the loop keeps. -/
def PlayR (w : World) (nb c p r q i : Nat) (wr : World) : Prop := ∃ (S : St) (C : Ca), S.nb = nb ∧ S.writes ≤ 31 * i ∧ C.hits + C.misses ≤ i ∧ C.evicted ≤ i ∧ Stepped w c p r q S C wr
theorem PlayR.chg {w : World} {nb c p r q i : Nat} {wr : World} (h : PlayR w nb c p r q i wr) : Chg (fun _ => False) w wr := by
  obtain ⟨S, C, _, _, _, _, F, G, G2, H2, lv, h1, h2, h3, h4, h5, h6⟩ := h
  exact h6
/-- A round, up to the comparisons. -/
theorem plays_step {w wr : World} {nb c p r q i b o : Nat} {d : ActD} (h : PlayR w nb c p r q i wr) (hnb : nb ≤ 30) (hi : i ≤ 150) (ha : ActAt w b o d) (hl : d.bs.length ≤ 512 ∧ d.ps.length ≤ 50) :
    Calls Try.prog 15 #[.pointer (some ⟨p, 0, none⟩), .pointer (some ⟨c, 0, none⟩), .pointer (some ⟨q, 0, none⟩), .pointer (some ⟨r, 0, none⟩), .agg #[.int .i64 d.op, .int .i64 d.n, d.bv, d.pv]] wr fun e w1 => e = .returned (.bool true) ∧
      Hid (Calls Try.prog 16 #[.pointer (some ⟨c, 0, none⟩)] w1 fun e w2 => ∃ (hv mv ev : Int) (wa : Option Addr) (W wc : Nat) (t : ByteArray), e = .returned (.tuple #[.int .i64 hv, .int .i64 mv, .int .i64 ev]) ∧ Cells r q hv mv ev wa W wc w2.drew ∧
        Hid (Calls Try.prog 18 #[.pointer (some ⟨c, 0, none⟩)] w2.drew fun e z1 => ∃ a1 n1 d1, e = .returned (.slice a1 n1 d1) ∧ (z1.cell? ⟨r, 3, none⟩ = some (.int .i64 hv) ∧ z1.cell? ⟨r, 4, none⟩ = some (.int .i64 mv) ∧ z1.cell? ⟨r, 5, none⟩ = some (.int .i64 ev) ∧ z1.cell? ⟨q, 1, none⟩ = some (.slice wa W wc)) ∧
      Hid (Calls Try.prog 19 #[.pointer (some ⟨r, 0, none⟩), .bool false] z1 fun e z2 => ∃ a2 n2 d2, e = .returned (.slice a2 n2 d2) ∧ (z2.cell? ⟨r, 3, none⟩ = some (.int .i64 hv) ∧ z2.cell? ⟨r, 4, none⟩ = some (.int .i64 mv) ∧ z2.cell? ⟨r, 5, none⟩ = some (.int .i64 ev) ∧ z2.cell? ⟨q, 1, none⟩ = some (.slice wa W wc)) ∧
      Hid (Calls Try.prog 17 #[.slice a1 n1 d1, .slice a2 n2 d2] z2 fun e z3 => e = .returned (.bool true) ∧ (z3.cell? ⟨r, 3, none⟩ = some (.int .i64 hv) ∧ z3.cell? ⟨r, 4, none⟩ = some (.int .i64 mv) ∧ z3.cell? ⟨r, 5, none⟩ = some (.int .i64 ev) ∧ z3.cell? ⟨q, 1, none⟩ = some (.slice wa W wc)) ∧
      Hid (Calls Try.prog 20 #[.pointer (some ⟨c, 0, none⟩)] z3 fun e z4 => ∃ a3 n3 d3, e = .returned (.slice a3 n3 d3) ∧ (z4.cell? ⟨r, 3, none⟩ = some (.int .i64 hv) ∧ z4.cell? ⟨r, 4, none⟩ = some (.int .i64 mv) ∧ z4.cell? ⟨r, 5, none⟩ = some (.int .i64 ev) ∧ z4.cell? ⟨q, 1, none⟩ = some (.slice wa W wc)) ∧
      Hid (Calls Try.prog 19 #[.pointer (some ⟨r, 0, none⟩), .bool true] z4 fun e z5 => ∃ a4 n4 d4, e = .returned (.slice a4 n4 d4) ∧ (z5.cell? ⟨r, 3, none⟩ = some (.int .i64 hv) ∧ z5.cell? ⟨r, 4, none⟩ = some (.int .i64 mv) ∧ z5.cell? ⟨r, 5, none⟩ = some (.int .i64 ev) ∧ z5.cell? ⟨q, 1, none⟩ = some (.slice wa W wc)) ∧
      Hid (Calls Try.prog 17 #[.slice a3 n3 d3, .slice a4 n4 d4] z5 fun e z6 => e = .returned (.bool true) ∧ (z6.cell? ⟨r, 3, none⟩ = some (.int .i64 hv) ∧ z6.cell? ⟨r, 4, none⟩ = some (.int .i64 mv) ∧ z6.cell? ⟨r, 5, none⟩ = some (.int .i64 ev) ∧ z6.cell? ⟨q, 1, none⟩ = some (.slice wa W wc)) ∧
      Hid (Calls Try.prog 21 #[.pointer (some ⟨p, 0, none⟩)] z6 fun e z7 => ∃ a5 n5 d5, e = .returned (.slice a5 n5 d5) ∧ (z7.cell? ⟨r, 3, none⟩ = some (.int .i64 hv) ∧ z7.cell? ⟨r, 4, none⟩ = some (.int .i64 mv) ∧ z7.cell? ⟨r, 5, none⟩ = some (.int .i64 ev) ∧ z7.cell? ⟨q, 1, none⟩ = some (.slice wa W wc)) ∧ (convert 39 9 (.slice a5 n5 d5)).run Try.prog z7 = .ok (.string t) z7 ∧
      Hid (Calls Try.prog 22 #[.pointer (some ⟨q, 0, none⟩)] z7 fun e z8 => e = .returned (.string t) ∧ (z8.cell? ⟨r, 3, none⟩ = some (.int .i64 hv) ∧ z8.cell? ⟨r, 4, none⟩ = some (.int .i64 mv) ∧ z8.cell? ⟨r, 5, none⟩ = some (.int .i64 ev) ∧ z8.cell? ⟨q, 1, none⟩ = some (.slice wa W wc)) ∧ (convert 39 9 (.slice a5 n5 d5)).run Try.prog z8 = .ok (.string t) z8 ∧
      Hid (Calls Try.prog 23 #[.pointer (some ⟨p, 0, none⟩)] z8 fun e z9 => e = .returned (.int .i64 (W : Int)) ∧ (z9.cell? ⟨r, 3, none⟩ = some (.int .i64 hv) ∧ z9.cell? ⟨r, 4, none⟩ = some (.int .i64 mv) ∧ z9.cell? ⟨r, 5, none⟩ = some (.int .i64 ev) ∧ z9.cell? ⟨q, 1, none⟩ = some (.slice wa W wc)) ∧ (convert 39 9 (.slice a5 n5 d5)).run Try.prog z9 = .ok (.string t) z9 ∧ Hid (PlayR w nb c p r q (i + 1) z9))))))))))) := by
  obtain ⟨S, C, e1, e2, e3, e4, hst⟩ := h
  have hst' := hst
  obtain ⟨F, G, G2, H2, lv, h1, _⟩ := hst'
  obtain ⟨hS, hC⟩ := h1.wf
  obtain ⟨b1, b2, b3, b4⟩ := stpR_bd hS hC d
  refine (step_any hst ha hl ⟨by omega, by omega, by omega, by omega⟩).mono ?_
  generalize stpR S C d = X at *
  rintro e w1 ⟨rfl, h2⟩
  refine ⟨rfl, ?_⟩
  obtain ⟨F', G', G2', H2', lv', hc', hrest⟩ := id h2
  obtain ⟨m, rr, ls, nd, hk⟩ := hc'
  refine (stats_any G' c p X.1.nb X.2 m rr ls nd w1 hk.ca).mono ?_
  rintro e w2 ⟨rfl, qn, rfl⟩
  have h3 := h2.more ((Chg.drewN (fun _ => False) w1 qn).trans (Chg.drew (fun _ => False) _) (fun _ _ h => h))
  obtain ⟨wa, wc, hcl⟩ := h3.cells
  refine ⟨_, _, _, wa, X.1.waiting, wc, strOf X.1.image, rfl, hcl, ?_⟩
  refine (plays_chain h3 ⟨by omega, by omega, by omega, by omega⟩ hcl rfl rfl).mono ?_
  rintro e z1 ⟨a1, n1, d1, rfl, k1, HA⟩
  refine ⟨a1, n1, d1, rfl, k1, HA.out.mono ?_⟩
  rintro e z2 ⟨a2, n2, d2, rfl, k2, HA⟩
  refine ⟨a2, n2, d2, rfl, k2, HA.out.mono ?_⟩
  rintro e z3 ⟨rfl, k3, HA⟩
  refine ⟨rfl, k3, HA.out.mono ?_⟩
  rintro e z4 ⟨a3, n3, d3, rfl, k4, HA⟩
  refine ⟨a3, n3, d3, rfl, k4, HA.out.mono ?_⟩
  rintro e z5 ⟨a4, n4, d4, rfl, k5, HA⟩
  refine ⟨a4, n4, d4, rfl, k5, HA.out.mono ?_⟩
  rintro e z6 ⟨rfl, k6, HA⟩
  refine ⟨rfl, k6, HA.out.mono ?_⟩
  rintro e z7 ⟨a5, n5, d5, rfl, k7, s7, HA⟩
  refine ⟨a5, n5, d5, rfl, k7, s7, HA.out.mono ?_⟩
  rintro e z8 ⟨rfl, k8, s8, HA⟩
  refine ⟨rfl, k8, s8, HA.out.mono ?_⟩
  rintro e z9 ⟨rfl, k9, s9, HA⟩
  exact ⟨rfl, k9, s9, X.1, X.2, by omega, by omega, by omega, by omega, HA.out⟩
end Go.Proofs.Ytioloobeakjbeaa

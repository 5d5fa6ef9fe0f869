/-
  CodecReads answers true for every argument, in every world that holds codec's table; nothing that was there has changed.
-/
import Derived.Test.YtdninfmmikaimaaDoorRefReader
import Derived.Test.YtdninfmmikaimaaDoorLawFaults
import Derived.Deep.RegionWith
namespace Go.Proofs.YtdninfmmikaimaaDoor
open Go.RowKit
attribute [local go_sem ↓] Go.wp_at_zero Go.wp_at_succ

/-- Two readers, codec's with the state s and the reference's with the state t, that share no block. -/
structure RP (N : Nat) (w : World) (p q : Nat) (bv : Value) (bs : List Int) (s t : RS) : Prop where
  rd : ∃ v, RdS N w p v s
  rr : ∃ at' e, RR N w q bv bs at' e ∧ Sim t bs at' e
  pq : p < q
  old : ∀ a n c, bv = .slice (some a) n c → 0 < n → a.block < N
  isb : IsB s.xs ∧ IsB t.xs ∧ IsB bs
  len : s.xs.length ≤ 1099511627776 ∧ bs.length ≤ 1099511627776

theorem RP.left {N p q : Nat} {w w' : World} {bv v' : Value} {bs : List Int} {s t s' : RS} (h : RP N w p q bv bs s t) (r : RdSTo N p w w' v' s') (hb : IsB s'.xs) (hl : s'.xs.length ≤ 1099511627776) : RP N w' p q bv bs s' t ∧ Below N w w' := by
  obtain ⟨v, rd⟩ := h.rd
  obtain ⟨at', e, rr, sm⟩ := h.rr
  have hp := rd.le
  have pq := h.pq
  refine ⟨⟨⟨v', r.rd⟩, ⟨at', e, rr.kept r.chg (by omega) (fun a n c he h0 => by have := h.old a n c he h0; omega), sm⟩, h.pq, h.old, ⟨hb, h.isb.2⟩, hl, h.len.2⟩, r.belowR rd⟩
theorem RP.right {N p q : Nat} {w w' : World} {bv : Value} {bs : List Int} {s t t' : RS} (h : RP N w p q bv bs s t) (r : RTo N q bv bs w w' t') (hb : IsB t'.xs) : RP N w' p q bv bs s t' ∧ Below N w w' := by
  obtain ⟨v, rd⟩ := h.rd
  obtain ⟨at', e, rr, sm⟩ := h.rr
  obtain ⟨at2, e2, rr2, sm2, hc⟩ := r
  have hp := rd.le
  have pq := h.pq
  refine ⟨⟨⟨v, rd.kept hc (by omega) (fun a n c he h0 => by have := rd.ne a n c he h0; omega)⟩, ⟨at2, e2, rr2, sm2⟩, h.pq, h.old, ⟨h.isb.1, hb, h.isb.2.2⟩, h.len⟩, hc.below rd.N (fun k hk => by rw [hk]; exact rr.le)⟩
theorem RP.keep {N p q : Nat} {w w' : World} {bv : Value} {bs : List Int} {s t : RS} (h : RP N w p q bv bs s t) (hc : Chg (fun _ => False) w w') : RP N w' p q bv bs s t := by
  obtain ⟨v, rd⟩ := h.rd
  obtain ⟨at', e, rr, sm⟩ := h.rr
  exact ⟨⟨v, rd.kept hc (fun h => h) (fun _ _ _ _ _ h => h)⟩, ⟨at', e, rr.kept hc (fun h => h) (fun _ _ _ _ _ h => h), sm⟩, h.pq, h.old, h.isb, h.len⟩

theorem own_new {W w' : World} {u : Value} {ys : List Int} {q : Nat} (hb : Bs w' u ys) (hz : ∀ k, u.ownBlock = some k → W.heap.size ≤ k) (hq : q < W.heap.size) : ∀ a n c, u = .slice (some a) n c → 0 < n → ¬ (a.block = q) := by
  rintro a n c rfl _ e
  have := hz a.block rfl
  omega

/-- Numbers of codec's reader. -/
theorem rp8 {N p q : Nat} {w : World} {bv : Value} {bs : List Int} {s t : RS} (h : RP N w p q bv bs s t) :
    Calls Tryd.prog 22 #[.pointer (some ⟨p, 0, none⟩)] w fun r w' => r = .returned (.int .i64 (valB (tkV s 1))) ∧ RP N w' p q bv bs (tkS s 1) t ∧ Below N w w' := by
  obtain ⟨v, rd⟩ := h.rd
  refine (ru8_any N p v s w rd h.isb.1).mono ?_
  rintro r w' ⟨rfl, v', h'⟩
  exact ⟨rfl, h.left h' (h.isb.1.tkS 1) (Nat.le_trans (tkS_le s 1) h.len.1)⟩
theorem rp16 {N p q : Nat} {w : World} {bv : Value} {bs : List Int} {s t : RS} (h : RP N w p q bv bs s t) :
    Calls Tryd.prog 24 #[.pointer (some ⟨p, 0, none⟩)] w fun r w' => r = .returned (.int .i64 (valB (tkV s 2))) ∧ RP N w' p q bv bs (tkS s 2) t ∧ Below N w w' := by
  obtain ⟨v, rd⟩ := h.rd
  refine (ru16_any N p v s w rd h.isb.1).mono ?_
  rintro r w' ⟨rfl, v', h'⟩
  exact ⟨rfl, h.left h' (h.isb.1.tkS 2) (Nat.le_trans (tkS_le s 2) h.len.1)⟩
theorem rp32 {N p q : Nat} {w : World} {bv : Value} {bs : List Int} {s t : RS} (h : RP N w p q bv bs s t) :
    Calls Tryd.prog 25 #[.pointer (some ⟨p, 0, none⟩)] w fun r w' => r = .returned (.int .i64 (valB (tkV s 4))) ∧ RP N w' p q bv bs (tkS s 4) t ∧ Below N w w' := by
  obtain ⟨v, rd⟩ := h.rd
  refine (ru32_any N p v s w rd h.isb.1).mono ?_
  rintro r w' ⟨rfl, v', h'⟩
  exact ⟨rfl, h.left h' (h.isb.1.tkS 4) (Nat.le_trans (tkS_le s 4) h.len.1)⟩
/-- Numbers of the reference's. -/
theorem rpN {N p q : Nat} {w : World} {bv : Value} {bs : List Int} {s t : RS} (k : Nat) (hk : k ≤ 4) (h : RP N w p q bv bs s t) :
    Calls Tryd.prog 23 #[.pointer (some ⟨q, 0, none⟩), .int .i64 k] w fun r w' => r = .returned (.int .i64 (valB (tkV t k))) ∧ RP N w' p q bv bs s (tkS t k) ∧ Below N w w' := by
  obtain ⟨at', e, rr, sm⟩ := h.rr
  refine (refNumber N q at' bv bs e t k w rr sm h.len.2 h.isb.2.2 hk).mono ?_
  rintro r w' ⟨rfl, h'⟩
  exact ⟨rfl, h.right h' (h.isb.2.1.tkS k)⟩

/-- Bytes of codec's reader. -/
theorem rpF {N p q : Nat} {w : World} {bv : Value} {bs : List Int} {s t : RS} (n : Int) (h : RP N w p q bv bs s t) :
    Calls Tryd.prog 26 #[.pointer (some ⟨p, 0, none⟩), .int .i64 n] w fun r w' => ∃ u, r = .returned u ∧ RP N w' p q bv bs (tkS (fxI s n) n) t ∧ Below N w w' ∧ Bs w' u (tkV (fxI s n) n) ∧ (∀ a m c, u = .slice (some a) m c → 0 < m → ¬ (a.block = q)) ∧ Chg (fun k => k = p) w w' := by
  obtain ⟨v, rd⟩ := h.rd
  obtain ⟨at', e, rr, sm⟩ := h.rr
  refine (rfixed_any N p v s n w rd h.len.1).mono ?_
  rintro r w' ⟨u, rfl, ⟨v', h'⟩, ho, hz⟩
  have hl : (tkS (fxI s n) n).xs.length ≤ 1099511627776 := by
    refine Nat.le_trans (tkS_le _ n) (Nat.le_trans ?_ h.len.1)
    unfold fxI; split
    · exact failS_le s 1
    · exact Nat.le_refl _
  obtain ⟨P, B⟩ := h.left h' ((h.isb.1.fxI n).tkS n) hl
  exact ⟨u, rfl, P, B, Bs.ofOwns ho, own_new (Bs.ofOwns ho) hz rr.lt, h'.chg⟩
theorem rpB {N p q : Nat} {w : World} {bv : Value} {bs : List Int} {s t : RS} (n : Int) (h : RP N w p q bv bs s t) :
    Calls Tryd.prog 28 #[.pointer (some ⟨p, 0, none⟩), .int .i64 n] w fun r w' => ∃ u, r = .returned u ∧ RP N w' p q bv bs (tkS (bsI s n) (valB (tkV s 4))) t ∧ Below N w w' ∧ Bs w' u (tkV (bsI s n) (valB (tkV s 4))) ∧ (∀ a m c, u = .slice (some a) m c → 0 < m → ¬ (a.block = q)) ∧ Chg (fun k => k = p) w w' := by
  obtain ⟨v, rd⟩ := h.rd
  obtain ⟨at', e, rr, sm⟩ := h.rr
  refine (rbytes_any N p v s n w rd h.isb.1 h.len.1).mono ?_
  rintro r w' ⟨u, rfl, ⟨v', h'⟩, ho, hz⟩
  have hl : (tkS (bsI s n) (valB (tkV s 4))).xs.length ≤ 1099511627776 := by
    refine Nat.le_trans (tkS_le _ _) (Nat.le_trans ?_ h.len.1)
    unfold bsI; split
    · exact Nat.le_trans (failS_le _ 5) (tkS_le s 4)
    · exact tkS_le s 4
  obtain ⟨P, B⟩ := h.left h' ((h.isb.1.bsI n).tkS _) hl
  exact ⟨u, rfl, P, B, Bs.ofOwns ho, own_new (Bs.ofOwns ho) hz rr.lt, h'.chg⟩
/-- Bytes of the reference's. -/
theorem rpF' {N p q : Nat} {w : World} {bv : Value} {bs : List Int} {s t : RS} (n : Int) (h : RP N w p q bv bs s t) :
    Calls Tryd.prog 27 #[.pointer (some ⟨q, 0, none⟩), .int .i64 n] w fun r w' => ∃ u, r = .returned u ∧ RP N w' p q bv bs s (tkS (fxI t n) n) ∧ Below N w w' ∧ Bs w' u (tkV (fxI t n) n) ∧ (∀ a m c, u = .slice (some a) m c → 0 < m → ¬ (a.block = p)) ∧ Chg (fun k => k = q) w w' := by
  obtain ⟨v, rd⟩ := h.rd
  obtain ⟨at', e, rr, sm⟩ := h.rr
  refine (refFixed_any' N q at' bv bs e t n w rr sm h.len.2).mono ?_
  rintro r w' ⟨u, rfl, h', hb, hz⟩
  obtain ⟨P, B⟩ := h.right h' ((h.isb.2.1.fxI n).tkS n)
  exact ⟨u, rfl, P, B, hb, own_new hb hz rd.lt, h'.choose_spec.choose_spec.2.2⟩
theorem rpB' {N p q : Nat} {w : World} {bv : Value} {bs : List Int} {s t : RS} (n : Int) (h : RP N w p q bv bs s t) :
    Calls Tryd.prog 29 #[.pointer (some ⟨q, 0, none⟩), .int .i64 n] w fun r w' => ∃ u, r = .returned u ∧ RP N w' p q bv bs s (tkS (bsI t n) (valB (tkV t 4))) ∧ Below N w w' ∧ Bs w' u (tkV (bsI t n) (valB (tkV t 4))) ∧ (∀ a m c, u = .slice (some a) m c → 0 < m → ¬ (a.block = p)) ∧ Chg (fun k => k = q) w w' := by
  obtain ⟨v, rd⟩ := h.rd
  obtain ⟨at', e, rr, sm⟩ := h.rr
  refine (refBytes_any' N q at' bv bs e t n w rr sm h.len.2 h.isb.2.2 h.isb.2.1).mono ?_
  rintro r w' ⟨u, rfl, h', hb, hz⟩
  obtain ⟨P, B⟩ := h.right h' ((h.isb.2.1.bsI n).tkS _)
  exact ⟨u, rfl, P, B, hb, own_new hb hz rd.lt, h'.choose_spec.choose_spec.2.2⟩
/-- The ends. -/
theorem rpE {N p q : Nat} {w : World} {bv : Value} {bs : List Int} {s t : RS} (h : RP N w p q bv bs s t) :
    Calls Tryd.prog 30 #[.pointer (some ⟨p, 0, none⟩)] w fun r w' => r = .returned (.int .i64 (endV s)) ∧ w' = w := by
  obtain ⟨v, rd⟩ := h.rd
  exact end_any N p v s w rd

theorem rpE2 {N p q : Nat} {w : World} {bv : Value} {bs : List Int} {s t : RS} (h : RP N w p q bv bs s t) :
    Calls Tryd.prog 31 #[.pointer (some ⟨q, 0, none⟩)] w fun r w' => r = .returned (.int .i64 (endV t)) ∧ ∃ t', endV t' = endV t ∧ RP N w' p q bv bs s t' ∧ Below N w w' := by
  obtain ⟨at', e, rr, sm⟩ := h.rr
  refine (refEnd_any N q at' bv bs e t w rr sm h.len.2).mono ?_
  rintro r w' ⟨rfl, R, C⟩
  refine ⟨rfl, if endV t = 0 then t else ⟨[], endV t⟩, ?_, ?_⟩
  · split
    · rfl
    · rename_i hne; simp [endV] at hne ⊢
  · have hS : Sim (if endV t = 0 then t else ⟨[], endV t⟩) bs at' (endV t) := by
      by_cases h0 : endV t = 0
      · rw [if_pos h0, h0]
        have hf : t.f = 0 := by
          unfold endV at h0; split at h0
          · cases h0
          · exact h0
        exact ⟨hf, fun _ => sm.2.1 (by rw [← sm.1]; exact hf), fun h => absurd rfl h⟩
      · rw [if_neg h0]
        exact ⟨rfl, fun h => absurd h h0, fun _ => rfl⟩
    have hb : IsB (if endV t = 0 then t else ⟨[], endV t⟩).xs := by
      split
      · exact h.isb.2.1
      · intro x hx; cases hx
    exact h.right ⟨at', _, R, hS, C⟩ hb

set_option maxHeartbeats 4000000 in
set_option maxRecDepth 100000 in
theorem law_reads (b0 v : Value) (bs : List Int) (l : List (Int × Int)) (w : World) (hT : Tab w) (hb0 : Bs w b0 bs) (hB : IsB bs) (hl : Asks w v l) :
    Calls Tryd.prog 4 #[b0, v] w fun e w' => e = .returned (.bool true) ∧ Below w.heap.size w w' := by
  obtain ⟨ab, cb, rfl, hcb⟩ := hb0.form
  obtain ⟨al, cl, rfl⟩ := hl.form
  by_cases h1 : 8192 < bs.length
  · have k1 : decide ((8192 : Int) < (bs.length : Int)) = true := by simp; omega
    go_enter Tryd.func4, Tryd.ntmps4
    go_wp2_with fail
    refine (known_any w hT).mono ?_
    rintro e w1 ⟨rfl, B1⟩
    go_wp2
    go_ret
    exact ⟨rfl, B1⟩
  have k1 : decide ((8192 : Int) < (bs.length : Int)) = false := by simp; omega
  by_cases h2 : 300 < l.length
  · have k2 : decide ((300 : Int) < (l.length : Int)) = true := by simp; omega
    go_enter Tryd.func4, Tryd.ntmps4
    go_wp2_with fail
    refine (known_any w hT).mono ?_
    rintro e w1 ⟨rfl, B1⟩
    go_wp2
    go_ret
    exact ⟨rfl, B1⟩
  have k2 : decide ((300 : Int) < (l.length : Int)) = false := by simp; omega
  go_enter Tryd.func4, Tryd.ntmps4
  go_wp2_with fail
  refine (known_any w hT).mono ?_
  rintro e w1 ⟨rfl, B1⟩
  go_wp2_with fail
  refine (newReader_any w.heap.size _ bs _ (hb0.under B1) (by omega) B1.size).mono ?_
  rintro e w2 ⟨p, v2, rfl, a2, c2, hp⟩
  have B2 := B1.trans (c2.below B1.size (fun _ h => h.elim))
  have B3 : Below w.heap.size w (w2.alloc (.cells #[.slice ab bs.length cb, .int .i64 0, .int .i64 0] 43)) := B2.alloc B2.size _
  have hold : ∀ a n c, Value.slice ab bs.length cb = .slice (some a) n c → 0 < n → a.block < w.heap.size := by
    intro a n c e h0
    rcases hb0 with ⟨e2, _⟩ | ⟨a2, c2, e2, _, _, hc⟩
    · rw [e2] at e; cases e
    · rw [e2] at e; cases e
      have := World.block_lt_of_cell? w _ (hc 0 h0)
      rw [add_block] at this
      exact this
  have t3 : RP w.heap.size (w2.alloc (.cells #[.slice ab bs.length cb, .int .i64 0, .int .i64 0] 43)) p w2.heap.size (.slice ab bs.length cb) bs ⟨bs, 0⟩ ⟨bs, 0⟩ := by
    refine ⟨⟨v2, a2.kept (Chg.alloc (fun _ => False) _ _) (fun h => h) (fun _ _ _ _ _ h => h)⟩, ⟨0, 0, ⟨B2.size, heap_alloc_new w2 _, hb0.under B3, fun a n c e h0 => ?_, Nat.zero_le _⟩, ⟨rfl, fun _ => rfl, fun h => absurd rfl h⟩⟩, a2.lt, hold, ⟨hB, hB, hB⟩, by simp; omega, by omega⟩
    have := hold a n c e h0
    have := B2.size
    omega
  clear a2 c2 B2
  go_wp2_with fail
  go_loopw [7] (fun i wr => ∃ (k : Nat) (s : RS), k ≤ l.length ∧ i = .int .i64 k ∧ RP w.heap.size wr p w2.heap.size (.slice ab bs.length cb) bs s s ∧ Below w.heap.size w wr) (fun i _ => l.length - (intOf i).toNat)
  case atStart => exact ⟨0, _, Nat.zero_le _, rfl, t3, B3⟩
  case round =>
    obtain ⟨k, s, hk, rfl, tr, Br⟩ := hrel
    by_cases hlt : k < l.length
    · obtain ⟨b, off, rfl, hbN, hc0', hc'⟩ := hl.at hlt
      have hc0 := (Br.cell (p := ⟨b, off + k * 2, none⟩) hbN).trans hc0'
      have hc := (Br.cell (p := ⟨b, off + k * 2 + 1, none⟩) hbN).trans hc'
      generalize (l.getD k (0, 0)).1 = kd at *
      generalize (l.getD k (0, 0)).2 = z at *
      have g1 : (k : Int) < (l.length : Int) := by omega
      clear hl t3 B3 B1 hT hc0' hc' hb0
      by_cases q1 : kd = 1
      · skip
        subst q1
        go_wp2_with fail
        refine (rp8 tr).mono ?_
        rintro e w4 ⟨rfl, t4, B4'⟩
        go_wp2_with fail
        refine (rpN 1 (by omega) t4).mono ?_
        rintro e w5 ⟨rfl, t5, B5'⟩
        have B5 := (Br.trans B4').trans B5'
        clear tr Br t4 B4' B5'
        go_wp2
        go_roundw
        case rel => exact ⟨k + 1, _, by omega, by go_num, t5, B5⟩
        case measure => simp [intOf]; omega
      by_cases q2 : kd = 2
      · skip
        subst q2
        go_wp2_with fail
        refine (rp16 tr).mono ?_
        rintro e w4 ⟨rfl, t4, B4'⟩
        go_wp2_with fail
        refine (rpN 2 (by omega) t4).mono ?_
        rintro e w5 ⟨rfl, t5, B5'⟩
        have B5 := (Br.trans B4').trans B5'
        clear tr Br t4 B4' B5'
        go_wp2
        go_roundw
        case rel => exact ⟨k + 1, _, by omega, by go_num, t5, B5⟩
        case measure => simp [intOf]; omega
      by_cases q3 : kd = 3
      · skip
        subst q3
        go_wp2_with fail
        refine (rp32 tr).mono ?_
        rintro e w4 ⟨rfl, t4, B4'⟩
        go_wp2_with fail
        refine (rpN 4 (by omega) t4).mono ?_
        rintro e w5 ⟨rfl, t5, B5'⟩
        have B5 := (Br.trans B4').trans B5'
        clear tr Br t4 B4' B5'
        go_wp2
        go_roundw
        case rel => exact ⟨k + 1, _, by omega, by go_num, t5, B5⟩
        case measure => simp [intOf]; omega
      by_cases q4 : kd = 4
      · skip
        subst q4
        have hd : RP w.heap.size wr.drew p w2.heap.size (.slice ab bs.length cb) bs s s := tr.keep (Chg.drew _ _)
        have Bd : Below w.heap.size w wr.drew := Br.drew
        have hcd : wr.drew.cell? ⟨b, off + k * 2 + 1, none⟩ = some (.int .i64 z) := hc
        clear tr Br
        go_wp2_with fail
        go_region_with (first | (go_at_call 26; refine (rpF z (by assumption)).mono ?_; rintro e wa ⟨ua, rfl, ta, Ba', Sa, Za, Ca⟩; have cA := (Ba'.cell (p := ⟨b, off + k * 2 + 1, none⟩) hbN).trans (by assumption); have sA := run_str Sa; (try have sB2 := run_str (Sb.kept Ca Zb))) | (go_at_call 27; refine (rpF' z (by assumption)).mono ?_; rintro e wb ⟨ub, rfl, tb, Bb', Sb, Zb, Cb⟩; have cB := (Bb'.cell (p := ⟨b, off + k * 2 + 1, none⟩) hbN).trans (by assumption); have sB := run_str Sb; (try have sA2 := run_str (Sa.kept Cb Za))))
        all_goals
          go_wp2
          go_roundw
          case rel => exact ⟨k + 1, _, by omega, by go_num, by assumption, (Bd.trans (by assumption)).trans (by assumption)⟩
          case measure => simp [intOf]; omega
      · skip
        have r1 : (kd == 1) = false := by simpa using q1
        have r2 : (kd == 2) = false := by simpa using q2
        have r3 : (kd == 3) = false := by simpa using q3
        have r4 : (kd == 4) = false := by simpa using q4
        have hd : RP w.heap.size wr.drew p w2.heap.size (.slice ab bs.length cb) bs s s := tr.keep (Chg.drew _ _)
        have Bd : Below w.heap.size w wr.drew := Br.drew
        have hcd : wr.drew.cell? ⟨b, off + k * 2 + 1, none⟩ = some (.int .i64 z) := hc
        clear tr Br
        go_wp2_with fail
        go_region_with (first | (go_at_call 28; refine (rpB z (by assumption)).mono ?_; rintro e wa ⟨ua, rfl, ta, Ba', Sa, Za, Ca⟩; have cA := (Ba'.cell (p := ⟨b, off + k * 2 + 1, none⟩) hbN).trans (by assumption); have sA := run_str Sa; (try have sB2 := run_str (Sb.kept Ca Zb))) | (go_at_call 29; refine (rpB' z (by assumption)).mono ?_; rintro e wb ⟨ub, rfl, tb, Bb', Sb, Zb, Cb⟩; have cB := (Bb'.cell (p := ⟨b, off + k * 2 + 1, none⟩) hbN).trans (by assumption); have sB := run_str Sb; (try have sA2 := run_str (Sa.kept Cb Za))))
        all_goals
          go_wp2
          go_roundw
          case rel => exact ⟨k + 1, _, by omega, by go_num, by assumption, (Bd.trans (by assumption)).trans (by assumption)⟩
          case measure => simp [intOf]; omega
    · clear hl t3 B3 B1 hT hb0
      go_wp2_with fail
      refine (rpE tr).mono ?_
      rintro e w4 ⟨rfl, rfl⟩
      go_wp2_with fail
      refine (rpE2 tr).mono ?_
      rintro e w5 ⟨rfl, t5, E5, tr5, B5⟩
      go_wp2_with fail
      refine (rpE tr5).mono ?_
      rintro e w6 ⟨rfl, rfl⟩
      go_wp2_with fail
      refine (rpE2 tr5).mono ?_
      rintro e w7 ⟨he, t7, E7, tr7, B7⟩
      rw [E5] at he
      subst he
      go_wp2
      go_ret
      exact ⟨rfl, (Br.trans B5).trans B7⟩
end Go.Proofs.YtdninfmmikaimaaDoor

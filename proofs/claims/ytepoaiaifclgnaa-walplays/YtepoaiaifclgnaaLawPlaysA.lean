/-
  A play: each act; its beginning; all of a log that has a transaction.
-/
import Derived.Test.YtepoaiaifclgnaaPlay8
import Derived.Test.YtepoaiaifclgnaaActs
namespace Go.Proofs.Ytepoaiaifclgnaa
open Go.RowKit Go.Maps

section
variable {X : Nat → Prop} {w0 w w' : World} {pd pp pl q pr g : Nat} {tv : Value} {R : Rf} {lb lc db dc nb nc : Nat} {nv : Value} {f f' : Nat → List Int} {com own com' : Nat → Option (List Int)} {pend wrote N k : Nat} {live : Bool}
theorem pstep_any (d : ActD) (w : World) (h : Pl w0 w pd pp k) (hk : k < 1000) (hb : Bs w0 d.bv d.bs) (hl : d.bs.length ≤ 64) (hw : -9223372036854775808 ≤ d.n ∧ d.n ≤ 9223372036854775807) :
    Calls Try.prog 9 #[.pointer (some ⟨pp, 0, none⟩), .agg #[.int .i64 d.op, .int .i64 d.n, d.bv]] w fun e w' => e = .returned (.bool true) ∧ Pl w0 w' pd pp (k + 1) := by
  obtain ⟨op, n, bv, bs⟩ := d
  show Calls Try.prog 9 #[.pointer (some ⟨pp, 0, none⟩), .agg #[.int .i64 op, .int .i64 n, bv]] w fun e w' => e = .returned (.bool true) ∧ Pl w0 w' pd pp (k + 1)
  by_cases h1 : op = 1
  · subst h1; exact pstep_begin n bv w h
  by_cases h2 : op = 2
  · subst h2; exact pstep_write2 n bv bs w h hb hl
  by_cases h8 : op = 8
  · subst h8; exact pstep_write8 n bv bs w h hb hl
  by_cases h3 : op = 3
  · subst h3; exact pstep_commit n bv w h hk
  by_cases h4 : op = 4
  · subst h4; exact pstep_abort n bv w h
  by_cases h5 : op = 5
  · subst h5; exact pstep_sync n bv w h hk
  by_cases h6 : op = 6
  · subst h6; exact pstep_read n bv w h hk
  by_cases h7 : op = 7
  · subst h7; exact pstep_tread n bv w h hk hw
  refine (pstep_other op n bv w h1 h2 h8 h3 h4 h5 h6 h7).mono ?_
  rintro e w' ⟨rfl, hc⟩
  exact ⟨rfl, (h.more hc).up (by omega)⟩
theorem blocksU (h : Up X w0 w pd pl tv f com pend live own wrote N) : Calls Try.prog 15 #[.pointer (some ⟨pl, 0, none⟩)] w fun e w' => e = .returned (.int .i64 70) ∧ w' = w := by
  rcases h with ⟨_, _, h⟩ | ⟨q, _, F, G, S, m, V, mt, Vt, h1, _⟩
  · refine (blocks_up h).mono ?_
    rintro e w' ⟨rfl, rfl⟩
    exact ⟨rfl, rfl⟩
  · refine (lblocks_any w h1.lk).mono ?_
    rintro e w' ⟨rfl, rfl⟩
    exact ⟨rfl, rfl⟩
theorem pendingU (h : Up X w0 w pd pl tv f com pend live own wrote N) : Calls Try.prog 10 #[.pointer (some ⟨pl, 0, none⟩)] w fun e w' => e = .returned (.int .i64 (pend : Int)) ∧ w' = w := by
  rcases h with ⟨_, _, h⟩ | ⟨q, _, h⟩
  · exact pending_up h
  · exact pendingT h
set_option maxHeartbeats 3200000 in
set_option maxRecDepth 100000 in
theorem all_trueU (v : Value) (T : Nat → ByteArray) (w : World) (h : Up X w0 w pd pl tv f com pend live own wrote N) (hs : Ss w v T 70) (ht : ∀ n, n < 70 → T n = strOf (ovr f com n)) (hN : N < 1000000000) :
    Calls Try.prog 11 #[.pointer (some ⟨pl, 0, none⟩), v] w fun e w' => e = .returned (.bool true) ∧ Chg (fun _ => False) w w' := by
  obtain ⟨g, o, c, rfl, hc, hcell⟩ := hs
  have H0 : Hid (Up X w0 w pd pl tv f com pend live own wrote N ∧ (∀ n, n < 70 → w.cell? ⟨g, o + n, none⟩ = some (.string (T n))) ∧ (∀ n, n < 70 → T n = strOf (ovr f com n))) := ⟨h, hcell, ht⟩
  clear h hcell ht
  go_enter Try.func11, Try.ntmps11
  go_wp2
  go_loopw [5, 6, 7] (fun x _ _ wr => ∃ i, i ≤ 70 ∧ x = .int .i64 ((i : Nat) : Int) ∧ Hid (Up X w0 wr pd pl tv f com pend live own wrote N ∧ Chg (fun _ => False) w wr)) (fun x _ _ _ => 70 - (intOf x).toNat)
  case atStart => exact ⟨0, by omega, rfl, H0.out.1, Chg.refl _ _⟩
  case round =>
    obtain ⟨i, hi, rfl, HR⟩ := hrel
    by_cases hlt : i < 70
    · have hki : (i : Int) < (70 : Int) := by omega
      have hkn : i < 70 := hlt
      go_wp2_with fail
      refine (readU i HR.out.1 hlt hN).mono ?_
      rintro e w1 ⟨u, rfl, fr⟩
      have hch : Chg (fun _ => False) w w1 := HR.out.2.trans fr.chg (fun _ _ h => h)
      have cl := hch.cell (H0.out.2.1 i hlt) (fun h => h)
      have H1 : Hid (Up X w0 w1 pd pl tv f com pend live own wrote N ∧ Chg (fun _ => False) w w1) := ⟨HR.out.1.more fr.chg, hch⟩
      rw [H0.out.2.2 i hlt] at cl
      have s1 := run_str (fr.bs.kept (Chg.drew (fun _ => False) w1) (fun _ _ _ _ _ h => h))
      have s0 := run_str fr.bs
      obtain ⟨t, ht⟩ : ∃ t, strOf (ovr f com i) = t := ⟨_, rfl⟩
      rw [ht] at cl s1 s0
      have hse := str_same t
      clear ht fr hch HR
      go_wp2_with fail
      go_region_held (fun w' => (convert 39 9 u).run Try.prog w' = .ok (.string t) w' ∧ w'.cell? ⟨g, o + i, none⟩ = some (.string t))
        (first | assumption | exact ⟨s1, cl⟩ | exact ⟨s0, cl⟩)
        (fail)
      all_goals
        clear s1 s0 cl
        go_wp2
        go_roundw
        case rel => exact ⟨i + 1, by omega, by go_num, H1.out.1.more (Chg.drew (fun _ => False) w1), H1.out.2.trans (Chg.drew (fun _ => False) w1) (fun _ _ h => h)⟩
        case measure => simp [intOf]; omega
    · have hie : i = 70 := by omega
      subst hie
      go_wp2_with fail
      refine (read_outU 70 HR.out.1 (by omega)).mono ?_
      rintro e w1 ⟨rfl, rfl⟩
      go_wp2_with fail
      refine (blocksU HR.out.1).mono ?_
      rintro e w2 ⟨rfl, rfl⟩
      have HQ : Hid (Chg (fun _ => False) w w2) := HR.out.2
      clear HR
      go_wp2
      go_ret
      exact ⟨rfl, HQ.out⟩
/-- The disk beneath a log. -/
theorem LogUp.dkUp {K : Nat} (h : LogUp X w0 w pd pl K f com pend N) : DkUp X w0 w pd K f false N := by
  obtain ⟨F, G, S, m, V, h1, h2, h3, h4, h5, h6, h7⟩ := h
  exact ⟨F, S, h1.dk, h2.lasts, h3, fun _ => h4, h5, ⟨h7.chg, h7.f, (fun _ h => h.elim), fun b hb => ⟨(h7.x b hb).1, (h7.x b hb).2.1, fun h => h⟩⟩⟩
/-- The beginning of a play. -/
theorem pl_new {w3 w4 : World} (h : LogUp X w0 w3 pd pl 70 (fun _ => zeros 512) (fun _ => none) 0 72) (hr : RfAt w4 pr rnew lb lc db dc 0 0 (.slice none 0 0)) (hc : Chg (fun _ => False) w3 w4) (h1 : w3.heap.size ≤ pr) (h2 : w3.heap.size ≤ lb) (h3 : w3.heap.size ≤ db) :
    Pl w0 (w4.alloc (.cells #[.pointer (some ⟨pl, 0, none⟩), .pointer none, .pointer (some ⟨pr, 0, none⟩)] 37)) pd w4.heap.size 0 := by
  obtain ⟨w5, hw5⟩ : ∃ w5, w4.alloc (.cells #[.pointer (some ⟨pl, 0, none⟩), .pointer none, .pointer (some ⟨pr, 0, none⟩)] 37) = w5 := ⟨_, rfl⟩
  have hc5 : Chg (fun _ => False) w4 w5 := by rw [← hw5]; exact Chg.alloc (fun _ => False) w4 _
  have hs5 : w5.heap.size = w4.heap.size + 1 := by rw [← hw5]; exact World.size_alloc _ _
  have hb : w5.heap[w4.heap.size]? = some (.cells #[.pointer (some ⟨pl, 0, none⟩), .pointer none, .pointer (some ⟨pr, 0, none⟩)] 37 (0, 0)) := by rw [← hw5]; exact heap_alloc_new w4 _
  rw [hw5]
  have l5 := (h.add hc).add hc5
  have h0 := h.chg.size
  have hz := hc.size
  have hop : rnew.op = false := by simp only [rnew]
  have bb : ∀ b, RfB pr lb db 0 rnew.op b → w3.heap.size ≤ b ∧ b < w4.heap.size := by
    rintro b (e | e | e | ⟨e, _⟩)
    · exact ⟨by omega, e ▸ hr.lt⟩
    · exact ⟨by omega, e ▸ hr.l.lt⟩
    · exact ⟨by omega, e ▸ hr.d.lt⟩
    · rw [hop] at e; cases e
  refine ⟨_, pl, .pointer none, pr, rnew, lb, lc, db, dc, 0, 0, .slice none 0 0, _, _, 0, false, (fun _ => none), 0, ⟨hb, hr.kept hc5 (fun h => h) (fun h => h) (fun h => h) (fun _ h => h), ⟨.inr ⟨Nat.le_refl _, by omega⟩, by omega⟩, fun b hb => ⟨.inl (.inr (bb b hb)), by have := (bb b hb).1; omega⟩, fun b hb => by have := (bb b hb).2; omega⟩, .inl ⟨rfl, rfl, l5.mono (by omega)⟩, ⟨fun n _ => by simp only [rnew]; rfl, fun n _ => by simp only [rnew]; rfl, by simp only [rnew], hop, (fun e => by cases e)⟩, by omega, by simp only [rnew]; omega⟩
end
end Go.Proofs.Ytepoaiaifclgnaa

namespace Go.Proofs.Ytepoaiaifclgnaa
open Go.RowKit Go.Maps
attribute [local go_sem ↓] Go.wp_at_zero Go.wp_at_succ

/-- What holds behind each operation may be said with less. -/
theorem wpAnyH_mono {P : Program} {md : Region.Mode} {ops : Array Oper} {Q : Exit → Act → World → Prop} {S S' : World → Prop} (hS : ∀ w, S' w → S w) : ∀ (fuel : Nat) (listed : Array Bool) (a : Act) (w : World), wpAnyH P md ops Q S' fuel listed a w → wpAnyH P md ops Q S fuel listed a w
  | 0, _, _, _, h => h
  | fuel + 1, _, _, _, h => ⟨h.1, fun i hi => wpOp_mono (fun a' w' h' => ⟨hS w' h'.1, wpAnyH_mono hS fuel _ a' w' h'.2⟩) (h.2 i hi)⟩

theorem play_round {w0 : World} {pd pp k b o : Nat} (d : ActD) (wr : World) (h : Pl w0 wr pd pp k) (hk : k < 1000) (ha : ActAt w0 b o d) (hl : d.bs.length ≤ 64) :
    Calls Try.prog 9 #[.pointer (some ⟨pp, 0, none⟩), .agg #[.int .i64 d.op, .int .i64 d.n, d.bv]] wr fun e w2 => e = .returned (.bool true) ∧ ∃ pl' pr' pend', w2.cell? ⟨pp, 0, none⟩ = some (.pointer (some ⟨pl', 0, none⟩)) ∧ w2.cell? ⟨pp, 2, none⟩ = some (.pointer (some ⟨pr', 0, none⟩)) ∧ w2.cell? ⟨pr', 2, none⟩ = some (.int .i64 ((pend' : Nat) : Int)) ∧
      (w2.cell? ⟨b, o, none⟩ = some (.int .i64 d.op) ∧ w2.cell? ⟨b, o + 1, none⟩ = some (.int .i64 d.n) ∧ w2.cell? ⟨b, o + 2, none⟩ = some d.bv) ∧
      Hid (Calls Try.prog 10 #[.pointer (some ⟨pl', 0, none⟩)] w2 fun e w' => e = .returned (.int .i64 ((pend' : Nat) : Int)) ∧ w' = w2) ∧ Hid (Pl w0 w2 pd pp (k + 1)) := by
  refine (pstep_any d wr h hk ha.bs hl ha.n0).mono ?_
  rintro e w2 ⟨rfl, h2⟩
  have hch := h2.chg
  have h2' := h2
  obtain ⟨X, pl, tv, pr, R, lb, lc, db, dc, nb, nc, nv, f, com, pend, live, own, wrote, p1, u1, c1, b1, b2⟩ := h2
  have hp := p1.rf.c2
  rw [c1.p] at hp
  exact ⟨rfl, pl, pr, pend, p1.c0, p1.c2, hp, ⟨hch.cell ha.op (fun h => h), hch.cell ha.n (fun h => h), hch.cell ha.bc (fun h => h)⟩, pendingU u1, h2'⟩

theorem neqL_some (a : Addr) (w : World) : (binOp .neq 29 (.pointer (some a)) (.pointer none)).run Try.prog w = .ok (.bool true) w := by kernel_rfl
theorem play_end {X : Nat → Prop} {w0 w7 : World} {p pp pl pr lb lc db dc nb nc : Nat} {tv nv : Value} {R : Rf} {fx : Nat → List Int} {com : Nat → Option (List Int)} {pend N : Nat} (h : PlAt X w0 w7 pp pl tv pr R lb lc db dc nb nc nv) (hl : LogUp X w0 w7 p pl 70 fx com pend N) (hL : ∀ n, n < 70 → R.L n = strOf (ovr fx com n)) (hN : N < 100000000) :
    Calls Try.prog 13 #[.pointer (some ⟨pl, 0, none⟩)] w7 fun e w8 => e = .returned (.int .i64 0) ∧
      Hid (Calls Try.prog 14 #[.pointer (some ⟨p, 0, none⟩)] w8 fun e w9 => ∃ y, e = .returned (.tuple #[.pointer (some ⟨y, 0, none⟩), .int .i64 0]) ∧ w9.cell? ⟨pp, 2, none⟩ = some (.pointer (some ⟨pr, 0, none⟩)) ∧ w9.cell? ⟨pr, 0, none⟩ = some (.slice (some ⟨lb, 0, none⟩) 70 lc) ∧
        Hid (Calls Try.prog 11 #[.pointer (some ⟨y, 0, none⟩), .slice (some ⟨lb, 0, none⟩) 70 lc] w9 fun e w10 => e = .returned (.bool true) ∧ Hid (Chg (fun _ => False) w0 w10))) := by
  refine (sync_up hl (by omega)).mono ?_
  rintro e w8 ⟨rfl, l8, s8⟩
  have p8 := h.sm s8
  refine ⟨rfl, ?_⟩
  refine Calls.mono (open_up (by omega) l8.dkUp (by omega)) ?_
  rintro e w9 ⟨y, rfl, l9, s9⟩
  have p9 := p8.sm s9
  refine ⟨y, rfl, p9.c2, p9.rf.c0, ?_⟩
  refine Calls.mono (all_true (.slice (some ⟨lb, 0, none⟩) 70 lc) R.L w9 l9 ⟨lb, 0, lc, rfl, p9.rf.lcc, fun n hn => by rw [Nat.zero_add]; exact p9.rf.l.cell hn⟩ (fun n hn => hL n hn) (by omega)) ?_
  rintro e w10 ⟨rfl, hc⟩
  exact ⟨rfl, l9.chg.trans hc (fun _ _ h => h)⟩

set_option maxHeartbeats 6400000 in
set_option maxRecDepth 100000 in
theorem law_plays_in (v : Value) (l : List ActD) (w : World) (h : Acts w v l) (hf : fewA l = true) :
    Calls Try.prog 3 #[v] w fun e w' => e = .returned (.bool true) ∧ Chg (fun _ => False) w w' := by
  obtain ⟨la, lc, rfl⟩ := h.form
  have HI : Hid (Acts w (.slice la l.length lc) l) := h
  have hlen : l.length ≤ 150 := by simp [fewA] at hf; omega
  have HF : Hid (fewA l = true ∧ ∀ d ∈ l, d.bs.length ≤ 64) := ⟨hf, fun d hd => by simp [fewA] at hf; have := hf.2 d hd; simpa [ActD.few] using this⟩
  clear h hf
  go_enter Try.func3, Try.ntmps3
  go_wp2_with fail
  refine (known_any w).mono ?_
  rintro e w1 ⟨rfl, hc⟩
  have HC : Hid (Chg (fun _ => False) w w1) := hc
  clear hc
  go_wp2_with fail
  refine (few_any _ l w1 (HI.out.kept HC.out)).mono ?_
  rintro e w2 ⟨rfl, rfl⟩
  rw [HF.out.1]
  go_wp2_with fail
  refine (new_ok 135 w2 (by decide) (by decide)).mono ?_
  rintro e w3 ⟨F, p, rfl, hd2, hc2, hF⟩
  have H2 : Hid (Dk w3 F p (St.new 135) ∧ Nw (fun b => b < w2.heap.size) w2 w3 F (fun _ => False)) := ⟨hd2, Nw.ofNew hc2 hF⟩
  clear hd2 hc2 hF
  go_wp2_with fail
  refine (format_up (N := 72) (K := 70) F (St.new 135) H2.out.1 H2.out.2 (fun _ => rfl) rfl (by decide) rfl (by decide) (by decide) (by decide)).mono ?_
  rintro e w4 ⟨pl, rfl, hg3, _⟩
  obtain ⟨X, hX⟩ : ∃ X, (fun b => b < w2.heap.size) = X := ⟨_, rfl⟩
  rw [hX] at hg3
  have H3 : Hid (LogUp X w2 w4 p pl 70 (fun _ => zeros 512) (fun _ => none) 0 72) := hg3
  clear hg3 H2 hX
  have hq := eqL_some ⟨pl, 0, none⟩
  go_wp2_with fail
  refine (rmake_any w4).mono ?_
  rintro e w5 ⟨pr0, rfl, lb0, lc0, db0, dc0, hr, hc, g1, g2, g3⟩
  have HP0 : Hid (Pl w2 (w5.alloc (.cells #[.pointer (some ⟨pl, 0, none⟩), .pointer none, .pointer (some ⟨pr0, 0, none⟩)] 37)) p w5.heap.size 0) := pl_new H3.out hr hc g1 g2 g3
  clear hr hc g1 g2 g3 H3
  go_wp2
  obtain ⟨pp, hpp⟩ : ∃ pp, w5.heap.size = pp := ⟨_, rfl⟩
  rw [hpp] at HP0 ⊢
  clear hpp
  go_loopw [8] (fun x wr => ∃ i, i ≤ l.length ∧ x = .int .i64 ((i : Nat) : Int) ∧ Hid (Pl w2 wr p pp i)) (fun x _ => l.length - (intOf x).toNat)
  case atStart => exact ⟨0, by omega, rfl, HP0⟩
  case round =>
    obtain ⟨i, hi, rfl, HR⟩ := hrel
    clear HP0
    by_cases hlt : i < l.length
    · have hki : (i : Int) < (l.length : Int) := by omega
      obtain ⟨b, off, rfl, hat⟩ := (HI.out.kept HC.out).at hlt
      have hl64 := HF.out.2 l[i] (List.getElem_mem hlt)
      obtain ⟨d, hd⟩ : ∃ d, l[i] = d := ⟨_, rfl⟩
      rw [hd] at hat hl64
      have hch := HR.out.chg
      have a0 := hch.cell hat.op (fun h => h)
      have a1 := hch.cell hat.n (fun h => h)
      have a2 := hch.cell hat.bc (fun h => h)
      have ST : Hid _ := play_round d wr.drew (HR.out.more (Chg.drew (fun _ => False) wr)) (by omega) hat hl64
      obtain ⟨ba, bc, hbv, _⟩ := hat.bs.form
      rw [hbv] at a2 ST
      obtain ⟨L1, hL1⟩ : ∃ L, d.bs.length = L := ⟨_, rfl⟩
      rw [hL1] at a2 ST
      obtain ⟨op, hop⟩ : ∃ x, d.op = x := ⟨_, rfl⟩
      obtain ⟨n, hn⟩ : ∃ x, d.n = x := ⟨_, rfl⟩
      rw [hop] at a0 ST
      rw [hn] at a1 ST
      clear hat hl64 hch hd hbv hL1 hop hn HR HF
      go_wp2_with fail
      refine wp_region_held_drew (S := fun w' => w'.cell? ⟨b, off + i * 3, none⟩ = some (.int .i64 op) ∧ w'.cell? ⟨b, off + i * 3 + 1, none⟩ = some (.int .i64 n) ∧ w'.cell? ⟨b, off + i * 3 + 2, none⟩ = some (.slice ba L1 bc)) (by kernel_rfl) ⟨a0, a1, a2⟩ (fun hHeld => ?_)
      refine wpAnyH_take (i := 0) (v := ?_) rfl (by kernel_rfl) (by kernel_rfl) (by kernel_rfl) (fun _ _ _ h => h) (Or.inl ⟨by rfl, ?_⟩) hHeld ?_
      rotate_left
      · (intro w hSw; (try dsimp only at hSw); go_simp; try with_reducible rfl)
      simp only [List.getElem_toArray, List.getElem_cons_zero, Act.put, List.setIfInBounds_toArray, List.set_cons_zero, List.set_cons_succ]
      refine wpAnyH_take (i := 1) (v := ?_) rfl (by kernel_rfl) (by kernel_rfl) (by kernel_rfl) (fun _ _ _ h => h) (Or.inl ⟨by rfl, ?_⟩) hHeld ?_
      rotate_left
      · (intro w hSw; (try dsimp only at hSw); go_simp; try with_reducible rfl)
      simp only [List.getElem_toArray, List.getElem_cons_succ, List.getElem_cons_zero, Act.put, List.setIfInBounds_toArray, List.set_cons_zero, List.set_cons_succ]
      refine wpAnyH_take (i := 2) (v := ?_) rfl (by kernel_rfl) (by kernel_rfl) (by kernel_rfl) (fun _ _ _ h => h) (Or.inl ⟨by rfl, ?_⟩) hHeld ?_
      rotate_left
      · (intro w hSw; (try dsimp only at hSw); go_simp; try with_reducible rfl)
      simp only [List.getElem_toArray, List.getElem_cons_succ, List.getElem_cons_zero, Act.put, List.setIfInBounds_toArray, List.set_cons_zero, List.set_cons_succ]
      refine wpAnyH_take (i := 3) (v := ?_) rfl (by kernel_rfl) (by kernel_rfl) (by kernel_rfl) (fun _ _ _ h => h) (Or.inl ⟨by rfl, ?_⟩) hHeld ?_
      rotate_left
      · (intro w hSw; (try dsimp only at hSw); go_simp; try with_reducible rfl)
      simp only [List.getElem_toArray, List.getElem_cons_succ, List.getElem_cons_zero, Act.put, List.setIfInBounds_toArray, List.set_cons_zero, List.set_cons_succ]
      refine wpAnyH_take (i := 4) (v := ?_) rfl (by kernel_rfl) (by kernel_rfl) (by kernel_rfl) (fun _ _ _ h => h) (Or.inl ⟨by rfl, ?_⟩) hHeld ?_
      rotate_left
      · (intro w hSw; (try dsimp only at hSw); go_simp; try with_reducible rfl)
      simp only [List.getElem_toArray, List.getElem_cons_succ, List.getElem_cons_zero, Act.put, List.setIfInBounds_toArray, List.set_cons_zero, List.set_cons_succ]
      refine wpAnyH_ready (rs := [5]) (by kernel_rfl) (by simp) ?_
      refine AllReadyH.cons rfl (fun K hK => ?_) AllReadyH.nil
      go_simp
      go_wp2_with (go_at_call 9; refine (show Calls _ _ _ _ _ from ST.out).mono ?_; clear ST; rintro e w6 ⟨rfl, pl', pr', pend', q0, q2, q3, b012, PE, HQ⟩)
      refine hK.out _ _ b012 (fun hHeld => ?_)
      clear hK K
      refine wpAnyH_take (i := 6) (v := ?_) rfl (by kernel_rfl) (by kernel_rfl) (by kernel_rfl) (fun _ _ _ h => h) (Or.inl ⟨by rfl, ?_⟩) hHeld ?_
      rotate_left
      · (intro w hSw; (try dsimp only at hSw); go_simp; try with_reducible rfl)
      simp only [List.getElem_toArray, List.getElem_cons_succ, List.getElem_cons_zero, Act.put, List.setIfInBounds_toArray, List.set_cons_zero, List.set_cons_succ]
      refine wpAnyH_take (i := 7) (v := ?_) rfl (by kernel_rfl) (by kernel_rfl) (by kernel_rfl) (fun _ _ _ h => h) (Or.inl ⟨by rfl, ?_⟩) hHeld ?_
      rotate_left
      · (intro w hSw; (try dsimp only at hSw); go_simp; try with_reducible rfl)
      simp only [List.getElem_toArray, List.getElem_cons_succ, List.getElem_cons_zero, Act.put, List.setIfInBounds_toArray, List.set_cons_zero, List.set_cons_succ]
      clear hHeld
      refine wpAnyH_mono (S' := (fun w' => (w'.cell? ⟨b, off + i * 3, none⟩ = some (.int .i64 op) ∧ w'.cell? ⟨b, off + i * 3 + 1, none⟩ = some (.int .i64 n) ∧ w'.cell? ⟨b, off + i * 3 + 2, none⟩ = some (.slice ba L1 bc)) ∧ w'.cell? ⟨pp, 0, none⟩ = some (.pointer (some ⟨pl', 0, none⟩)) ∧ w'.cell? ⟨pp, 2, none⟩ = some (.pointer (some ⟨pr', 0, none⟩)) ∧ w'.cell? ⟨pr', 2, none⟩ = some (.int .i64 ((pend' : Nat) : Int)))) (fun _ h => h.1) _ _ _ _ ?_
      have hHeld : (fun w' => (w'.cell? ⟨b, off + i * 3, none⟩ = some (.int .i64 op) ∧ w'.cell? ⟨b, off + i * 3 + 1, none⟩ = some (.int .i64 n) ∧ w'.cell? ⟨b, off + i * 3 + 2, none⟩ = some (.slice ba L1 bc)) ∧ w'.cell? ⟨pp, 0, none⟩ = some (.pointer (some ⟨pl', 0, none⟩)) ∧ w'.cell? ⟨pp, 2, none⟩ = some (.pointer (some ⟨pr', 0, none⟩)) ∧ w'.cell? ⟨pr', 2, none⟩ = some (.int .i64 ((pend' : Nat) : Int))) w6 := ⟨b012, q0, q2, q3⟩
      refine wpAnyH_take (i := 8) (v := ?_) rfl (by kernel_rfl) (by kernel_rfl) (by kernel_rfl) (fun _ _ _ h => h) (Or.inl ⟨by rfl, ?_⟩) hHeld ?_
      rotate_left
      · (intro w hSw; (try dsimp only at hSw); go_simp; try with_reducible rfl)
      simp only [List.getElem_toArray, List.getElem_cons_succ, List.getElem_cons_zero, Act.put, List.setIfInBounds_toArray, List.set_cons_zero, List.set_cons_succ]
      refine wpAnyH_take (i := 9) (v := ?_) rfl (by kernel_rfl) (by kernel_rfl) (by kernel_rfl) (fun _ _ _ h => h) (Or.inl ⟨by rfl, ?_⟩) hHeld ?_
      rotate_left
      · (intro w hSw; (try dsimp only at hSw); go_simp; try with_reducible rfl)
      simp only [List.getElem_toArray, List.getElem_cons_succ, List.getElem_cons_zero, Act.put, List.setIfInBounds_toArray, List.set_cons_zero, List.set_cons_succ]
      refine wpAnyH_take (i := 10) (v := ?_) rfl (by kernel_rfl) (by kernel_rfl) (by kernel_rfl) (fun _ _ _ h => h) (Or.inl ⟨by rfl, ?_⟩) hHeld ?_
      rotate_left
      · (intro w hSw; (try dsimp only at hSw); go_simp; try with_reducible rfl)
      simp only [List.getElem_toArray, List.getElem_cons_succ, List.getElem_cons_zero, Act.put, List.setIfInBounds_toArray, List.set_cons_zero, List.set_cons_succ]
      refine wpAnyH_take (i := 11) (v := ?_) rfl (by kernel_rfl) (by kernel_rfl) (by kernel_rfl) (fun _ _ _ h => h) (Or.inl ⟨by rfl, ?_⟩) hHeld ?_
      rotate_left
      · (intro w hSw; (try dsimp only at hSw); go_simp; try with_reducible rfl)
      simp only [List.getElem_toArray, List.getElem_cons_succ, List.getElem_cons_zero, Act.put, List.setIfInBounds_toArray, List.set_cons_zero, List.set_cons_succ]
      refine wpAnyH_take (i := 13) (v := ?_) rfl (by kernel_rfl) (by kernel_rfl) (by kernel_rfl) (fun _ _ _ h => h) (Or.inl ⟨by rfl, ?_⟩) hHeld ?_
      rotate_left
      · (intro w hSw; (try dsimp only at hSw); go_simp; try with_reducible rfl)
      simp only [List.getElem_toArray, List.getElem_cons_succ, List.getElem_cons_zero, Act.put, List.setIfInBounds_toArray, List.set_cons_zero, List.set_cons_succ]
      refine wpAnyH_take (i := 14) (v := ?_) rfl (by kernel_rfl) (by kernel_rfl) (by kernel_rfl) (fun _ _ _ h => h) (Or.inl ⟨by rfl, ?_⟩) hHeld ?_
      rotate_left
      · (intro w hSw; (try dsimp only at hSw); go_simp; try with_reducible rfl)
      simp only [List.getElem_toArray, List.getElem_cons_succ, List.getElem_cons_zero, Act.put, List.setIfInBounds_toArray, List.set_cons_zero, List.set_cons_succ]
      refine wpAnyH_take (i := 15) (v := ?_) rfl (by kernel_rfl) (by kernel_rfl) (by kernel_rfl) (fun _ _ _ h => h) (Or.inl ⟨by rfl, ?_⟩) hHeld ?_
      rotate_left
      · (intro w hSw; (try dsimp only at hSw); go_simp; try with_reducible rfl)
      simp only [List.getElem_toArray, List.getElem_cons_succ, List.getElem_cons_zero, Act.put, List.setIfInBounds_toArray, List.set_cons_zero, List.set_cons_succ]
      refine wpAnyH_take (i := 16) (v := ?_) rfl (by kernel_rfl) (by kernel_rfl) (by kernel_rfl) (fun _ _ _ h => h) (Or.inl ⟨by rfl, ?_⟩) hHeld ?_
      rotate_left
      · (intro w hSw; (try dsimp only at hSw); go_simp; try with_reducible rfl)
      simp only [List.getElem_toArray, List.getElem_cons_succ, List.getElem_cons_zero, Act.put, List.setIfInBounds_toArray, List.set_cons_zero, List.set_cons_succ]
      refine wpAnyH_take (i := 17) (v := ?_) rfl (by kernel_rfl) (by kernel_rfl) (by kernel_rfl) (fun _ _ _ h => h) (Or.inl ⟨by rfl, ?_⟩) hHeld ?_
      rotate_left
      · (intro w hSw; (try dsimp only at hSw); go_simp; try with_reducible rfl)
      simp only [List.getElem_toArray, List.getElem_cons_succ, List.getElem_cons_zero, Act.put, List.setIfInBounds_toArray, List.set_cons_zero, List.set_cons_succ]
      refine wpAnyH_take (i := 18) (v := ?_) rfl (by kernel_rfl) (by kernel_rfl) (by kernel_rfl) (fun _ _ _ h => h) (Or.inl ⟨by rfl, ?_⟩) hHeld ?_
      rotate_left
      · (intro w hSw; (try dsimp only at hSw); go_simp; try with_reducible rfl)
      simp only [List.getElem_toArray, List.getElem_cons_succ, List.getElem_cons_zero, Act.put, List.setIfInBounds_toArray, List.set_cons_zero, List.set_cons_succ]
      refine wpAnyH_take (i := 19) (v := ?_) rfl (by kernel_rfl) (by kernel_rfl) (by kernel_rfl) (fun _ _ _ h => h) (Or.inl ⟨by rfl, ?_⟩) hHeld ?_
      rotate_left
      · (intro w hSw; (try dsimp only at hSw); go_simp; try with_reducible rfl)
      simp only [List.getElem_toArray, List.getElem_cons_succ, List.getElem_cons_zero, Act.put, List.setIfInBounds_toArray, List.set_cons_zero, List.set_cons_succ]
      refine wpAnyH_ready (rs := [12]) (by kernel_rfl) (by simp) ?_
      refine AllReadyH.cons rfl (fun K hK => ?_) AllReadyH.nil
      go_simp
      go_wp2_with (go_at_call 10; refine (show Calls _ _ _ _ _ from PE.out).mono ?_; clear PE; rintro e w7 ⟨rfl, rfl⟩)
      refine hK.out _ _ ⟨b012, q0, q2, q3⟩ (fun hHeld => ?_)
      clear hK K
      refine wpAnyH_take (i := 20) (v := ?_) rfl (by kernel_rfl) (by kernel_rfl) (by kernel_rfl) (fun _ _ _ h => h) (Or.inl ⟨by rfl, ?_⟩) hHeld ?_
      rotate_left
      · (intro w hSw; (try dsimp only at hSw); go_simp; try with_reducible rfl)
      simp only [List.getElem_toArray, List.getElem_cons_succ, List.getElem_cons_zero, Act.put, List.setIfInBounds_toArray, List.set_cons_zero, List.set_cons_succ]
      refine wpAnyH_take (i := 21) (v := ?_) rfl (by kernel_rfl) (by kernel_rfl) (by kernel_rfl) (fun _ _ _ h => h) (Or.inl ⟨by rfl, ?_⟩) hHeld ?_
      rotate_left
      · (intro w hSw; (try dsimp only at hSw); go_simp; try with_reducible rfl)
      simp only [List.getElem_toArray, List.getElem_cons_succ, List.getElem_cons_zero, Act.put, List.setIfInBounds_toArray, List.set_cons_zero, List.set_cons_succ]
      refine wpAnyH_done (by kernel_rfl) ?_ _
      clear hHeld a0 a1 a2 b012 q0 q2 q3
      go_wp2
      go_roundw
      case rel => exact ⟨i + 1, by omega, by go_num, HQ⟩
      case measure => simp [intOf]; omega
    · have hie : i = l.length := by omega
      subst hie
      have hki : ¬ ((l.length : Int) < (l.length : Int)) := by omega
      obtain ⟨X1, pl1, tv, pr, R, lb, lbc, db, dc, nb, nc, nv, f, com, pend, live, own, wrote, p1, u1, c1, b1, b2⟩ := HR.out
      have htv := u1.form
      have d0 := p1.c0
      have d1 := p1.c1
      have d2 := p1.c2
      have e0 := p1.rf.c0
      have HK : Hid (PlAt X1 w2 wr pp pl1 tv pr R lb lbc db dc nb nc nv ∧ Up X1 w2 wr p pl1 tv f com pend live own wrote (1000 + 128 * l.length) ∧ Cor R f com pend live own wrote) := ⟨p1, u1, c1⟩
      clear HR p1 u1 c1 b1 b2 HF HI
      have AL : Hid (Calls Try.prog 11 #[.pointer (some ⟨pl1, 0, none⟩), .slice (some ⟨lb, 0, none⟩) 70 lbc] wr.drew fun e w6 => e = .returned (.bool true) ∧ (w6.cell? ⟨pp, 0, none⟩ = some (.pointer (some ⟨pl1, 0, none⟩)) ∧ w6.cell? ⟨pp, 2, none⟩ = some (.pointer (some ⟨pr, 0, none⟩)) ∧ w6.cell? ⟨pr, 0, none⟩ = some (.slice (some ⟨lb, 0, none⟩) 70 lbc)) ∧ w6.cell? ⟨pp, 1, none⟩ = some tv ∧ Hid (PlAt X1 w2 w6 pp pl1 tv pr R lb lbc db dc nb nc nv ∧ Up X1 w2 w6 p pl1 tv f com pend live own wrote (1000 + 128 * l.length) ∧ Cor R f com pend live own wrote)) := by
        obtain ⟨p1, u1, c1⟩ := HK.out
        have kd := Chg.drew (fun _ => False) wr
        have p1' := p1.kept kd
        refine (all_trueU (.slice (some ⟨lb, 0, none⟩) 70 lbc) R.L wr.drew (u1.more kd) ⟨lb, 0, lbc, rfl, p1'.rf.lcc, fun n hn => by rw [Nat.zero_add]; exact p1'.rf.l.cell hn⟩ (fun n hn => c1.l n hn) (by omega)).mono ?_
        rintro e w6 ⟨rfl, hc⟩
        have p6 := p1'.kept hc
        exact ⟨rfl, ⟨p6.c0, p6.c2, p6.rf.c0⟩, p6.c1, p6, (u1.more kd).more hc, c1⟩
      clear HK
      go_wp2_with fail
      go_region_held (fun w' => w'.cell? ⟨pp, 0, none⟩ = some (.pointer (some ⟨pl1, 0, none⟩)) ∧ w'.cell? ⟨pp, 2, none⟩ = some (.pointer (some ⟨pr, 0, none⟩)) ∧ w'.cell? ⟨pr, 0, none⟩ = some (.slice (some ⟨lb, 0, none⟩) 70 lbc))
        (first | assumption | exact ⟨d0, d2, e0⟩ | exact q6)
        (first | (go_at_call 11; refine AL.out.mono ?_; clear AL; rintro e w6 ⟨rfl, q6, q1, HK⟩))
      obtain ⟨q0, q2, q3⟩ := q6
      clear d0 d1 d2 e0
      have hqL : ∀ a : Addr, ∀ w, (binOp .neq 29 (.pointer (some a)) (.pointer none)).run Try.prog w = .ok (.bool true) w := fun a w => neqL_some a w
      rcases htv with rfl | ⟨q, rfl⟩
      · have hqn := neqT_nn
        have SY : Hid _ := play_end HK.out.1 (by
          rcases HK.out.2.1 with ⟨_, _, h⟩ | ⟨q', e, _⟩
          · exact h
          · cases e) HK.out.2.2.l (by omega)
        clear HK
        go_wp2_with fail
        refine (show Calls _ _ _ _ _ from SY.out).mono ?_
        rintro e w8 ⟨rfl, OP⟩
        clear SY q0 q1 q2 q3
        go_wp2_with fail
        refine (show Calls _ _ _ _ _ from OP.out).mono ?_
        rintro e w9 ⟨y, rfl, z2, z0, AL⟩
        clear OP
        have hqy := hqL ⟨y, 0, none⟩
        clear hqL
        go_wp2_with fail
        refine AL.out.mono ?_
        rintro e w10 ⟨rfl, HQ⟩
        clear AL
        go_wp2
        go_ret
        exact ⟨rfl, HC.out.trans HQ.out (fun _ _ h => h)⟩
      · have hqn := neqT_some ⟨q, 0, none⟩
        have AB : Hid (Calls Try.prog 12 #[.pointer (some ⟨q, 0, none⟩)] w6 fun e w7 => e = .returned (.tuple #[]) ∧ w7.cell? ⟨pp, 0, none⟩ = some (.pointer (some ⟨pl1, 0, none⟩)) ∧ Hid (PlAt X1 w2 w7 pp pl1 (.pointer (some ⟨q, 0, none⟩)) pr R lb lbc db dc nb nc nv ∧ LogUp X1 w2 w7 p pl1 70 f com pend (1000 + 128 * l.length) ∧ ∀ n, n < 70 → R.L n = strOf (ovr f com n))) := by
          obtain ⟨p6, u6, c6⟩ := HK.out
          have t6 : TxUp X1 w2 w6 p pl1 q 70 f com pend live own wrote (1000 + 128 * l.length) := by
            rcases u6 with ⟨e, _⟩ | ⟨q', e, t⟩
            · cases e
            · cases e; exact t
          cases live with
          | true =>
            refine (abort_up t6).mono ?_
            rintro e w7 ⟨rfl, t7, s7⟩
            exact ⟨rfl, (p6.sm s7).c0, p6.sm s7, t7.log, c6.l⟩
          | false =>
            refine (abort_dead_up t6).mono ?_
            rintro e w7 ⟨rfl, rfl⟩
            exact ⟨rfl, p6.c0, p6, t6.log, c6.l⟩
        clear HK
        go_wp2_with fail
        refine AB.out.mono ?_
        rintro e w7 ⟨rfl, r0, HK⟩
        clear AB q0 q1 q2 q3
        have SY : Hid _ := play_end HK.out.1 HK.out.2.1 HK.out.2.2 (by omega)
        clear HK
        go_wp2_with fail
        refine (show Calls _ _ _ _ _ from SY.out).mono ?_
        rintro e w8 ⟨rfl, OP⟩
        clear SY r0
        go_wp2_with fail
        refine (show Calls _ _ _ _ _ from OP.out).mono ?_
        rintro e w9 ⟨y, rfl, z2, z0, AL⟩
        clear OP
        have hqy := hqL ⟨y, 0, none⟩
        clear hqL
        go_wp2_with fail
        refine AL.out.mono ?_
        rintro e w10 ⟨rfl, HQ⟩
        clear AL
        go_wp2
        go_ret
        exact ⟨rfl, HC.out.trans HQ.out (fun _ _ h => h)⟩

theorem law_plays (v : Value) (l : List ActD) (w : World) (h : Acts w v l) :
    Calls Try.prog 3 #[v] w fun e w' => e = .returned (.bool true) ∧ Chg (fun _ => False) w w' := by
  cases hf : fewA l with
  | true => exact law_plays_in v l w h hf
  | false =>
    have HI : Hid (Acts w v l) := h
    clear h
    go_enter Try.func3, Try.ntmps3
    go_wp2_with fail
    refine (known_any w).mono ?_
    rintro e w1 ⟨rfl, hc⟩
    have HC : Hid (Chg (fun _ => False) w w1) := hc
    clear hc
    go_wp2_with fail
    refine (few_any v l w1 (HI.out.kept HC.out)).mono ?_
    rintro e w2 ⟨rfl, rfl⟩
    rw [hf]
    go_wp2
    go_ret
    exact ⟨rfl, HC.out⟩
end Go.Proofs.Ytepoaiaifclgnaa

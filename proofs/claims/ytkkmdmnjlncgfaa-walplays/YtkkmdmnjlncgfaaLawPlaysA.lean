/-
  A play: each act; its beginning; all of a log that has a transaction.
-/
import Derived.Test.YtkkmdmnjlncgfaaPlay10
import Derived.Test.YtkkmdmnjlncgfaaActs
namespace Go.Proofs.Ytkkmdmnjlncgfaa
open Go.RowKit Go.Maps

section
variable {X : Nat → Prop} {w0 w w' : World} {pd pp pl q pr g : Nat} {tv : Value} {R : Rf} {lb lc db dc nb nc : Nat} {nv : Value} {f f' : Nat → List Int} {com own com' : Nat → Option (List Int)} {pend wrote N k : Nat} {live : Bool}
theorem pstep_any (d : ActD) (w : World) (h : Pl w0 w pd pp k) (hk : k < 1000) (hb : Bs w0 d.bv d.bs) (hl : d.bs.length ≤ 64) (hw : -9223372036854775808 ≤ d.n ∧ d.n ≤ 9223372036854775807) :
    Calls Try.prog 13 #[.pointer (some ⟨pp, 0, none⟩), .agg #[.int .i64 d.op, .int .i64 d.n, d.bv]] w fun e w' => e = .returned (.bool true) ∧ Pl w0 w' pd pp (k + 1) := by
  obtain ⟨op, n, bv, bs⟩ := d
  show Calls Try.prog 13 #[.pointer (some ⟨pp, 0, none⟩), .agg #[.int .i64 op, .int .i64 n, bv]] w fun e w' => e = .returned (.bool true) ∧ Pl w0 w' pd pp (k + 1)
  by_cases h1 : op = 1
  · subst h1; exact pstep_begin n bv w h
  by_cases h2 : op = 2
  · subst h2; exact pstep_write2 n bv bs w h hb hl
  by_cases h8 : op = 8
  · subst h8; exact pstep_write8 n bv bs w h hb hl
  by_cases h3 : op = 3
  · subst h3; exact pstep_commit n bv w h hk
  by_cases h4 : op = 4
  · subst h4; exact pstep_abort n bv w h
  by_cases h5 : op = 5
  · subst h5; exact pstep_sync n bv w h hk
  by_cases h6 : op = 6
  · subst h6; exact pstep_read n bv w h hk
  by_cases h7 : op = 7
  · subst h7; exact pstep_tread n bv w h hk hw
  refine (pstep_other op n bv w h1 h2 h8 h3 h4 h5 h6 h7).mono ?_
  rintro e w' ⟨rfl, hc⟩
  exact ⟨rfl, (h.more hc).up (by omega)⟩
theorem blocksU (h : Up X w0 w pd pl tv f com pend live own wrote N) : Calls Try.prog 33 #[.pointer (some ⟨pl, 0, none⟩)] w fun e w' => e = .returned (.int .i64 70) ∧ w' = w := by
  rcases h with ⟨_, _, h⟩ | ⟨q, _, F, G, S, m, V, mt, Vt, h1, _⟩
  · refine (blocks_up h).mono ?_
    rintro e w' ⟨rfl, rfl⟩
    exact ⟨rfl, rfl⟩
  · refine (lblocks_any w h1.lk).mono ?_
    rintro e w' ⟨rfl, rfl⟩
    exact ⟨rfl, rfl⟩
theorem pendingU (h : Up X w0 w pd pl tv f com pend live own wrote N) : Calls Try.prog 14 #[.pointer (some ⟨pl, 0, none⟩)] w fun e w' => e = .returned (.int .i64 (pend : Int)) ∧ w' = w := by
  rcases h with ⟨_, _, h⟩ | ⟨q, _, h⟩
  · exact pending_up h
  · exact pendingT h
set_option maxHeartbeats 3200000 in
set_option maxRecDepth 100000 in
theorem all_trueU (v : Value) (T : Nat → ByteArray) (w : World) (h : Up X w0 w pd pl tv f com pend live own wrote N) (hs : Ss w v T 70) (ht : ∀ n, n < 70 → T n = strOf (ovr f com n)) (hN : N < 1000000000) :
    Calls Try.prog 15 #[.pointer (some ⟨pl, 0, none⟩), v] w fun e w' => e = .returned (.bool true) ∧ Chg (fun _ => False) w w' := by
  obtain ⟨g, o, c, rfl, hc, hcell⟩ := hs
  have H0 : Hid (Up X w0 w pd pl tv f com pend live own wrote N ∧ (∀ n, n < 70 → w.cell? ⟨g, o + n, none⟩ = some (.string (T n))) ∧ (∀ n, n < 70 → T n = strOf (ovr f com n))) := ⟨h, hcell, ht⟩
  clear h hcell ht
  go_enter Try.func15, Try.ntmps15
  go_wp2
  go_loopw [5, 6, 7] (fun x _ _ wr => ∃ i, i ≤ 70 ∧ x = .int .i64 ((i : Nat) : Int) ∧ Hid (Up X w0 wr pd pl tv f com pend live own wrote N ∧ Chg (fun _ => False) w wr)) (fun x _ _ _ => 70 - (intOf x).toNat)
  case atStart => exact ⟨0, by omega, rfl, H0.out.1, Chg.refl _ _⟩
  case round =>
    obtain ⟨i, hi, rfl, HR⟩ := hrel
    by_cases hlt : i < 70
    · have hki : (i : Int) < (70 : Int) := by omega
      have hkn : i < 70 := hlt
      go_wp2_with fail
      refine (readU i HR.out.1 hlt hN).mono ?_
      rintro e w1 ⟨u, rfl, fr⟩
      have hch : Chg (fun _ => False) w w1 := HR.out.2.trans fr.chg (fun _ _ h => h)
      have cl := hch.cell (H0.out.2.1 i hlt) (fun h => h)
      have H1 : Hid (Up X w0 w1 pd pl tv f com pend live own wrote N ∧ Chg (fun _ => False) w w1) := ⟨HR.out.1.more fr.chg, hch⟩
      rw [H0.out.2.2 i hlt] at cl
      have s1 := run_str (fr.bs.kept (Chg.drew (fun _ => False) w1) (fun _ _ _ _ _ h => h))
      have s0 := run_str fr.bs
      obtain ⟨t, ht⟩ : ∃ t, strOf (ovr f com i) = t := ⟨_, rfl⟩
      rw [ht] at cl s1 s0
      have hse := str_same t
      clear ht fr hch HR
      go_wp2_with fail
      go_region_held (fun w' => (convert 39 9 u).run Try.prog w' = .ok (.string t) w' ∧ w'.cell? ⟨g, o + i, none⟩ = some (.string t))
        (first | assumption | exact ⟨s1, cl⟩ | exact ⟨s0, cl⟩)
        (fail)
      all_goals
        clear s1 s0 cl
        go_wp2
        go_roundw
        case rel => exact ⟨i + 1, by omega, by go_num, H1.out.1.more (Chg.drew (fun _ => False) w1), H1.out.2.trans (Chg.drew (fun _ => False) w1) (fun _ _ h => h)⟩
        case measure => simp [intOf]; omega
    · have hie : i = 70 := by omega
      subst hie
      go_wp2_with fail
      refine (read_outU 70 HR.out.1 (by omega)).mono ?_
      rintro e w1 ⟨rfl, rfl⟩
      go_wp2_with fail
      refine (blocksU HR.out.1).mono ?_
      rintro e w2 ⟨rfl, rfl⟩
      have HQ : Hid (Chg (fun _ => False) w w2) := HR.out.2
      clear HR
      go_wp2
      go_ret
      exact ⟨rfl, HQ.out⟩
/-- The disk beneath a log. -/
theorem LogUp.dkUp {K : Nat} (h : LogUp X w0 w pd pl K f com pend N) : DkUp X w0 w pd K f false N := by
  obtain ⟨F, G, S, m, V, h1, h2, h3, h4, h5, h6, h7⟩ := h
  exact ⟨F, S, h1.dk, h2.lasts, h3, fun _ => h4, h5, ⟨h7.chg, h7.f, (fun _ h => h.elim), fun b hb => ⟨(h7.x b hb).1, (h7.x b hb).2.1, fun h => h⟩⟩⟩
/-- The beginning of a play. -/
theorem pl_new {w3 w4 : World} (h : LogUp X w0 w3 pd pl 70 (fun _ => zeros 512) (fun _ => none) 0 72) (hr : RfAt w4 pr rnew lb lc db dc 0 0 (.slice none 0 0)) (hc : Chg (fun _ => False) w3 w4) (h1 : w3.heap.size ≤ pr) (h2 : w3.heap.size ≤ lb) (h3 : w3.heap.size ≤ db) :
    Pl w0 (w4.alloc (.cells #[.pointer (some ⟨pl, 0, none⟩), .pointer none, .pointer (some ⟨pr, 0, none⟩)] 37)) pd w4.heap.size 0 := by
  obtain ⟨w5, hw5⟩ : ∃ w5, w4.alloc (.cells #[.pointer (some ⟨pl, 0, none⟩), .pointer none, .pointer (some ⟨pr, 0, none⟩)] 37) = w5 := ⟨_, rfl⟩
  have hc5 : Chg (fun _ => False) w4 w5 := by rw [← hw5]; exact Chg.alloc (fun _ => False) w4 _
  have hs5 : w5.heap.size = w4.heap.size + 1 := by rw [← hw5]; exact World.size_alloc _ _
  have hb : w5.heap[w4.heap.size]? = some (.cells #[.pointer (some ⟨pl, 0, none⟩), .pointer none, .pointer (some ⟨pr, 0, none⟩)] 37 (0, 0)) := by rw [← hw5]; exact heap_alloc_new w4 _
  rw [hw5]
  have l5 := (h.add hc).add hc5
  have h0 := h.chg.size
  have hz := hc.size
  have hop : rnew.op = false := by simp only [rnew]
  have bb : ∀ b, RfB pr lb db 0 rnew.op b → w3.heap.size ≤ b ∧ b < w4.heap.size := by
    rintro b (e | e | e | ⟨e, _⟩)
    · exact ⟨by omega, e ▸ hr.lt⟩
    · exact ⟨by omega, e ▸ hr.l.lt⟩
    · exact ⟨by omega, e ▸ hr.d.lt⟩
    · rw [hop] at e; cases e
  refine ⟨_, pl, .pointer none, pr, rnew, lb, lc, db, dc, 0, 0, .slice none 0 0, _, _, 0, false, (fun _ => none), 0, ⟨hb, hr.kept hc5 (fun h => h) (fun h => h) (fun h => h) (fun _ h => h), ⟨.inr ⟨Nat.le_refl _, by omega⟩, by omega⟩, fun b hb => ⟨.inl (.inr (bb b hb)), by have := (bb b hb).1; omega⟩, fun b hb => by have := (bb b hb).2; omega⟩, .inl ⟨rfl, rfl, l5.mono (by omega)⟩, ⟨fun n _ => by simp only [rnew]; rfl, fun n _ => by simp only [rnew]; rfl, by simp only [rnew], hop, (fun e => by cases e)⟩, by omega, by simp only [rnew]; omega⟩
end
end Go.Proofs.Ytkkmdmnjlncgfaa

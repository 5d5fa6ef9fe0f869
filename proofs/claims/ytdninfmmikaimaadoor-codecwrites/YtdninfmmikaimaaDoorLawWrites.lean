/-
  CodecWrites answers true for every argument, in every world that holds codec's table; nothing that was there has changed.
-/
import Derived.Test.YtdninfmmikaimaaDoorRefWriter
import Derived.Deep.RegionWith
namespace Go.Proofs.YtdninfmmikaimaaDoor
open Go.RowKit
attribute [local go_sem ↓] Go.wp_at_zero Go.wp_at_succ

theorem WrT.kept {S : Nat → Prop} {T : TypeId} {N p : Nat} {w w' : World} {v : Value} {xs : List Int} (h : WrT T N w p v xs) (hc : Chg S w w') (hp : ¬ S p) (hv : ∀ k, v.ownBlock = some k → ¬ S k) : WrT T N w' p v xs := by
  refine ⟨h.le, (hc.block p h.lt hp).trans h.blk, ?_, h.ne⟩
  have ho := h.own
  refine ⟨ho.1, ?_⟩
  rcases ho.2 with hn | ⟨g, cap, cur, rfl, hb, hgg, rest⟩
  · exact .inl hn
  · refine .inr ⟨g, cap, cur, rfl, hb, ?_, rest⟩
    rw [hc.block g (Array.getElem?_eq_some_iff.1 hgg).1 (hv g rfl)]
    exact hgg

/-- Two writers, codec's and the reference's, that share no block. -/
structure Two (N : Nat) (w : World) (p q : Nat) (v u : Value) (L M : List Int) : Prop where
  a : WrT 64 N w p v L
  b : WrT 30 N w q u M
  pq : p ≠ q
  vq : v.ownBlock ≠ some q
  up : u.ownBlock ≠ some p
  vu : ∀ k, v.ownBlock = some k → u.ownBlock ≠ some k

theorem Two.left {N p q : Nat} {w w' : World} {v u v' : Value} {L M L' : List Int} (h : Two N w p q v u L M) (t : WrToT 64 N p w v w' v' L') : Two N w' p q v' u L' M := by
  refine ⟨t.wr, h.b.kept t.chg ?_ ?_, h.pq, ?_, h.up, ?_⟩
  · rintro (e | e)
    · exact h.pq e.symm
    · exact h.vq e
  · rintro k hk (e | e)
    · exact h.up (e ▸ hk)
    · exact h.vu k e hk
  · rcases t.at' with e | e
    · rw [e]; exact h.vq
    · intro hk; have := e q hk; have := h.b.lt; omega
  · intro k hk
    rcases t.at' with e | e
    · exact h.vu k (e ▸ hk)
    · intro hu; have := e k hk; have := (h.b.own.lt k hu).2; omega
theorem Two.right {N p q : Nat} {w w' : World} {v u u' : Value} {L M M' : List Int} (h : Two N w p q v u L M) (t : WrToT 30 N q w u w' u' M') : Two N w' p q v u' L M' := by
  refine ⟨h.a.kept t.chg ?_ ?_, t.wr, h.pq, h.vq, ?_, ?_⟩
  · rintro (e | e)
    · exact h.pq e
    · exact h.up e
  · rintro k hk (e | e)
    · exact h.vq (e ▸ hk)
    · exact h.vu k hk e
  · rcases t.at' with e | e
    · rw [e]; exact h.up
    · intro hk; have := e p hk; have := h.a.lt; omega
  · intro k hk
    rcases t.at' with e | e
    · rw [e]; exact h.vu k hk
    · intro hu; have := e k hu; have := (h.a.own.lt k hk).2; omega
theorem Two.keep {N p q : Nat} {w w' : World} {v u : Value} {L M : List Int} (h : Two N w p q v u L M) (hc : Chg (fun _ => False) w w') : Two N w' p q v u L M :=
  ⟨h.a.kept hc (fun h => h) (fun _ _ h => h), h.b.kept hc (fun h => h) (fun _ _ h => h), h.pq, h.vq, h.up, h.vu⟩

/-- A put, copied into a block of its own. -/
def PB (w : World) (r : Nat) (kd n : Int) (bv : Value) : Prop := w.heap[r]? = some (.cells #[.int .i64 kd, .int .i64 n, bv] 32 (0, 0))
theorem PB.cells {w : World} {r : Nat} {kd n : Int} {bv : Value} (h : PB w r kd n bv) : w.cell? ⟨r, 0, none⟩ = some (.int .i64 kd) ∧ w.cell? ⟨r, 1, none⟩ = some (.int .i64 n) ∧ w.cell? ⟨r, 2, none⟩ = some bv := by
  refine ⟨?_, ?_, ?_⟩ <;> rw [cell_of_row w r _ _ _ _ h] <;> rfl
theorem PB.step {T : TypeId} {N p r : Nat} {w w' : World} {v v' : Value} {kd n : Int} {bv : Value} {L L' : List Int} (h : PB w r kd n bv) (t : WrToT T N p w v w' v' L') (_hw : WrT T N w p v L) (hr : p ≠ r) (hv : v.ownBlock ≠ some r) : PB w' r kd n bv := by
  have hlt : r < w.heap.size := (Array.getElem?_eq_some_iff.1 h).1
  exact (t.chg.block r hlt (by rintro (e | e); exact hr e.symm; exact hv e)).trans h

/-- What came in lies apart from a writer of the call's own. -/
theorem apart_old {T : TypeId} {N p : Nat} {w w0 : World} {v b : Value} {xs bs : List Int} (h : WrT T N w p v xs) (hb : Bs w0 b bs) (h0 : w0.heap.size ≤ N) : Apart b v p := by
  intro a n c e hn
  rcases hb with ⟨h2, _⟩ | ⟨a2, c2, h2, _, _, hc⟩
  · rw [h2] at e; cases e
  · rw [h2] at e; cases e
    have hlt := World.block_lt_of_cell? w0 _ (hc 0 hn)
    rw [add_block] at hlt
    refine ⟨fun e => ?_, fun e => ?_⟩
    · have := h.le; omega
    · have := (h.own.lt _ e).1; omega

/-- What the round's end wants behind Done. -/
theorem tail_facts {N p q : Nat} {w0 w5 w6 : World} {v4 u5 x : Value} {M : List Int} (t : Two N w5 p q v4 u5 M M) (B : Below N w0 w5) (h6 : Fresh N w5.drew w6 x M) :
    Two N w6 p q v4 u5 M M ∧ Below N w0 w6 ∧ w6.cell? ⟨q, 0, none⟩ = some u5 ∧ (convert 28 9 u5).run Tryd.prog w6 = .ok (.string (strOf M)) w6 ∧ (convert 28 9 x).run Tryd.prog w6 = .ok (.string (strOf M)) w6 := by
  have hc : Chg (fun _ => False) w5 w6 := (Chg.drew _ w5).trans h6.2.1 (fun _ _ h => h)
  have t6 := t.keep hc
  exact ⟨t6, B.trans (hc.below t.a.N (fun _ h => h.elim)), t6.b.cell, run_str (Bs.ofOwns t6.b.own), run_str (Bs.ofOwns h6.1)⟩

set_option maxHeartbeats 4000000 in
set_option maxRecDepth 100000 in
theorem law_writes (v : Value) (l : List PutD) (w : World) (hT : Tab w) (hl : Puts w v l) :
    Calls Tryd.prog 3 #[v] w fun e w' => e = .returned (.bool true) ∧ Below w.heap.size w w' := by
  obtain ⟨al, cl, rfl⟩ := hl.form
  go_enter Tryd.func3, Tryd.ntmps3
  go_wp2_with fail
  refine (known_any w hT).mono ?_
  rintro e w1 ⟨rfl, B1⟩
  have hl1 : Puts w1 (.slice al l.length cl) l := hl.under B1
  go_wp2_with fail
  refine (few_any _ l _ hl1).mono ?_
  rintro e w1' ⟨hfew, rfl⟩
  rcases hfew with rfl | ⟨rfl, hok⟩
  · go_wp2
    go_ret
    exact ⟨rfl, B1⟩
  go_wp2_with fail
  refine (newWriter_any w.heap.size w1' B1.size).mono ?_
  rintro e w2 ⟨rfl, a2, hw2⟩
  have B2 : Below w.heap.size w w2 := by rw [hw2]; exact B1.alloc B1.size _
  have z2 : w1'.heap.size < w2.heap.size := a2.lt
  clear hw2
  have t3 : Two w.heap.size (w2.alloc (.cells #[.slice none 0 0] 30)) w1'.heap.size w2.heap.size (.slice none 0 0) (.slice none 0 0) [] [] := by
    refine ⟨a2.kept (Chg.alloc (fun _ => False) _ _) (fun h => h) (fun _ _ h => h), ⟨B2.size, heap_alloc_new w2 _, World.ownsRow_nil _ _ _ _, by simp [Value.ownBlock]⟩, by omega, by simp [Value.ownBlock], by simp [Value.ownBlock], fun k hk => by cases hk⟩
  have B3 : Below w.heap.size w (w2.alloc (.cells #[.slice none 0 0] 30)) := B2.alloc B2.size _
  generalize w1'.heap.size = p at *
  go_wp2_with fail
  clear a2 z2 B2
  go_loopw [5] (fun i wr => ∃ (k : Nat) (v u : Value) (L : List Int), k ≤ l.length ∧ i = .int .i64 k ∧ Two w.heap.size wr p w2.heap.size v u L L ∧ Below w.heap.size w wr ∧ L.length ≤ 4100 * k) (fun i _ => l.length - (intOf i).toNat)
  case atStart => exact ⟨0, _, _, [], Nat.zero_le _, rfl, t3, B3, by simp⟩
  case round =>
    obtain ⟨k, v, u, L, hk, rfl, tr, Br, hL⟩ := hrel
    by_cases hlt : k < l.length
    · obtain ⟨b, off, ⟨kd, n, bv, bs⟩, hd, rfl, hb, c0, c1, c2, hbs, hB⟩ := (hl.under Br).at hlt
      have ho := hok.2 k _ hd
      have hk300 := hok.1
      simp only at c0 c1 c2 hbs hB
      have hbs0 : ∃ w0 : World, w0.heap.size ≤ w.heap.size ∧ Bs w0 bv bs := by
        obtain ⟨_, _, ⟨kd', n', bv', bs'⟩, hd', _, _, _, _, _, hbs', _⟩ := hl.at hlt
        rw [hd] at hd'; cases hd'
        exact ⟨w, Nat.le_refl _, hbs'⟩
      obtain ⟨ab, cb, rfl, hcb⟩ := hbs.form
      have g1 : (k : Int) < (l.length : Int) := by omega
      clear hd hl hl1 t3 B3 B1 hT
      obtain ⟨w0, hz0, hbs0'⟩ := hbs0
      have tA := tr.keep (Chg.alloc (fun _ => False) wr (.cells #[.int .i64 kd, .int .i64 n, .slice ab bs.length cb] 32))
      have BA := Br.alloc Br.size (.cells #[.int .i64 kd, .int .i64 n, .slice ab bs.length cb] 32)
      have pA : PB (wr.alloc (.cells #[.int .i64 kd, .int .i64 n, .slice ab bs.length cb] 32)) wr.heap.size kd n (.slice ab bs.length cb) := heap_alloc_new wr _
      have hbA : Bs (wr.alloc (.cells #[.int .i64 kd, .int .i64 n, .slice ab bs.length cb] 32)) (.slice ab bs.length cb) bs := hbs.kept (Chg.alloc (fun _ => False) wr _) (fun _ _ _ _ _ h => h)
      have hpr : p ≠ wr.heap.size := by have := tr.a.lt; omega
      have hvr : v.ownBlock ≠ some wr.heap.size := by intro h; have := (tr.a.own.lt _ h).2; omega
      clear hbs tr Br hok
      by_cases q1 : kd = 1
      · skip
        subst q1
        go_wp2_with fail
        refine (u8_any w.heap.size p n v L _ tA.a (by omega)).mono ?_
        rintro e w4 ⟨rfl, v4, h4⟩
        have t4 := tA.left h4
        have B4 := BA.trans (h4.belowW tA.a)
        obtain ⟨d0, d1, d2⟩ := (pA.step h4 tA.a hpr hvr).cells
        have hb4 := h4.bs hbA (apart_old tA.a hbs0' hz0)
        go_wp2_with fail
        refine (refNumber_any w.heap.size _ n 1 u L _ t4.b (by omega) (by omega)).mono ?_
        rintro e w5 ⟨rfl, u5, h5⟩
        have t5 := t4.right h5
        have B5 := B4.trans (h5.belowW t4.b)
        clear t4 B4 d0 d1 d2 h4 h5 tA BA pA hbA hb4
        have hM : (L ++ leTo n 1).length ≤ 4100 * (k + 1) := by simp [leTo_len]; omega
        generalize (L ++ leTo n 1) = M at *
        have cQ := t5.b.cell
        have sQ : (convert 28 9 u5).run Tryd.prog w5.drew = .ok (.string (strOf M)) w5.drew := run_str (Bs.ofOwns (w := w5.drew) t5.b.own)
        go_wp2_with fail
        go_region_with ((go_at_call 20; refine (done_any w.heap.size p v4 M _ (WrToT.drew t5.a).wr (by omega)).mono ?_; rintro e w6 ⟨x, rfl, h6⟩; obtain ⟨t6, B6, c6, s6, s7⟩ := tail_facts t5 B5 h6))
        all_goals
          go_wp2
          go_roundw
          case rel => exact ⟨k + 1, v4, u5, M, by omega, by go_num, t6, B6, hM⟩
          case measure => simp [intOf]; omega
      by_cases q2 : kd = 2
      · skip
        subst q2
        go_wp2_with fail
        refine (u16_any w.heap.size p n v L _ tA.a (by omega)).mono ?_
        rintro e w4 ⟨rfl, v4, h4⟩
        have t4 := tA.left h4
        have B4 := BA.trans (h4.belowW tA.a)
        obtain ⟨d0, d1, d2⟩ := (pA.step h4 tA.a hpr hvr).cells
        have hb4 := h4.bs hbA (apart_old tA.a hbs0' hz0)
        go_wp2_with fail
        refine (refNumber_any w.heap.size _ n 2 u L _ t4.b (by omega) (by omega)).mono ?_
        rintro e w5 ⟨rfl, u5, h5⟩
        have t5 := t4.right h5
        have B5 := B4.trans (h5.belowW t4.b)
        clear t4 B4 d0 d1 d2 h4 h5 tA BA pA hbA hb4
        have hM : (L ++ leTo n 2).length ≤ 4100 * (k + 1) := by simp [leTo_len]; omega
        generalize (L ++ leTo n 2) = M at *
        have cQ := t5.b.cell
        have sQ : (convert 28 9 u5).run Tryd.prog w5.drew = .ok (.string (strOf M)) w5.drew := run_str (Bs.ofOwns (w := w5.drew) t5.b.own)
        go_wp2_with fail
        go_region_with ((go_at_call 20; refine (done_any w.heap.size p v4 M _ (WrToT.drew t5.a).wr (by omega)).mono ?_; rintro e w6 ⟨x, rfl, h6⟩; obtain ⟨t6, B6, c6, s6, s7⟩ := tail_facts t5 B5 h6))
        all_goals
          go_wp2
          go_roundw
          case rel => exact ⟨k + 1, v4, u5, M, by omega, by go_num, t6, B6, hM⟩
          case measure => simp [intOf]; omega
      by_cases q3 : kd = 3
      · skip
        subst q3
        go_wp2_with fail
        refine (u32_any w.heap.size p n v L _ tA.a (by omega)).mono ?_
        rintro e w4 ⟨rfl, v4, h4⟩
        have t4 := tA.left h4
        have B4 := BA.trans (h4.belowW tA.a)
        obtain ⟨d0, d1, d2⟩ := (pA.step h4 tA.a hpr hvr).cells
        have hb4 := h4.bs hbA (apart_old tA.a hbs0' hz0)
        go_wp2_with fail
        refine (refNumber_any w.heap.size _ n 4 u L _ t4.b (by omega) (by omega)).mono ?_
        rintro e w5 ⟨rfl, u5, h5⟩
        have t5 := t4.right h5
        have B5 := B4.trans (h5.belowW t4.b)
        clear t4 B4 d0 d1 d2 h4 h5 tA BA pA hbA hb4
        have hM : (L ++ leTo n 4).length ≤ 4100 * (k + 1) := by simp [leTo_len]; omega
        generalize (L ++ leTo n 4) = M at *
        have cQ := t5.b.cell
        have sQ : (convert 28 9 u5).run Tryd.prog w5.drew = .ok (.string (strOf M)) w5.drew := run_str (Bs.ofOwns (w := w5.drew) t5.b.own)
        go_wp2_with fail
        go_region_with ((go_at_call 20; refine (done_any w.heap.size p v4 M _ (WrToT.drew t5.a).wr (by omega)).mono ?_; rintro e w6 ⟨x, rfl, h6⟩; obtain ⟨t6, B6, c6, s6, s7⟩ := tail_facts t5 B5 h6))
        all_goals
          go_wp2
          go_roundw
          case rel => exact ⟨k + 1, v4, u5, M, by omega, by go_num, t6, B6, hM⟩
          case measure => simp [intOf]; omega
      by_cases q4 : kd = 4
      · skip
        subst q4
        have hn4 : n ≤ 4096 := ho.2 rfl
        go_wp2_with fail
        refine (fixed_any w.heap.size p v _ n L bs _ tA.a hbA (by omega)).mono ?_
        rintro e w4 ⟨rfl, v4, h4⟩
        have t4 := tA.left h4
        have B4 := BA.trans (h4.belowW tA.a)
        obtain ⟨d0, d1, d2⟩ := (pA.step h4 tA.a hpr hvr).cells
        have hb4 := h4.bs hbA (apart_old tA.a hbs0' hz0)
        go_wp2_with fail
        refine (refFixed_any w.heap.size _ u _ n L bs _ t4.b hb4 (apart_old t4.b hbs0' hz0) (by omega) (by omega)).mono ?_
        rintro e w5 ⟨rfl, u5, h5⟩
        have t5 := t4.right h5
        have B5 := B4.trans (h5.belowW t4.b)
        clear t4 B4 d0 d1 d2 h4 h5 tA BA pA hbA hb4
        have hM : (L ++ fixB bs n).length ≤ 4100 * (k + 1) := by simp [fixB_len]; omega
        generalize (L ++ fixB bs n) = M at *
        have cQ := t5.b.cell
        have sQ : (convert 28 9 u5).run Tryd.prog w5.drew = .ok (.string (strOf M)) w5.drew := run_str (Bs.ofOwns (w := w5.drew) t5.b.own)
        go_wp2_with fail
        go_region_with ((go_at_call 20; refine (done_any w.heap.size p v4 M _ (WrToT.drew t5.a).wr (by omega)).mono ?_; rintro e w6 ⟨x, rfl, h6⟩; obtain ⟨t6, B6, c6, s6, s7⟩ := tail_facts t5 B5 h6))
        all_goals
          go_wp2
          go_roundw
          case rel => exact ⟨k + 1, v4, u5, M, by omega, by go_num, t6, B6, hM⟩
          case measure => simp [intOf]; omega
      · skip
        have r1 : (kd == 1) = false := by simpa using q1
        have r2 : (kd == 2) = false := by simpa using q2
        have r3 : (kd == 3) = false := by simpa using q3
        have r4 : (kd == 4) = false := by simpa using q4
        have ho1 : bs.length ≤ 4096 := ho.1
        go_wp2_with fail
        refine (bytes_any w.heap.size p v _ L bs _ tA.a hbA (apart_old tA.a hbs0' hz0) (by omega)).mono ?_
        rintro e w4 ⟨rfl, v4, h4⟩
        have t4 := tA.left h4
        have B4 := BA.trans (h4.belowW tA.a)
        obtain ⟨d0, d1, d2⟩ := (pA.step h4 tA.a hpr hvr).cells
        have hb4 := h4.bs hbA (apart_old tA.a hbs0' hz0)
        go_wp2_with fail
        refine (refBytes_any w.heap.size _ u _ L bs _ t4.b hb4 (apart_old t4.b hbs0' hz0) (by omega)).mono ?_
        rintro e w5 ⟨rfl, u5, h5⟩
        have t5 := t4.right h5
        have B5 := B4.trans (h5.belowW t4.b)
        clear t4 B4 d0 d1 d2 h4 h5 tA BA pA hbA hb4
        have hM : (L ++ leTo bs.length 4 ++ bs).length ≤ 4100 * (k + 1) := by simp [leTo_len]; omega
        generalize (L ++ leTo bs.length 4 ++ bs) = M at *
        have cQ := t5.b.cell
        have sQ : (convert 28 9 u5).run Tryd.prog w5.drew = .ok (.string (strOf M)) w5.drew := run_str (Bs.ofOwns (w := w5.drew) t5.b.own)
        go_wp2_with fail
        go_region_with ((go_at_call 20; refine (done_any w.heap.size p v4 M _ (WrToT.drew t5.a).wr (by omega)).mono ?_; rintro e w6 ⟨x, rfl, h6⟩; obtain ⟨t6, B6, c6, s6, s7⟩ := tail_facts t5 B5 h6))
        all_goals
          go_wp2
          go_roundw
          case rel => exact ⟨k + 1, v4, u5, M, by omega, by go_num, t6, B6, hM⟩
          case measure => simp [intOf]; omega
    · clear hl hl1
      go_wp2
      go_ret
      exact ⟨rfl, Br⟩
end Go.Proofs.YtdninfmmikaimaaDoor

/-
  Contract of the reference's Write.
-/
import Derived.Test.YtioloobeakjbeaaRefImage
namespace Go.Proofs.Ytioloobeakjbeaa
open Go.RowKit Go.Maps
attribute [local go_sem ↓] Go.wp_at_zero Go.wp_at_succ

theorem run_appV {P : Program} (w : World) (N : Nat) (t ty : TypeId) (i : TypeInfo) (ht : P.underlying t = some (.slice 112)) (hi : P.info? 112 = some i) (hz : i.zero = some (.agg #[.int .i64 0, .string ByteArray.empty])) (hs : i.size = 2) (hb : i.bytes = 24)
    (v : Value) (W : Ws) (k : Nat) (b : List Int) (hown : w.ownsRow N 112 2 v W.length (wcells W)) (hlen : W.length + 1 ≤ 1099511627776) (hN : N ≤ w.heap.size) :
    ∃ v' w', (Builtin.append_ #[t, t] ty #[v, .slice (some ⟨w.heap.size, 0, none⟩) 1 1]).run P (w.alloc (.cells #[.int .i64 (k : Int), .string (strOf b)] 112)) = .ok v' w' ∧ w'.ownsRow N 112 2 v' (W ++ [(k, b)]).length (wcells (W ++ [(k, b)])) ∧ Chg (fun k => v.ownBlock = some k) w w' ∧ (v'.ownBlock = v.ownBlock ∨ v'.ownBlock = some (w.heap.size + 1)) := by
  have ca := Chg.alloc (fun _ => False) w (.cells #[.int .i64 (k : Int), .string (strOf b)] 112)
  have hown' := own_same hown (fun g hg => ca.block g (hown.lt g hg).2 (fun h => h))
  obtain ⟨v', w', h1, h2, h3, _, h5⟩ := run_append_own_at (P := P) (w.alloc (.cells #[.int .i64 (k : Int), .string (strOf b)] 112)) N t ty 112 i (.agg #[.int .i64 0, .string ByteArray.empty]) 2 24 ht hi hz hs hb rfl (by decide) v W.length (wcells W) hown' ⟨w.heap.size, 0, none⟩ 1 1 [.int .i64 (k : Int), .string (strOf b)] (by simp)
    (cell_two_new w (.int .i64 (k : Int)) (.string (strOf b)) 112) (fun u hu => by simp at hu; rcases hu with rfl | rfl <;> rfl) (by unfold maxLen; omega) (by omega) (Nat.le_trans hN ca.size)
  refine ⟨v', w', h1, ?_, (ca.mono (fun _ _ h => h.elim)).trans (Chg.ofGrown h3) (fun _ _ h => h), by simpa using h5⟩
  rw [wcells_append, List.length_append]
  exact h2

/-- A version more. -/
theorem RkAt.pushW {w w2 : World} {G : Nat → Prop} {q : Nat} {R : RSt} {lb lc : Nat} {wv pv v' : Value} {V : Ws} (h : RkAt w G q R lb lc wv pv) (hc : Chg (fun k => wv.ownBlock = some k) w w2) (ho : w2.ownsRow 0 112 2 v' V.length (wcells V)) (hat : v'.ownBlock = wv.ownBlock ∨ v'.ownBlock = some (w.heap.size + 1)) :
    RkAt (w2.setCell ⟨q, 1, none⟩ v') (fun b => G b ∨ (w.heap.size ≤ b ∧ b < w2.heap.size)) q { R with W := V } lb lc v' pv ∧ Chg G w (w2.setCell ⟨q, 1, none⟩ v') ∧ w2.cell? ⟨q, 1, none⟩ = some wv ∧ w2.frozen? ⟨q, 1, none⟩ = false := by
  have nq : ¬ wv.ownBlock = some q := fun e => h.ne h.wrow (by decide) e rfl
  have hb := (hc.block q (h.lt q h.fq) nq).trans h.blk
  have hs := heap_setCell_same w2 q 1 _ _ v' hb
  have kc : Chg (fun k => k = q) w2 (w2.setCell ⟨q, 1, none⟩ v') := Chg.setCell _ _ _ rfl
  have ot : ∀ {e : TypeId} {sz N n : Nat} {u : Value} {xs : List Value}, e ≠ 112 → e ≠ 57 → w.ownsRow N e sz u n xs → ∀ g, u.ownBlock = some g → (w2.setCell ⟨q, 1, none⟩ v').heap[g]? = w.heap[g]? := fun he he2 hu g hg => by
    obtain ⟨cur, hcur⟩ := own_obj hu hg
    have n1 : ¬ wv.ownBlock = some g := fun e => by
      obtain ⟨cw, hcw⟩ := own_obj h.wrow e
      rw [hcur] at hcw
      exact he (Obj.cells.inj (Option.some.inj hcw)).2.1
    have lt := (hu.lt g hg).2
    exact (kc.block g (Nat.lt_of_lt_of_le lt hc.size) (h.ne hu he2 hg)).trans (hc.block g lt n1)
  have hvq : ∀ g, v'.ownBlock = some g → ¬ g = q := fun g hg e => by
    rcases hat with e2 | e2
    · exact nq (by rw [← e2, hg, e])
    · rw [hg] at e2
      have : g = w.heap.size + 1 := by simpa using e2
      have := h.lt q h.fq
      omega
  refine ⟨⟨by simpa using hs, own_same h.row (ot (by decide) (by decide) h.row), own_same ho (fun g hg => kc.block g (ho.lt g hg).2 (hvq g hg)), own_same h.prow (ot (by decide) (by decide) h.prow), .inl h.fq, .inl h.fl, fun g hg => ?_, fun g hg => .inl (h.fk g hg), fun b hb => ?_⟩, ?_, ?_, ?_⟩
  · rcases hat with e2 | e2
    · exact .inl (h.fw g (by rw [← e2]; exact hg))
    · rw [hg] at e2
      have : g = w.heap.size + 1 := by simpa using e2
      exact .inr ⟨by omega, (ho.lt g hg).2⟩
  · have : (w2.setCell ⟨q, 1, none⟩ v').heap.size = w2.heap.size := by simp
    rw [this]
    rcases hb with hb | hb
    · exact Nat.lt_of_lt_of_le (h.lt b hb) hc.size
    · exact hb.2
  · exact (hc.mono (fun k _ e => h.fw k e)).trans kc (fun k _ e => by rw [e]; exact h.fq)
  · rw [cell_of_row w2 q 1 _ _ _ hb]; rfl
  · simp [World.frozen?, hb]

theorem Sim.pushed {S : St} {R : RSt} (h : Sim S R) {n : Nat} (hn : n < S.nb) {b : List Int} (hb : b.length = 512) (ha : S.arm ≠ 1) : Sim (S.pushed n b) { R with W := R.W ++ [(n, b)], arm := if R.arm < 1 then R.arm else R.arm - 1, done := R.done + 1 } := by
  refine ⟨St.pushed_wf h.wf hn hb, h.nb, h.f, fun k => ?_, fun x hx => ?_, ?_, h.off, ?_, ?_, ?_⟩
  · show upd S.wait n (S.wait n ++ [b]) k = versOf (R.W ++ [(n, b)]) k
    rw [versOf_append, versOf_one]
    by_cases e : k = n
    · subst e; rw [upd_same, if_pos rfl, h.vers]
    · rw [upd_other _ _ e, if_neg (fun x => e x.symm), List.append_nil, h.vers]
  · rcases List.mem_append.1 hx with h1 | h1
    · exact h.num x h1
    · simp at h1; rw [h1]; exact hn
  · show (R.W ++ [(n, b)]).length ≤ S.writes + 1
    have := h.few
    simp; exact this
  · show (if R.arm < 1 then R.arm else R.arm - 1) = if (if S.arm < 1 then S.arm else S.arm - 1) < 1 then 0 else (if S.arm < 1 then S.arm else S.arm - 1)
    rw [h.arm]; unfold armR
    by_cases h1 : S.arm < 1
    · simp [h1]
    · have h2 : ¬ S.arm - 1 < 1 := by omega
      simp [h1, h2]
  · show 1 ≤ (if S.arm < 1 then S.arm else S.arm - 1) → R.pk = S.picks
    intro h1
    refine h.pks ?_
    split at h1 <;> omega
  · show R.done + 1 = S.writes + 1
    rw [h.done]

set_option maxHeartbeats 800000 in
set_option maxRecDepth 100000 in
theorem rwrite_any (G : Nat → Prop) (q : Nat) (S : St) (n : Int) (bs : List Int) (w : World) (h : Rk w G q S) (hx : S.writes < 1099511627776) (_hbl : bs.length ≤ 1099511627776) :
    Calls Try.prog 63 #[.pointer (some ⟨q, 0, none⟩), .int .i64 n, .string (strOf bs)] w fun e w' => e = .returned (.int .i64 (S.writeE n bs)) ∧ RTo G q w w' (S.write n bs) := by
  obtain ⟨i0, hi7, hz0, hz1, hz2⟩ := info_parts info79
  have hR := h
  obtain ⟨R, lb, lc, wv, pv, s, h⟩ := h
  have c2 := h.c2
  rw [s.off] at c2
  have hsz := strOf_size bs
  by_cases ho : S.off = true
  · have e1 : S.writeE n bs = 6 := by simp [St.writeE, ho]
    have e2 : S.write n bs = S := by simp [St.write, ho]
    rw [ho] at c2
    rw [e1, e2]
    have HE : Hid (RTo G q w w S) := RTo.refl hR
    clear h s hR
    generalize strOf bs = t at *
    go_enter Try.func63, Try.ntmps63
    go_wp2
    go_ret
    exact ⟨rfl, HE.out⟩
  have ho' : S.off = false := by simpa using ho
  rw [ho'] at c2
  by_cases hok : S.okW n bs
  · have hk0 := hok.1
    obtain ⟨k, rfl⟩ := Int.eq_ofNat_of_zero_le hk0
    have hkS : k < S.nb := by have := hok.2.1; omega
    have hb5 := hok.2.2
    have hd : decide (0 ≤ (k : Int) ∧ (k : Int) < (R.nb : Int)) = true := by rw [s.nb]; simpa using hkS
    have hl5 : ((strOf bs).size : Int) = 512 := by rw [hsz]; omega
    have c3 := h.c3
    have c4 := h.c4
    obtain ⟨pa, pc, rfl⟩ := own_form h.prow
    obtain ⟨wa, wc, rfl⟩ := own_form h.wrow
    have HH : Hid (Sim S R ∧ RkAt w G q R lb lc (.slice wa R.W.length wc) (.slice pa R.pk.length pc)) := ⟨s, h⟩
    by_cases ha : S.arm = 1
    · have e1 : S.writeE k bs = 6 := by simp [St.writeE, ho', hok, ha]
      have e2 : S.write k bs = S.cut S.picks := by simp [St.write, ho', hok, ha]
      have e3 : R.arm = 1 := by rw [s.arm]; unfold armR; rw [ha]; rfl
      rw [e3] at c3
      rw [e1, e2]
      have HC : Hid (Calls Try.prog 40 #[.pointer (some ⟨q, 0, none⟩), .slice pa R.pk.length pc] w fun e w' => e = .returned (.tuple #[]) ∧ RTo G q w w' (S.cut S.picks)) := rcut_own G q S w s h (by omega) hx
      clear h s hR hok hk0
      generalize strOf bs = t at *
      go_enter Try.func63, Try.ntmps63
      go_wp2_with fail
      refine (ris_any G q R (k : Int) w HH.out.2).mono ?_
      rintro e w1 ⟨rfl, rfl⟩
      rw [hd]
      go_wp2_with fail
      refine HC.out.mono ?_
      rintro e w2 ⟨rfl, h2⟩
      clear c2 c3 c4
      go_wp2
      go_ret
      exact ⟨rfl, h2⟩
    · have e1 : S.writeE k bs = 0 := by simp [St.writeE, ho', hok, ha]
      have e2 : S.write k bs = S.pushed k bs := by simp [St.write, ho', hok, ha]
      rw [e1, e2]
      have SP := s.pushed hkS hb5 ha
      have hdone : R.done < 1099511627776 := by have := s.done; omega
      have hra : R.arm ≠ 1 := by rw [s.arm]; unfold armR; split <;> omega
      have hra2 : -9223372036854775808 ≤ R.arm ∧ R.arm < 9223372036854775808 := by
        rw [s.arm]; unfold armR
        have := s.wf.arm0; have := s.wf.arm1
        split <;> omega
      have hwl : R.W.length < 1099511627776 := by have := s.few; omega
      by_cases hp : 0 < R.arm
      · obtain ⟨a1, k1⟩ := h.setArm (R.arm - 1)
        have f3 := h.fr 3
        obtain ⟨v', w2, hr, ho2, hc2, hat⟩ := run_appV (P := Try.prog) (w.setCell ⟨q, 3, none⟩ (.int .i64 (R.arm - 1))) 0 55 55 i0 Try.underlying55 hi7 hz0 hz1 hz2 _ R.W k bs a1.wrow (by omega) (Nat.zero_le _)
        obtain ⟨va, vc, rfl⟩ := own_form ho2
        have hs1 : (w.setCell ⟨q, 3, none⟩ (.int .i64 (R.arm - 1))).heap.size = w.heap.size := by simp
        rw [hs1] at hr
        have c1 := a1.c1
        obtain ⟨a2, k2, d1, f1⟩ := a1.pushW hc2 ho2 hat
        have c5 := a2.c5
        have f5 := a2.fr 5
        obtain ⟨a3, k3⟩ := a2.setDone (R.done + 1) ((R.done : Int) + 1) (by omega)
        rw [if_neg (by omega)] at SP
        have HE : Hid (RTo G q w ((w2.setCell ⟨q, 1, none⟩ (.slice va (R.W ++ [(k, bs)]).length vc)).setCell ⟨q, 5, none⟩ (.int .i64 ((R.done : Int) + 1))) (S.pushed k bs)) := by
          refine ⟨_, ⟨_, lb, lc, _, _, SP, a3⟩, ((k1.mono (fun k _ e => by rw [e]; exact h.fq)).trans k2 (fun _ _ h => h)).trans k3 (fun k _ e => by rw [e]; exact h.fq), fun b hb => ?_⟩
          rcases hb with hb | hb
          · exact .inl hb
          · exact .inr (by have := hb.1; simp at this; exact this)
        have ra1 : IntKind.i64.wrap (R.arm - 1) = R.arm - 1 := by rw [IntKind.wrap_i64]; omega
        clear h s hR hok hk0 a1 a2 a3 k1 k2 k3 hc2 ho2 hat SP hs1 hi7 hz0 hz1 hz2 hsz hb5 hra2 hwl hx _hbl
        generalize strOf bs = t at *
        simp only at c5
        generalize (R.W ++ [(k, bs)]).length = N1 at *
        go_enter Try.func63, Try.ntmps63
        go_wp2_with fail
        refine (ris_any G q R (k : Int) w HH.out.2).mono ?_
        rintro e w1 ⟨rfl, rfl⟩
        rw [hd]
        go_wp2_with (at_builtin; go_must (refine Lib.wpList_append_run _ rfl (.tmp 49) (.tmp 53) 55 55 rfl _ _ rfl rfl _ w2 hr ?_))
        go_ret
        exact ⟨rfl, HE.out⟩
      · obtain ⟨v', w2, hr, ho2, hc2, hat⟩ := run_appV (P := Try.prog) w 0 55 55 i0 Try.underlying55 hi7 hz0 hz1 hz2 _ R.W k bs h.wrow (by omega) (Nat.zero_le _)
        obtain ⟨va, vc, rfl⟩ := own_form ho2
        have c1 := h.c1
        obtain ⟨a2, k2, d1, f1⟩ := h.pushW hc2 ho2 hat
        have c5 := a2.c5
        have f5 := a2.fr 5
        obtain ⟨a3, k3⟩ := a2.setDone (R.done + 1) ((R.done : Int) + 1) (by omega)
        rw [if_pos (by omega)] at SP
        have HE : Hid (RTo G q w ((w2.setCell ⟨q, 1, none⟩ (.slice va (R.W ++ [(k, bs)]).length vc)).setCell ⟨q, 5, none⟩ (.int .i64 ((R.done : Int) + 1))) (S.pushed k bs)) := by
          refine ⟨_, ⟨_, lb, lc, _, _, SP, a3⟩, k2.trans k3 (fun k _ e => by rw [e]; exact h.fq), fun b hb => ?_⟩
          rcases hb with hb | hb
          · exact .inl hb
          · exact .inr hb.1
        clear h s hR hok hk0 a2 a3 k2 k3 hc2 ho2 hat SP hi7 hz0 hz1 hz2 hsz hb5 hra2 hwl hx _hbl
        generalize strOf bs = t at *
        simp only at c5
        generalize (R.W ++ [(k, bs)]).length = N1 at *
        go_enter Try.func63, Try.ntmps63
        go_wp2_with fail
        refine (ris_any G q R (k : Int) w HH.out.2).mono ?_
        rintro e w1 ⟨rfl, rfl⟩
        rw [hd]
        go_wp2_with (at_builtin; go_must (refine Lib.wpList_append_run _ rfl (.tmp 49) (.tmp 53) 55 55 rfl _ _ rfl rfl _ w2 hr ?_))
        go_ret
        exact ⟨rfl, HE.out⟩
  · have e1 : S.writeE n bs = 1 := by simp [St.writeE, ho', hok]
    have e2 : S.write n bs = S := by simp [St.write, ho', hok]
    rw [e1, e2]
    have HE : Hid (RTo G q w w S) := RTo.refl hR
    have HH : Hid (RkAt w G q R lb lc wv pv) := h
    by_cases hin : 0 ≤ n ∧ n < (R.nb : Int)
    · have hd : decide (0 ≤ n ∧ n < (R.nb : Int)) = true := by simpa using hin
      have hl5 : ¬ bs.length = 512 := fun e => hok ⟨hin.1, by rw [← s.nb]; exact hin.2, e⟩
      have hl6 : ¬ ((strOf bs).size : Int) = 512 := by rw [hsz]; omega
      clear h s hR hok
      generalize strOf bs = t at *
      go_enter Try.func63, Try.ntmps63
      go_wp2_with fail
      refine (ris_any G q R n w HH.out).mono ?_
      rintro e w1 ⟨rfl, rfl⟩
      rw [hd]
      go_wp2
      go_ret
      exact ⟨rfl, HE.out⟩
    · have hd : decide (0 ≤ n ∧ n < (R.nb : Int)) = false := by simpa using hin
      clear h s hR hok
      generalize strOf bs = t at *
      go_enter Try.func63, Try.ntmps63
      go_wp2_with fail
      refine (ris_any G q R n w HH.out).mono ?_
      rintro e w1 ⟨rfl, rfl⟩
      rw [hd]
      go_wp2
      go_ret
      exact ⟨rfl, HE.out⟩
end Go.Proofs.Ytioloobeakjbeaa

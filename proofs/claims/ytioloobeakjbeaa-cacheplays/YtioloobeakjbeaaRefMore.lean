/-
  Contracts of the reference's Arm, versions, Image, Sync and New.
-/
import Derived.Test.YtioloobeakjbeaaRefSmall
namespace Go.Proofs.Ytioloobeakjbeaa
open Go.RowKit Go.Maps
attribute [local go_sem ↓] Go.wp_at_zero Go.wp_at_succ

theorem info9 : (Try.prog.info? 9).map (fun i => (i.zero, i.size, i.bytes)) = some (some (.string ByteArray.empty), 1, 16) := by kernel_rfl
theorem info79 : (Try.prog.info? 112).map (fun i => (i.zero, i.size, i.bytes)) = some (some (.agg #[.int .i64 0, .string ByteArray.empty]), 2, 24) := by kernel_rfl

theorem RkAt.mono {w : World} {G G' : Nat → Prop} {q : Nat} {R : RSt} {lb lc : Nat} {wv pv : Value} (h : RkAt w G q R lb lc wv pv) (hG : ∀ b, G b → G' b) (hl : ∀ b, G' b → b < w.heap.size) : RkAt w G' q R lb lc wv pv :=
  ⟨h.blk, h.row, h.wrow, h.prow, hG _ h.fq, hG _ h.fl, fun g hg => hG _ (h.fw g hg), fun g hg => hG _ (h.fk g hg), hl⟩

theorem own_form {w : World} {N e sz n : Nat} {v : Value} {xs : List Value} (h : w.ownsRow N e sz v n xs) : ∃ a c, v = .slice a n c := by
  rcases h.2 with ⟨rfl, h0⟩ | ⟨g, c, cur, rfl, _⟩
  · exact ⟨none, 0, by rw [h0]⟩
  · exact ⟨_, _, rfl⟩

/-! ### Arm -/
theorem Sim.armed {S : St} {R : RSt} (h : Sim S R) {n : Int} (ps : List Int) (h0 : -9223372036854775808 ≤ n) (h1 : n < 9223372036854775808) {m : Int} {pk : List Int} (hm : m = if n < 1 then 0 else n) (hp : 1 ≤ n → pk = ps) : Sim (S.armed n ps) { R with arm := m, pk := pk } :=
  ⟨St.armed_wf h.wf ps h0 h1, h.nb, h.f, h.vers, h.num, h.few, h.off, hm, hp, h.done⟩

set_option maxHeartbeats 800000 in
set_option maxRecDepth 100000 in
theorem rarm_any (G : Nat → Prop) (q : Nat) (S : St) (n : Int) (v : Value) (ps : List Int) (w : World) (h : Rk w G q S) (hi : Is w v ps) (hv : ps ≠ [] → ∀ g, v.ownBlock = some g → ¬ G g) (hl : ps.length ≤ 1099511627776) (h0 : -9223372036854775808 ≤ n) (h1 : n < 9223372036854775808) :
    Calls Try.prog 44 #[.pointer (some ⟨q, 0, none⟩), .int .i64 n, v] w fun e w' => e = .returned (.tuple #[]) ∧ RTo G q w w' (S.armed n ps) := by
  obtain ⟨i0, hi3, hz0, hz1, hz2⟩ := info_parts info3
  obtain ⟨R, lb, lc, wv, pv, s, h⟩ := h
  have c3 := h.c3
  have f3 := h.fr 3
  obtain ⟨a1, k1⟩ := h.setArm 0
  have c4 := a1.c4
  have f4 := a1.fr 4
  obtain ⟨a2, k2⟩ := a1.setPk (u := .slice none 0 0) (ps := []) (World.ownsRow_nil _ _ _ _) (fun g hg => by cases hg)
  have k12 := k1.trans k2 (fun _ _ h => h)
  by_cases hn : n < 1
  · have kn : decide (1 ≤ n) = false := by simp; omega
    have HE : Hid (RTo G q w ((w.setCell ⟨q, 3, none⟩ (.int .i64 0)).setCell ⟨q, 4, none⟩ (.slice none 0 0)) (S.armed n ps)) :=
      ⟨G, ⟨_, lb, lc, wv, _, s.armed ps h0 h1 (by rw [if_pos hn]) (fun h => absurd h (by omega)), a2⟩, k12.mono (fun k _ e => by rw [e]; exact h.fq), fun b hb => .inl hb⟩
    clear h s a1 a2 k1 k2 k12 hi hv hl h0 h1 hn
    go_enter Try.func44, Try.ntmps44
    go_wp2
    go_end0
    exact ⟨rfl, HE.out⟩
  · have kn : decide (1 ≤ n) = true := by simp; omega
    have c3' := a2.c3
    have f3' := a2.fr 3
    obtain ⟨a3, k3⟩ := a2.setArm n
    have k13 := k12.trans k3 (fun _ _ h => h)
    obtain ⟨W3, hW3⟩ : ∃ W3, ((w.setCell ⟨q, 3, none⟩ (.int .i64 0)).setCell ⟨q, 4, none⟩ (.slice none 0 0)).setCell ⟨q, 3, none⟩ (.int .i64 n) = W3 := ⟨_, rfl⟩
    rw [hW3] at a3 k3 k13
    have hsz : W3.heap.size = w.heap.size := by rw [← hW3]; simp
    have ca := Chg.alloc (fun _ => False) W3 (.cells #[] 3)
    have is4 : Is (W3.alloc (.cells #[] 3)) v ps := (Is.kept' hi k13 (fun hne g hg e => hv hne g hg (by rw [e]; exact h.fq))).kept ca (fun _ _ h => h)
    obtain ⟨v', w5, hr, ho, hg, hat⟩ := run_app_ints (W3.alloc (.cells #[] 3)) 40 40 i0 Try.underlying40 hi3 hz0 hz1 hz2 (.slice (some ⟨W3.heap.size, 0, none⟩) 0 0) v W3.heap.size ps (World.ownsRow_made W3 #[] 0 (Nat.le_refl _) (by simp [maxLen]) rfl) is4 hl (by simp)
    obtain ⟨va', vc', rfl⟩ := own_form ho
    have c5 : Chg (fun _ => False) W3 w5 := ⟨hg.os, hg.tape, hg.output, Nat.le_trans (by simp) hg.size, fun k hk _ => (hg.block k (by simp; omega) (by simp [Value.ownBlock]; omega)).trans (Below.heap_alloc W3 _ k hk)⟩
    have a5 := a3.kept c5 (fun _ _ h => h)
    have a5' := a5.mono (G' := fun b => G b ∨ (w.heap.size ≤ b ∧ b < w5.heap.size)) (fun b hb => .inl hb) (fun b hb => hb.elim (a5.lt b) (fun h => h.2))
    have c4' := a5'.c4
    have f4' := a5'.fr 4
    obtain ⟨a6, k6⟩ := a5'.setPk (own_mono ho (Nat.zero_le _)) (fun g hg' => .inr ⟨by have := (ho.lt g hg').1; omega, (ho.lt g hg').2⟩)
    have HE : Hid (RTo G q w (w5.setCell ⟨q, 4, none⟩ (.slice va' ps.length vc')) (S.armed n ps)) :=
      ⟨_, ⟨_, lb, lc, wv, _, s.armed ps h0 h1 (by rw [if_neg hn]) (fun _ => rfl), a6⟩, ((k13.mono (S' := G) (fun k _ e => by rw [e]; exact h.fq)).trans c5 (fun _ _ h => h.elim)).trans k6 (fun k _ e => by rw [e]; exact h.fq), fun b hb => hb.elim .inl (fun h => .inr h.1)⟩
    clear h s a1 a2 k1 k2 k12 hi hv hl h0 h1 hn a3 k3 k13 is4 ho hg hat c5 a5 a5' a6 k6 ca hsz
    go_enter Try.func44, Try.ntmps44
    go_wp2_with (at_builtin; go_must (refine Lib.wpList_append_run _ rfl (.tmp 19) (.tmp 20) 40 40 rfl _ _ rfl rfl _ w5 hr ?_))
    go_end0
    exact ⟨rfl, HE.out⟩

/-! ### versions -/
def strs (l : List (List Int)) : List Value := l.map fun b => .string (strOf b)
theorem run_appS {P : Program} (w : World) (N : Nat) (t ty : TypeId) (i : TypeInfo) (ht : P.underlying t = some (.slice 9)) (hi : P.info? 9 = some i) (hz : i.zero = some (.string ByteArray.empty)) (hs : i.size = 1) (hb : i.bytes = 16)
    (v : Value) (n : Nat) (xs : List Value) (b : ByteArray) (hown : w.ownsRow N 9 1 v n xs) (hlen : n + 1 ≤ 1099511627776) (hN : N ≤ w.heap.size) :
    ∃ v' w', (Builtin.append_ #[t, t] ty #[v, .slice (some ⟨w.heap.size, 0, none⟩) 1 1]).run P (w.alloc (.cells #[.string b] 9)) = .ok v' w' ∧ w'.ownsRow N 9 1 v' (n + 1) (xs ++ [.string b]) ∧ Chg (fun k => v.ownBlock = some k) w w' ∧ (v'.ownBlock = v.ownBlock ∨ v'.ownBlock = some (w.heap.size + 1)) := by
  have ca := Chg.alloc (fun _ => False) w (.cells #[.string b] 9)
  have hown' := own_same hown (fun g hg => ca.block g (hown.lt g hg).2 (fun h => h))
  obtain ⟨v', w', h1, h2, h3, _, h5⟩ := run_append_own_at (P := P) (w.alloc (.cells #[.string b] 9)) N t ty 9 i (.string ByteArray.empty) 1 16 ht hi hz hs hb rfl (by decide) v n xs hown' ⟨w.heap.size, 0, none⟩ 1 1 [.string b] (by simp)
    (cell_one_new w (.string b) 9) (fun u hu => by simp at hu; subst hu; rfl) (by unfold maxLen; omega) (by omega) (Nat.le_trans hN ca.size)
  exact ⟨v', w', h1, h2, (ca.mono (fun _ _ h => h.elim)).trans (Chg.ofGrown h3) (fun _ _ h => h), by simpa using h5⟩

set_option maxHeartbeats 1600000 in
set_option maxRecDepth 100000 in
theorem rvers_any (G : Nat → Prop) (q : Nat) (R : RSt) (n : Nat) (w : World) {lb lc : Nat} {wv pv : Value} (h : RkAt w G q R lb lc wv pv) (hw : R.W.length < 1099511627776) :
    Calls Try.prog 69 #[.pointer (some ⟨q, 0, none⟩), .int .i64 (n : Int)] w fun e w' => ∃ u, e = .returned u ∧ w'.ownsRow w.heap.size 9 1 u (versOf R.W n).length (strs (versOf R.W n)) ∧ Chg (fun _ => False) w w' := by
  obtain ⟨i0, hi9, hz0, hz1, hz2⟩ := info_parts info9
  obtain ⟨wa, wc, rfl⟩ := h.wlen
  have HH : Hid (RkAt w G q R lb lc (.slice wa R.W.length wc) pv) := h
  clear h
  go_enter Try.func69, Try.ntmps69
  go_wp2_with fail
  go_loopw [5, 6] (fun v x wr => ∃ (i : Nat) (u : Value), i ≤ R.W.length ∧ u = v ∧ x = .int .i64 (i : Int) ∧ wr.ownsRow w.heap.size 9 1 u (versOf (R.W.take i) n).length (strs (versOf (R.W.take i) n)) ∧ Chg (fun _ => False) w wr) (fun _ x _ => R.W.length - (intOf x).toNat)
  case atStart => exact ⟨0, _, Nat.zero_le _, rfl, rfl, World.ownsRow_nil _ _ _ _, Chg.refl _ _⟩
  case round =>
    obtain ⟨i, u, hiL, rfl, rfl, hown, hch⟩ := hrel
    have a1 := HH.out.kept hch (fun _ _ h => h)
    have c1 := a1.c1
    by_cases hlt : i < R.W.length
    · have hg : ∃ g, wa = some ⟨g, 0, none⟩ := by
        rcases a1.wform with ⟨_, e2⟩ | ⟨g, c, e⟩
        · rw [e2] at hlt; simp at hlt
        · cases e; exact ⟨g, rfl⟩
      obtain ⟨g, rfl⟩ := hg
      obtain ⟨d0, d1⟩ := a1.wcell hlt
      have hli : (i : Int) < (R.W.length : Int) := by omega
      have hv : versOf (R.W.take (i + 1)) n = versOf (R.W.take i) n ++ (if R.W[i].1 = n then [R.W[i].2] else []) := by
        have e : R.W.take (i + 1) = R.W.take i ++ [(R.W[i].1, R.W[i].2)] := by rw [List.take_add_one, List.getElem?_eq_getElem hlt]; rfl
        rw [e, versOf_append, versOf_one]
      by_cases e : R.W[i].1 = n
      · rw [if_pos e] at hv
        have hvl : (versOf (R.W.take i) n).length ≤ R.W.length := by
          unfold versOf
          rw [List.length_map]
          exact Nat.le_trans (List.length_filter_le _ _) (by rw [List.length_take]; omega)
        obtain ⟨v', w2, hr, ho, hc2, _⟩ := run_appS (P := Try.prog) wr w.heap.size 54 54 i0 Try.underlying54 hi9 hz0 hz1 hz2 u _ _ (strOf R.W[i].2) hown (by omega) hch.size
        have ho' : w2.ownsRow w.heap.size 9 1 v' (versOf (R.W.take (i + 1)) n).length (strs (versOf (R.W.take (i + 1)) n)) := by
          rw [hv]
          simp only [strs, List.map_append, List.length_append, List.map_cons, List.map_nil, List.length_singleton]
          exact ho
        have hc2' : Chg (fun _ => False) w w2 := hch.trans hc2 (fun k hk e => by have := (hown.lt k e).1; omega)
        have HR : Hid (w2.ownsRow w.heap.size 9 1 v' (versOf (R.W.take (i + 1)) n).length (strs (versOf (R.W.take (i + 1)) n)) ∧ Chg (fun _ => False) w w2) := ⟨ho', hc2'⟩
        rw [e] at d0
        clear a1 hv hown hch hvl ho ho' hc2 hc2' e
        generalize strOf R.W[i].2 = t at *
        go_wp2_with (at_builtin; go_must (refine Lib.wpList_append_run _ rfl (.tmp 26) (.tmp 35) 54 54 rfl _ _ rfl rfl v' w2 hr ?_))
        go_roundw
        case rel => exact ⟨i + 1, _, by omega, rfl, by go_num, HR.out⟩
        case measure => simp [intOf]; omega
      · rw [if_neg e, List.append_nil] at hv
        have HR : Hid (wr.ownsRow w.heap.size 9 1 u (versOf (R.W.take (i + 1)) n).length (strs (versOf (R.W.take (i + 1)) n)) ∧ Chg (fun _ => False) w wr) := by rw [hv]; exact ⟨hown, hch⟩
        have e4 : ¬ (R.W[i].1 : Int) = (n : Int) := by omega
        clear a1 hv hown hch d1 e
        generalize R.W[i].1 = x at *
        go_wp2
        go_roundw
        case rel => exact ⟨i + 1, _, by omega, rfl, by go_num, HR.out⟩
        case measure => simp [intOf]; omega
    · have hie : i = R.W.length := by omega
      subst hie
      rw [List.take_length] at hown
      have HR : Hid (wr.ownsRow w.heap.size 9 1 u (versOf R.W n).length (strs (versOf R.W n)) ∧ Chg (fun _ => False) w wr) := ⟨hown, hch⟩
      have g3 : ¬ (R.W.length : Int) < (R.W.length : Int) := by omega
      clear a1 hown hch
      go_wp2
      go_ret
      exact ⟨u, rfl, HR.out⟩
end Go.Proofs.Ytioloobeakjbeaa

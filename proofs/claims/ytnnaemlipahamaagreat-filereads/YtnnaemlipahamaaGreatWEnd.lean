/-
  The contracts of end, as it is deferred, and of Abort of a transaction of package wal.
-/
import Derived.Test.YtnnaemlipahamaaGreatWTWr
import Derived.Defers
namespace Go.Proofs.YtnnaemlipahamaaGreat
open Go.RowKit Go.Maps

/-- own, as far as g says. -/
def mk (own : Nat → Option (List Int)) (g : Nat → Bool) (n : Nat) : Option (List Int) := if g n then own n else none
theorem mk_start (own : Nat → Option (List Int)) (Vt : Nat → Value) : mk own (fun n => (vf own Vt n).isSome) = own := by
  funext n
  unfold mk vf
  cases h : own n <;> simp [h]
theorem mk_step {own : Nat → Option (List Int)} {g : Nat → Bool} {n : Nat} : upd (mk own g) n none = mk own (upd g n false) := by
  funext k
  by_cases e : k = n
  · subst e; rw [upd_same]; simp [mk, upd_same]
  · rw [upd_other _ _ e]; simp [mk, upd_other _ _ e]

section
variable {F G : Nat → Prop} {pd pl q K : Nat} {S : St} {com own : Nat → Option (List Int)} {pend wrote : Nat} {ov : Value} {live : Bool} {m mt : Nat} {V Vt : Nat → Value}
theorem Tk.keptE {w w' : World} {E : Nat → Prop} (h : Tk w F G pd pl q K S com pend live own wrote m V mt Vt) (hc : Chg E w w') (hF : ∀ b, F b → ¬ E b) (hG : ∀ b, G b → ¬ E b) : Tk w' F G pd pl q K S com pend live own wrote m V mt Vt :=
  ⟨⟨h.lk.dk.kept hc hF, h.lk.lg.kept hc hG, h.lk.no, h.lk.nb⟩, h.tx.kept hc hG, h.ne⟩
theorem Tk.remapT {w w' : World} {own' : Nat → Option (List Int)} (h : Tk w F G pd pl q K S com pend live own wrote m V mt Vt) (hc : Chg (fun b => b = mt) w w') (hm : MapIs w' mt K (vf own' Vt)) (hs : ∀ n b, own' n = some b → own n = some b) : Tk w' F G pd pl q K S com pend live own' wrote m V mt Vt := by
  obtain ⟨et, ct, homt⟩ := h.tx.mb.map.obj
  have hr : ∀ x, (∃ cur, w.heap[x]? = some (.cells cur 5 (0, 0))) → ¬ x = mt := fun x ⟨cur, hcur⟩ e => by rw [e, homt] at hcur; cases hcur
  refine ⟨⟨h.lk.dk.kept hc h.mtF, ⟨(hc.block pl h.lk.lg.pl_lt (Ne.symm h.mtpl)).trans h.lk.lg.blk, h.lk.lg.mb.kept hc (Ne.symm h.ne) (fun x _ hx => hr x hx), h.lk.lg.fp, fun b hb => Nat.lt_of_lt_of_le (h.lk.lg.lt b hb) hc.size⟩, h.lk.no, h.lk.nb⟩,
    ⟨(hc.block q (h.tx.lt q h.tx.fp) (Ne.symm h.mtq)).trans h.tx.blk, ⟨hm, fun n b hb => ?_, h.tx.mb.fm⟩, h.tx.fp, fun b hb => Nat.lt_of_lt_of_le (h.tx.lt b hb) hc.size⟩, h.ne⟩
  obtain ⟨h1, h2, g, c, e, ho, hg⟩ := h.tx.mb.row n b (hs n b hb)
  rw [e] at ho ⊢
  refine ⟨h1, h2, g, c, rfl, own_same ho (fun z hz => ?_), hg⟩
  have e := own_at hz
  subst e
  exact hc.block _ (ho.lt _ rfl).2 (hr _ (own_obj ho rfl))
/-- The log lets go of it. -/
theorem Tk.close {w : World} (h : Tk w F G pd pl q K S com pend live own wrote m V mt Vt) : Tk (w.setCell ⟨pl, 3, none⟩ (.pointer none)) F G pd pl q K S com pend false own wrote m V mt Vt ∧ Chg (fun b => b = pl) w (w.setCell ⟨pl, 3, none⟩ (.pointer none)) := by
  have hc : Chg (fun b => b = pl) w (w.setCell ⟨pl, 3, none⟩ (.pointer none)) := Chg.setCell _ _ _ rfl
  refine ⟨⟨h.lk.restruct hc ?_, ?_, h.ne⟩, hc⟩
  · have := heap_setCell_same w pl 3 _ 83 (.pointer none) h.lk.lg.blk
    simpa [ovOf] using this
  · exact h.tx.beside h.lk.lg h.ne (hc.mono (fun _ _ h => .inl h))
theorem Tk.formT {w : World} (h : Tk w F G pd pl q K S com pend live own wrote m V mt Vt) : ∀ n v, n < K → vf own Vt n = some v → ∃ a c, v = .slice a ((fun _ => 512) n) c := fun n v _ hv => by
  unfold vf at hv
  split at hv
  · rename_i hs
    obtain ⟨b, hb⟩ := Option.isSome_iff_exists.1 hs
    obtain ⟨_, _, g, c, e, _⟩ := h.tx.mb.row n b hb
    injection hv with hv
    exact ⟨some ⟨g, 0, none⟩, c, by rw [← hv, e]⟩
  · cases hv

/-- What the end leaves. -/
def EnTo (F G : Nat → Prop) (pd pl q K : Nat) (S : St) (com : Nat → Option (List Int)) (pend wrote m : Nat) (V : Nat → Value) (mt : Nat) (Vt : Nat → Value) (w w' : World) : Prop :=
  Tk w' F G pd pl q K S com pend false (fun _ => none) wrote m V mt Vt ∧ Chg (fun b => b = pl ∨ b = mt) w w'

set_option maxHeartbeats 3200000 in
set_option maxRecDepth 100000 in
theorem end_d (u : FrameMode) (w : World) (h : Tk w F G pd pl q K S com pend live own wrote m V mt Vt) :
    CallsD Tryz.prog 38 #[.pointer (some ⟨q, 0, none⟩)] u w fun e u' w' => u' = u ∧ (e = .returned (.tuple #[]) ∧ EnTo F G pd pl q K S com pend wrote m V mt Vt w w') := by
  have t0 := h.tx.c0
  have c3 := h.lk.lg.c3
  have f3 := h.lk.lg.fr 3
  have hK := h.lk.top
  have hcl := h.close
  have HK : Hid (Tk (w.setCell ⟨pl, 3, none⟩ (.pointer none)) F G pd pl q K S com pend false own wrote m V mt Vt ∧ Chg (fun b => b = pl) w (w.setCell ⟨pl, 3, none⟩ (.pointer none))) := hcl
  have t1 := hcl.1.tx.c1
  have hmap := hcl.1.tx.mb.map
  have HO : Hid (∀ n b, own n = some b → n < K) := fun n b hb => (h.tx.mb.row n b hb).1
  have hsz : (w.setCell ⟨pl, 3, none⟩ (.pointer none)).heap.size = w.heap.size := by simp
  have HL : Hid ((∀ b, F b → b < w.heap.size) ∧ ∀ b, G b → b < w.heap.size) := ⟨h.lk.dk.lt, h.lk.lg.lt⟩
  clear h hcl
  go_enter_d Tryz.func38, Tryz.ntmps38
  go_wp2_with (at_range; refine wpList_range_isB _ rfl (.tmp 12) rfl mt K (vf own Vt) rfl hmap ?_; intro w0 cnt0 hrg0 hg0 hs0)
  go_frame
  rw [hsz]
  obtain ⟨w1, hw1⟩ : ∃ w1, w.setCell ⟨pl, 3, none⟩ (.pointer none) = w1 := ⟨_, rfl⟩
  rw [hw1] at hrg0 hg0 hs0 HK hsz hmap t1
  have REL0 : Hid (Rng w0 mt w.heap.size K (vf (mk own fun n => (vf own Vt n).isSome) Vt) (fun n => (vf own Vt n).isSome) cnt0 ∧ Tk w0 F G pd pl q K S com pend false (mk own fun n => (vf own Vt n).isSome) wrote m V mt Vt ∧ Chg (fun b => b = pl ∨ b = mt) w w0) := by
    rw [mk_start]
    rw [hsz] at hrg0
    exact ⟨hrg0, HK.out.1.kept (Chg.of_none hg0), (HK.out.2.mono (fun _ _ h => .inl h)).trans (Chg.of_none hg0) (fun _ _ h => h.elim)⟩
  clear hmap hrg0 hg0 hs0 t1 c3 f3 t0 HK
  go_loopw [2] (fun _ wr => ∃ g cnt, Hid (Rng wr mt w.heap.size K (vf (mk own g) Vt) g cnt ∧ Tk wr F G pd pl q K S com pend false (mk own g) wrote m V mt Vt ∧ Chg (fun b => b = pl ∨ b = mt) w wr)) (fun _ wr => wr.rangeLeft mt w.heap.size)
  case atStart => exact ⟨_, _, REL0⟩
  case round =>
    clear REL0
    obtain ⟨g, cnt, HR⟩ := hrel
    have hform := HR.out.2.1.formT
    have hrg := HR.out.1
    go_wp2_with (first
      | (at_next; refine wpList_next_sl _ rfl (.tmp 13) rfl mt w.heap.size K (vf (mk own g) Vt) g cnt (fun _ => 512) hK rfl hrg hform ?_ ?_)
      | go_in)
    · intro hdone
      have HQ : Hid (EnTo F G pd pl q K S com pend wrote m V mt Vt w wr) := by
        have e : mk own g = fun _ => none := by
          funext n
          unfold mk
          split
          · rename_i hg
            cases ho : own n with
            | none => rfl
            | some b =>
              have := hdone n (HO.out n b ho)
              rw [this] at hg; cases hg
          · rfl
        have h2 := HR.out.2.1
        rw [e] at h2
        exact ⟨h2, HR.out.2.2⟩
      clear hform hrg HR
      go_wp2
      go_end0
      exact ⟨rfl, HQ.out⟩
    · intro n x c w2 cnt2 hn hgn hf hrg2 hlt2 hg2 hs2 hen
      have hl := hrg.left
      have tk2 := HR.out.2.1.keptE (Chg.of_grown hg2) (fun b hb e => by have := HL.out.1 b hb; omega) (fun b hb e => by have := HL.out.2 b hb; omega)
      have t0 := tk2.tx.c0
      have t1 := tk2.tx.c1
      have hch2 : Chg (fun b => b = pl ∨ b = mt) w w2 := HR.out.2.2.trans (Chg.of_grown hg2) (fun i hi e => by omega)
      obtain ⟨w3, hrun, hm3, hg3, hz3, hr3⟩ := tk2.tx.mb.map.deleteB hK hn 0
      obtain ⟨cnt3, hrg3, hle3⟩ := hr3 _ _ _ hrg2
      rw [upd_upd, ← vf_del, mk_step] at hrg3
      rw [← vf_del, mk_step] at hm3
      have tk3 := tk2.remapT (Chg.of_grown hg3) hm3 (fun k b hb => by
        rw [← mk_step] at hb
        by_cases e : k = n
        · subst e; rw [upd_same] at hb; cases hb
        · rw [upd_other _ _ e] at hb; exact hb)
      have H3 : Hid (Rng w3 mt w.heap.size K (vf (mk own (upd g n false)) Vt) (upd g n false) cnt3 ∧ Tk w3 F G pd pl q K S com pend false (mk own (upd g n false)) wrote m V mt Vt ∧ Chg (fun b => b = pl ∨ b = mt) w w3) :=
        ⟨hrg3, tk3, hch2.trans (Chg.of_grown hg3) (fun _ _ h => .inr h)⟩
      have hl3 := hrg3.left
      have hcnt : cnt3 < cnt := by omega
      clear hform hf hs2 hrg HR hg2 tk2 hch2 hm3 hg3 hz3 hr3 hrg3 tk3 hrg2 hle3 hlt2
      go_wp2_with (refine wpList_delete_eq _ rfl _ _ _ _ rfl _ _ rfl rfl _ hrun ?_)
      simp only [Act.put]
      go_wp2
      go_roundw
      case rel => exact ⟨_, cnt3, H3⟩
      case measure => rw [hl3, hl]; exact hcnt

end
end Go.Proofs.YtnnaemlipahamaaGreat

namespace Go.Proofs.YtnnaemlipahamaaGreat
open Go.RowKit Go.Maps

/-- com, but what own has. -/
def mrg (com own : Nat → Option (List Int)) (n : Nat) : Option (List Int) := if (own n).isSome then own n else com n
theorem ovr_mrg (f : Nat → List Int) (com own : Nat → Option (List Int)) (n : Nat) : ovr f (mrg com own) n = ovr (ovr f com) own n := by
  unfold ovr mrg
  cases own n <;> simp
def cntF (K : Nat) (p : Nat → Bool) : Nat := ((List.range K).filter p).length
theorem cntF_succ (K : Nat) (p : Nat → Bool) : cntF (K + 1) p = cntF K p + (if p K then 1 else 0) := by
  unfold cntF
  rw [List.range_succ, List.filter_append, List.length_append]
  by_cases h : p K = true
  · simp [h]
  · simp [h]
theorem cntF_congr : ∀ {K : Nat} {p p' : Nat → Bool}, (∀ n, n < K → p n = p' n) → cntF K p = cntF K p'
  | 0, _, _, _ => rfl
  | K + 1, p, p', h => by rw [cntF_succ, cntF_succ, cntF_congr (fun n hn => h n (by omega)), h K (by omega)]
theorem cntF_flip : ∀ {K n : Nat} {p p' : Nat → Bool}, n < K → p n = false → p' n = true → (∀ k, k ≠ n → p k = p' k) → cntF K p' = cntF K p + 1
  | 0, _, _, _, h, _, _, _ => by omega
  | K + 1, n, p, p', h, h1, h2, h3 => by
    rw [cntF_succ, cntF_succ]
    by_cases e : n = K
    · subst e
      rw [h1, h2, cntF_congr (p := p') (p' := p) (fun k hk => (h3 k (by omega)).symm)]
      simp
    · rw [cntF_flip (by omega : n < K) h1 h2 h3, h3 K (fun e2 => e e2.symm)]
      omega
theorem cntF_or : ∀ (K : Nat) (a b : Nat → Bool), cntF K (fun n => a n || b n) = cntF K a + cntF K (fun n => b n && !a n)
  | 0, _, _ => rfl
  | K + 1, a, b => by
    rw [cntF_succ, cntF_succ, cntF_succ, cntF_or K a b]
    cases a K <;> cases b K <;> simp <;> omega
theorem cntF_zero {K : Nat} {p : Nat → Bool} (h : ∀ n, n < K → p n = false) : cntF K p = 0 := by
  rw [cntF_congr (p' := fun _ => false) h]
  unfold cntF
  simp
theorem cntF_le (K : Nat) (p : Nat → Bool) : cntF K p ≤ K := by
  unfold cntF
  have := List.length_filter_le p (List.range K)
  simpa using this
theorem ks_cnt (K : Nat) (com : Nat → Option (List Int)) : (ks K com).length = cntF K (fun n => (com n).isSome) := rfl
theorem mrg_some (com own : Nat → Option (List Int)) (n : Nat) : (mrg com own n).isSome = ((com n).isSome || (own n).isSome) := by
  unfold mrg
  cases own n <;> simp
/-- What is counted, where g is still to come. -/
def tog (K : Nat) (com own : Nat → Option (List Int)) (g : Nat → Bool) : Nat := cntF K (fun n => (com n).isSome) + cntF K (fun n => ((own n).isSome && !(com n).isSome) && !g n)
theorem tog_start (K : Nat) (com own : Nat → Option (List Int)) (Vt : Nat → Value) : tog K com own (fun n => (vf own Vt n).isSome) = (ks K com).length := by
  have h : cntF K (fun n => ((own n).isSome && !(com n).isSome) && !(vf own Vt n).isSome) = 0 := cntF_zero (fun n _ => by unfold vf; cases own n <;> simp)
  unfold tog
  rw [h, Nat.add_zero]
  rfl
theorem tog_end {K : Nat} {com own : Nat → Option (List Int)} {g : Nat → Bool} (h : ∀ n, n < K → g n = false) : tog K com own g = (ks K (mrg com own)).length := by
  have e : (ks K (mrg com own)).length = cntF K (fun n => (com n).isSome || (own n).isSome) := cntF_congr (fun n _ => mrg_some com own n)
  have e2 : cntF K (fun n => ((own n).isSome && !(com n).isSome) && !g n) = cntF K (fun n => (own n).isSome && !(com n).isSome) := cntF_congr (fun n hn => by simp [h n hn])
  rw [e, cntF_or]
  unfold tog
  rw [e2]
theorem tog_step {K n : Nat} {com own : Nat → Option (List Int)} {g : Nat → Bool} (hn : n < K) (hg : g n = true) (ho : (own n).isSome = true) : tog K com own (upd g n false) = tog K com own g + (if (com n).isSome then 0 else 1) := by
  unfold tog
  by_cases hc : (com n).isSome = true
  · rw [if_pos hc, Nat.add_zero]
    congr 1
    refine cntF_congr (fun k _ => ?_)
    by_cases e : k = n
    · subst e; simp [hc]
    · rw [upd_other _ _ e]
  · rw [if_neg hc]
    have hc' : (com n).isSome = false := by simpa using hc
    have e := cntF_flip (K := K) (n := n) (p := fun k => ((own k).isSome && !(com k).isSome) && !g k) (p' := fun k => ((own k).isSome && !(com k).isSome) && !upd g n false k) hn (by simp [hg]) (by simp [upd_same, ho, hc']) (fun k hk => by simp [upd_other _ _ hk])
    rw [e]
    omega

section
variable {F G : Nat → Prop} {pd pl q K : Nat} {S : St} {com own : Nat → Option (List Int)} {pend wrote : Nat} {ov : Value} {live : Bool} {m mt : Nat} {V Vt : Nat → Value}

set_option maxHeartbeats 3200000 in
set_option maxRecDepth 100000 in
theorem together_any (w : World) (h : Tk w F G pd pl q K S com pend live own wrote m V mt Vt) :
    Calls Tryz.prog 39 #[.pointer (some ⟨q, 0, none⟩)] w fun e w' => e = .returned (.int .i64 ((ks K (mrg com own)).length : Int)) ∧ Chg (fun _ => False) w w' := by
  have t0 := h.tx.c0
  have t1 := h.tx.c1
  have c1 := h.lk.lg.c1
  have hK := h.lk.top
  have hlen := h.lk.lg.mb.map.lenB 3
  rw [ks_vf] at hlen
  have hmap := h.tx.mb.map
  have HK : Hid (Tk w F G pd pl q K S com pend live own wrote m V mt Vt) := h
  have HL : Hid ((∀ b, F b → b < w.heap.size) ∧ ∀ b, G b → b < w.heap.size) := ⟨h.lk.dk.lt, h.lk.lg.lt⟩
  have HT : Hid (tog K com own (fun n => (vf own Vt n).isSome) = (ks K com).length) := tog_start K com own Vt
  clear h
  obtain ⟨N0, hN0⟩ : ∃ N0, (ks K com).length = N0 := ⟨_, rfl⟩
  rw [hN0] at hlen HT
  clear hN0
  go_enter Tryz.func39, Tryz.ntmps39
  go_wp2_with (at_range; refine wpList_range_isB _ rfl (.tmp 18) rfl mt K (vf own Vt) rfl hmap ?_; intro w0 cnt0 hrg0 hg0 hs0)
  go_frame
  have REL0 : Hid (Rng w0 mt w.heap.size K (vf own Vt) (fun n => (vf own Vt n).isSome) cnt0 ∧ Tk w0 F G pd pl q K S com pend live own wrote m V mt Vt ∧ Chg (fun _ => False) w w0) := ⟨hrg0, HK.out.kept (Chg.of_none hg0), Chg.of_none hg0⟩
  clear hmap hrg0 hg0 hs0 t1 t0 HK c1 hlen
  go_loopw [3, 4, 5, 6] (fun x _ _ _ wr => ∃ g cnt, x = .int .i64 (tog K com own g : Int) ∧ Hid (Rng wr mt w.heap.size K (vf own Vt) g cnt ∧ Tk wr F G pd pl q K S com pend live own wrote m V mt Vt ∧ Chg (fun _ => False) w wr)) (fun _ _ _ _ wr => wr.rangeLeft mt w.heap.size)
  case atStart => exact ⟨_, _, by rw [HT.out], REL0⟩
  case round =>
    clear REL0 HT
    obtain ⟨g, cnt, rfl, HR⟩ := hrel
    have hform := HR.out.2.1.formT
    have hrg := HR.out.1
    have htl : tog K com own g ≤ 2 * K := by
      unfold tog
      have h1 := cntF_le K (fun n => (com n).isSome)
      have h2 := cntF_le K (fun n => ((own n).isSome && !(com n).isSome) && !g n)
      omega
    go_wp2_with (first
      | (at_next; refine wpList_next_sl _ rfl (.tmp 19) rfl mt w.heap.size K (vf own Vt) g cnt (fun _ => 512) hK rfl hrg hform ?_ ?_)
      | go_in)
    · intro hdone
      have HQ : Hid (Chg (fun _ => False) w wr ∧ tog K com own g = (ks K (mrg com own)).length) := ⟨HR.out.2.2, tog_end hdone⟩
      clear hform hrg HR
      go_wp2
      go_ret
      exact ⟨congrArg (fun n : Nat => Ending.returned (.int .i64 (n : Int))) HQ.out.2, HQ.out.1⟩
    · intro n x c w2 cnt2 hn hgn hf hrg2 hlt2 hg2 hs2 hen
      have hl := hrg.left
      have tk2 := HR.out.2.1.keptE (Chg.of_grown hg2) (fun b hb e => by have := HL.out.1 b hb; omega) (fun b hb e => by have := HL.out.2 b hb; omega)
      have t0 := tk2.tx.c0
      have c1 := tk2.lk.lg.c1
      have lk := tk2.lk.lg.mb.map.lookB2 hK hn
      have hon : (own n).isSome = true := by
        unfold vf at hf
        split at hf
        · assumption
        · cases hf
      have hst := tog_step (com := com) hn hgn hon
      have H2 : Hid (Rng w2 mt w.heap.size K (vf own Vt) (upd g n false) cnt2 ∧ Tk w2 F G pd pl q K S com pend live own wrote m V mt Vt ∧ Chg (fun _ => False) w w2) := ⟨hrg2, tk2, HR.out.2.2.trans (Chg.of_grown hg2) (fun i hi e => by omega)⟩
      have hl2 := hrg2.left
      cases hc : com n with
      | some b =>
        obtain ⟨g0, c0, e0, _⟩ := tk2.lk.lg.lookB hK hc
        rw [vf_some hc, Option.getD_some, e0] at lk
        rw [hc] at hst
        have HS : Hid (tog K com own (upd g n false) = tog K com own g) := hst
        clear hform hf hs2 hrg HR hg2 tk2 hrg2 hst e0 hc
        go_wp2
        go_roundw
        case rel => exact ⟨_, cnt2, by rw [HS.out], H2⟩
        case measure => rw [hl2, hl]; exact hlt2
      | none =>
        rw [vf_none hc] at lk
        rw [hc] at hst
        have HS : Hid (tog K com own (upd g n false) = tog K com own g + 1) := hst
        clear hform hf hs2 hrg HR hg2 tk2 hrg2 hst hc
        go_wp2
        go_roundw
        case rel => exact ⟨_, cnt2, by rw [HS.out]; go_num, H2⟩
        case measure => rw [hl2, hl]; exact hlt2

/-- com, with what of own has come. -/
def mrgG (com own : Nat → Option (List Int)) (g : Nat → Bool) (n : Nat) : Option (List Int) := if (own n).isSome && !g n then own n else com n
def valG (own : Nat → Option (List Int)) (V Vt : Nat → Value) (g : Nat → Bool) (n : Nat) : Value := if (own n).isSome && !g n then Vt n else V n
theorem mrgG_start (com own : Nat → Option (List Int)) (Vt : Nat → Value) : mrgG com own (fun n => (vf own Vt n).isSome) = com := by
  funext n; unfold mrgG vf; cases h : own n <;> simp [h]
theorem valG_start (own : Nat → Option (List Int)) (V Vt : Nat → Value) : valG own V Vt (fun n => (vf own Vt n).isSome) = V := by
  funext n; unfold valG vf; cases h : own n <;> simp [h]
theorem mrgG_step {com own : Nat → Option (List Int)} {g : Nat → Bool} {n : Nat} {b : List Int} (ho : own n = some b) : upd (mrgG com own g) n (some b) = mrgG com own (upd g n false) := by
  funext k
  by_cases e : k = n
  · subst e; simp [mrgG, upd_same, ho]
  · rw [upd_other _ _ e]; simp [mrgG, upd_other _ _ e]
theorem valG_step {own : Nat → Option (List Int)} {V Vt : Nat → Value} {g : Nat → Bool} {n : Nat} {b : List Int} (ho : own n = some b) : upd (valG own V Vt g) n (Vt n) = valG own V Vt (upd g n false) := by
  funext k
  by_cases e : k = n
  · subst e; simp [valG, upd_same, ho]
  · rw [upd_other _ _ e]; simp [valG, upd_other _ _ e]
theorem mrgG_end {K : Nat} {com own : Nat → Option (List Int)} {g : Nat → Bool} (h : ∀ n, n < K → g n = false) (ho : ∀ n b, own n = some b → n < K) : mrgG com own g = mrg com own := by
  funext n
  unfold mrgG mrg
  cases hn : own n with
  | none => simp
  | some b => simp [h n (ho n b hn)]

/-- One block of the transaction becomes the log's. -/
theorem Tk.moved {w w' : World} {n : Nat} {b : List Int} (h : Tk w F G pd pl q K S com pend live own wrote m V mt Vt) (ho : own n = some b) (hc : Chg (fun x => x = m) w w') (hm : MapIs w' m K (upd (vf com V) n (some (Vt n)))) : Tk w' F G pd pl q K S (upd com n (some b)) pend live own wrote m (upd V n (Vt n)) mt Vt := by
  obtain ⟨es, cl, hom⟩ := h.lk.lg.mb.map.obj
  have hr : ∀ x, (∃ cur, w.heap[x]? = some (.cells cur 5 (0, 0))) → ¬ x = m := fun x ⟨cur, hcur⟩ e => by rw [e, hom] at hcur; cases hcur
  have hpm : ¬ pl = m := fun e => by have := h.lk.lg.blk; rw [e, hom] at this; cases this
  refine ⟨⟨h.lk.dk.kept hc (fun x hf e => h.lk.no x hf (e ▸ h.lk.lg.mb.fm)), ⟨(hc.block pl h.lk.lg.pl_lt hpm).trans h.lk.lg.blk, ⟨?_, fun k b' hb => ?_, h.lk.lg.mb.fm⟩, h.lk.lg.fp, fun x hb => Nat.lt_of_lt_of_le (h.lk.lg.lt x hb) hc.size⟩, h.lk.no, h.lk.nb⟩, h.tx.beside h.lk.lg h.ne (hc.mono (fun _ _ h => .inr h)), h.ne⟩
  · rw [vf_upd]; exact hm
  · have keep : ∀ {v : Value}, (∃ g c, v = .slice (some ⟨g, 0, none⟩) 512 c ∧ w.ownsRow 0 5 1 v 512 (bcells b') ∧ G g) → ∃ g c, v = .slice (some ⟨g, 0, none⟩) 512 c ∧ w'.ownsRow 0 5 1 v 512 (bcells b') ∧ G g := by
      rintro v ⟨g, c, rfl, h1, h2⟩
      refine ⟨g, c, rfl, own_same h1 (fun z hz => ?_), h2⟩
      have e := own_at hz
      subst e
      exact hc.block _ (h1.lt _ rfl).2 (hr _ (own_obj h1 rfl))
    by_cases e : k = n
    · subst e
      rw [upd_same] at hb ⊢
      injection hb with hb
      subst hb
      obtain ⟨h1, h2, h3⟩ := h.tx.mb.row k b ho
      exact ⟨h1, h2, keep h3⟩
    · rw [upd_other _ _ e] at hb ⊢
      obtain ⟨h1, h2, h3⟩ := h.lk.lg.mb.row k b' hb
      exact ⟨h1, h2, keep h3⟩
/-- Behind a Sync of the log. -/
theorem Tk.sync {w w' : World} {F' : Nat → Prop} {S' : St} {com' : Nat → Option (List Int)} {pend' : Nat} {V' : Nat → Value} (h : Tk w F G pd pl q K S com pend live own wrote m V mt Vt) (hk : Lk w' F' G pd pl K S' com' pend' (ovOf live q) m V') (hc : Chg (fun b => F b ∨ b = pl ∨ b = m) w w') : Tk w' F' G pd pl q K S' com' pend' live own wrote m V' mt Vt := by
  obtain ⟨es, cl, hom⟩ := h.lk.lg.mb.map.obj
  have nq : ∀ x, G x → x ≠ pl → x ≠ m → ¬ (F x ∨ x = pl ∨ x = m) := fun x hx h1 h2 e => by
    rcases e with e | e | e
    · exact h.lk.no x e hx
    · exact h1 e
    · exact h2 e
  refine ⟨hk, ⟨(hc.block q (h.tx.lt q h.tx.fp) (nq q h.tx.fp (Ne.symm h.qpl) (Ne.symm h.mq))).trans h.tx.blk, h.tx.mb.kept hc (nq mt h.tx.mb.fm h.mtpl h.ne) (fun g hg ⟨cur, ho⟩ => nq g hg (fun e => ?_) (fun e => ?_)), h.tx.fp, fun b hb => Nat.lt_of_lt_of_le (h.tx.lt b hb) hc.size⟩, h.ne⟩
  · rw [e, h.lk.lg.blk] at ho; cases ho
  · rw [e, hom] at ho; cases ho

/-- What Commit leaves. -/
def CmTo (F G : Nat → Prop) (pd pl q K : Nat) (S : St) (com : Nat → Option (List Int)) (pend : Nat) (own : Nat → Option (List Int)) (wrote m mt : Nat) (Vt : Nat → Value) (f : Nat → List Int) (w : World) (e : Ending) (w' : World) : Prop :=
  (∃ F' S' V' com' pend', e = .returned (.int .i64 0) ∧ Tk w' F' G pd pl q K S' com' pend' false (fun _ => none) wrote m V' mt Vt ∧ Chg (fun b => F b ∨ b = pl ∨ b = m ∨ b = mt) w w' ∧ (∀ b, F' b → F b ∨ w.heap.size ≤ b) ∧ Onw S S' 128 ∧
    ((pend' = pend + 1 ∧ com' = mrg com own ∧ S' = S ∧ (ks K (mrg com own)).length ≤ 63) ∨ (pend' = 1 ∧ com' = own ∧ Clean S' K (ovr f com) ∧ 63 < (ks K (mrg com own)).length))) ∨
  (∃ F' S' V', e = .returned (.int .i64 6) ∧ Tk w' F' G pd pl q K S' com pend false (fun _ => none) wrote m V' mt Vt ∧ Chg (fun b => F b ∨ b = pl ∨ b = m ∨ b = mt) w w' ∧ (∀ b, F' b → F b ∨ w.heap.size ≤ b) ∧ Gone S S' 128 ∧ 63 < (ks K (mrg com own)).length ∧ (Lasts S' K f ∨ Lasts S' K (ovr f com)))

set_option maxHeartbeats 800000 in
theorem commit_dead (w : World) (h : Tk w F G pd pl q K S com pend false own wrote m V mt Vt) :
    Calls Tryz.prog 14 #[.pointer (some ⟨q, 0, none⟩)] w fun e w' => e = .returned (.int .i64 15) ∧ w' = w := by
  have HK : Hid (Tk w F G pd pl q K S com pend false own wrote m V mt Vt) := h
  clear h
  go_enter_defers Tryz.func14, Tryz.ntmps14
  go_wp2_with fail
  refine (isOpen_any w HK.out).mono ?_
  rintro e w1 ⟨rfl, rfl⟩
  clear HK
  go_wp2
  exact ⟨_, results_tmp rfl _ _ _, rfl, rfl⟩
end
end Go.Proofs.YtnnaemlipahamaaGreat

namespace Go.Proofs.YtnnaemlipahamaaGreat
open Go.RowKit Go.Maps

section
variable {F G : Nat → Prop} {pd pl q K : Nat} {S : St} {com own : Nat → Option (List Int)} {pend wrote : Nat} {ov : Value} {live : Bool} {m mt : Nat} {V Vt : Nat → Value}

set_option maxHeartbeats 3200000 in
set_option maxRecDepth 100000 in
theorem commit_any (f : Nat → List Int) (w : World) (h : Tk w F G pd pl q K S com pend true own wrote m V mt Vt) (hcl : Clean S K f) (hoff : S.off = false) (hk : (ks K com).length ≤ 63) (hx : S.writes + 2000 < 1099511627776) (hp : pend < 1099511627776) :
    Calls Tryz.prog 14 #[.pointer (some ⟨q, 0, none⟩)] w fun e w' => CmTo F G pd pl q K S com pend own wrote m mt Vt f w e w' := by
  have HK : Hid (Tk w F G pd pl q K S com pend true own wrote m V mt Vt) := h
  have HC : Hid (Clean S K f ∧ S.off = false ∧ (ks K com).length ≤ 63) := ⟨hcl, hoff, hk⟩
  have hK := h.lk.top
  have t0 := h.tx.c0
  have c0 := h.lk.lg.c0
  obtain ⟨T, hT⟩ : ∃ T, (ks K (mrg com own)).length = T := ⟨_, rfl⟩
  have HTT : Hid ((ks K (mrg com own)).length = T) := hT
  have TG : Hid (Calls Tryz.prog 39 #[.pointer (some ⟨q, 0, none⟩)] w fun e w' => e = .returned (.int .i64 (T : Int)) ∧ Chg (fun _ => False) w w') := by
    have := together_any w h
    rw [hT] at this
    exact this
  clear h hcl hk hT
  go_enter_defers Tryz.func14, Tryz.ntmps14
  go_wp2_with fail
  refine (isOpen_any w HK.out).mono ?_
  rintro e w0 ⟨rfl, rfl⟩
  go_wp2_with fail
  refine (off_any F pd S w0 HK.out.lk.dk).mono ?_
  rintro e wz ⟨rfl, rfl⟩
  rw [hoff]
  go_wp2_with fail
  refine TG.out.mono ?_
  rintro e w1 ⟨rfl, hc1⟩
  clear TG t0 c0
  by_cases hT63 : T ≤ 63
  · have k63 : ¬ ((63 : Int) < (T : Int)) := by omega
    obtain ⟨F1, hF1⟩ : ∃ F1, F1 = F := ⟨_, rfl⟩
    obtain ⟨S1, hS1⟩ : ∃ S1, S1 = S := ⟨_, rfl⟩
    obtain ⟨com1, hcom1⟩ : ∃ com1, com1 = com := ⟨_, rfl⟩
    obtain ⟨pend1, hpend1⟩ : ∃ pend1, pend1 = pend := ⟨_, rfl⟩
    obtain ⟨V1, hV1⟩ : ∃ V1, V1 = V := ⟨_, rfl⟩
    have HT : Hid (Tk w1 F1 G pd pl q K S1 com1 pend1 true own wrote m V1 mt Vt) := by
      rw [hF1, hS1, hcom1, hpend1, hV1]; exact HK.out.kept hc1
    have hp1 : pend1 < 1099511627776 := by omega
    have HF : Hid (∀ w' V', Tk w' F1 G pd pl q K S1 (mrg com1 own) (pend1 + 1) false (fun _ => none) wrote m V' mt Vt → Chg (fun b => b = pl ∨ b = m ∨ b = mt) w1 w' → CmTo F G pd pl q K S com pend own wrote m mt Vt f wz (.returned (.int .i64 0)) w') := by
      intro w' V' htk hch
      rw [hF1, hS1, hcom1, hpend1] at htk
      refine .inl ⟨F, S, V', mrg com own, pend + 1, rfl, htk, hc1.trans' (hch.mono (fun _ _ h => .inr h)), fun b hb => .inl hb, (Onw.refl HC.out.1.wf HC.out.2.1).mono (by omega), .inl ⟨rfl, rfl, rfl, ?_⟩⟩
      rw [HTT.out]; exact hT63
    have hT : Hid (Tk w1 F1 G pd pl q K S1 com1 pend1 true own wrote m V1 mt Vt ∧ True) := ⟨HT.out, trivial⟩
    clear hc1 hF1 hS1 hcom1 hpend1 hV1 HK HC HTT HT hp
    have HT := hT
    clear hT

    have HN : Hid (∀ n b, own n = some b → n < K) := fun n b hb => (HT.out.1.tx.mb.row n b hb).1
    have HL : Hid ((∀ b, F1 b → b < w1.heap.size) ∧ ∀ b, G b → b < w1.heap.size) := ⟨HT.out.1.lk.dk.lt, HT.out.1.lk.lg.lt⟩
    have t1 := HT.out.1.tx.c1
    have hmap := HT.out.1.tx.mb.map
    go_wp2_with (at_range; refine wpList_range_isB _ rfl (.tmp 31) rfl mt K (vf own Vt) rfl hmap ?_; intro w2 cnt0 hrg0 hg0 hs0)
    go_frame
    have REL0 : Hid (Rng w2 mt w1.heap.size K (vf own Vt) (fun n => (vf own Vt n).isSome) cnt0 ∧ Tk w2 F1 G pd pl q K S1 (mrgG com1 own fun n => (vf own Vt n).isSome) pend1 true own wrote m (valG own V1 Vt fun n => (vf own Vt n).isSome) mt Vt ∧ Chg (fun b => b = m) w1 w2) := by
      rw [mrgG_start, valG_start]
      exact ⟨hrg0, HT.out.1.kept (Chg.of_none hg0), (Chg.of_none hg0).mono (fun _ _ h => h.elim)⟩
    clear hmap hrg0 hg0 hs0 t1 HT
    go_loopw [5, 6] (fun _ _ wr => ∃ g cnt, Hid (Rng wr mt w1.heap.size K (vf own Vt) g cnt ∧ Tk wr F1 G pd pl q K S1 (mrgG com1 own g) pend1 true own wrote m (valG own V1 Vt g) mt Vt ∧ Chg (fun b => b = m) w1 wr)) (fun _ _ wr => wr.rangeLeft mt w1.heap.size)
    case atStart => exact ⟨_, _, REL0⟩
    case round =>
      clear REL0
      obtain ⟨g, cnt, HR⟩ := hrel
      have hform := HR.out.2.1.formT
      have hrg := HR.out.1
      go_wp2_with (first
        | (at_next; refine wpList_next_sl _ rfl (.tmp 32) rfl mt w1.heap.size K (vf own Vt) g cnt (fun _ => 512) hK rfl hrg hform ?_ ?_)
        | go_in)
      · intro hdone
        have tk := HR.out.2.1
        rw [mrgG_end hdone HN.out] at tk
        have c2 := tk.lk.lg.c2
        have fr2 := tk.lk.lg.fr 2
        have hcs : Chg (fun b => b = pl) wr (wr.setCell ⟨pl, 2, none⟩ (.int .i64 ((pend1 : Int) + 1))) := Chg.setCell _ _ _ rfl
        have tk3 : Tk (wr.setCell ⟨pl, 2, none⟩ (.int .i64 ((pend1 : Int) + 1))) F1 G pd pl q K S1 (mrg com1 own) (pend1 + 1) true own wrote m (valG own V1 Vt g) mt Vt := by
          refine ⟨tk.lk.restruct hcs ?_, tk.tx.beside tk.lk.lg tk.ne (hcs.mono (fun _ _ h => .inl h)), tk.ne⟩
          have := heap_setCell_same wr pl 2 _ 83 (.int .i64 ((pend1 : Int) + 1)) tk.lk.lg.blk
          simpa using this
        have H3 : Hid (Tk (wr.setCell ⟨pl, 2, none⟩ (.int .i64 ((pend1 : Int) + 1))) F1 G pd pl q K S1 (mrg com1 own) (pend1 + 1) true own wrote m (valG own V1 Vt g) mt Vt ∧ Chg (fun b => b = pl ∨ b = m) w1 (wr.setCell ⟨pl, 2, none⟩ (.int .i64 ((pend1 : Int) + 1)))) :=
          ⟨tk3, (HR.out.2.2.mono (fun _ _ h => .inr h)).trans hcs (fun _ _ h => .inl h)⟩
        clear hform hrg HR tk hcs tk3
        go_wp2
        refine leaves_cons (f := 38) (args := #[.pointer (some ⟨q, 0, none⟩)]) (by simp) (by simp [go_sem]) ?_
        refine (end_d .returning _ H3.out.1).mono ?_
        rintro e u' w4 ⟨rfl, rfl, h1, h2⟩
        exact ⟨_, results_tmp (t := 2) rfl _ _ _, HF.out w4 _ h1 ((H3.out.2.mono (fun _ _ h => by rcases h with h | h; exact .inl h; exact .inr (.inl h))).trans h2 (fun _ _ h => by rcases h with h | h; exact .inl h; exact .inr (.inr h)))⟩
      · intro n x c w3 cnt2 hn hgn hf hrg2 hlt2 hg2 hs2 hen
        have hl := hrg.left
        have tk2 := HR.out.2.1.keptE (Chg.of_grown hg2) (fun b hb e => by have := HL.out.1 b hb; omega) (fun b hb e => by have := HL.out.2 b hb; omega)
        have c1 := tk2.lk.lg.c1
        obtain ⟨b, hb, hv⟩ : ∃ b, own n = some b ∧ Vt n = .slice x 512 c := by
          unfold vf at hf
          split at hf
          · rename_i hs
            obtain ⟨b, hb⟩ := Option.isSome_iff_exists.1 hs
            injection hf with hf
            exact ⟨b, hb, hf⟩
          · cases hf
        obtain ⟨w4, hrun, hm4, hg4, hz4⟩ := tk2.lk.lg.mb.map.storeB hK hn (.slice x 512 c)
        have hch4 := Chg.of_grown hg4
        have tk4 := tk2.moved hb hch4 (by rw [hv]; exact hm4)
        rw [mrgG_step hb, valG_step hb] at tk4
        obtain ⟨ita, itb, itc, itd, hit⟩ := hrg2.obj
        obtain ⟨es, cl, hom⟩ := tk2.lk.lg.mb.map.obj
        have hrg4 : Rng w4 mt w1.heap.size K (vf own Vt) (upd g n false) cnt2 := hrg2.kept (hch4.block mt hrg2.map.lt tk2.ne) (hch4.block _ hrg2.lt (fun e => by rw [e, hom] at hit; cases hit))
        have H4 : Hid (Rng w4 mt w1.heap.size K (vf own Vt) (upd g n false) cnt2 ∧ Tk w4 F1 G pd pl q K S1 (mrgG com1 own (upd g n false)) pend1 true own wrote m (valG own V1 Vt (upd g n false)) mt Vt ∧ Chg (fun b => b = m) w1 w4) :=
          ⟨hrg4, tk4, (HR.out.2.2.trans (Chg.of_grown hg2) (fun i hi e => by omega)).trans hch4 (fun _ _ h => h)⟩
        have hl4 := hrg4.left
        clear hform hf hs2 hrg HR hg2 tk2 hrg2 hm4 hg4 hz4 hch4 tk4 hrg4 hit hom hb hv
        go_wp2
        go_roundw
        case rel => exact ⟨_, cnt2, H4⟩
        case measure => rw [hl4, hl]; exact hlt2
  · have k63 : (63 : Int) < (T : Int) := by omega
    have LS : Hid (Calls Tryz.prog 40 #[.pointer (some ⟨pl, 0, none⟩)] w1 fun e w' => SyTo F G pd pl K S com pend (ovOf true q) m V f w1 e w') := lsync_any f w1 (HK.out.kept hc1).lk HC.out.1 HC.out.2.1 HC.out.2.2 hx
    have HC1 : Hid (Chg (fun _ => False) wz w1) := hc1
    clear hc1
    go_wp2_with fail
    refine LS.out.mono ?_
    rintro e w5 hsy
    clear LS
    rcases hsy with ⟨F5, S5, rfl, hk5, hc5, hf5, hon5, hcl5⟩ | ⟨F5, S5, rfl, hk5, hc5, hf5, hgo5, hla5⟩
    rotate_left
    · have tk5 := (HK.out.kept HC1.out).sync hk5 (hc5.mono (fun _ _ h => .inl h))
      have H5 : Hid (Tk w5 F5 G pd pl q K S5 com pend true own wrote m V mt Vt ∧ ∀ w', Tk w' F5 G pd pl q K S5 com pend false (fun _ => none) wrote m V mt Vt → Chg (fun b => b = pl ∨ b = mt) w5 w' → CmTo F G pd pl q K S com pend own wrote m mt Vt f wz (.returned (.int .i64 6)) w') := by
        refine ⟨tk5, fun w' htk hch => .inr ⟨F5, S5, V, rfl, htk, ?_, fun b hb => ?_, hgo5, ?_, hla5⟩⟩
        · exact HC1.out.trans' ((hc5.mono (fun _ _ h => .inl h)).trans hch (fun _ _ h => by rcases h with h | h; exact .inr (.inl h); exact .inr (.inr (.inr h))))
        · have := HC1.out.size
          rcases hf5 b hb with h | h
          · exact .inl h
          · exact .inr (by omega)
        · rw [HTT.out]; omega
      clear hk5 hc5 hf5 hgo5 hla5 tk5 HK HC HTT
      go_wp2
      refine leaves_cons (f := 38) (args := #[.pointer (some ⟨q, 0, none⟩)]) (by simp) (by simp [go_sem]) ?_
      refine (end_d .returning _ H5.out.1).mono ?_
      rintro e u' w4 ⟨rfl, rfl, h1, h2⟩
      exact ⟨_, results_tmp (t := 2) rfl _ _ _, H5.out.2 w4 h1 h2⟩
    have tk5 := (HK.out.kept HC1.out).sync hk5 hc5
    obtain ⟨com1, hcom1⟩ : ∃ com1 : Nat → Option (List Int), com1 = fun _ => none := ⟨_, rfl⟩
    obtain ⟨pend1, hpend1⟩ : ∃ pend1 : Nat, pend1 = 0 := ⟨_, rfl⟩
    have HT : Hid (Tk w5 F5 G pd pl q K S5 com1 pend1 true own wrote m V mt Vt ∧ True) := by rw [hcom1, hpend1]; exact ⟨tk5, trivial⟩
    have HF : Hid (∀ w' V', Tk w' F5 G pd pl q K S5 (mrg com1 own) (pend1 + 1) false (fun _ => none) wrote m V' mt Vt → Chg (fun b => b = pl ∨ b = m ∨ b = mt) w5 w' → CmTo F G pd pl q K S com pend own wrote m mt Vt f wz (.returned (.int .i64 0)) w') := by
      intro w' V' htk hch
      rw [hcom1, hpend1] at htk
      have e0 : mrg (fun _ => none) own = own := by funext n; unfold mrg; cases own n <;> simp
      rw [e0] at htk
      refine .inl ⟨F5, S5, V', own, 1, rfl, htk, ?_, fun b hb => ?_, hon5, .inr ⟨rfl, rfl, hcl5, ?_⟩⟩
      · exact HC1.out.trans' ((hc5.mono (fun _ _ h => by rcases h with h | h | h; exact .inl h; exact .inr (.inl h); exact .inr (.inr (.inl h)))).trans hch (fun _ _ h => .inr h))
      · have := HC1.out.size
        rcases hf5 b hb with h | h
        · exact .inl h
        · exact .inr (by omega)
      · rw [HTT.out]; omega
    have hp1 : pend1 < 1099511627776 := by omega
    clear hk5 hc5 hf5 hon5 hcl5 tk5 HK HC HTT hcom1 hpend1 HC1
    obtain ⟨F1, hF1⟩ : ∃ F1, F5 = F1 := ⟨_, rfl⟩
    obtain ⟨S1, hS1⟩ : ∃ S1, S5 = S1 := ⟨_, rfl⟩
    obtain ⟨V1, hV1⟩ : ∃ V1, V = V1 := ⟨_, rfl⟩
    subst hF1 hS1 hV1

    have HN : Hid (∀ n b, own n = some b → n < K) := fun n b hb => (HT.out.1.tx.mb.row n b hb).1
    have HL : Hid ((∀ b, F5 b → b < w5.heap.size) ∧ ∀ b, G b → b < w5.heap.size) := ⟨HT.out.1.lk.dk.lt, HT.out.1.lk.lg.lt⟩
    have t1 := HT.out.1.tx.c1
    have hmap := HT.out.1.tx.mb.map
    go_wp2_with (at_range; refine wpList_range_isB _ rfl (.tmp 31) rfl mt K (vf own Vt) rfl hmap ?_; intro w2 cnt0 hrg0 hg0 hs0)
    go_frame
    have REL0 : Hid (Rng w2 mt w5.heap.size K (vf own Vt) (fun n => (vf own Vt n).isSome) cnt0 ∧ Tk w2 F5 G pd pl q K S5 (mrgG com1 own fun n => (vf own Vt n).isSome) pend1 true own wrote m (valG own V Vt fun n => (vf own Vt n).isSome) mt Vt ∧ Chg (fun b => b = m) w5 w2) := by
      rw [mrgG_start, valG_start]
      exact ⟨hrg0, HT.out.1.kept (Chg.of_none hg0), (Chg.of_none hg0).mono (fun _ _ h => h.elim)⟩
    clear hmap hrg0 hg0 hs0 t1 HT
    go_loopw [5, 6] (fun _ _ wr => ∃ g cnt, Hid (Rng wr mt w5.heap.size K (vf own Vt) g cnt ∧ Tk wr F5 G pd pl q K S5 (mrgG com1 own g) pend1 true own wrote m (valG own V Vt g) mt Vt ∧ Chg (fun b => b = m) w5 wr)) (fun _ _ wr => wr.rangeLeft mt w5.heap.size)
    case atStart => exact ⟨_, _, REL0⟩
    case round =>
      clear REL0
      obtain ⟨g, cnt, HR⟩ := hrel
      have hform := HR.out.2.1.formT
      have hrg := HR.out.1
      go_wp2_with (first
        | (at_next; refine wpList_next_sl _ rfl (.tmp 32) rfl mt w5.heap.size K (vf own Vt) g cnt (fun _ => 512) hK rfl hrg hform ?_ ?_)
        | go_in)
      · intro hdone
        have tk := HR.out.2.1
        rw [mrgG_end hdone HN.out] at tk
        have c2 := tk.lk.lg.c2
        have fr2 := tk.lk.lg.fr 2
        have hcs : Chg (fun b => b = pl) wr (wr.setCell ⟨pl, 2, none⟩ (.int .i64 ((pend1 : Int) + 1))) := Chg.setCell _ _ _ rfl
        have tk3 : Tk (wr.setCell ⟨pl, 2, none⟩ (.int .i64 ((pend1 : Int) + 1))) F5 G pd pl q K S5 (mrg com1 own) (pend1 + 1) true own wrote m (valG own V Vt g) mt Vt := by
          refine ⟨tk.lk.restruct hcs ?_, tk.tx.beside tk.lk.lg tk.ne (hcs.mono (fun _ _ h => .inl h)), tk.ne⟩
          have := heap_setCell_same wr pl 2 _ 83 (.int .i64 ((pend1 : Int) + 1)) tk.lk.lg.blk
          simpa using this
        have H3 : Hid (Tk (wr.setCell ⟨pl, 2, none⟩ (.int .i64 ((pend1 : Int) + 1))) F5 G pd pl q K S5 (mrg com1 own) (pend1 + 1) true own wrote m (valG own V Vt g) mt Vt ∧ Chg (fun b => b = pl ∨ b = m) w5 (wr.setCell ⟨pl, 2, none⟩ (.int .i64 ((pend1 : Int) + 1)))) :=
          ⟨tk3, (HR.out.2.2.mono (fun _ _ h => .inr h)).trans hcs (fun _ _ h => .inl h)⟩
        clear hform hrg HR tk hcs tk3
        go_wp2
        refine leaves_cons (f := 38) (args := #[.pointer (some ⟨q, 0, none⟩)]) (by simp) (by simp [go_sem]) ?_
        refine (end_d .returning _ H3.out.1).mono ?_
        rintro e u' w4 ⟨rfl, rfl, h1, h2⟩
        exact ⟨_, results_tmp (t := 2) rfl _ _ _, HF.out w4 _ h1 ((H3.out.2.mono (fun _ _ h => by rcases h with h | h; exact .inl h; exact .inr (.inl h))).trans h2 (fun _ _ h => by rcases h with h | h; exact .inl h; exact .inr (.inr h)))⟩
      · intro n x c w3 cnt2 hn hgn hf hrg2 hlt2 hg2 hs2 hen
        have hl := hrg.left
        have tk2 := HR.out.2.1.keptE (Chg.of_grown hg2) (fun b hb e => by have := HL.out.1 b hb; omega) (fun b hb e => by have := HL.out.2 b hb; omega)
        have c1 := tk2.lk.lg.c1
        obtain ⟨b, hb, hv⟩ : ∃ b, own n = some b ∧ Vt n = .slice x 512 c := by
          unfold vf at hf
          split at hf
          · rename_i hs
            obtain ⟨b, hb⟩ := Option.isSome_iff_exists.1 hs
            injection hf with hf
            exact ⟨b, hb, hf⟩
          · cases hf
        obtain ⟨w4, hrun, hm4, hg4, hz4⟩ := tk2.lk.lg.mb.map.storeB hK hn (.slice x 512 c)
        have hch4 := Chg.of_grown hg4
        have tk4 := tk2.moved hb hch4 (by rw [hv]; exact hm4)
        rw [mrgG_step hb, valG_step hb] at tk4
        obtain ⟨ita, itb, itc, itd, hit⟩ := hrg2.obj
        obtain ⟨es, cl, hom⟩ := tk2.lk.lg.mb.map.obj
        have hrg4 : Rng w4 mt w5.heap.size K (vf own Vt) (upd g n false) cnt2 := hrg2.kept (hch4.block mt hrg2.map.lt tk2.ne) (hch4.block _ hrg2.lt (fun e => by rw [e, hom] at hit; cases hit))
        have H4 : Hid (Rng w4 mt w5.heap.size K (vf own Vt) (upd g n false) cnt2 ∧ Tk w4 F5 G pd pl q K S5 (mrgG com1 own (upd g n false)) pend1 true own wrote m (valG own V Vt (upd g n false)) mt Vt ∧ Chg (fun b => b = m) w5 w4) :=
          ⟨hrg4, tk4, (HR.out.2.2.trans (Chg.of_grown hg2) (fun i hi e => by omega)).trans hch4 (fun _ _ h => h)⟩
        have hl4 := hrg4.left
        clear hform hf hs2 hrg HR hg2 tk2 hrg2 hm4 hg4 hz4 hch4 tk4 hrg4 hit hom hb hv
        go_wp2
        go_roundw
        case rel => exact ⟨_, cnt2, H4⟩
        case measure => rw [hl4, hl]; exact hlt2
end
end Go.Proofs.YtnnaemlipahamaaGreat

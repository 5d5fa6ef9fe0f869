/-
  The contracts of together and Commit of a transaction of package wal.
-/
import Derived.Test.YtkkmdmnjlncgfaaWEnd
namespace Go.Proofs.Ytkkmdmnjlncgfaa
open Go.RowKit Go.Maps

/-- com, but what own has. -/
def mrg (com own : Nat → Option (List Int)) (n : Nat) : Option (List Int) := if (own n).isSome then own n else com n
theorem ovr_mrg (f : Nat → List Int) (com own : Nat → Option (List Int)) (n : Nat) : ovr f (mrg com own) n = ovr (ovr f com) own n := by
  unfold ovr mrg
  cases own n <;> simp
def cntF (K : Nat) (p : Nat → Bool) : Nat := ((List.range K).filter p).length
theorem cntF_succ (K : Nat) (p : Nat → Bool) : cntF (K + 1) p = cntF K p + (if p K then 1 else 0) := by
  unfold cntF
  rw [List.range_succ, List.filter_append, List.length_append]
  by_cases h : p K = true
  · simp [h]
  · simp [h]
theorem cntF_congr : ∀ {K : Nat} {p p' : Nat → Bool}, (∀ n, n < K → p n = p' n) → cntF K p = cntF K p'
  | 0, _, _, _ => rfl
  | K + 1, p, p', h => by rw [cntF_succ, cntF_succ, cntF_congr (fun n hn => h n (by omega)), h K (by omega)]
theorem cntF_flip : ∀ {K n : Nat} {p p' : Nat → Bool}, n < K → p n = false → p' n = true → (∀ k, k ≠ n → p k = p' k) → cntF K p' = cntF K p + 1
  | 0, _, _, _, h, _, _, _ => by omega
  | K + 1, n, p, p', h, h1, h2, h3 => by
    rw [cntF_succ, cntF_succ]
    by_cases e : n = K
    · subst e
      rw [h1, h2, cntF_congr (p := p') (p' := p) (fun k hk => (h3 k (by omega)).symm)]
      simp
    · rw [cntF_flip (by omega : n < K) h1 h2 h3, h3 K (fun e2 => e e2.symm)]
      omega
theorem cntF_or : ∀ (K : Nat) (a b : Nat → Bool), cntF K (fun n => a n || b n) = cntF K a + cntF K (fun n => b n && !a n)
  | 0, _, _ => rfl
  | K + 1, a, b => by
    rw [cntF_succ, cntF_succ, cntF_succ, cntF_or K a b]
    cases a K <;> cases b K <;> simp <;> omega
theorem cntF_zero {K : Nat} {p : Nat → Bool} (h : ∀ n, n < K → p n = false) : cntF K p = 0 := by
  rw [cntF_congr (p' := fun _ => false) h]
  unfold cntF
  simp
theorem cntF_le (K : Nat) (p : Nat → Bool) : cntF K p ≤ K := by
  unfold cntF
  have := List.length_filter_le p (List.range K)
  simpa using this
theorem ks_cnt (K : Nat) (com : Nat → Option (List Int)) : (ks K com).length = cntF K (fun n => (com n).isSome) := rfl
theorem mrg_some (com own : Nat → Option (List Int)) (n : Nat) : (mrg com own n).isSome = ((com n).isSome || (own n).isSome) := by
  unfold mrg
  cases own n <;> simp
/-- What is counted, where g is still to come. -/
def tog (K : Nat) (com own : Nat → Option (List Int)) (g : Nat → Bool) : Nat := cntF K (fun n => (com n).isSome) + cntF K (fun n => ((own n).isSome && !(com n).isSome) && !g n)
theorem tog_start (K : Nat) (com own : Nat → Option (List Int)) (Vt : Nat → Value) : tog K com own (fun n => (vf own Vt n).isSome) = (ks K com).length := by
  have h : cntF K (fun n => ((own n).isSome && !(com n).isSome) && !(vf own Vt n).isSome) = 0 := cntF_zero (fun n _ => by unfold vf; cases own n <;> simp)
  unfold tog
  rw [h, Nat.add_zero]
  rfl
theorem tog_end {K : Nat} {com own : Nat → Option (List Int)} {g : Nat → Bool} (h : ∀ n, n < K → g n = false) : tog K com own g = (ks K (mrg com own)).length := by
  have e : (ks K (mrg com own)).length = cntF K (fun n => (com n).isSome || (own n).isSome) := cntF_congr (fun n _ => mrg_some com own n)
  have e2 : cntF K (fun n => ((own n).isSome && !(com n).isSome) && !g n) = cntF K (fun n => (own n).isSome && !(com n).isSome) := cntF_congr (fun n hn => by simp [h n hn])
  rw [e, cntF_or]
  unfold tog
  rw [e2]
theorem tog_step {K n : Nat} {com own : Nat → Option (List Int)} {g : Nat → Bool} (hn : n < K) (hg : g n = true) (ho : (own n).isSome = true) : tog K com own (upd g n false) = tog K com own g + (if (com n).isSome then 0 else 1) := by
  unfold tog
  by_cases hc : (com n).isSome = true
  · rw [if_pos hc, Nat.add_zero]
    congr 1
    refine cntF_congr (fun k _ => ?_)
    by_cases e : k = n
    · subst e; simp [hc]
    · rw [upd_other _ _ e]
  · rw [if_neg hc]
    have hc' : (com n).isSome = false := by simpa using hc
    have e := cntF_flip (K := K) (n := n) (p := fun k => ((own k).isSome && !(com k).isSome) && !g k) (p' := fun k => ((own k).isSome && !(com k).isSome) && !upd g n false k) hn (by simp [hg]) (by simp [upd_same, ho, hc']) (fun k hk => by simp [upd_other _ _ hk])
    rw [e]
    omega

section
variable {F G : Nat → Prop} {pd pl q K : Nat} {S : St} {com own : Nat → Option (List Int)} {pend wrote : Nat} {ov : Value} {live : Bool} {m mt : Nat} {V Vt : Nat → Value}

set_option maxHeartbeats 3200000 in
set_option maxRecDepth 100000 in
theorem together_any (w : World) (h : Tk w F G pd pl q K S com pend live own wrote m V mt Vt) :
    Calls Try.prog 57 #[.pointer (some ⟨q, 0, none⟩)] w fun e w' => e = .returned (.int .i64 ((ks K (mrg com own)).length : Int)) ∧ Chg (fun _ => False) w w' := by
  have t0 := h.tx.c0
  have t1 := h.tx.c1
  have c1 := h.lk.lg.c1
  have hK := h.lk.top
  have hlen := h.lk.lg.mb.map.lenB 3
  rw [ks_vf] at hlen
  have hmap := h.tx.mb.map
  have HK : Hid (Tk w F G pd pl q K S com pend live own wrote m V mt Vt) := h
  have HL : Hid ((∀ b, F b → b < w.heap.size) ∧ ∀ b, G b → b < w.heap.size) := ⟨h.lk.dk.lt, h.lk.lg.lt⟩
  have HT : Hid (tog K com own (fun n => (vf own Vt n).isSome) = (ks K com).length) := tog_start K com own Vt
  clear h
  obtain ⟨N0, hN0⟩ : ∃ N0, (ks K com).length = N0 := ⟨_, rfl⟩
  rw [hN0] at hlen HT
  clear hN0
  go_enter Try.func57, Try.ntmps57
  go_wp2_with (at_range; refine wpList_range_isB _ rfl (.tmp 18) rfl mt K (vf own Vt) rfl hmap ?_; intro w0 cnt0 hrg0 hg0 hs0)
  go_frame
  have REL0 : Hid (Rng w0 mt w.heap.size K (vf own Vt) (fun n => (vf own Vt n).isSome) cnt0 ∧ Tk w0 F G pd pl q K S com pend live own wrote m V mt Vt ∧ Chg (fun _ => False) w w0) := ⟨hrg0, HK.out.kept (Chg.of_none hg0), Chg.of_none hg0⟩
  clear hmap hrg0 hg0 hs0 t1 t0 HK c1 hlen
  go_loopw [3, 4, 5, 6] (fun x _ _ _ wr => ∃ g cnt, x = .int .i64 (tog K com own g : Int) ∧ Hid (Rng wr mt w.heap.size K (vf own Vt) g cnt ∧ Tk wr F G pd pl q K S com pend live own wrote m V mt Vt ∧ Chg (fun _ => False) w wr)) (fun _ _ _ _ wr => wr.rangeLeft mt w.heap.size)
  case atStart => exact ⟨_, _, by rw [HT.out], REL0⟩
  case round =>
    clear REL0 HT
    obtain ⟨g, cnt, rfl, HR⟩ := hrel
    have hform := HR.out.2.1.formT
    have hrg := HR.out.1
    have htl : tog K com own g ≤ 2 * K := by
      unfold tog
      have h1 := cntF_le K (fun n => (com n).isSome)
      have h2 := cntF_le K (fun n => ((own n).isSome && !(com n).isSome) && !g n)
      omega
    go_wp2_with (first
      | (at_next; refine wpList_next_sl _ rfl (.tmp 19) rfl mt w.heap.size K (vf own Vt) g cnt (fun _ => 512) hK rfl hrg hform ?_ ?_)
      | go_in)
    · intro hdone
      have HQ : Hid (Chg (fun _ => False) w wr ∧ tog K com own g = (ks K (mrg com own)).length) := ⟨HR.out.2.2, tog_end hdone⟩
      clear hform hrg HR
      go_wp2
      go_ret
      exact ⟨congrArg (fun n : Nat => Ending.returned (.int .i64 (n : Int))) HQ.out.2, HQ.out.1⟩
    · intro n x c w2 cnt2 hn hgn hf hrg2 hlt2 hg2 hs2 hen
      have hl := hrg.left
      have tk2 := HR.out.2.1.keptE (Chg.of_grown hg2) (fun b hb e => by have := HL.out.1 b hb; omega) (fun b hb e => by have := HL.out.2 b hb; omega)
      have t0 := tk2.tx.c0
      have c1 := tk2.lk.lg.c1
      have lk := tk2.lk.lg.mb.map.lookB2 hK hn
      have hon : (own n).isSome = true := by
        unfold vf at hf
        split at hf
        · assumption
        · cases hf
      have hst := tog_step (com := com) hn hgn hon
      have H2 : Hid (Rng w2 mt w.heap.size K (vf own Vt) (upd g n false) cnt2 ∧ Tk w2 F G pd pl q K S com pend live own wrote m V mt Vt ∧ Chg (fun _ => False) w w2) := ⟨hrg2, tk2, HR.out.2.2.trans (Chg.of_grown hg2) (fun i hi e => by omega)⟩
      have hl2 := hrg2.left
      cases hc : com n with
      | some b =>
        obtain ⟨g0, c0, e0, _⟩ := tk2.lk.lg.lookB hK hc
        rw [vf_some hc, Option.getD_some, e0] at lk
        rw [hc] at hst
        have HS : Hid (tog K com own (upd g n false) = tog K com own g) := hst
        clear hform hf hs2 hrg HR hg2 tk2 hrg2 hst e0 hc
        go_wp2
        go_roundw
        case rel => exact ⟨_, cnt2, by rw [HS.out], H2⟩
        case measure => rw [hl2, hl]; exact hlt2
      | none =>
        rw [vf_none hc] at lk
        rw [hc] at hst
        have HS : Hid (tog K com own (upd g n false) = tog K com own g + 1) := hst
        clear hform hf hs2 hrg HR hg2 tk2 hrg2 hst hc
        go_wp2
        go_roundw
        case rel => exact ⟨_, cnt2, by rw [HS.out]; go_num, H2⟩
        case measure => rw [hl2, hl]; exact hlt2

/-- com, with what of own has come. -/
def mrgG (com own : Nat → Option (List Int)) (g : Nat → Bool) (n : Nat) : Option (List Int) := if (own n).isSome && !g n then own n else com n
def valG (own : Nat → Option (List Int)) (V Vt : Nat → Value) (g : Nat → Bool) (n : Nat) : Value := if (own n).isSome && !g n then Vt n else V n
theorem mrgG_start (com own : Nat → Option (List Int)) (Vt : Nat → Value) : mrgG com own (fun n => (vf own Vt n).isSome) = com := by
  funext n; unfold mrgG vf; cases h : own n <;> simp [h]
theorem valG_start (own : Nat → Option (List Int)) (V Vt : Nat → Value) : valG own V Vt (fun n => (vf own Vt n).isSome) = V := by
  funext n; unfold valG vf; cases h : own n <;> simp [h]
theorem mrgG_step {com own : Nat → Option (List Int)} {g : Nat → Bool} {n : Nat} {b : List Int} (ho : own n = some b) : upd (mrgG com own g) n (some b) = mrgG com own (upd g n false) := by
  funext k
  by_cases e : k = n
  · subst e; simp [mrgG, upd_same, ho]
  · rw [upd_other _ _ e]; simp [mrgG, upd_other _ _ e]
theorem valG_step {own : Nat → Option (List Int)} {V Vt : Nat → Value} {g : Nat → Bool} {n : Nat} {b : List Int} (ho : own n = some b) : upd (valG own V Vt g) n (Vt n) = valG own V Vt (upd g n false) := by
  funext k
  by_cases e : k = n
  · subst e; simp [valG, upd_same, ho]
  · rw [upd_other _ _ e]; simp [valG, upd_other _ _ e]
theorem mrgG_end {K : Nat} {com own : Nat → Option (List Int)} {g : Nat → Bool} (h : ∀ n, n < K → g n = false) (ho : ∀ n b, own n = some b → n < K) : mrgG com own g = mrg com own := by
  funext n
  unfold mrgG mrg
  cases hn : own n with
  | none => simp
  | some b => simp [h n (ho n b hn)]

/-- One block of the transaction becomes the log's. -/
theorem Tk.moved {w w' : World} {n : Nat} {b : List Int} (h : Tk w F G pd pl q K S com pend live own wrote m V mt Vt) (ho : own n = some b) (hc : Chg (fun x => x = m) w w') (hm : MapIs w' m K (upd (vf com V) n (some (Vt n)))) : Tk w' F G pd pl q K S (upd com n (some b)) pend live own wrote m (upd V n (Vt n)) mt Vt := by
  obtain ⟨es, cl, hom⟩ := h.lk.lg.mb.map.obj
  have hr : ∀ x, (∃ cur, w.heap[x]? = some (.cells cur 5 (0, 0))) → ¬ x = m := fun x ⟨cur, hcur⟩ e => by rw [e, hom] at hcur; cases hcur
  have hpm : ¬ pl = m := fun e => by have := h.lk.lg.blk; rw [e, hom] at this; cases this
  refine ⟨⟨h.lk.dk.kept hc (fun x hf e => h.lk.no x hf (e ▸ h.lk.lg.mb.fm)), ⟨(hc.block pl h.lk.lg.pl_lt hpm).trans h.lk.lg.blk, ⟨?_, fun k b' hb => ?_, h.lk.lg.mb.fm⟩, h.lk.lg.fp, fun x hb => Nat.lt_of_lt_of_le (h.lk.lg.lt x hb) hc.size⟩, h.lk.no, h.lk.nb⟩, h.tx.beside h.lk.lg h.ne (hc.mono (fun _ _ h => .inr h)), h.ne⟩
  · rw [vf_upd]; exact hm
  · have keep : ∀ {v : Value}, (∃ g c, v = .slice (some ⟨g, 0, none⟩) 512 c ∧ w.ownsRow 0 5 1 v 512 (bcells b') ∧ G g) → ∃ g c, v = .slice (some ⟨g, 0, none⟩) 512 c ∧ w'.ownsRow 0 5 1 v 512 (bcells b') ∧ G g := by
      rintro v ⟨g, c, rfl, h1, h2⟩
      refine ⟨g, c, rfl, own_same h1 (fun z hz => ?_), h2⟩
      have e := own_at hz
      subst e
      exact hc.block _ (h1.lt _ rfl).2 (hr _ (own_obj h1 rfl))
    by_cases e : k = n
    · subst e
      rw [upd_same] at hb ⊢
      injection hb with hb
      subst hb
      obtain ⟨h1, h2, h3⟩ := h.tx.mb.row k b ho
      exact ⟨h1, h2, keep h3⟩
    · rw [upd_other _ _ e] at hb ⊢
      obtain ⟨h1, h2, h3⟩ := h.lk.lg.mb.row k b' hb
      exact ⟨h1, h2, keep h3⟩
/-- Behind a Sync of the log. -/
theorem Tk.sync {w w' : World} {F' : Nat → Prop} {S' : St} {com' : Nat → Option (List Int)} {pend' : Nat} {V' : Nat → Value} (h : Tk w F G pd pl q K S com pend live own wrote m V mt Vt) (hk : Lk w' F' G pd pl K S' com' pend' (ovOf live q) m V') (hc : Chg (fun b => F b ∨ b = pl ∨ b = m) w w') : Tk w' F' G pd pl q K S' com' pend' live own wrote m V' mt Vt := by
  obtain ⟨es, cl, hom⟩ := h.lk.lg.mb.map.obj
  have nq : ∀ x, G x → x ≠ pl → x ≠ m → ¬ (F x ∨ x = pl ∨ x = m) := fun x hx h1 h2 e => by
    rcases e with e | e | e
    · exact h.lk.no x e hx
    · exact h1 e
    · exact h2 e
  refine ⟨hk, ⟨(hc.block q (h.tx.lt q h.tx.fp) (nq q h.tx.fp (Ne.symm h.qpl) (Ne.symm h.mq))).trans h.tx.blk, h.tx.mb.kept hc (nq mt h.tx.mb.fm h.mtpl h.ne) (fun g hg ⟨cur, ho⟩ => nq g hg (fun e => ?_) (fun e => ?_)), h.tx.fp, fun b hb => Nat.lt_of_lt_of_le (h.tx.lt b hb) hc.size⟩, h.ne⟩
  · rw [e, h.lk.lg.blk] at ho; cases ho
  · rw [e, hom] at ho; cases ho

/-- What Commit leaves. -/
def CmTo (F G : Nat → Prop) (pd pl q K : Nat) (S : St) (com : Nat → Option (List Int)) (pend : Nat) (own : Nat → Option (List Int)) (wrote m mt : Nat) (Vt : Nat → Value) (f : Nat → List Int) (w : World) (e : Ending) (w' : World) : Prop :=
  (∃ F' S' V' com' pend', e = .returned (.int .i64 0) ∧ Tk w' F' G pd pl q K S' com' pend' false (fun _ => none) wrote m V' mt Vt ∧ Chg (fun b => F b ∨ b = pl ∨ b = m ∨ b = mt) w w' ∧ (∀ b, F' b → F b ∨ w.heap.size ≤ b) ∧ Onw S S' 128 ∧
    ((pend' = pend + 1 ∧ com' = mrg com own ∧ S' = S ∧ (ks K (mrg com own)).length ≤ 63) ∨ (pend' = 1 ∧ com' = own ∧ Clean S' K (ovr f com) ∧ 63 < (ks K (mrg com own)).length))) ∨
  (∃ F' S' V', e = .returned (.int .i64 6) ∧ Tk w' F' G pd pl q K S' com pend false (fun _ => none) wrote m V' mt Vt ∧ Chg (fun b => F b ∨ b = pl ∨ b = m ∨ b = mt) w w' ∧ (∀ b, F' b → F b ∨ w.heap.size ≤ b) ∧ Gone S S' 128 ∧ 63 < (ks K (mrg com own)).length ∧ (Lasts S' K f ∨ Lasts S' K (ovr f com)))

set_option maxHeartbeats 800000 in
theorem commit_dead (w : World) (h : Tk w F G pd pl q K S com pend false own wrote m V mt Vt) :
    Calls Try.prog 23 #[.pointer (some ⟨q, 0, none⟩)] w fun e w' => e = .returned (.int .i64 15) ∧ w' = w := by
  have HK : Hid (Tk w F G pd pl q K S com pend false own wrote m V mt Vt) := h
  clear h
  go_enter_defers Try.func23, Try.ntmps23
  go_wp2_with fail
  refine (isOpen_any w HK.out).mono ?_
  rintro e w1 ⟨rfl, rfl⟩
  clear HK
  go_wp2
  exact ⟨_, results_tmp rfl _ _ _, rfl, rfl⟩
end
end Go.Proofs.Ytkkmdmnjlncgfaa

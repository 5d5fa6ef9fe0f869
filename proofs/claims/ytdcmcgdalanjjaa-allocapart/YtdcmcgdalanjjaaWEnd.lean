/-
  The contracts of end, as it is deferred, and of Abort of a transaction of package wal.
-/
import Derived.Test.YtdcmcgdalanjjaaWTxn
import Derived.Defers
namespace Go.Proofs.Ytdcmcgdalanjjaa
open Go.RowKit Go.Maps

/-- own, as far as g says. -/
def mk (own : Nat → Option (List Int)) (g : Nat → Bool) (n : Nat) : Option (List Int) := if g n then own n else none
theorem mk_start (own : Nat → Option (List Int)) (Vt : Nat → Value) : mk own (fun n => (vf own Vt n).isSome) = own := by
  funext n
  unfold mk vf
  cases h : own n <;> simp [h]
theorem mk_step {own : Nat → Option (List Int)} {g : Nat → Bool} {n : Nat} : upd (mk own g) n none = mk own (upd g n false) := by
  funext k
  by_cases e : k = n
  · subst e; rw [upd_same]; simp [mk, upd_same]
  · rw [upd_other _ _ e]; simp [mk, upd_other _ _ e]

section
variable {F G : Nat → Prop} {pd pl q K : Nat} {S : St} {com own : Nat → Option (List Int)} {pend wrote : Nat} {ov : Value} {live : Bool} {m mt : Nat} {V Vt : Nat → Value}
theorem Tk.keptE {w w' : World} {E : Nat → Prop} (h : Tk w F G pd pl q K S com pend live own wrote m V mt Vt) (hc : Chg E w w') (hF : ∀ b, F b → ¬ E b) (hG : ∀ b, G b → ¬ E b) : Tk w' F G pd pl q K S com pend live own wrote m V mt Vt :=
  ⟨⟨h.lk.dk.kept hc hF, h.lk.lg.kept hc hG, h.lk.no, h.lk.nb⟩, h.tx.kept hc hG, h.ne⟩
theorem Tk.remapT {w w' : World} {own' : Nat → Option (List Int)} (h : Tk w F G pd pl q K S com pend live own wrote m V mt Vt) (hc : Chg (fun b => b = mt) w w') (hm : MapIs w' mt K (vf own' Vt)) (hs : ∀ n b, own' n = some b → own n = some b) : Tk w' F G pd pl q K S com pend live own' wrote m V mt Vt := by
  obtain ⟨et, ct, homt⟩ := h.tx.mb.map.obj
  have hr : ∀ x, (∃ cur, w.heap[x]? = some (.cells cur 5 (0, 0))) → ¬ x = mt := fun x ⟨cur, hcur⟩ e => by rw [e, homt] at hcur; cases hcur
  refine ⟨⟨h.lk.dk.kept hc h.mtF, ⟨(hc.block pl h.lk.lg.pl_lt (Ne.symm h.mtpl)).trans h.lk.lg.blk, h.lk.lg.mb.kept hc (Ne.symm h.ne) (fun x _ hx => hr x hx), h.lk.lg.fp, fun b hb => Nat.lt_of_lt_of_le (h.lk.lg.lt b hb) hc.size⟩, h.lk.no, h.lk.nb⟩,
    ⟨(hc.block q (h.tx.lt q h.tx.fp) (Ne.symm h.mtq)).trans h.tx.blk, ⟨hm, fun n b hb => ?_, h.tx.mb.fm⟩, h.tx.fp, fun b hb => Nat.lt_of_lt_of_le (h.tx.lt b hb) hc.size⟩, h.ne⟩
  obtain ⟨h1, h2, g, c, e, ho, hg⟩ := h.tx.mb.row n b (hs n b hb)
  rw [e] at ho ⊢
  refine ⟨h1, h2, g, c, rfl, own_same ho (fun z hz => ?_), hg⟩
  have e := own_at hz
  subst e
  exact hc.block _ (ho.lt _ rfl).2 (hr _ (own_obj ho rfl))
/-- The log lets go of it. -/
theorem Tk.close {w : World} (h : Tk w F G pd pl q K S com pend live own wrote m V mt Vt) : Tk (w.setCell ⟨pl, 3, none⟩ (.pointer none)) F G pd pl q K S com pend false own wrote m V mt Vt ∧ Chg (fun b => b = pl) w (w.setCell ⟨pl, 3, none⟩ (.pointer none)) := by
  have hc : Chg (fun b => b = pl) w (w.setCell ⟨pl, 3, none⟩ (.pointer none)) := Chg.setCell _ _ _ rfl
  refine ⟨⟨h.lk.restruct hc ?_, ?_, h.ne⟩, hc⟩
  · have := heap_setCell_same w pl 3 _ 72 (.pointer none) h.lk.lg.blk
    simpa [ovOf] using this
  · exact h.tx.beside h.lk.lg h.ne (hc.mono (fun _ _ h => .inl h))
theorem Tk.formT {w : World} (h : Tk w F G pd pl q K S com pend live own wrote m V mt Vt) : ∀ n v, n < K → vf own Vt n = some v → ∃ a c, v = .slice a ((fun _ => 512) n) c := fun n v _ hv => by
  unfold vf at hv
  split at hv
  · rename_i hs
    obtain ⟨b, hb⟩ := Option.isSome_iff_exists.1 hs
    obtain ⟨_, _, g, c, e, _⟩ := h.tx.mb.row n b hb
    injection hv with hv
    exact ⟨some ⟨g, 0, none⟩, c, by rw [← hv, e]⟩
  · cases hv

/-- What the end leaves. -/
def EnTo (F G : Nat → Prop) (pd pl q K : Nat) (S : St) (com : Nat → Option (List Int)) (pend wrote m : Nat) (V : Nat → Value) (mt : Nat) (Vt : Nat → Value) (w w' : World) : Prop :=
  Tk w' F G pd pl q K S com pend false (fun _ => none) wrote m V mt Vt ∧ Chg (fun b => b = pl ∨ b = mt) w w'

end
end Go.Proofs.Ytdcmcgdalanjjaa

namespace Go.Proofs.Ytdcmcgdalanjjaa
open Go.RowKit Go.Maps

/-- com, but what own has. -/
def mrg (com own : Nat → Option (List Int)) (n : Nat) : Option (List Int) := if (own n).isSome then own n else com n
theorem ovr_mrg (f : Nat → List Int) (com own : Nat → Option (List Int)) (n : Nat) : ovr f (mrg com own) n = ovr (ovr f com) own n := by
  unfold ovr mrg
  cases own n <;> simp
def cntF (K : Nat) (p : Nat → Bool) : Nat := ((List.range K).filter p).length
theorem cntF_succ (K : Nat) (p : Nat → Bool) : cntF (K + 1) p = cntF K p + (if p K then 1 else 0) := by
  unfold cntF
  rw [List.range_succ, List.filter_append, List.length_append]
  by_cases h : p K = true
  · simp [h]
  · simp [h]
theorem cntF_congr : ∀ {K : Nat} {p p' : Nat → Bool}, (∀ n, n < K → p n = p' n) → cntF K p = cntF K p'
  | 0, _, _, _ => rfl
  | K + 1, p, p', h => by rw [cntF_succ, cntF_succ, cntF_congr (fun n hn => h n (by omega)), h K (by omega)]
theorem cntF_flip : ∀ {K n : Nat} {p p' : Nat → Bool}, n < K → p n = false → p' n = true → (∀ k, k ≠ n → p k = p' k) → cntF K p' = cntF K p + 1
  | 0, _, _, _, h, _, _, _ => by omega
  | K + 1, n, p, p', h, h1, h2, h3 => by
    rw [cntF_succ, cntF_succ]
    by_cases e : n = K
    · subst e
      rw [h1, h2, cntF_congr (p := p') (p' := p) (fun k hk => (h3 k (by omega)).symm)]
      simp
    · rw [cntF_flip (by omega : n < K) h1 h2 h3, h3 K (fun e2 => e e2.symm)]
      omega
theorem cntF_or : ∀ (K : Nat) (a b : Nat → Bool), cntF K (fun n => a n || b n) = cntF K a + cntF K (fun n => b n && !a n)
  | 0, _, _ => rfl
  | K + 1, a, b => by
    rw [cntF_succ, cntF_succ, cntF_succ, cntF_or K a b]
    cases a K <;> cases b K <;> simp <;> omega
theorem cntF_zero {K : Nat} {p : Nat → Bool} (h : ∀ n, n < K → p n = false) : cntF K p = 0 := by
  rw [cntF_congr (p' := fun _ => false) h]
  unfold cntF
  simp
theorem cntF_le (K : Nat) (p : Nat → Bool) : cntF K p ≤ K := by
  unfold cntF
  have := List.length_filter_le p (List.range K)
  simpa using this
theorem ks_cnt (K : Nat) (com : Nat → Option (List Int)) : (ks K com).length = cntF K (fun n => (com n).isSome) := rfl
theorem mrg_some (com own : Nat → Option (List Int)) (n : Nat) : (mrg com own n).isSome = ((com n).isSome || (own n).isSome) := by
  unfold mrg
  cases own n <;> simp
/-- What is counted, where g is still to come. -/
def tog (K : Nat) (com own : Nat → Option (List Int)) (g : Nat → Bool) : Nat := cntF K (fun n => (com n).isSome) + cntF K (fun n => ((own n).isSome && !(com n).isSome) && !g n)
theorem tog_start (K : Nat) (com own : Nat → Option (List Int)) (Vt : Nat → Value) : tog K com own (fun n => (vf own Vt n).isSome) = (ks K com).length := by
  have h : cntF K (fun n => ((own n).isSome && !(com n).isSome) && !(vf own Vt n).isSome) = 0 := cntF_zero (fun n _ => by unfold vf; cases own n <;> simp)
  unfold tog
  rw [h, Nat.add_zero]
  rfl
theorem tog_end {K : Nat} {com own : Nat → Option (List Int)} {g : Nat → Bool} (h : ∀ n, n < K → g n = false) : tog K com own g = (ks K (mrg com own)).length := by
  have e : (ks K (mrg com own)).length = cntF K (fun n => (com n).isSome || (own n).isSome) := cntF_congr (fun n _ => mrg_some com own n)
  have e2 : cntF K (fun n => ((own n).isSome && !(com n).isSome) && !g n) = cntF K (fun n => (own n).isSome && !(com n).isSome) := cntF_congr (fun n hn => by simp [h n hn])
  rw [e, cntF_or]
  unfold tog
  rw [e2]
theorem tog_step {K n : Nat} {com own : Nat → Option (List Int)} {g : Nat → Bool} (hn : n < K) (hg : g n = true) (ho : (own n).isSome = true) : tog K com own (upd g n false) = tog K com own g + (if (com n).isSome then 0 else 1) := by
  unfold tog
  by_cases hc : (com n).isSome = true
  · rw [if_pos hc, Nat.add_zero]
    congr 1
    refine cntF_congr (fun k _ => ?_)
    by_cases e : k = n
    · subst e; simp [hc]
    · rw [upd_other _ _ e]
  · rw [if_neg hc]
    have hc' : (com n).isSome = false := by simpa using hc
    have e := cntF_flip (K := K) (n := n) (p := fun k => ((own k).isSome && !(com k).isSome) && !g k) (p' := fun k => ((own k).isSome && !(com k).isSome) && !upd g n false k) hn (by simp [hg]) (by simp [upd_same, ho, hc']) (fun k hk => by simp [upd_other _ _ hk])
    rw [e]
    omega

section
variable {F G : Nat → Prop} {pd pl q K : Nat} {S : St} {com own : Nat → Option (List Int)} {pend wrote : Nat} {ov : Value} {live : Bool} {m mt : Nat} {V Vt : Nat → Value}

/-- com, with what of own has come. -/
def mrgG (com own : Nat → Option (List Int)) (g : Nat → Bool) (n : Nat) : Option (List Int) := if (own n).isSome && !g n then own n else com n
def valG (own : Nat → Option (List Int)) (V Vt : Nat → Value) (g : Nat → Bool) (n : Nat) : Value := if (own n).isSome && !g n then Vt n else V n
theorem mrgG_start (com own : Nat → Option (List Int)) (Vt : Nat → Value) : mrgG com own (fun n => (vf own Vt n).isSome) = com := by
  funext n; unfold mrgG vf; cases h : own n <;> simp [h]
theorem valG_start (own : Nat → Option (List Int)) (V Vt : Nat → Value) : valG own V Vt (fun n => (vf own Vt n).isSome) = V := by
  funext n; unfold valG vf; cases h : own n <;> simp [h]
theorem mrgG_step {com own : Nat → Option (List Int)} {g : Nat → Bool} {n : Nat} {b : List Int} (ho : own n = some b) : upd (mrgG com own g) n (some b) = mrgG com own (upd g n false) := by
  funext k
  by_cases e : k = n
  · subst e; simp [mrgG, upd_same, ho]
  · rw [upd_other _ _ e]; simp [mrgG, upd_other _ _ e]
theorem valG_step {own : Nat → Option (List Int)} {V Vt : Nat → Value} {g : Nat → Bool} {n : Nat} {b : List Int} (ho : own n = some b) : upd (valG own V Vt g) n (Vt n) = valG own V Vt (upd g n false) := by
  funext k
  by_cases e : k = n
  · subst e; simp [valG, upd_same, ho]
  · rw [upd_other _ _ e]; simp [valG, upd_other _ _ e]
theorem mrgG_end {K : Nat} {com own : Nat → Option (List Int)} {g : Nat → Bool} (h : ∀ n, n < K → g n = false) (ho : ∀ n b, own n = some b → n < K) : mrgG com own g = mrg com own := by
  funext n
  unfold mrgG mrg
  cases hn : own n with
  | none => simp
  | some b => simp [h n (ho n b hn)]

/-- One block of the transaction becomes the log's. -/
theorem Tk.moved {w w' : World} {n : Nat} {b : List Int} (h : Tk w F G pd pl q K S com pend live own wrote m V mt Vt) (ho : own n = some b) (hc : Chg (fun x => x = m) w w') (hm : MapIs w' m K (upd (vf com V) n (some (Vt n)))) : Tk w' F G pd pl q K S (upd com n (some b)) pend live own wrote m (upd V n (Vt n)) mt Vt := by
  obtain ⟨es, cl, hom⟩ := h.lk.lg.mb.map.obj
  have hr : ∀ x, (∃ cur, w.heap[x]? = some (.cells cur 5 (0, 0))) → ¬ x = m := fun x ⟨cur, hcur⟩ e => by rw [e, hom] at hcur; cases hcur
  have hpm : ¬ pl = m := fun e => by have := h.lk.lg.blk; rw [e, hom] at this; cases this
  refine ⟨⟨h.lk.dk.kept hc (fun x hf e => h.lk.no x hf (e ▸ h.lk.lg.mb.fm)), ⟨(hc.block pl h.lk.lg.pl_lt hpm).trans h.lk.lg.blk, ⟨?_, fun k b' hb => ?_, h.lk.lg.mb.fm⟩, h.lk.lg.fp, fun x hb => Nat.lt_of_lt_of_le (h.lk.lg.lt x hb) hc.size⟩, h.lk.no, h.lk.nb⟩, h.tx.beside h.lk.lg h.ne (hc.mono (fun _ _ h => .inr h)), h.ne⟩
  · rw [vf_upd]; exact hm
  · have keep : ∀ {v : Value}, (∃ g c, v = .slice (some ⟨g, 0, none⟩) 512 c ∧ w.ownsRow 0 5 1 v 512 (bcells b') ∧ G g) → ∃ g c, v = .slice (some ⟨g, 0, none⟩) 512 c ∧ w'.ownsRow 0 5 1 v 512 (bcells b') ∧ G g := by
      rintro v ⟨g, c, rfl, h1, h2⟩
      refine ⟨g, c, rfl, own_same h1 (fun z hz => ?_), h2⟩
      have e := own_at hz
      subst e
      exact hc.block _ (h1.lt _ rfl).2 (hr _ (own_obj h1 rfl))
    by_cases e : k = n
    · subst e
      rw [upd_same] at hb ⊢
      injection hb with hb
      subst hb
      obtain ⟨h1, h2, h3⟩ := h.tx.mb.row k b ho
      exact ⟨h1, h2, keep h3⟩
    · rw [upd_other _ _ e] at hb ⊢
      obtain ⟨h1, h2, h3⟩ := h.lk.lg.mb.row k b' hb
      exact ⟨h1, h2, keep h3⟩
/-- Behind a Sync of the log. -/
theorem Tk.sync {w w' : World} {F' : Nat → Prop} {S' : St} {com' : Nat → Option (List Int)} {pend' : Nat} {V' : Nat → Value} (h : Tk w F G pd pl q K S com pend live own wrote m V mt Vt) (hk : Lk w' F' G pd pl K S' com' pend' (ovOf live q) m V') (hc : Chg (fun b => F b ∨ b = pl ∨ b = m) w w') : Tk w' F' G pd pl q K S' com' pend' live own wrote m V' mt Vt := by
  obtain ⟨es, cl, hom⟩ := h.lk.lg.mb.map.obj
  have nq : ∀ x, G x → x ≠ pl → x ≠ m → ¬ (F x ∨ x = pl ∨ x = m) := fun x hx h1 h2 e => by
    rcases e with e | e | e
    · exact h.lk.no x e hx
    · exact h1 e
    · exact h2 e
  refine ⟨hk, ⟨(hc.block q (h.tx.lt q h.tx.fp) (nq q h.tx.fp (Ne.symm h.qpl) (Ne.symm h.mq))).trans h.tx.blk, h.tx.mb.kept hc (nq mt h.tx.mb.fm h.mtpl h.ne) (fun g hg ⟨cur, ho⟩ => nq g hg (fun e => ?_) (fun e => ?_)), h.tx.fp, fun b hb => Nat.lt_of_lt_of_le (h.tx.lt b hb) hc.size⟩, h.ne⟩
  · rw [e, h.lk.lg.blk] at ho; cases ho
  · rw [e, hom] at ho; cases ho

/-- What Commit leaves. -/
def CmTo (F G : Nat → Prop) (pd pl q K : Nat) (S : St) (com : Nat → Option (List Int)) (pend : Nat) (own : Nat → Option (List Int)) (wrote m mt : Nat) (Vt : Nat → Value) (f : Nat → List Int) (w : World) (e : Ending) (w' : World) : Prop :=
  (∃ F' S' V' com' pend', e = .returned (.int .i64 0) ∧ Tk w' F' G pd pl q K S' com' pend' false (fun _ => none) wrote m V' mt Vt ∧ Chg (fun b => F b ∨ b = pl ∨ b = m ∨ b = mt) w w' ∧ (∀ b, F' b → F b ∨ w.heap.size ≤ b) ∧ Onw S S' 128 ∧
    ((pend' = pend + 1 ∧ com' = mrg com own ∧ S' = S ∧ (ks K (mrg com own)).length ≤ 63) ∨ (pend' = 1 ∧ com' = own ∧ Clean S' K (ovr f com) ∧ 63 < (ks K (mrg com own)).length))) ∨
  (∃ F' S' V', e = .returned (.int .i64 6) ∧ Tk w' F' G pd pl q K S' com pend false (fun _ => none) wrote m V' mt Vt ∧ Chg (fun b => F b ∨ b = pl ∨ b = m ∨ b = mt) w w' ∧ (∀ b, F' b → F b ∨ w.heap.size ≤ b) ∧ Gone S S' 128 ∧ 63 < (ks K (mrg com own)).length ∧ (Lasts S' K f ∨ Lasts S' K (ovr f com)))

end
end Go.Proofs.Ytdcmcgdalanjjaa

namespace Go.Proofs.Ytdcmcgdalanjjaa
open Go.RowKit Go.Maps

section
variable {F G : Nat → Prop} {pd pl q K : Nat} {S : St} {com own : Nat → Option (List Int)} {pend wrote : Nat} {ov : Value} {live : Bool} {m mt : Nat} {V Vt : Nat → Value}

end
end Go.Proofs.Ytdcmcgdalanjjaa

namespace Go.Proofs.Ytdcmcgdalanjjaa
open Go.RowKit Go.Maps

theorem ks_none (K : Nat) : (ks K fun _ => none).length = 0 := cntF_zero (fun _ _ => rfl)
/-- The blocks of X are as they were. -/
def Sm (X : Nat → Prop) (w w' : World) : Prop := ∀ b, X b → w'.heap[b]? = w.heap[b]?
theorem Sm.trans {X : Nat → Prop} {a b c : World} (h : Sm X a b) (k : Sm X b c) : Sm X a c := fun x hx => (k x hx).trans (h x hx)
theorem Sm.cell {X : Nat → Prop} {w w' : World} (h : Sm X w w') {p : Addr} {v : Value} (hc : w.cell? p = some v) (hx : X p.block) : w'.cell? p = some v := (World.cell?_of_block (h p.block hx)).trans hc
theorem Bs.sm {X : Nat → Prop} {w w' : World} {v : Value} {xs : List Int} (h : Bs w v xs) (hs : Sm X w w') (hx : ∀ g, v.ownBlock = some g → X g) : Bs w' v xs := by
  rcases h with h | ⟨a, c, rfl, hl, hm, hcell⟩
  · exact .inl h
  · exact .inr ⟨a, c, rfl, hl, hm, fun j hj => hs.cell (hcell j hj) (by rw [add_block]; exact hx _ rfl)⟩
/-- All of F and G was made since w0, and is apart from X; nothing that was there has changed. -/
structure Nw (X : Nat → Prop) (w0 w : World) (F G : Nat → Prop) : Prop where
  chg : Chg (fun _ => False) w0 w
  f : ∀ b, F b → w0.heap.size ≤ b
  g : ∀ b, G b → w0.heap.size ≤ b
  x : ∀ b, X b → b < w.heap.size ∧ ¬ F b ∧ ¬ G b
theorem Nw.step {X : Nat → Prop} {w0 w w' : World} {F G F' G' E : Nat → Prop} (h : Nw X w0 w F G) (hc : Chg E w w') (hE : ∀ b, b < w.heap.size → E b → F b ∨ G b) (hF : ∀ b, F' b → F b ∨ w.heap.size ≤ b) (hG : ∀ b, G' b → G b ∨ w.heap.size ≤ b) : Nw X w0 w' F' G' ∧ Sm X w w' := by
  have hz := h.chg.size
  have hz2 := hc.size
  refine ⟨⟨h.chg.trans hc (fun b hb he => ?_), fun b hb => ?_, fun b hb => ?_, fun b hb => ?_⟩, fun b hb => ?_⟩
  · rcases hE b (by omega) he with e | e
    · have := h.f b e; omega
    · have := h.g b e; omega
  · rcases hF b hb with e | e
    · exact h.f b e
    · omega
  · rcases hG b hb with e | e
    · exact h.g b e
    · omega
  · obtain ⟨h1, h2, h3⟩ := h.x b hb
    refine ⟨by omega, fun e => ?_, fun e => ?_⟩
    · rcases hF b e with e | e
      · exact h2 e
      · omega
    · rcases hG b e with e | e
      · exact h3 e
      · omega
  · obtain ⟨h1, h2, h3⟩ := h.x b hb
    exact hc.block b h1 (fun e => by
      rcases hE b h1 e with e | e
      · exact h2 e
      · exact h3 e)
/-- X, and what was made since. -/
def addX (X : Nat → Prop) (a b : Nat) : Nat → Prop := fun k => X k ∨ (a ≤ k ∧ k < b)
theorem Nw.more {X : Nat → Prop} {w0 w w' : World} {F G : Nat → Prop} (h : Nw X w0 w F G) (hc : Chg (fun _ => False) w w') : Nw X w0 w' F G := (h.step hc (fun _ _ h => h.elim) (fun _ h => .inl h) (fun _ h => .inl h)).1
theorem Nw.add {X : Nat → Prop} {w0 w w' : World} {F G : Nat → Prop} (h : Nw X w0 w F G) (hc : Chg (fun _ => False) w w') (hF : ∀ b, F b → b < w.heap.size) (hG : ∀ b, G b → b < w.heap.size) : Nw (addX X w.heap.size w'.heap.size) w0 w' F G := by
  have h1 := h.more hc
  refine ⟨h1.chg, h1.f, h1.g, fun b hb => ?_⟩
  rcases hb with e | e
  · exact h1.x b e
  · exact ⟨e.2, fun hf => by have := hF b hf; omega, fun hg => by have := hG b hg; omega⟩
theorem Nw.less {X X' : Nat → Prop} {w0 w : World} {F G : Nat → Prop} (h : Nw X w0 w F G) (hx : ∀ b, X' b → X b) : Nw X' w0 w F G := ⟨h.chg, h.f, h.g, fun b hb => h.x b (hx b hb)⟩

/-- A log with the power on: f lasts, com was committed; N bounds the disk's writes. -/
def LogUp (X : Nat → Prop) (w0 w : World) (pd pl K : Nat) (f : Nat → List Int) (com : Nat → Option (List Int)) (pend N : Nat) : Prop :=
  ∃ F G S m V, Lk w F G pd pl K S com pend (.pointer none) m V ∧ Clean S K f ∧ S.off = false ∧ S.arm < 1 ∧ S.writes ≤ N ∧ (ks K com).length ≤ 63 ∧ Nw X w0 w F G
/-- A log with its transaction. -/
def TxUp (X : Nat → Prop) (w0 w : World) (pd pl q K : Nat) (f : Nat → List Int) (com : Nat → Option (List Int)) (pend : Nat) (live : Bool) (own : Nat → Option (List Int)) (wrote N : Nat) : Prop :=
  ∃ F G S m V mt Vt, Tk w F G pd pl q K S com pend live own wrote m V mt Vt ∧ Clean S K f ∧ S.off = false ∧ S.arm < 1 ∧ S.writes ≤ N ∧ (ks K com).length ≤ 63 ∧ Nw X w0 w F G ∧ (live = true → wrote = (ks K own).length ∧ wrote ≤ 63) ∧ (live = false → own = fun _ => none)
/-- A disk on which f lasts. -/
def DkUp (X : Nat → Prop) (w0 w : World) (pd K : Nat) (f : Nat → List Int) (off : Bool) (N : Nat) : Prop :=
  ∃ F S, Dk w F pd S ∧ Lasts S K f ∧ S.off = off ∧ (off = false → S.arm < 1) ∧ S.writes ≤ N ∧ Nw X w0 w F (fun _ => False)

section
variable {X : Nat → Prop} {w0 w w' : World} {pd pl q K : Nat} {f : Nat → List Int} {com own : Nat → Option (List Int)} {pend wrote N : Nat} {live : Bool}
theorem LogUp.more (h : LogUp X w0 w pd pl K f com pend N) (hc : Chg (fun _ => False) w w') : LogUp X w0 w' pd pl K f com pend N := by
  obtain ⟨F, G, S, m, V, h1, h2, h3, h4, h5, h6, h7⟩ := h
  exact ⟨F, G, S, m, V, h1.kept hc, h2, h3, h4, h5, h6, h7.more hc⟩
theorem TxUp.more (h : TxUp X w0 w pd pl q K f com pend live own wrote N) (hc : Chg (fun _ => False) w w') : TxUp X w0 w' pd pl q K f com pend live own wrote N := by
  obtain ⟨F, G, S, m, V, mt, Vt, h1, h2, h3, h4, h5, h6, h7, h8⟩ := h
  exact ⟨F, G, S, m, V, mt, Vt, h1.kept hc, h2, h3, h4, h5, h6, h7.more hc, h8⟩
theorem LogUp.add (h : LogUp X w0 w pd pl K f com pend N) (hc : Chg (fun _ => False) w w') : LogUp (addX X w.heap.size w'.heap.size) w0 w' pd pl K f com pend N := by
  obtain ⟨F, G, S, m, V, h1, h2, h3, h4, h5, h6, h7⟩ := h
  exact ⟨F, G, S, m, V, h1.kept hc, h2, h3, h4, h5, h6, h7.add hc h1.dk.lt h1.lg.lt⟩
theorem TxUp.add (h : TxUp X w0 w pd pl q K f com pend live own wrote N) (hc : Chg (fun _ => False) w w') : TxUp (addX X w.heap.size w'.heap.size) w0 w' pd pl q K f com pend live own wrote N := by
  obtain ⟨F, G, S, m, V, mt, Vt, h1, h2, h3, h4, h5, h6, h7, h8⟩ := h
  exact ⟨F, G, S, m, V, mt, Vt, h1.kept hc, h2, h3, h4, h5, h6, h7.add hc h1.lk.dk.lt h1.lk.lg.lt, h8⟩
theorem LogUp.less {X' : Nat → Prop} (h : LogUp X w0 w pd pl K f com pend N) (hx : ∀ b, X' b → X b) : LogUp X' w0 w pd pl K f com pend N := by
  obtain ⟨F, G, S, m, V, h1, h2, h3, h4, h5, h6, h7⟩ := h
  exact ⟨F, G, S, m, V, h1, h2, h3, h4, h5, h6, h7.less hx⟩
theorem TxUp.less {X' : Nat → Prop} (h : TxUp X w0 w pd pl q K f com pend live own wrote N) (hx : ∀ b, X' b → X b) : TxUp X' w0 w pd pl q K f com pend live own wrote N := by
  obtain ⟨F, G, S, m, V, mt, Vt, h1, h2, h3, h4, h5, h6, h7, h8⟩ := h
  exact ⟨F, G, S, m, V, mt, Vt, h1, h2, h3, h4, h5, h6, h7.less hx, h8⟩
theorem LogUp.xlt (h : LogUp X w0 w pd pl K f com pend N) : ∀ b, X b → b < w.heap.size := by
  obtain ⟨F, G, S, m, V, h1, h2, h3, h4, h5, h6, h7⟩ := h
  exact fun b hb => (h7.x b hb).1
theorem LogUp.chg (h : LogUp X w0 w pd pl K f com pend N) : Chg (fun _ => False) w0 w := by obtain ⟨F, G, S, m, V, _, _, _, _, _, _, h7⟩ := h; exact h7.chg
theorem TxUp.chg (h : TxUp X w0 w pd pl q K f com pend live own wrote N) : Chg (fun _ => False) w0 w := by obtain ⟨F, G, S, m, V, mt, Vt, _, _, _, _, _, _, h7, _⟩ := h; exact h7.chg
theorem DkUp.chg {off : Bool} (h : DkUp X w0 w pd K f off N) : Chg (fun _ => False) w0 w := by obtain ⟨F, S, _, _, _, _, _, h7⟩ := h; exact h7.chg
theorem LogUp.mono (h : LogUp X w0 w pd pl K f com pend N) {N' : Nat} (hN : N ≤ N') : LogUp X w0 w pd pl K f com pend N' := by
  obtain ⟨F, G, S, m, V, h1, h2, h3, h4, h5, h6, h7⟩ := h
  exact ⟨F, G, S, m, V, h1, h2, h3, h4, by omega, h6, h7⟩
theorem TxUp.log (h : TxUp X w0 w pd pl q K f com pend false own wrote N) : LogUp X w0 w pd pl K f com pend N := by
  obtain ⟨F, G, S, m, V, mt, Vt, h1, h2, h3, h4, h5, h6, h7, h8⟩ := h
  exact ⟨F, G, S, m, V, h1.lk, h2, h3, h4, h5, h6, h7⟩
theorem TxUp.ownNone (h : TxUp X w0 w pd pl q K f com pend false own wrote N) : own = fun _ => none := by
  obtain ⟨F, G, S, m, V, mt, Vt, h1, h2, h3, h4, h5, h6, h7, h8, h9⟩ := h; exact h9 rfl
theorem TxUp.inv (h : TxUp X w0 w pd pl q K f com pend true own wrote N) : wrote = (ks K own).length ∧ wrote ≤ 63 := by
  obtain ⟨F, G, S, m, V, mt, Vt, h1, h2, h3, h4, h5, h6, h7, h8, h9⟩ := h; exact h8 rfl
theorem TxUp.lt (h : TxUp X w0 w pd pl q K f com pend live own wrote N) : ∀ n b, own n = some b → n < K ∧ b.length = 512 := by
  obtain ⟨F, G, S, m, V, mt, Vt, h1, _⟩ := h
  exact fun n b hb => ⟨(h1.tx.mb.row n b hb).1, (h1.tx.mb.row n b hb).2.1⟩
theorem LogUp.lt (h : LogUp X w0 w pd pl K f com pend N) : (∀ n b, com n = some b → n < K ∧ b.length = 512) ∧ (ks K com).length ≤ 63 ∧ K ≤ 16384 := by
  obtain ⟨F, G, S, m, V, h1, h2, h3, h4, h5, h6, h7⟩ := h
  exact ⟨fun n b hb => ⟨(h1.lg.mb.row n b hb).1, (h1.lg.mb.row n b hb).2.1⟩, h6, h1.top⟩
theorem LogUp.flen (h : LogUp X w0 w pd pl K f com pend N) : ∀ n, n < K → (f n).length = 512 := by
  obtain ⟨F, G, S, m, V, h1, h2, h3, h4, h5, h6, h7⟩ := h
  intro n hn
  rw [← h2.last hn]
  exact St.last_len h2.wf (by have := h2.nb; omega)
theorem LogUp.ext (h : LogUp X w0 w pd pl K f com pend N) {g : Nat → List Int} (e : ∀ n, n < K → f n = g n) : LogUp X w0 w pd pl K g com pend N := by
  obtain ⟨F, G, S, m, V, h1, h2, h3, h4, h5, h6, h7⟩ := h
  exact ⟨F, G, S, m, V, h1, Holds.ext h2 e, h3, h4, h5, h6, h7⟩

/-- New memory that holds bs. -/
structure NewB (w w' : World) (u : Value) (bs : List Int) : Prop where
  bs : Bs w' u bs
  chg : Chg (fun _ => False) w w'
  new : ∀ g, u.ownBlock = some g → w.heap.size ≤ g
theorem Fresh.newB {w1 : World} {u : Value} {bs : List Int} (h : Fresh w1 w' u bs) (hc : Chg (fun _ => False) w w1) : NewB w w' u bs := ⟨h.bs, hc.trans h.chg (fun _ _ h => h), fun g hg => by have := h.new g hg; have := hc.size; omega⟩

theorem format_up (F : Nat → Prop) (S : St) (h : Dk w F pd S) (hn : Nw X w0 w F (fun _ => False)) (hc : ∀ n, S.wait n = []) (hK : S.nb = K + 65) (hK1 : 1 ≤ K) (hoff : S.off = false) (harm : S.arm < 1) (hN : S.writes + K + 2 ≤ N) (hx : N < 1000000000) :
    Calls Try.prog 13 #[.pointer (some ⟨pd, 0, none⟩)] w fun e w' => ∃ pl, e = .returned (.tuple #[.pointer (some ⟨pl, 0, none⟩), .int .i64 0]) ∧ LogUp X w0 w' pd pl K (fun _ => zeros 512) (fun _ => none) 0 N ∧ Sm X w w' := by
  refine (format_any F pd K S w h hc hK hK1 hoff (by omega)).mono ?_
  rintro e w' (⟨pl, F', G, m, V, S', rfl, hk, hch, hF, hG, ho, hcl⟩ | ⟨S', rfl, _, hg, _⟩)
  · have hq := hn.step hch (fun b _ h => .inl h) hF (fun b hb => .inr (hG b hb))
    exact ⟨pl, rfl, ⟨F', G, S', m, V, hk, hcl, ho.off, ho.arm harm, by have := ho.wr; omega, by rw [ks_none]; omega, hq.1⟩, hq.2⟩
  · have := hg.arm; omega

theorem begin_up (h : LogUp X w0 w pd pl K f com pend N) :
    Calls Try.prog 14 #[.pointer (some ⟨pl, 0, none⟩)] w fun e w' => ∃ q, e = .returned (.tuple #[.pointer (some ⟨q, 0, none⟩), .int .i64 0]) ∧ TxUp X w0 w' pd pl q K f com pend true (fun _ => none) 0 N ∧ Sm X w w' := by
  obtain ⟨F, G, S, m, V, h1, h2, h3, h4, h5, h6, h7⟩ := h
  refine (begin_any w h1 h3).mono ?_
  rintro e w' ⟨q, G', mt, Vt, rfl, htk, hch, hG⟩
  have hq := h7.step hch (fun b _ e => .inr (e ▸ h1.lg.fp)) (fun _ h => .inl h) hG
  exact ⟨q, rfl, ⟨F, G', S, m, V, mt, Vt, htk, h2, h3, h4, h5, h6, hq.1, fun _ => ⟨by rw [ks_none], by omega⟩, (fun h => by cases h)⟩, hq.2⟩

theorem ks_upd_first {n : Nat} {b : List Int} (hn : n < K) (h : own n = none) : (ks K (upd own n (some b))).length = (ks K own).length + 1 :=
  cntF_flip (p := fun k => (own k).isSome) (p' := fun k => (upd own n (some b) k).isSome) hn (by simp [h]) (by simp [upd_same]) (fun k hk => by simp [upd_other _ _ hk])
theorem ks_upd_again {n : Nat} {b b0 : List Int} (h : own n = some b0) : (ks K (upd own n (some b))).length = (ks K own).length :=
  cntF_congr (fun k _ => by
    by_cases e : k = n
    · subst e; simp [upd_same, h]
    · simp [upd_other _ _ e])

theorem write_up {w1 : World} (n : Nat) (bs : List Int) (ua : Option Addr) (uc : Nat) (h : TxUp X w0 w1 pd pl q K f com pend true own wrote N) (hb : NewB w1 w (.slice ua 512 uc) bs) (hl : bs.length = 512) (hn : n < K) (hr : own n ≠ none ∨ wrote < 63) :
    Calls Try.prog 39 #[.pointer (some ⟨q, 0, none⟩), .int .i64 (n : Int), .slice ua 512 uc] w fun e w' => e = .returned (.int .i64 0) ∧ TxUp X w0 w' pd pl q K f com pend true (upd own n (some bs)) (ks K (upd own n (some bs))).length N ∧ Sm X w w' := by
  obtain ⟨F, G, S, m, V, mt, Vt, h1, h2, h3, h4, h5, h6, h7, h8, h9⟩ := h
  have k1 := h1.kept hb.chg
  have k7 := h7.more hb.chg
  have inv := h8 rfl
  have hgE : ∀ b, b < w.heap.size → (b = q ∨ b = mt) → F b ∨ G b := fun b _ e => by
    rcases e with e | e
    · exact .inr (e ▸ k1.tx.fp)
    · exact .inr (e ▸ k1.tx.mb.fm)
  cases ho : own n with
  | some b0 =>
    refine (twrite_again n bs b0 ua uc w k1 hn hb.bs hl h3 ho).mono ?_
    rintro e w' ⟨G', Vt', rfl, htk, hch, hG⟩
    have e := ks_upd_again (K := K) (b := bs) ho
    have hq := k7.step hch hgE (fun _ h => .inl h) hG
    exact ⟨rfl, ⟨F, G', S, m, V, mt, Vt', by rw [e, ← inv.1]; exact htk, h2, h3, h4, h5, h6, hq.1, fun _ => ⟨rfl, by omega⟩, (fun h => by cases h)⟩, hq.2⟩
  | none =>
    have hr' : wrote < 63 := by
      rcases hr with h | h
      · exact absurd ho h
      · exact h
    refine (twrite_first n bs ua uc w k1 hn hb.bs hl h3 ho hr' (fun a ha e => ?_)).mono ?_
    · have h10 := hb.new a.block (by rw [ha]; rfl)
      have h11 := h1.tx.lt q h1.tx.fp
      omega
    rintro e w' ⟨G', Vt', rfl, htk, hch, hG⟩
    have e := ks_upd_first (K := K) (b := bs) hn ho
    have hq := k7.step hch hgE (fun _ h => .inl h) hG
    exact ⟨rfl, ⟨F, G', S, m, V, mt, Vt', by rw [e, ← inv.1]; exact htk, h2, h3, h4, h5, h6, hq.1, fun _ => ⟨rfl, by omega⟩, (fun h => by cases h)⟩, hq.2⟩
theorem write_full_up {w1 : World} (n : Nat) (bs : List Int) (ua : Option Addr) (uc : Nat) (h : TxUp X w0 w1 pd pl q K f com pend true own wrote N) (hb : NewB w1 w (.slice ua 512 uc) bs) (hn : n < K) (hr : own n = none) (hw : wrote = 63) :
    Calls Try.prog 39 #[.pointer (some ⟨q, 0, none⟩), .int .i64 (n : Int), .slice ua 512 uc] w fun e w' => e = .returned (.int .i64 7) ∧ TxUp X w0 w' pd pl q K f com pend true own wrote N ∧ Sm X w w' := by
  have hm := h.more hb.chg
  obtain ⟨F, G, S, m, V, mt, Vt, h1, h2, h3, h4, h5, h6, h7, h8, h9⟩ := h
  refine (twrite_full n ua uc w (h1.kept hb.chg) hn h3 hr hw).mono ?_
  rintro e w' ⟨rfl, rfl⟩
  exact ⟨rfl, hm, fun _ _ => rfl⟩

theorem read_up (n : Nat) (h : LogUp X w0 w pd pl K f com pend N) (hn : n < K) (hx : N < 1000000000) :
    Calls Try.prog 57 #[.pointer (some ⟨pl, 0, none⟩), .int .i64 (n : Int)] w fun e w' => ∃ u, e = .returned (.tuple #[u, .int .i64 0]) ∧ Fresh w w' u (ovr f com n) := by
  obtain ⟨F, G, S, m, V, h1, h2, h3, h4, h5, h6, h7⟩ := h
  exact lread_any f n w h1 (h2.last hn) hn h3 (by omega)
theorem read_upT (n : Nat) (h : TxUp X w0 w pd pl q K f com pend live own wrote N) (hn : n < K) (hx : N < 1000000000) :
    Calls Try.prog 57 #[.pointer (some ⟨pl, 0, none⟩), .int .i64 (n : Int)] w fun e w' => ∃ u, e = .returned (.tuple #[u, .int .i64 0]) ∧ Fresh w w' u (ovr f com n) := by
  obtain ⟨F, G, S, m, V, mt, Vt, h1, h2, h3, h4, h5, h6, h7, h8, h9⟩ := h
  exact lread_any f n w h1.lk (h2.last hn) hn h3 (by omega)
theorem tread_up (n : Nat) (h : TxUp X w0 w pd pl q K f com pend live own wrote N) (hn : n < K) (hx : N < 1000000000) :
    Calls Try.prog 40 #[.pointer (some ⟨q, 0, none⟩), .int .i64 (n : Int)] w fun e w' => ∃ u, e = .returned (.tuple #[u, .int .i64 0]) ∧ Fresh w w' u (ovr (ovr f com) own n) := by
  obtain ⟨F, G, S, m, V, mt, Vt, h1, h2, h3, h4, h5, h6, h7, h8, h9⟩ := h
  exact tread_any f n w h1 (h2.last hn) hn h3 (by omega)
theorem blocks_up (h : LogUp X w0 w pd pl K f com pend N) : Calls Try.prog 65 #[.pointer (some ⟨pl, 0, none⟩)] w fun e w' => e = .returned (.int .i64 (K : Int)) ∧ w' = w := by
  obtain ⟨F, G, S, m, V, h1, _⟩ := h
  exact lblocks_any w h1
/-- The power goes between calls: what lasted lasts. -/
theorem cut_up (v : Value) (ps : List Int) (h : LogUp X w0 w pd pl K f com pend N) (hi : Is w v ps) (hv : ps ≠ [] → ∀ g, v.ownBlock = some g → g < w0.heap.size) (hx : N < 1000000000) :
    Calls Try.prog 48 #[.pointer (some ⟨pd, 0, none⟩), v] w fun e w' => e = .returned (.tuple #[]) ∧ DkUp X w0 w' pd K f true N ∧ Sm X w w' := by
  obtain ⟨F, G, S, m, V, h1, h2, h3, h4, h5, h6, h7⟩ := h
  refine (cut_arg F pd S v ps w h1.dk hi (fun hp g hg hf => by have := hv hp g hg; have := h7.f g hf; omega) (by omega)).mono ?_
  rintro e w' ⟨rfl, F', d, c, hF⟩
  have hq := h7.step c (fun b _ h => .inl h) hF (G' := fun _ => False) (fun _ h => h.elim)
  exact ⟨rfl, ⟨F', S.cut ps, d, h2.lasts.cut ps, St.cut_off S ps, (fun h => by cases h), by rw [St.cut_writes]; exact h5, hq.1⟩, hq.2⟩
end
end Go.Proofs.Ytdcmcgdalanjjaa

/-
  The contracts of package wal with the power on, over a state that is plain functions: what lasts, what was committed, what the transaction has.
-/
import Derived.Test.YtmlhjcjonfalhaaGreatWEnd
namespace Go.Proofs.YtmlhjcjonfalhaaGreat
open Go.RowKit Go.Maps

theorem ks_none (K : Nat) : (ks K fun _ => none).length = 0 := cntF_zero (fun _ _ => rfl)
/-- The blocks of X are as they were. -/
def Sm (X : Nat → Prop) (w w' : World) : Prop := ∀ b, X b → w'.heap[b]? = w.heap[b]?
theorem Sm.trans {X : Nat → Prop} {a b c : World} (h : Sm X a b) (k : Sm X b c) : Sm X a c := fun x hx => (k x hx).trans (h x hx)
theorem Sm.cell {X : Nat → Prop} {w w' : World} (h : Sm X w w') {p : Addr} {v : Value} (hc : w.cell? p = some v) (hx : X p.block) : w'.cell? p = some v := (World.cell?_of_block (h p.block hx)).trans hc
theorem Bs.sm {X : Nat → Prop} {w w' : World} {v : Value} {xs : List Int} (h : Bs w v xs) (hs : Sm X w w') (hx : ∀ g, v.ownBlock = some g → X g) : Bs w' v xs := by
  rcases h with h | ⟨a, c, rfl, hl, hm, hcell⟩
  · exact .inl h
  · exact .inr ⟨a, c, rfl, hl, hm, fun j hj => hs.cell (hcell j hj) (by rw [add_block]; exact hx _ rfl)⟩
/-- All of F and G was made since w0, and is apart from X; nothing that was there has changed. -/
structure Nw (X : Nat → Prop) (w0 w : World) (F G : Nat → Prop) : Prop where
  chg : Chg (fun _ => False) w0 w
  f : ∀ b, F b → w0.heap.size ≤ b
  g : ∀ b, G b → w0.heap.size ≤ b
  x : ∀ b, X b → b < w.heap.size ∧ ¬ F b ∧ ¬ G b
theorem Nw.step {X : Nat → Prop} {w0 w w' : World} {F G F' G' E : Nat → Prop} (h : Nw X w0 w F G) (hc : Chg E w w') (hE : ∀ b, b < w.heap.size → E b → F b ∨ G b) (hF : ∀ b, F' b → F b ∨ w.heap.size ≤ b) (hG : ∀ b, G' b → G b ∨ w.heap.size ≤ b) : Nw X w0 w' F' G' ∧ Sm X w w' := by
  have hz := h.chg.size
  have hz2 := hc.size
  refine ⟨⟨h.chg.trans hc (fun b hb he => ?_), fun b hb => ?_, fun b hb => ?_, fun b hb => ?_⟩, fun b hb => ?_⟩
  · rcases hE b (by omega) he with e | e
    · have := h.f b e; omega
    · have := h.g b e; omega
  · rcases hF b hb with e | e
    · exact h.f b e
    · omega
  · rcases hG b hb with e | e
    · exact h.g b e
    · omega
  · obtain ⟨h1, h2, h3⟩ := h.x b hb
    refine ⟨by omega, fun e => ?_, fun e => ?_⟩
    · rcases hF b e with e | e
      · exact h2 e
      · omega
    · rcases hG b e with e | e
      · exact h3 e
      · omega
  · obtain ⟨h1, h2, h3⟩ := h.x b hb
    exact hc.block b h1 (fun e => by
      rcases hE b h1 e with e | e
      · exact h2 e
      · exact h3 e)
/-- X, and what was made since. -/
def addX (X : Nat → Prop) (a b : Nat) : Nat → Prop := fun k => X k ∨ (a ≤ k ∧ k < b)
theorem Nw.more {X : Nat → Prop} {w0 w w' : World} {F G : Nat → Prop} (h : Nw X w0 w F G) (hc : Chg (fun _ => False) w w') : Nw X w0 w' F G := (h.step hc (fun _ _ h => h.elim) (fun _ h => .inl h) (fun _ h => .inl h)).1
theorem Nw.add {X : Nat → Prop} {w0 w w' : World} {F G : Nat → Prop} (h : Nw X w0 w F G) (hc : Chg (fun _ => False) w w') (hF : ∀ b, F b → b < w.heap.size) (hG : ∀ b, G b → b < w.heap.size) : Nw (addX X w.heap.size w'.heap.size) w0 w' F G := by
  have h1 := h.more hc
  refine ⟨h1.chg, h1.f, h1.g, fun b hb => ?_⟩
  rcases hb with e | e
  · exact h1.x b e
  · exact ⟨e.2, fun hf => by have := hF b hf; omega, fun hg => by have := hG b hg; omega⟩
theorem Nw.less {X X' : Nat → Prop} {w0 w : World} {F G : Nat → Prop} (h : Nw X w0 w F G) (hx : ∀ b, X' b → X b) : Nw X' w0 w F G := ⟨h.chg, h.f, h.g, fun b hb => h.x b (hx b hb)⟩

/-- A log with the power on: f lasts, com was committed; N bounds the disk's writes. -/
def LogUp (X : Nat → Prop) (w0 w : World) (pd pl K : Nat) (f : Nat → List Int) (com : Nat → Option (List Int)) (pend N : Nat) : Prop :=
  ∃ F G S m V, Lk w F G pd pl K S com pend (.pointer none) m V ∧ Clean S K f ∧ S.off = false ∧ S.arm < 1 ∧ S.writes ≤ N ∧ (ks K com).length ≤ 63 ∧ Nw X w0 w F G
/-- A log with its transaction. -/
def TxUp (X : Nat → Prop) (w0 w : World) (pd pl q K : Nat) (f : Nat → List Int) (com : Nat → Option (List Int)) (pend : Nat) (live : Bool) (own : Nat → Option (List Int)) (wrote N : Nat) : Prop :=
  ∃ F G S m V mt Vt, Tk w F G pd pl q K S com pend live own wrote m V mt Vt ∧ Clean S K f ∧ S.off = false ∧ S.arm < 1 ∧ S.writes ≤ N ∧ (ks K com).length ≤ 63 ∧ Nw X w0 w F G ∧ (live = true → wrote = (ks K own).length ∧ wrote ≤ 63) ∧ (live = false → own = fun _ => none)
/-- A disk on which f lasts. -/
def DkUp (X : Nat → Prop) (w0 w : World) (pd K : Nat) (f : Nat → List Int) (off : Bool) (N : Nat) : Prop :=
  ∃ F S, Dk w F pd S ∧ Lasts S K f ∧ S.off = off ∧ (off = false → S.arm < 1) ∧ S.writes ≤ N ∧ Nw X w0 w F (fun _ => False)

section
variable {X : Nat → Prop} {w0 w w' : World} {pd pl q K : Nat} {f : Nat → List Int} {com own : Nat → Option (List Int)} {pend wrote N : Nat} {live : Bool}
theorem LogUp.more (h : LogUp X w0 w pd pl K f com pend N) (hc : Chg (fun _ => False) w w') : LogUp X w0 w' pd pl K f com pend N := by
  obtain ⟨F, G, S, m, V, h1, h2, h3, h4, h5, h6, h7⟩ := h
  exact ⟨F, G, S, m, V, h1.kept hc, h2, h3, h4, h5, h6, h7.more hc⟩
theorem TxUp.more (h : TxUp X w0 w pd pl q K f com pend live own wrote N) (hc : Chg (fun _ => False) w w') : TxUp X w0 w' pd pl q K f com pend live own wrote N := by
  obtain ⟨F, G, S, m, V, mt, Vt, h1, h2, h3, h4, h5, h6, h7, h8⟩ := h
  exact ⟨F, G, S, m, V, mt, Vt, h1.kept hc, h2, h3, h4, h5, h6, h7.more hc, h8⟩
theorem LogUp.add (h : LogUp X w0 w pd pl K f com pend N) (hc : Chg (fun _ => False) w w') : LogUp (addX X w.heap.size w'.heap.size) w0 w' pd pl K f com pend N := by
  obtain ⟨F, G, S, m, V, h1, h2, h3, h4, h5, h6, h7⟩ := h
  exact ⟨F, G, S, m, V, h1.kept hc, h2, h3, h4, h5, h6, h7.add hc h1.dk.lt h1.lg.lt⟩
theorem TxUp.add (h : TxUp X w0 w pd pl q K f com pend live own wrote N) (hc : Chg (fun _ => False) w w') : TxUp (addX X w.heap.size w'.heap.size) w0 w' pd pl q K f com pend live own wrote N := by
  obtain ⟨F, G, S, m, V, mt, Vt, h1, h2, h3, h4, h5, h6, h7, h8⟩ := h
  exact ⟨F, G, S, m, V, mt, Vt, h1.kept hc, h2, h3, h4, h5, h6, h7.add hc h1.lk.dk.lt h1.lk.lg.lt, h8⟩
theorem LogUp.less {X' : Nat → Prop} (h : LogUp X w0 w pd pl K f com pend N) (hx : ∀ b, X' b → X b) : LogUp X' w0 w pd pl K f com pend N := by
  obtain ⟨F, G, S, m, V, h1, h2, h3, h4, h5, h6, h7⟩ := h
  exact ⟨F, G, S, m, V, h1, h2, h3, h4, h5, h6, h7.less hx⟩
theorem TxUp.less {X' : Nat → Prop} (h : TxUp X w0 w pd pl q K f com pend live own wrote N) (hx : ∀ b, X' b → X b) : TxUp X' w0 w pd pl q K f com pend live own wrote N := by
  obtain ⟨F, G, S, m, V, mt, Vt, h1, h2, h3, h4, h5, h6, h7, h8⟩ := h
  exact ⟨F, G, S, m, V, mt, Vt, h1, h2, h3, h4, h5, h6, h7.less hx, h8⟩
theorem LogUp.xlt (h : LogUp X w0 w pd pl K f com pend N) : ∀ b, X b → b < w.heap.size := by
  obtain ⟨F, G, S, m, V, h1, h2, h3, h4, h5, h6, h7⟩ := h
  exact fun b hb => (h7.x b hb).1
theorem LogUp.chg (h : LogUp X w0 w pd pl K f com pend N) : Chg (fun _ => False) w0 w := by obtain ⟨F, G, S, m, V, _, _, _, _, _, _, h7⟩ := h; exact h7.chg
theorem TxUp.chg (h : TxUp X w0 w pd pl q K f com pend live own wrote N) : Chg (fun _ => False) w0 w := by obtain ⟨F, G, S, m, V, mt, Vt, _, _, _, _, _, _, h7, _⟩ := h; exact h7.chg
theorem DkUp.chg {off : Bool} (h : DkUp X w0 w pd K f off N) : Chg (fun _ => False) w0 w := by obtain ⟨F, S, _, _, _, _, _, h7⟩ := h; exact h7.chg
theorem LogUp.mono (h : LogUp X w0 w pd pl K f com pend N) {N' : Nat} (hN : N ≤ N') : LogUp X w0 w pd pl K f com pend N' := by
  obtain ⟨F, G, S, m, V, h1, h2, h3, h4, h5, h6, h7⟩ := h
  exact ⟨F, G, S, m, V, h1, h2, h3, h4, by omega, h6, h7⟩
theorem TxUp.log (h : TxUp X w0 w pd pl q K f com pend false own wrote N) : LogUp X w0 w pd pl K f com pend N := by
  obtain ⟨F, G, S, m, V, mt, Vt, h1, h2, h3, h4, h5, h6, h7, h8⟩ := h
  exact ⟨F, G, S, m, V, h1.lk, h2, h3, h4, h5, h6, h7⟩
theorem TxUp.ownNone (h : TxUp X w0 w pd pl q K f com pend false own wrote N) : own = fun _ => none := by
  obtain ⟨F, G, S, m, V, mt, Vt, h1, h2, h3, h4, h5, h6, h7, h8, h9⟩ := h; exact h9 rfl
theorem TxUp.inv (h : TxUp X w0 w pd pl q K f com pend true own wrote N) : wrote = (ks K own).length ∧ wrote ≤ 63 := by
  obtain ⟨F, G, S, m, V, mt, Vt, h1, h2, h3, h4, h5, h6, h7, h8, h9⟩ := h; exact h8 rfl
theorem TxUp.lt (h : TxUp X w0 w pd pl q K f com pend live own wrote N) : ∀ n b, own n = some b → n < K ∧ b.length = 512 := by
  obtain ⟨F, G, S, m, V, mt, Vt, h1, _⟩ := h
  exact fun n b hb => ⟨(h1.tx.mb.row n b hb).1, (h1.tx.mb.row n b hb).2.1⟩
theorem LogUp.lt (h : LogUp X w0 w pd pl K f com pend N) : (∀ n b, com n = some b → n < K ∧ b.length = 512) ∧ (ks K com).length ≤ 63 ∧ K ≤ 16384 := by
  obtain ⟨F, G, S, m, V, h1, h2, h3, h4, h5, h6, h7⟩ := h
  exact ⟨fun n b hb => ⟨(h1.lg.mb.row n b hb).1, (h1.lg.mb.row n b hb).2.1⟩, h6, h1.top⟩
theorem LogUp.flen (h : LogUp X w0 w pd pl K f com pend N) : ∀ n, n < K → (f n).length = 512 := by
  obtain ⟨F, G, S, m, V, h1, h2, h3, h4, h5, h6, h7⟩ := h
  intro n hn
  rw [← h2.last hn]
  exact St.last_len h2.wf (by have := h2.nb; omega)
theorem LogUp.ext (h : LogUp X w0 w pd pl K f com pend N) {g : Nat → List Int} (e : ∀ n, n < K → f n = g n) : LogUp X w0 w pd pl K g com pend N := by
  obtain ⟨F, G, S, m, V, h1, h2, h3, h4, h5, h6, h7⟩ := h
  exact ⟨F, G, S, m, V, h1, Holds.ext h2 e, h3, h4, h5, h6, h7⟩

/-- New memory that holds bs. -/
structure NewB (w w' : World) (u : Value) (bs : List Int) : Prop where
  bs : Bs w' u bs
  chg : Chg (fun _ => False) w w'
  new : ∀ g, u.ownBlock = some g → w.heap.size ≤ g
theorem Fresh.newB {w1 : World} {u : Value} {bs : List Int} (h : Fresh w1 w' u bs) (hc : Chg (fun _ => False) w w1) : NewB w w' u bs := ⟨h.bs, hc.trans h.chg (fun _ _ h => h), fun g hg => by have := h.new g hg; have := hc.size; omega⟩

theorem format_up (F : Nat → Prop) (S : St) (h : Dk w F pd S) (hn : Nw X w0 w F (fun _ => False)) (hc : ∀ n, S.wait n = []) (hK : S.nb = K + 65) (hK1 : 1 ≤ K) (hoff : S.off = false) (harm : S.arm < 1) (hN : S.writes + K + 2 ≤ N) (hx : N < 1000000000) :
    Calls Tryz.prog 7 #[.pointer (some ⟨pd, 0, none⟩)] w fun e w' => ∃ pl, e = .returned (.tuple #[.pointer (some ⟨pl, 0, none⟩), .int .i64 0]) ∧ LogUp X w0 w' pd pl K (fun _ => zeros 512) (fun _ => none) 0 N ∧ Sm X w w' := by
  refine (format_any F pd K S w h hc hK hK1 hoff (by omega)).mono ?_
  rintro e w' (⟨pl, F', G, m, V, S', rfl, hk, hch, hF, hG, ho, hcl⟩ | ⟨S', rfl, _, hg, _⟩)
  · have hq := hn.step hch (fun b _ h => .inl h) hF (fun b hb => .inr (hG b hb))
    exact ⟨pl, rfl, ⟨F', G, S', m, V, hk, hcl, ho.off, ho.arm harm, by have := ho.wr; omega, by rw [ks_none]; omega, hq.1⟩, hq.2⟩
  · have := hg.arm; omega

theorem begin_up (h : LogUp X w0 w pd pl K f com pend N) :
    Calls Tryz.prog 13 #[.pointer (some ⟨pl, 0, none⟩)] w fun e w' => ∃ q, e = .returned (.tuple #[.pointer (some ⟨q, 0, none⟩), .int .i64 0]) ∧ TxUp X w0 w' pd pl q K f com pend true (fun _ => none) 0 N ∧ Sm X w w' := by
  obtain ⟨F, G, S, m, V, h1, h2, h3, h4, h5, h6, h7⟩ := h
  refine (begin_any w h1 h3).mono ?_
  rintro e w' ⟨q, G', mt, Vt, rfl, htk, hch, hG⟩
  have hq := h7.step hch (fun b _ e => .inr (e ▸ h1.lg.fp)) (fun _ h => .inl h) hG
  exact ⟨q, rfl, ⟨F, G', S, m, V, mt, Vt, htk, h2, h3, h4, h5, h6, hq.1, fun _ => ⟨by rw [ks_none], by omega⟩, (fun h => by cases h)⟩, hq.2⟩

theorem ks_upd_first {n : Nat} {b : List Int} (hn : n < K) (h : own n = none) : (ks K (upd own n (some b))).length = (ks K own).length + 1 :=
  cntF_flip (p := fun k => (own k).isSome) (p' := fun k => (upd own n (some b) k).isSome) hn (by simp [h]) (by simp [upd_same]) (fun k hk => by simp [upd_other _ _ hk])
theorem ks_upd_again {n : Nat} {b b0 : List Int} (h : own n = some b0) : (ks K (upd own n (some b))).length = (ks K own).length :=
  cntF_congr (fun k _ => by
    by_cases e : k = n
    · subst e; simp [upd_same, h]
    · simp [upd_other _ _ e])

theorem write_up {w1 : World} (n : Nat) (bs : List Int) (ua : Option Addr) (uc : Nat) (h : TxUp X w0 w1 pd pl q K f com pend true own wrote N) (hb : NewB w1 w (.slice ua 512 uc) bs) (hl : bs.length = 512) (hn : n < K) (hr : own n ≠ none ∨ wrote < 63) :
    Calls Tryz.prog 14 #[.pointer (some ⟨q, 0, none⟩), .int .i64 (n : Int), .slice ua 512 uc] w fun e w' => e = .returned (.int .i64 0) ∧ TxUp X w0 w' pd pl q K f com pend true (upd own n (some bs)) (ks K (upd own n (some bs))).length N ∧ Sm X w w' := by
  obtain ⟨F, G, S, m, V, mt, Vt, h1, h2, h3, h4, h5, h6, h7, h8, h9⟩ := h
  have k1 := h1.kept hb.chg
  have k7 := h7.more hb.chg
  have inv := h8 rfl
  have hgE : ∀ b, b < w.heap.size → (b = q ∨ b = mt) → F b ∨ G b := fun b _ e => by
    rcases e with e | e
    · exact .inr (e ▸ k1.tx.fp)
    · exact .inr (e ▸ k1.tx.mb.fm)
  cases ho : own n with
  | some b0 =>
    refine (twrite_again n bs b0 ua uc w k1 hn hb.bs hl h3 ho).mono ?_
    rintro e w' ⟨G', Vt', rfl, htk, hch, hG⟩
    have e := ks_upd_again (K := K) (b := bs) ho
    have hq := k7.step hch hgE (fun _ h => .inl h) hG
    exact ⟨rfl, ⟨F, G', S, m, V, mt, Vt', by rw [e, ← inv.1]; exact htk, h2, h3, h4, h5, h6, hq.1, fun _ => ⟨rfl, by omega⟩, (fun h => by cases h)⟩, hq.2⟩
  | none =>
    have hr' : wrote < 63 := by
      rcases hr with h | h
      · exact absurd ho h
      · exact h
    refine (twrite_first n bs ua uc w k1 hn hb.bs hl h3 ho hr' (fun a ha e => ?_)).mono ?_
    · have h10 := hb.new a.block (by rw [ha]; rfl)
      have h11 := h1.tx.lt q h1.tx.fp
      omega
    rintro e w' ⟨G', Vt', rfl, htk, hch, hG⟩
    have e := ks_upd_first (K := K) (b := bs) hn ho
    have hq := k7.step hch hgE (fun _ h => .inl h) hG
    exact ⟨rfl, ⟨F, G', S, m, V, mt, Vt', by rw [e, ← inv.1]; exact htk, h2, h3, h4, h5, h6, hq.1, fun _ => ⟨rfl, by omega⟩, (fun h => by cases h)⟩, hq.2⟩
theorem write_full_up {w1 : World} (n : Nat) (bs : List Int) (ua : Option Addr) (uc : Nat) (h : TxUp X w0 w1 pd pl q K f com pend true own wrote N) (hb : NewB w1 w (.slice ua 512 uc) bs) (hn : n < K) (hr : own n = none) (hw : wrote = 63) :
    Calls Tryz.prog 14 #[.pointer (some ⟨q, 0, none⟩), .int .i64 (n : Int), .slice ua 512 uc] w fun e w' => e = .returned (.int .i64 7) ∧ TxUp X w0 w' pd pl q K f com pend true own wrote N ∧ Sm X w w' := by
  have hm := h.more hb.chg
  obtain ⟨F, G, S, m, V, mt, Vt, h1, h2, h3, h4, h5, h6, h7, h8, h9⟩ := h
  refine (twrite_full n ua uc w (h1.kept hb.chg) hn h3 hr hw).mono ?_
  rintro e w' ⟨rfl, rfl⟩
  exact ⟨rfl, hm, fun _ _ => rfl⟩

theorem commit_up (h : TxUp X w0 w pd pl q K f com pend true own wrote N) (hx : N < 1000000000) (hp : pend < 1000000000) :
    Calls Tryz.prog 16 #[.pointer (some ⟨q, 0, none⟩)] w fun e w' => e = .returned (.int .i64 0) ∧ ∃ f' com' pend', TxUp X w0 w' pd pl q K f' com' pend' false (fun _ => none) wrote (N + 128) ∧ Sm X w w' ∧ (∀ n, ovr f' com' n = ovr (ovr f com) own n) ∧
      ((pend' = pend + 1 ∧ f' = f ∧ com' = mrg com own ∧ (ks K (mrg com own)).length ≤ 63) ∨ (pend' = 1 ∧ f' = ovr f com ∧ com' = own ∧ 63 < (ks K (mrg com own)).length)) := by
  obtain ⟨F, G, S, m, V, mt, Vt, h1, h2, h3, h4, h5, h6, h7, h8, h9⟩ := h
  have inv := h8 rfl
  have hgE : ∀ b, b < w.heap.size → (F b ∨ b = pl ∨ b = m ∨ b = mt) → F b ∨ G b := fun b _ e => by
    rcases e with e | e | e | e
    · exact .inl e
    · exact .inr (e ▸ h1.lk.lg.fp)
    · exact .inr (e ▸ h1.lk.lg.mb.fm)
    · exact .inr (e ▸ h1.tx.mb.fm)
  refine (commit_any f w h1 h2 h3 h6 (by omega) (by omega)).mono ?_
  rintro e w' (⟨F', S', V', com', pend', rfl, htk, hch, hF, ho, hr⟩ | ⟨F', S', V', rfl, htk, hch, hF, hg, hr, hl⟩)
  · have hwr := ho.wr
    have hq := h7.step hch hgE hF (fun _ h => .inl h)
    rcases hr with ⟨rfl, rfl, rfl, hT⟩ | ⟨rfl, rfl, hcl, hT⟩
    · exact ⟨rfl, f, mrg com own, pend + 1, ⟨F', G, S', m, V', mt, Vt, htk, h2, h3, h4, by omega, hT, hq.1, (fun h => by cases h), fun _ => rfl⟩, hq.2, fun n => ovr_mrg f com own n, .inl ⟨rfl, rfl, rfl, hT⟩⟩
    · exact ⟨rfl, ovr f com, com', 1, ⟨F', G, S', m, V', mt, Vt, htk, hcl, ho.off, ho.arm h4, by omega, by omega, hq.1, (fun h => by cases h), fun _ => rfl⟩, hq.2, fun n => rfl, .inr ⟨rfl, rfl, rfl, hT⟩⟩
  · have := hg.arm; omega
theorem abort_up (h : TxUp X w0 w pd pl q K f com pend true own wrote N) :
    Calls Tryz.prog 72 #[.pointer (some ⟨q, 0, none⟩)] w fun e w' => e = .returned (.tuple #[]) ∧ TxUp X w0 w' pd pl q K f com pend false (fun _ => none) 0 N ∧ Sm X w w' := by
  obtain ⟨F, G, S, m, V, mt, Vt, h1, h2, h3, h4, h5, h6, h7, h8, h9⟩ := h
  refine (abort_live w h1).mono ?_
  rintro e w' ⟨rfl, htk, hch⟩
  have hq := h7.step hch (fun b _ e => by
    rcases e with e | e | e
    · exact .inr (e ▸ h1.lk.lg.fp)
    · exact .inr (e ▸ h1.tx.mb.fm)
    · exact .inr (e ▸ h1.tx.fp)) (fun _ h => .inl h) (fun _ h => .inl h)
  exact ⟨rfl, ⟨F, G, S, m, V, mt, Vt, htk, h2, h3, h4, h5, h6, hq.1, (fun h => by cases h), fun _ => rfl⟩, hq.2⟩
theorem sync_up (h : LogUp X w0 w pd pl K f com pend N) (hx : N < 1000000000) :
    Calls Tryz.prog 17 #[.pointer (some ⟨pl, 0, none⟩)] w fun e w' => e = .returned (.int .i64 0) ∧ LogUp X w0 w' pd pl K (ovr f com) (fun _ => none) 0 (N + 128) ∧ Sm X w w' := by
  obtain ⟨F, G, S, m, V, h1, h2, h3, h4, h5, h6, h7⟩ := h
  refine (lsync_any f w h1 h2 h3 h6 (by omega)).mono ?_
  rintro e w' (⟨F', S', rfl, hk, hch, hF, ho, hcl⟩ | ⟨F', S', rfl, _, _, _, hg, _⟩)
  · have hq := h7.step hch (fun b _ e => by
      rcases e with e | e | e
      · exact .inl e
      · exact .inr (e ▸ h1.lg.fp)
      · exact .inr (e ▸ h1.lg.mb.fm)) hF (fun _ h => .inl h)
    exact ⟨rfl, ⟨F', G, S', m, V, hk, hcl, ho.off, ho.arm h4, by have := ho.wr; omega, (by rw [ks_none]; omega), hq.1⟩, hq.2⟩
  · have := hg.arm; omega
theorem sync_upT (h : TxUp X w0 w pd pl q K f com pend live own wrote N) (hx : N < 1000000000) :
    Calls Tryz.prog 17 #[.pointer (some ⟨pl, 0, none⟩)] w fun e w' => e = .returned (.int .i64 0) ∧ TxUp X w0 w' pd pl q K (ovr f com) (fun _ => none) 0 live own wrote (N + 128) ∧ Sm X w w' := by
  obtain ⟨F, G, S, m, V, mt, Vt, h1, h2, h3, h4, h5, h6, h7, h8, h9⟩ := h
  refine (lsync_any f w h1.lk h2 h3 h6 (by omega)).mono ?_
  rintro e w' (⟨F', S', rfl, hk, hch, hF, ho, hcl⟩ | ⟨F', S', rfl, _, _, _, hg, _⟩)
  · have hq := h7.step hch (fun b _ e => by
      rcases e with e | e | e
      · exact .inl e
      · exact .inr (e ▸ h1.lk.lg.fp)
      · exact .inr (e ▸ h1.lk.lg.mb.fm)) hF (fun _ h => .inl h)
    exact ⟨rfl, ⟨F', G, S', m, V, mt, Vt, h1.sync hk hch, hcl, ho.off, ho.arm h4, by have := ho.wr; omega, (by rw [ks_none]; omega), hq.1, h8, h9⟩, hq.2⟩
  · have := hg.arm; omega
theorem read_up (n : Nat) (h : LogUp X w0 w pd pl K f com pend N) (hn : n < K) (hx : N < 1000000000) :
    Calls Tryz.prog 18 #[.pointer (some ⟨pl, 0, none⟩), .int .i64 (n : Int)] w fun e w' => ∃ u, e = .returned (.tuple #[u, .int .i64 0]) ∧ Fresh w w' u (ovr f com n) := by
  obtain ⟨F, G, S, m, V, h1, h2, h3, h4, h5, h6, h7⟩ := h
  exact lread_any f n w h1 (h2.last hn) hn h3 (by omega)
theorem read_upT (n : Nat) (h : TxUp X w0 w pd pl q K f com pend live own wrote N) (hn : n < K) (hx : N < 1000000000) :
    Calls Tryz.prog 18 #[.pointer (some ⟨pl, 0, none⟩), .int .i64 (n : Int)] w fun e w' => ∃ u, e = .returned (.tuple #[u, .int .i64 0]) ∧ Fresh w w' u (ovr f com n) := by
  obtain ⟨F, G, S, m, V, mt, Vt, h1, h2, h3, h4, h5, h6, h7, h8, h9⟩ := h
  exact lread_any f n w h1.lk (h2.last hn) hn h3 (by omega)
theorem tread_up (n : Nat) (h : TxUp X w0 w pd pl q K f com pend live own wrote N) (hn : n < K) (hx : N < 1000000000) :
    Calls Tryz.prog 76 #[.pointer (some ⟨q, 0, none⟩), .int .i64 (n : Int)] w fun e w' => ∃ u, e = .returned (.tuple #[u, .int .i64 0]) ∧ Fresh w w' u (ovr (ovr f com) own n) := by
  obtain ⟨F, G, S, m, V, mt, Vt, h1, h2, h3, h4, h5, h6, h7, h8, h9⟩ := h
  exact tread_any f n w h1 (h2.last hn) hn h3 (by omega)
theorem blocks_up (h : LogUp X w0 w pd pl K f com pend N) : Calls Tryz.prog 11 #[.pointer (some ⟨pl, 0, none⟩)] w fun e w' => e = .returned (.int .i64 (K : Int)) ∧ w' = w := by
  obtain ⟨F, G, S, m, V, h1, _⟩ := h
  exact lblocks_any w h1
theorem twrites_up (h : TxUp X w0 w pd pl q K f com pend live own wrote N) : Calls Tryz.prog 78 #[.pointer (some ⟨q, 0, none⟩)] w fun e w' => e = .returned (.int .i64 (wrote : Int)) ∧ w' = w := by
  obtain ⟨F, G, S, m, V, mt, Vt, h1, _⟩ := h
  exact twrites_any w h1.tx
/-- The power goes between calls: what lasted lasts. -/
theorem cut_up (v : Value) (ps : List Int) (h : LogUp X w0 w pd pl K f com pend N) (hi : Is w v ps) (hv : ps ≠ [] → ∀ g, v.ownBlock = some g → g < w0.heap.size) (hx : N < 1000000000) :
    Calls Tryz.prog 19 #[.pointer (some ⟨pd, 0, none⟩), v] w fun e w' => e = .returned (.tuple #[]) ∧ DkUp X w0 w' pd K f true N ∧ Sm X w w' := by
  obtain ⟨F, G, S, m, V, h1, h2, h3, h4, h5, h6, h7⟩ := h
  refine (cut_arg F pd S v ps w h1.dk hi (fun hp g hg hf => by have := hv hp g hg; have := h7.f g hf; omega) (by omega)).mono ?_
  rintro e w' ⟨rfl, F', d, c, hF⟩
  have hq := h7.step c (fun b _ h => .inl h) hF (G' := fun _ => False) (fun _ h => h.elim)
  exact ⟨rfl, ⟨F', S.cut ps, d, h2.lasts.cut ps, St.cut_off S ps, (fun h => by cases h), by rw [St.cut_writes]; exact h5, hq.1⟩, hq.2⟩
theorem on_up {off : Bool} (h : DkUp X w0 w pd K f off N) :
    Calls Tryz.prog 20 #[.pointer (some ⟨pd, 0, none⟩)] w fun e w' => e = .returned (.tuple #[]) ∧ DkUp X w0 w' pd K f false N ∧ Sm X w w' := by
  obtain ⟨F, S, h1, h2, h3, h4, h5, h6⟩ := h
  refine (on_any F pd S w h1).mono ?_
  rintro e w' ⟨rfl, d, c⟩
  have hq := h6.step c (fun b _ e => .inl (e ▸ h1.fp)) (fun _ h => .inl h) (G' := fun _ => False) (fun _ h => h.elim)
  exact ⟨rfl, ⟨F, S.on, d, h2.on, rfl, fun _ => (by show (0 : Int) < 1; decide), h5, hq.1⟩, hq.2⟩
theorem open_up (hK1 : 1 ≤ K) (h : DkUp X w0 w pd K f false N) (hx : N < 1000000000) :
    Calls Tryz.prog 21 #[.pointer (some ⟨pd, 0, none⟩)] w fun e w' => ∃ pl, e = .returned (.tuple #[.pointer (some ⟨pl, 0, none⟩), .int .i64 0]) ∧ LogUp X w0 w' pd pl K f (fun _ => none) 0 (N + 64) ∧ Sm X w w' := by
  obtain ⟨F, S, h1, h2, h3, h4, h5, h6⟩ := h
  refine (open_ok F pd K f S w h1 h2 hK1 h3 (by omega)).mono ?_
  rintro e w' (⟨pl, F', G, m, V, S', rfl, hk, hch, hF, hG, ho, hcl⟩ | ⟨S', rfl, _, hg, _⟩)
  · have hq := h6.step hch (fun b _ h => .inl h) hF (fun b hb => .inr (hG b hb))
    exact ⟨pl, rfl, ⟨F', G, S', m, V, hk, hcl, ho.off, ho.arm (h4 rfl), by have := ho.wr; omega, (by rw [ks_none]; omega), hq.1⟩, hq.2⟩
  · have := hg.arm; have := h4 rfl; omega
end
end Go.Proofs.YtmlhjcjonfalhaaGreat

namespace Go.Proofs.YtmlhjcjonfalhaaGreat
open Go.RowKit Go.Maps

theorem eqL_some (a : Addr) (w : World) : (binOp .eql 33 (.pointer (some a)) (.pointer none)).run Tryz.prog w = .ok (.bool false) w := by kernel_rfl
theorem eqL_none (w : World) : (binOp .eql 33 (.pointer none) (.pointer none)).run Tryz.prog w = .ok (.bool true) w := by kernel_rfl
theorem neL_some (a : Addr) (w : World) : (binOp .neq 33 (.pointer (some a)) (.pointer none)).run Tryz.prog w = .ok (.bool true) w := by kernel_rfl
theorem eqT_some (a : Addr) (w : World) : (binOp .eql 39 (.pointer (some a)) (.pointer none)).run Tryz.prog w = .ok (.bool false) w := by kernel_rfl

def KnownA (w : World) (ux uy : Value) (tb ta : ByteArray) (e : Ending) (w1 : World) : Prop :=
  ∃ u, e = .returned u ∧ (convert 50 9 u).run Tryz.prog w1 = .ok (.string tb) w1 ∧ (convert 50 9 ux).run Tryz.prog w1 = .ok (.string tb) w1 ∧ (convert 50 9 uy).run Tryz.prog w1 = .ok (.string ta) w1 ∧
    (∀ o, (convert 50 9 ux).run Tryz.prog (w1.alloc o) = .ok (.string tb) (w1.alloc o)) ∧ (∀ o, (convert 50 9 uy).run Tryz.prog (w1.alloc o) = .ok (.string ta) (w1.alloc o)) ∧
    Hid (Calls Tryz.prog 15 #[.slice (some ⟨w1.heap.size, 0, none⟩) 1 1] (w1.alloc (.cells #[.int .u8 97] 5 (1, 2))) fun e w2 => ∃ u, e = .returned u ∧ (convert 50 9 u).run Tryz.prog w2 = .ok (.string ta) w2 ∧ (convert 50 9 ux).run Tryz.prog w2 = .ok (.string tb) w2 ∧ (convert 50 9 uy).run Tryz.prog w2 = .ok (.string ta) w2 ∧ Hid (Chg (fun _ => False) w w2))
theorem known_last {w w16 : World} {ux uy : Value} {A B : List Int} (hc : Chg (fun _ => False) w w16) (bx : Bs w16 ux B) (hby : Bs w16 uy A) (hB : full [98] = B) (hA : full [97] = A) :
    Calls Tryz.prog 15 #[.slice (some ⟨w16.heap.size, 0, none⟩) 1 1] (w16.drew.alloc (.cells #[.int .u8 98] 5 (1, 2))) (KnownA w ux uy (strOf B) (strOf A)) := by
  refine (full_any _ [98] _ (Bs.oneF w16.drew 98 (1, 2)) (by decide)).mono ?_
  rintro e w1 ⟨u, rfl, fr⟩
  have c0 : Chg (fun _ => False) w16 w1 := ((Chg.drew (fun _ => False) w16).trans (Chg.alloc (fun _ => False) w16.drew _) (fun _ _ h => h)).trans fr.chg (fun _ _ h => h)
  have bx1 := bx.kept c0 (fun _ _ _ _ _ h => h)
  have by1 := hby.kept c0 (fun _ _ _ _ _ h => h)
  have bu := fr.bs
  rw [hB] at bu
  refine ⟨u, rfl, run_str bu, run_str bx1, run_str by1, fun o => run_str (bx1.kept (Chg.alloc (fun _ => False) w1 o) (fun _ _ _ _ _ h => h)), fun o => run_str (by1.kept (Chg.alloc (fun _ => False) w1 o) (fun _ _ _ _ _ h => h)), ?_⟩
  refine (full_any _ [97] _ (Bs.oneF w1 97 (1, 2)) (by decide)).mono ?_
  rintro e w2 ⟨u2, rfl, fr2⟩
  have c2 : Chg (fun _ => False) w1 w2 := (Chg.alloc (fun _ => False) w1 _).trans fr2.chg (fun _ _ h => h)
  have bu2 := fr2.bs
  rw [hA] at bu2
  exact ⟨u2, rfl, run_str bu2, run_str (bx1.kept c2 (fun _ _ _ _ _ h => h)), run_str (by1.kept c2 (fun _ _ _ _ _ h => h)), (hc.trans c0 (fun _ _ h => h)).trans c2 (fun _ _ h => h)⟩


theorem Nw.ofNew {w w1 : World} {F : Nat → Prop} (hc : Chg (fun _ => False) w w1) (hF : ∀ b, F b → w.heap.size ≤ b) : Nw (fun b => b < w.heap.size) w w1 F (fun _ => False) := ⟨hc, hF, fun _ h => h.elim, fun b hb => ⟨Nat.lt_of_lt_of_le hb hc.size, fun hf => by have := hF b hf; omega, fun h => h⟩⟩

set_option maxHeartbeats 3200000 in
set_option maxRecDepth 100000 in
theorem known_any (w : World) : Calls Tryz.prog 4 #[] w fun e w' => e = .returned (.bool true) ∧ Chg (fun _ => False) w w' := by
  have kc := fun (w : World) (C : Array Value) (n c : Nat) => Lib.run_convert_bytes_const (P := Tryz.prog) w 50 5 C n c Tryz.underlying50 Tryz.underlying5
  obtain ⟨A, hA⟩ : ∃ A, full [97] = A := ⟨_, rfl⟩
  obtain ⟨B, hB⟩ : ∃ B, full [98] = B := ⟨_, rfl⟩
  have HA : Hid (full [97] = A ∧ A.length = 512) := ⟨hA, by rw [← hA]; exact full_len _⟩
  have HB : Hid (full [98] = B ∧ B.length = 512) := ⟨hB, by rw [← hB]; exact full_len _⟩
  clear hA hB
  go_enter Tryz.func4, Tryz.ntmps4
  go_wp2_with fail
  refine (new_ok 135 w (by decide) (by decide)).mono ?_
  rintro e w1 ⟨F, p, rfl, h1, hc1, hF⟩
  have H1 : Hid (Dk w1 F p (St.new 135) ∧ Nw (fun b => b < w.heap.size) w w1 F (fun _ => False)) := ⟨h1, Nw.ofNew hc1 hF⟩
  clear h1 hc1 hF
  go_wp2_with fail
  refine (format_up (N := 72) (K := 70) F (St.new 135) H1.out.1 H1.out.2 (fun _ => rfl) rfl (by decide) rfl (by decide) (by decide) (by decide)).mono ?_
  rintro e w2 ⟨pl, rfl, h2, _⟩
  have H2 : Hid (LogUp (fun b => b < w.heap.size) w w2 p pl 70 (fun _ => zeros 512) (fun _ => none) 0 72) := h2
  clear h2 H1
  have hq := eqL_some ⟨pl, 0, none⟩
  go_wp2_with fail
  refine (blocks_up H2.out).mono ?_
  rintro e w3 ⟨rfl, rfl⟩
  go_wp2_with fail
  refine (room_any ⟨pl, 0, none⟩ w3).mono ?_
  rintro e w4 ⟨rfl, rfl⟩
  go_wp2_with fail
  refine (begin_up H2.out).mono ?_
  rintro e w5 ⟨q, rfl, h5, _⟩
  have H5 : Hid (TxUp (fun b => b < w.heap.size) w w5 p pl q 70 (fun _ => zeros 512) (fun _ => none) 0 true (fun _ => none) 0 72) := h5
  clear h5 H2
  have hq2 := eqT_some ⟨q, 0, none⟩
  go_wp2_with fail
  refine (full_any _ [97] _ (Bs.oneF w5 97 _) (by decide)).mono ?_
  rintro e w6 ⟨u, rfl, fr⟩
  obtain ⟨ua, uc, rfl, hu⟩ := fr.form
  rw [HA.out.1] at fr
  have N6 : Hid (NewB w5 w6 (.slice ua 512 uc) A) := fr.newB (Chg.alloc (fun _ => False) w5 _)
  clear fr hu
  go_wp2_with fail
  refine (write_up 3 A ua uc H5.out N6.out HA.out.2 (by decide) (.inr (by decide))).mono ?_
  rintro e w7 ⟨rfl, h7, _⟩
  have H7 : Hid (TxUp (fun b => b < w.heap.size) w w7 p pl q 70 (fun _ => zeros 512) (fun _ => none) 0 true (upd (fun _ => none) 3 (some A)) (ks 70 (upd (fun _ => none) 3 (some A))).length 72) := h7
  clear h7 H5 N6
  go_wp2_with fail
  refine (commit_up H7.out (by decide) (by decide)).mono ?_
  rintro e w8 ⟨rfl, f8, com8, pend8, h8, _, hv8, _⟩
  have H8 : Hid (LogUp (fun b => b < w.heap.size) w w8 p pl 70 f8 com8 pend8 200 ∧ ∀ n, ovr f8 com8 n = ovr (ovr (fun _ => zeros 512) (fun _ => none)) (upd (fun _ => none) 3 (some A)) n) := ⟨h8.log, hv8⟩
  clear h8 hv8 H7
  go_wp2_with fail
  refine (sync_up H8.out.1 (by decide)).mono ?_
  rintro e w9 ⟨rfl, h9, _⟩
  have H9 : Hid (LogUp (fun b => b < w.heap.size) w w9 p pl 70 (ovr f8 com8) (fun _ => none) 0 328 ∧ ovr f8 com8 3 = A) := ⟨h9, by rw [H8.out.2]; exact ovr_some (upd_same _ _ _)⟩
  clear h9 H8
  obtain ⟨f9, hf9⟩ : ∃ f9, ovr f8 com8 = f9 := ⟨_, rfl⟩
  rw [hf9] at H9
  clear hf9
  go_wp2_with fail
  refine (begin_up H9.out.1).mono ?_
  rintro e w10 ⟨q2, rfl, h10, _⟩
  have H10 : Hid (TxUp (fun b => b < w.heap.size) w w10 p pl q2 70 f9 (fun _ => none) 0 true (fun _ => none) 0 328 ∧ f9 3 = A) := ⟨h10, H9.out.2⟩
  clear h10 H9 hq2
  have hq2 := eqT_some ⟨q2, 0, none⟩
  go_wp2_with fail
  refine (full_any _ [98] _ (Bs.oneF w10 98 _) (by decide)).mono ?_
  rintro e w11 ⟨u, rfl, fr⟩
  obtain ⟨ua, uc, rfl, hu⟩ := fr.form
  rw [HB.out.1] at fr
  have N6 : Hid (NewB w10 w11 (.slice ua 512 uc) B) := fr.newB (Chg.alloc (fun _ => False) w10 _)
  clear fr hu
  go_wp2_with fail
  refine (write_up 3 B ua uc H10.out.1 N6.out HB.out.2 (by decide) (.inr (by decide))).mono ?_
  rintro e w12 ⟨rfl, h12, _⟩
  have H12 : Hid (TxUp (fun b => b < w.heap.size) w w12 p pl q2 70 f9 (fun _ => none) 0 true (upd (fun _ => none) 3 (some B)) (ks 70 (upd (fun _ => none) 3 (some B))).length 328 ∧ f9 3 = A) := ⟨h12, H10.out.2⟩
  clear h12 H10 N6
  go_wp2_with fail
  refine (commit_up H12.out.1 (by decide) (by decide)).mono ?_
  rintro e w13 ⟨rfl, f13, com13, pend13, h13, _, hv13, hr13⟩
  have hf13 : f13 = f9 := by
    rcases hr13 with ⟨_, h, _⟩ | ⟨_, _, _, h⟩
    · exact h
    · exfalso
      have e1 : (ks 70 (mrg (fun _ => none) (upd (fun _ => none) 3 (some B)))).length ≤ 63 := by
        rw [ks_cnt, cntF_congr (p' := fun n => n == 3) (fun n _ => by
          rw [mrg_some]
          by_cases e : n = 3
          · subst e; simp [upd_same]
          · simp [upd_other _ _ e, e])]
        decide
      omega
  subst hf13
  have H13 : Hid (LogUp (fun b => b < w.heap.size) w w13 p pl 70 f13 com13 pend13 456 ∧ f13 3 = A ∧ ovr f13 com13 3 = B) := ⟨h13.log, H12.out.2, by rw [hv13]; exact ovr_some (upd_same _ _ _)⟩
  clear h13 hv13 hr13 H12
  go_wp2_with fail
  refine (read_up 3 H13.out.1 (by decide) (by decide)).mono ?_
  rintro e w14 ⟨ux, rfl, frx⟩
  rw [H13.out.2.2] at frx
  have H14 : Hid (LogUp (addX (fun b => b < w.heap.size) w13.heap.size w14.heap.size) w w14 p pl 70 f13 com13 pend13 456 ∧ f13 3 = A ∧ Bs w14 ux B) := ⟨H13.out.1.add frx.chg, H13.out.2.1, frx.bs⟩
  have HXN : Hid (∀ g, ux.ownBlock = some g → addX (fun b => b < w.heap.size) w13.heap.size w14.heap.size g) := fun g hg => .inr (frx.own.lt g hg)
  clear frx H13
  obtain ⟨X, hX⟩ : ∃ X, addX (fun b => b < w.heap.size) w13.heap.size w14.heap.size = X := ⟨_, rfl⟩
  rw [hX] at H14 HXN
  clear hX
  go_wp2_with fail
  refine (cut_up (.slice none 0 0) [] H14.out.1 (.inl ⟨rfl, rfl⟩) (fun h => absurd rfl h) (by decide)).mono ?_
  rintro e w15 ⟨rfl, h15, s15⟩
  have H15 : Hid (DkUp X w w15 p 70 f13 true 456 ∧ f13 3 = A ∧ Bs w15 ux B) := ⟨h15, H14.out.2.1, H14.out.2.2.sm s15 HXN.out⟩
  clear h15 s15 H14
  go_wp2_with fail
  refine (on_up H15.out.1).mono ?_
  rintro e w16 ⟨rfl, h16, s16⟩
  have H16 : Hid (DkUp X w w16 p 70 f13 false 456 ∧ f13 3 = A ∧ Bs w16 ux B) := ⟨h16, H15.out.2.1, H15.out.2.2.sm s16 HXN.out⟩
  clear h16 s16 H15
  go_wp2_with fail
  refine (open_up (by decide) H16.out.1 (by decide)).mono ?_
  rintro e w17 ⟨pm, rfl, h17, s17⟩
  have H17 : Hid (LogUp X w w17 p pm 70 f13 (fun _ => none) 0 520 ∧ f13 3 = A ∧ Bs w17 ux B) := ⟨h17, H16.out.2.1, H16.out.2.2.sm s17 HXN.out⟩
  clear h17 s17 H16 hq
  have hq := eqL_some ⟨pm, 0, none⟩
  go_wp2_with fail
  refine (read_up 3 H17.out.1 (by decide) (by decide)).mono ?_
  rintro e w18 ⟨uy, rfl, fry⟩
  rw [show ovr f13 (fun _ => none) 3 = A from H17.out.2.1] at fry
  have hcw : Chg (fun _ => False) w w18 := H17.out.1.chg.trans fry.chg (fun _ _ h => h)
  have bx := H17.out.2.2.kept fry.chg (fun _ _ _ _ _ h => h)
  have hby := fry.bs
  clear fry H17 hq hq2
  obtain ⟨tb, qb⟩ : ∃ t, strOf B = t := ⟨_, rfl⟩
  obtain ⟨ta, qa⟩ : ∃ t, strOf A = t := ⟨_, rfl⟩
  have KN := known_last hcw bx hby HB.out.1 HA.out.1
  rw [qb, qa] at KN
  have HL : Hid (Calls Tryz.prog 15 #[.slice (some ⟨w18.heap.size, 0, none⟩) 1 1] (w18.drew.alloc (.cells #[.int .u8 98] 5 (1, 2))) (KnownA w ux uy tb ta)) := KN
  have s1 : (convert 50 9 ux).run Tryz.prog w18.drew = .ok (.string tb) w18.drew := qb ▸ run_str (w := w18.drew) bx
  have s2 : (convert 50 9 uy).run Tryz.prog w18.drew = .ok (.string ta) w18.drew := qa ▸ run_str (w := w18.drew) hby
  have hbo : ∀ o, Bs (w18.alloc o) ux B := fun o => bx.kept (Chg.alloc (fun _ => False) w18 o) (fun _ _ _ _ _ h => h)
  have hbp : ∀ o, Bs (w18.alloc o) uy A := fun o => hby.kept (Chg.alloc (fun _ => False) w18 o) (fun _ _ _ _ _ h => h)
  have z1 : ∀ o, (convert 50 9 ux).run Tryz.prog (w18.alloc o).drew = .ok (.string tb) (w18.alloc o).drew := fun o => qb ▸ run_str (w := (w18.alloc o).drew) (hbo o)
  have z2 : ∀ o, (convert 50 9 uy).run Tryz.prog (w18.alloc o).drew = .ok (.string ta) (w18.alloc o).drew := fun o => qa ▸ run_str (w := (w18.alloc o).drew) (hbp o)
  have kcd : ∀ (C : Array Value) (n c : Nat), (convert 50 50 (.slice (some ⟨w18.heap.size, 0, none⟩) n c)).run Tryz.prog (w18.alloc (.cells C 5)).drew = .ok (.slice (some ⟨w18.heap.size, 0, none⟩) n c) (w18.alloc (.cells C 5 (C.size, C.size + 1))).drew := fun C n c => kc w18.drew C n c
  clear bx hby KN hcw qa qb hbo hbp HXN HA HB
  go_wp2_with fail
  go_region_held (fun w' => (convert 50 9 ux).run Tryz.prog w' = .ok (.string tb) w' ∧ (convert 50 9 uy).run Tryz.prog w' = .ok (.string ta) w')
    (first | assumption | exact ⟨s1, s2⟩ | exact ⟨z1 _, z2 _⟩ | exact ⟨x2, x3⟩ | exact ⟨x4 _, x5 _⟩ | exact ⟨y2, y3⟩)
    (first | (go_at_call 15; refine HL.out.mono ?_; clear HL; rintro e w19 ⟨u19, rfl, x1, x2, x3, x4, x5, HM⟩) | (go_at_call 15; refine HM.out.mono ?_; rintro e w20 ⟨u20, rfl, y1, y2, y3, HE⟩))
  all_goals
    go_wp2
    go_ret
    exact ⟨rfl, HE.out⟩

end Go.Proofs.YtmlhjcjonfalhaaGreat

namespace Go.Proofs.YtmlhjcjonfalhaaGreat
open Go.RowKit Go.Maps

theorem Bs.two (w : World) (x y : Int) : Bs (w.alloc (.cells #[.int .u8 x, .int .u8 y] 5)) (.slice (some ⟨w.heap.size, 0, none⟩) 2 2) [x, y] := Bs.lit w [x, y] (0, 0) (by simp [maxLen])
theorem Fresh.form512 {w w' : World} {u : Value} {xs : List Int} (h : Fresh w w' u xs) (hl : xs.length = 512) : ∃ a c, u = .slice a 512 c := by
  obtain ⟨a, c, e⟩ := cown_slice h.own
  rw [hl] at e
  exact ⟨a, c, e⟩
theorem int_mod64 (x : Int) : ∃ n : Nat, n < 64 ∧ x % 64 = (n : Int) := ⟨(x % 64).toNat, by omega, by omega⟩

theorem full_nil : full [] = zeros 512 := by
  rw [← fullTo_none 0, fullTo_zero]
/-- Which block the j-th number is. -/
def idx (l : List Int) (j : Nat) : Nat := (l.getD j 0 % 64).toNat
theorem idx_lt (l : List Int) (j : Nat) : idx l j < 64 := by unfold idx; omega
theorem idx_mod (l : List Int) (j : Nat) : l.getD j 0 % 64 = (idx l j : Int) := by unfold idx; omega
end Go.Proofs.YtmlhjcjonfalhaaGreat

namespace Go.Proofs.YtmlhjcjonfalhaaGreat
open Go.RowKit Go.Maps

/-- What the k-th block of the i-th transaction of W has, by its number. -/
def pat (W n : Nat) : List Int := full [((n / W + 1 : Nat) : Int), ((n % W : Nat) : Int)]
theorem pat_len (W n : Nat) : (pat W n).length = 512 := full_len _
theorem pat_at {W i k : Nat} (hk : k < W) : pat W (i * W + k) = full [((i + 1 : Nat) : Int), (k : Int)] := by
  have h1 : (i * W + k) / W = i := by
    rw [Nat.add_comm, Nat.add_mul_div_right _ _ (by omega), Nat.div_eq_of_lt hk]; omega
  have h2 : (i * W + k) % W = k := by rw [Nat.add_comm, Nat.add_mul_mod_self_right, Nat.mod_eq_of_lt hk]
  unfold pat
  rw [h1, h2]
theorem full_isB {bs : List Int} (h : IsB bs) : IsB (full bs) := by
  intro x hx
  obtain ⟨j, hj, rfl⟩ := List.mem_map.1 hx
  by_cases h0 : bs.length = 0
  · have : bs = [] := List.eq_nil_of_length_eq_zero h0
    subst this; simp
  · exact h.at (Nat.mod_lt _ (by omega))
theorem pat_isB {W n : Nat} (h : n / W < 200) (hw : W < 200) (h0 : 0 < W) : IsB (pat W n) := full_isB (fun x hx => by
  have h1 := Nat.mod_lt n h0
  rcases List.mem_cons.1 hx with e | e
  · subst e
    generalize n / W = r at *
    constructor <;> omega
  · have e := List.mem_singleton.1 e
    subst e
    generalize n % W = r at *
    constructor <;> omega)
theorem full_head (x : Int) (r : List Int) : (full (x :: r)).head? = some x := by
  have : List.range 512 = 0 :: (List.range 511).map Nat.succ := by rw [show (512 : Nat) = 511 + 1 from rfl, List.range_succ_eq_map]
  unfold full
  rw [this]
  simp
theorem pat_ne (W n : Nat) : pat W n ≠ zeros 512 := fun e => by
  have h1 := full_head (((n / W + 1 : Nat)) : Int) [((n % W : Nat) : Int)]
  have h2 : (zeros 512).head? = some 0 := rfl
  unfold pat at e
  rw [e, h2] at h1
  have h3 : (0 : Int) = ((n / W + 1 : Nat) : Int) := Option.some.inj h1
  generalize n / W = r at h3
  omega
/-- The first m blocks. -/
def gcom (W m n : Nat) : Option (List Int) := if n < m then some (pat W n) else none
/-- The blocks from a to m. -/
def gown (W a m n : Nat) : Option (List Int) := if a ≤ n ∧ n < m then some (pat W n) else none
theorem gcom_zero (W : Nat) : gcom W 0 = fun _ => none := by funext n; simp [gcom]
theorem gown_none (W a : Nat) : gown W a a = fun _ => none := by funext n; unfold gown; rw [if_neg (by omega)]
theorem gown_succ {W a m : Nat} (h : a ≤ m) : upd (gown W a m) m (some (pat W m)) = gown W a (m + 1) := by
  funext n
  by_cases e : n = m
  · subst e; rw [upd_same]; simp [gown, h]
  · rw [upd_other _ _ e]
    unfold gown
    by_cases h2 : a ≤ n ∧ n < m
    · rw [if_pos h2, if_pos ⟨h2.1, by omega⟩]
    · rw [if_neg h2, if_neg (by omega)]
theorem gcom_mrg {W a m : Nat} (h : a ≤ m) : mrg (gcom W a) (gown W a m) = gcom W m := by
  funext n
  unfold mrg gown gcom
  by_cases h2 : a ≤ n ∧ n < m
  · rw [if_pos h2, if_pos h2.2]; simp
  · rw [if_neg h2]
    by_cases h3 : n < a
    · have h4 : n < m := by omega
      simp [h3, h4]
    · have h4 : ¬ n < m := by omega
      simp [h3, h4]
theorem cnt_lt : ∀ (K m : Nat), cntF K (fun n => decide (n < m)) = min m K
  | 0, m => by simp [cntF]
  | K + 1, m => by
    rw [cntF_succ, cnt_lt K m]
    by_cases h : K < m
    · simp [h]; omega
    · simp [h]; omega
theorem ks_gcom (W m K : Nat) : (ks K (gcom W m)).length = min m K := by
  rw [ks_cnt, ← cnt_lt K m]
  refine cntF_congr (fun n _ => ?_)
  unfold gcom
  by_cases h : n < m <;> simp [h]
theorem ks_gown (W a m K : Nat) : (ks K (gown W a m)).length ≤ m := by
  have h1 : (ks K (gown W a m)).length ≤ cntF K (fun n => decide (n < m)) := by
    rw [ks_cnt]
    have := cntF_or K (fun n => (gown W a m n).isSome) (fun n => decide (n < m))
    have e : cntF K (fun n => (gown W a m n).isSome || decide (n < m)) = cntF K (fun n => decide (n < m)) := cntF_congr (fun n _ => by
      unfold gown
      by_cases h : n < m <;> simp [h])
    rw [e] at this
    omega
  rw [cnt_lt] at h1
  omega
theorem gown_out {W a m n : Nat} (h : m ≤ n) : gown W a m n = none := by unfold gown; rw [if_neg (by omega)]
theorem ovr_gcom {W m n : Nat} (h : n < m) (f : Nat → List Int) : ovr f (gcom W m) n = pat W n := by unfold ovr gcom; rw [if_pos h, Option.getD_some]
end Go.Proofs.YtmlhjcjonfalhaaGreat

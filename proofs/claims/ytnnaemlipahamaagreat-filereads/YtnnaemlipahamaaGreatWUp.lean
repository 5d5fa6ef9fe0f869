/-
  The contracts of package wal with the power on, over a state that is plain functions: what lasts, what was committed, what the transaction has.
-/
import Derived.Test.YtnnaemlipahamaaGreatWEnd
namespace Go.Proofs.YtnnaemlipahamaaGreat
open Go.RowKit Go.Maps

theorem ks_none (K : Nat) : (ks K fun _ => none).length = 0 := cntF_zero (fun _ _ => rfl)
/-- The blocks of X are as they were. -/
def Sm (X : Nat → Prop) (w w' : World) : Prop := ∀ b, X b → w'.heap[b]? = w.heap[b]?
theorem Sm.trans {X : Nat → Prop} {a b c : World} (h : Sm X a b) (k : Sm X b c) : Sm X a c := fun x hx => (k x hx).trans (h x hx)
theorem Sm.cell {X : Nat → Prop} {w w' : World} (h : Sm X w w') {p : Addr} {v : Value} (hc : w.cell? p = some v) (hx : X p.block) : w'.cell? p = some v := (World.cell?_of_block (h p.block hx)).trans hc
theorem Bs.sm {X : Nat → Prop} {w w' : World} {v : Value} {xs : List Int} (h : Bs w v xs) (hs : Sm X w w') (hx : ∀ g, v.ownBlock = some g → X g) : Bs w' v xs := by
  rcases h with h | ⟨a, c, rfl, hl, hm, hcell⟩
  · exact .inl h
  · exact .inr ⟨a, c, rfl, hl, hm, fun j hj => hs.cell (hcell j hj) (by rw [add_block]; exact hx _ rfl)⟩
/-- All of F and G was made since w0, and is apart from X; nothing that was there has changed. -/
structure Nw (X : Nat → Prop) (w0 w : World) (F G : Nat → Prop) : Prop where
  chg : Chg (fun _ => False) w0 w
  f : ∀ b, F b → w0.heap.size ≤ b
  g : ∀ b, G b → w0.heap.size ≤ b
  x : ∀ b, X b → b < w.heap.size ∧ ¬ F b ∧ ¬ G b
theorem Nw.step {X : Nat → Prop} {w0 w w' : World} {F G F' G' E : Nat → Prop} (h : Nw X w0 w F G) (hc : Chg E w w') (hE : ∀ b, b < w.heap.size → E b → F b ∨ G b) (hF : ∀ b, F' b → F b ∨ w.heap.size ≤ b) (hG : ∀ b, G' b → G b ∨ w.heap.size ≤ b) : Nw X w0 w' F' G' ∧ Sm X w w' := by
  have hz := h.chg.size
  have hz2 := hc.size
  refine ⟨⟨h.chg.trans hc (fun b hb he => ?_), fun b hb => ?_, fun b hb => ?_, fun b hb => ?_⟩, fun b hb => ?_⟩
  · rcases hE b (by omega) he with e | e
    · have := h.f b e; omega
    · have := h.g b e; omega
  · rcases hF b hb with e | e
    · exact h.f b e
    · omega
  · rcases hG b hb with e | e
    · exact h.g b e
    · omega
  · obtain ⟨h1, h2, h3⟩ := h.x b hb
    refine ⟨by omega, fun e => ?_, fun e => ?_⟩
    · rcases hF b e with e | e
      · exact h2 e
      · omega
    · rcases hG b e with e | e
      · exact h3 e
      · omega
  · obtain ⟨h1, h2, h3⟩ := h.x b hb
    exact hc.block b h1 (fun e => by
      rcases hE b h1 e with e | e
      · exact h2 e
      · exact h3 e)
/-- X, and what was made since. -/
def addX (X : Nat → Prop) (a b : Nat) : Nat → Prop := fun k => X k ∨ (a ≤ k ∧ k < b)
theorem Nw.more {X : Nat → Prop} {w0 w w' : World} {F G : Nat → Prop} (h : Nw X w0 w F G) (hc : Chg (fun _ => False) w w') : Nw X w0 w' F G := (h.step hc (fun _ _ h => h.elim) (fun _ h => .inl h) (fun _ h => .inl h)).1
theorem Nw.add {X : Nat → Prop} {w0 w w' : World} {F G : Nat → Prop} (h : Nw X w0 w F G) (hc : Chg (fun _ => False) w w') (hF : ∀ b, F b → b < w.heap.size) (hG : ∀ b, G b → b < w.heap.size) : Nw (addX X w.heap.size w'.heap.size) w0 w' F G := by
  have h1 := h.more hc
  refine ⟨h1.chg, h1.f, h1.g, fun b hb => ?_⟩
  rcases hb with e | e
  · exact h1.x b e
  · exact ⟨e.2, fun hf => by have := hF b hf; omega, fun hg => by have := hG b hg; omega⟩
theorem Nw.less {X X' : Nat → Prop} {w0 w : World} {F G : Nat → Prop} (h : Nw X w0 w F G) (hx : ∀ b, X' b → X b) : Nw X' w0 w F G := ⟨h.chg, h.f, h.g, fun b hb => h.x b (hx b hb)⟩

/-- A log with the power on: f lasts, com was committed; N bounds the disk's writes. -/
def LogUp (X : Nat → Prop) (w0 w : World) (pd pl K : Nat) (f : Nat → List Int) (com : Nat → Option (List Int)) (pend N : Nat) : Prop :=
  ∃ F G S m V, Lk w F G pd pl K S com pend (.pointer none) m V ∧ Clean S K f ∧ S.off = false ∧ S.arm < 1 ∧ S.writes ≤ N ∧ (ks K com).length ≤ 63 ∧ Nw X w0 w F G
/-- A log with its transaction. -/
def TxUp (X : Nat → Prop) (w0 w : World) (pd pl q K : Nat) (f : Nat → List Int) (com : Nat → Option (List Int)) (pend : Nat) (live : Bool) (own : Nat → Option (List Int)) (wrote N : Nat) : Prop :=
  ∃ F G S m V mt Vt, Tk w F G pd pl q K S com pend live own wrote m V mt Vt ∧ Clean S K f ∧ S.off = false ∧ S.arm < 1 ∧ S.writes ≤ N ∧ (ks K com).length ≤ 63 ∧ Nw X w0 w F G ∧ (live = true → wrote = (ks K own).length ∧ wrote ≤ 63) ∧ (live = false → own = fun _ => none)
/-- A disk on which f lasts. -/
def DkUp (X : Nat → Prop) (w0 w : World) (pd K : Nat) (f : Nat → List Int) (off : Bool) (N : Nat) : Prop :=
  ∃ F S, Dk w F pd S ∧ Lasts S K f ∧ S.off = off ∧ (off = false → S.arm < 1) ∧ S.writes ≤ N ∧ Nw X w0 w F (fun _ => False)

section
variable {X : Nat → Prop} {w0 w w' : World} {pd pl q K : Nat} {f : Nat → List Int} {com own : Nat → Option (List Int)} {pend wrote N : Nat} {live : Bool}
theorem LogUp.more (h : LogUp X w0 w pd pl K f com pend N) (hc : Chg (fun _ => False) w w') : LogUp X w0 w' pd pl K f com pend N := by
  obtain ⟨F, G, S, m, V, h1, h2, h3, h4, h5, h6, h7⟩ := h
  exact ⟨F, G, S, m, V, h1.kept hc, h2, h3, h4, h5, h6, h7.more hc⟩
theorem TxUp.more (h : TxUp X w0 w pd pl q K f com pend live own wrote N) (hc : Chg (fun _ => False) w w') : TxUp X w0 w' pd pl q K f com pend live own wrote N := by
  obtain ⟨F, G, S, m, V, mt, Vt, h1, h2, h3, h4, h5, h6, h7, h8⟩ := h
  exact ⟨F, G, S, m, V, mt, Vt, h1.kept hc, h2, h3, h4, h5, h6, h7.more hc, h8⟩
theorem LogUp.add (h : LogUp X w0 w pd pl K f com pend N) (hc : Chg (fun _ => False) w w') : LogUp (addX X w.heap.size w'.heap.size) w0 w' pd pl K f com pend N := by
  obtain ⟨F, G, S, m, V, h1, h2, h3, h4, h5, h6, h7⟩ := h
  exact ⟨F, G, S, m, V, h1.kept hc, h2, h3, h4, h5, h6, h7.add hc h1.dk.lt h1.lg.lt⟩
theorem TxUp.add (h : TxUp X w0 w pd pl q K f com pend live own wrote N) (hc : Chg (fun _ => False) w w') : TxUp (addX X w.heap.size w'.heap.size) w0 w' pd pl q K f com pend live own wrote N := by
  obtain ⟨F, G, S, m, V, mt, Vt, h1, h2, h3, h4, h5, h6, h7, h8⟩ := h
  exact ⟨F, G, S, m, V, mt, Vt, h1.kept hc, h2, h3, h4, h5, h6, h7.add hc h1.lk.dk.lt h1.lk.lg.lt, h8⟩
theorem LogUp.less {X' : Nat → Prop} (h : LogUp X w0 w pd pl K f com pend N) (hx : ∀ b, X' b → X b) : LogUp X' w0 w pd pl K f com pend N := by
  obtain ⟨F, G, S, m, V, h1, h2, h3, h4, h5, h6, h7⟩ := h
  exact ⟨F, G, S, m, V, h1, h2, h3, h4, h5, h6, h7.less hx⟩
theorem TxUp.less {X' : Nat → Prop} (h : TxUp X w0 w pd pl q K f com pend live own wrote N) (hx : ∀ b, X' b → X b) : TxUp X' w0 w pd pl q K f com pend live own wrote N := by
  obtain ⟨F, G, S, m, V, mt, Vt, h1, h2, h3, h4, h5, h6, h7, h8⟩ := h
  exact ⟨F, G, S, m, V, mt, Vt, h1, h2, h3, h4, h5, h6, h7.less hx, h8⟩
theorem LogUp.xlt (h : LogUp X w0 w pd pl K f com pend N) : ∀ b, X b → b < w.heap.size := by
  obtain ⟨F, G, S, m, V, h1, h2, h3, h4, h5, h6, h7⟩ := h
  exact fun b hb => (h7.x b hb).1
theorem LogUp.chg (h : LogUp X w0 w pd pl K f com pend N) : Chg (fun _ => False) w0 w := by obtain ⟨F, G, S, m, V, _, _, _, _, _, _, h7⟩ := h; exact h7.chg
theorem TxUp.chg (h : TxUp X w0 w pd pl q K f com pend live own wrote N) : Chg (fun _ => False) w0 w := by obtain ⟨F, G, S, m, V, mt, Vt, _, _, _, _, _, _, h7, _⟩ := h; exact h7.chg
theorem DkUp.chg {off : Bool} (h : DkUp X w0 w pd K f off N) : Chg (fun _ => False) w0 w := by obtain ⟨F, S, _, _, _, _, _, h7⟩ := h; exact h7.chg
theorem LogUp.mono (h : LogUp X w0 w pd pl K f com pend N) {N' : Nat} (hN : N ≤ N') : LogUp X w0 w pd pl K f com pend N' := by
  obtain ⟨F, G, S, m, V, h1, h2, h3, h4, h5, h6, h7⟩ := h
  exact ⟨F, G, S, m, V, h1, h2, h3, h4, by omega, h6, h7⟩
theorem TxUp.log (h : TxUp X w0 w pd pl q K f com pend false own wrote N) : LogUp X w0 w pd pl K f com pend N := by
  obtain ⟨F, G, S, m, V, mt, Vt, h1, h2, h3, h4, h5, h6, h7, h8⟩ := h
  exact ⟨F, G, S, m, V, h1.lk, h2, h3, h4, h5, h6, h7⟩
theorem TxUp.ownNone (h : TxUp X w0 w pd pl q K f com pend false own wrote N) : own = fun _ => none := by
  obtain ⟨F, G, S, m, V, mt, Vt, h1, h2, h3, h4, h5, h6, h7, h8, h9⟩ := h; exact h9 rfl
theorem TxUp.inv (h : TxUp X w0 w pd pl q K f com pend true own wrote N) : wrote = (ks K own).length ∧ wrote ≤ 63 := by
  obtain ⟨F, G, S, m, V, mt, Vt, h1, h2, h3, h4, h5, h6, h7, h8, h9⟩ := h; exact h8 rfl
theorem TxUp.lt (h : TxUp X w0 w pd pl q K f com pend live own wrote N) : ∀ n b, own n = some b → n < K ∧ b.length = 512 := by
  obtain ⟨F, G, S, m, V, mt, Vt, h1, _⟩ := h
  exact fun n b hb => ⟨(h1.tx.mb.row n b hb).1, (h1.tx.mb.row n b hb).2.1⟩
theorem LogUp.lt (h : LogUp X w0 w pd pl K f com pend N) : (∀ n b, com n = some b → n < K ∧ b.length = 512) ∧ (ks K com).length ≤ 63 ∧ K ≤ 16384 := by
  obtain ⟨F, G, S, m, V, h1, h2, h3, h4, h5, h6, h7⟩ := h
  exact ⟨fun n b hb => ⟨(h1.lg.mb.row n b hb).1, (h1.lg.mb.row n b hb).2.1⟩, h6, h1.top⟩
theorem LogUp.flen (h : LogUp X w0 w pd pl K f com pend N) : ∀ n, n < K → (f n).length = 512 := by
  obtain ⟨F, G, S, m, V, h1, h2, h3, h4, h5, h6, h7⟩ := h
  intro n hn
  rw [← h2.last hn]
  exact St.last_len h2.wf (by have := h2.nb; omega)
theorem LogUp.ext (h : LogUp X w0 w pd pl K f com pend N) {g : Nat → List Int} (e : ∀ n, n < K → f n = g n) : LogUp X w0 w pd pl K g com pend N := by
  obtain ⟨F, G, S, m, V, h1, h2, h3, h4, h5, h6, h7⟩ := h
  exact ⟨F, G, S, m, V, h1, Holds.ext h2 e, h3, h4, h5, h6, h7⟩

/-- New memory that holds bs. -/
structure NewB (w w' : World) (u : Value) (bs : List Int) : Prop where
  bs : Bs w' u bs
  chg : Chg (fun _ => False) w w'
  new : ∀ g, u.ownBlock = some g → w.heap.size ≤ g
theorem Fresh.newB {w1 : World} {u : Value} {bs : List Int} (h : Fresh w1 w' u bs) (hc : Chg (fun _ => False) w w1) : NewB w w' u bs := ⟨h.bs, hc.trans h.chg (fun _ _ h => h), fun g hg => by have := h.new g hg; have := hc.size; omega⟩

theorem format_up (F : Nat → Prop) (S : St) (h : Dk w F pd S) (hn : Nw X w0 w F (fun _ => False)) (hc : ∀ n, S.wait n = []) (hK : S.nb = K + 65) (hK1 : 1 ≤ K) (hoff : S.off = false) (harm : S.arm < 1) (hN : S.writes + K + 2 ≤ N) (hx : N < 1000000000) :
    Calls Tryz.prog 22 #[.pointer (some ⟨pd, 0, none⟩)] w fun e w' => ∃ pl, e = .returned (.tuple #[.pointer (some ⟨pl, 0, none⟩), .int .i64 0]) ∧ LogUp X w0 w' pd pl K (fun _ => zeros 512) (fun _ => none) 0 N ∧ Sm X w w' := by
  refine (format_any F pd K S w h hc hK hK1 hoff (by omega)).mono ?_
  rintro e w' (⟨pl, F', G, m, V, S', rfl, hk, hch, hF, hG, ho, hcl⟩ | ⟨S', rfl, _, hg, _⟩)
  · have hq := hn.step hch (fun b _ h => .inl h) hF (fun b hb => .inr (hG b hb))
    exact ⟨pl, rfl, ⟨F', G, S', m, V, hk, hcl, ho.off, ho.arm harm, by have := ho.wr; omega, by rw [ks_none]; omega, hq.1⟩, hq.2⟩
  · have := hg.arm; omega

theorem begin_up (h : LogUp X w0 w pd pl K f com pend N) :
    Calls Tryz.prog 9 #[.pointer (some ⟨pl, 0, none⟩)] w fun e w' => ∃ q, e = .returned (.tuple #[.pointer (some ⟨q, 0, none⟩), .int .i64 0]) ∧ TxUp X w0 w' pd pl q K f com pend true (fun _ => none) 0 N ∧ Sm X w w' := by
  obtain ⟨F, G, S, m, V, h1, h2, h3, h4, h5, h6, h7⟩ := h
  refine (begin_any w h1 h3).mono ?_
  rintro e w' ⟨q, G', mt, Vt, rfl, htk, hch, hG⟩
  have hq := h7.step hch (fun b _ e => .inr (e ▸ h1.lg.fp)) (fun _ h => .inl h) hG
  exact ⟨q, rfl, ⟨F, G', S, m, V, mt, Vt, htk, h2, h3, h4, h5, h6, hq.1, fun _ => ⟨by rw [ks_none], by omega⟩, (fun h => by cases h)⟩, hq.2⟩

theorem ks_upd_first {n : Nat} {b : List Int} (hn : n < K) (h : own n = none) : (ks K (upd own n (some b))).length = (ks K own).length + 1 :=
  cntF_flip (p := fun k => (own k).isSome) (p' := fun k => (upd own n (some b) k).isSome) hn (by simp [h]) (by simp [upd_same]) (fun k hk => by simp [upd_other _ _ hk])
theorem ks_upd_again {n : Nat} {b b0 : List Int} (h : own n = some b0) : (ks K (upd own n (some b))).length = (ks K own).length :=
  cntF_congr (fun k _ => by
    by_cases e : k = n
    · subst e; simp [upd_same, h]
    · simp [upd_other _ _ e])

theorem write_up {w1 : World} (n : Nat) (bs : List Int) (ua : Option Addr) (uc : Nat) (h : TxUp X w0 w1 pd pl q K f com pend true own wrote N) (hb : NewB w1 w (.slice ua 512 uc) bs) (hl : bs.length = 512) (hn : n < K) (hr : own n ≠ none ∨ wrote < 63) :
    Calls Tryz.prog 77 #[.pointer (some ⟨q, 0, none⟩), .int .i64 (n : Int), .slice ua 512 uc] w fun e w' => e = .returned (.int .i64 0) ∧ TxUp X w0 w' pd pl q K f com pend true (upd own n (some bs)) (ks K (upd own n (some bs))).length N ∧ Sm X w w' := by
  obtain ⟨F, G, S, m, V, mt, Vt, h1, h2, h3, h4, h5, h6, h7, h8, h9⟩ := h
  have k1 := h1.kept hb.chg
  have k7 := h7.more hb.chg
  have inv := h8 rfl
  have hgE : ∀ b, b < w.heap.size → (b = q ∨ b = mt) → F b ∨ G b := fun b _ e => by
    rcases e with e | e
    · exact .inr (e ▸ k1.tx.fp)
    · exact .inr (e ▸ k1.tx.mb.fm)
  cases ho : own n with
  | some b0 =>
    refine (twrite_again n bs b0 ua uc w k1 hn hb.bs hl h3 ho).mono ?_
    rintro e w' ⟨G', Vt', rfl, htk, hch, hG⟩
    have e := ks_upd_again (K := K) (b := bs) ho
    have hq := k7.step hch hgE (fun _ h => .inl h) hG
    exact ⟨rfl, ⟨F, G', S, m, V, mt, Vt', by rw [e, ← inv.1]; exact htk, h2, h3, h4, h5, h6, hq.1, fun _ => ⟨rfl, by omega⟩, (fun h => by cases h)⟩, hq.2⟩
  | none =>
    have hr' : wrote < 63 := by
      rcases hr with h | h
      · exact absurd ho h
      · exact h
    refine (twrite_first n bs ua uc w k1 hn hb.bs hl h3 ho hr' (fun a ha e => ?_)).mono ?_
    · have h10 := hb.new a.block (by rw [ha]; rfl)
      have h11 := h1.tx.lt q h1.tx.fp
      omega
    rintro e w' ⟨G', Vt', rfl, htk, hch, hG⟩
    have e := ks_upd_first (K := K) (b := bs) hn ho
    have hq := k7.step hch hgE (fun _ h => .inl h) hG
    exact ⟨rfl, ⟨F, G', S, m, V, mt, Vt', by rw [e, ← inv.1]; exact htk, h2, h3, h4, h5, h6, hq.1, fun _ => ⟨rfl, by omega⟩, (fun h => by cases h)⟩, hq.2⟩
theorem write_full_up {w1 : World} (n : Nat) (bs : List Int) (ua : Option Addr) (uc : Nat) (h : TxUp X w0 w1 pd pl q K f com pend true own wrote N) (hb : NewB w1 w (.slice ua 512 uc) bs) (hn : n < K) (hr : own n = none) (hw : wrote = 63) :
    Calls Tryz.prog 77 #[.pointer (some ⟨q, 0, none⟩), .int .i64 (n : Int), .slice ua 512 uc] w fun e w' => e = .returned (.int .i64 7) ∧ TxUp X w0 w' pd pl q K f com pend true own wrote N ∧ Sm X w w' := by
  have hm := h.more hb.chg
  obtain ⟨F, G, S, m, V, mt, Vt, h1, h2, h3, h4, h5, h6, h7, h8, h9⟩ := h
  refine (twrite_full n ua uc w (h1.kept hb.chg) hn h3 hr hw).mono ?_
  rintro e w' ⟨rfl, rfl⟩
  exact ⟨rfl, hm, fun _ _ => rfl⟩

theorem commit_up (h : TxUp X w0 w pd pl q K f com pend true own wrote N) (hx : N < 1000000000) (hp : pend < 1000000000) :
    Calls Tryz.prog 14 #[.pointer (some ⟨q, 0, none⟩)] w fun e w' => e = .returned (.int .i64 0) ∧ ∃ f' com' pend', TxUp X w0 w' pd pl q K f' com' pend' false (fun _ => none) wrote (N + 128) ∧ Sm X w w' ∧ (∀ n, ovr f' com' n = ovr (ovr f com) own n) ∧
      ((pend' = pend + 1 ∧ f' = f ∧ com' = mrg com own ∧ (ks K (mrg com own)).length ≤ 63) ∨ (pend' = 1 ∧ f' = ovr f com ∧ com' = own ∧ 63 < (ks K (mrg com own)).length)) := by
  obtain ⟨F, G, S, m, V, mt, Vt, h1, h2, h3, h4, h5, h6, h7, h8, h9⟩ := h
  have inv := h8 rfl
  have hgE : ∀ b, b < w.heap.size → (F b ∨ b = pl ∨ b = m ∨ b = mt) → F b ∨ G b := fun b _ e => by
    rcases e with e | e | e | e
    · exact .inl e
    · exact .inr (e ▸ h1.lk.lg.fp)
    · exact .inr (e ▸ h1.lk.lg.mb.fm)
    · exact .inr (e ▸ h1.tx.mb.fm)
  refine (commit_any f w h1 h2 h3 h6 (by omega) (by omega)).mono ?_
  rintro e w' (⟨F', S', V', com', pend', rfl, htk, hch, hF, ho, hr⟩ | ⟨F', S', V', rfl, htk, hch, hF, hg, hr, hl⟩)
  · have hwr := ho.wr
    have hq := h7.step hch hgE hF (fun _ h => .inl h)
    rcases hr with ⟨rfl, rfl, rfl, hT⟩ | ⟨rfl, rfl, hcl, hT⟩
    · exact ⟨rfl, f, mrg com own, pend + 1, ⟨F', G, S', m, V', mt, Vt, htk, h2, h3, h4, by omega, hT, hq.1, (fun h => by cases h), fun _ => rfl⟩, hq.2, fun n => ovr_mrg f com own n, .inl ⟨rfl, rfl, rfl, hT⟩⟩
    · exact ⟨rfl, ovr f com, com', 1, ⟨F', G, S', m, V', mt, Vt, htk, hcl, ho.off, ho.arm h4, by omega, by omega, hq.1, (fun h => by cases h), fun _ => rfl⟩, hq.2, fun n => rfl, .inr ⟨rfl, rfl, rfl, hT⟩⟩
  · have := hg.arm; omega
theorem sync_up (h : LogUp X w0 w pd pl K f com pend N) (hx : N < 1000000000) :
    Calls Tryz.prog 40 #[.pointer (some ⟨pl, 0, none⟩)] w fun e w' => e = .returned (.int .i64 0) ∧ LogUp X w0 w' pd pl K (ovr f com) (fun _ => none) 0 (N + 128) ∧ Sm X w w' := by
  obtain ⟨F, G, S, m, V, h1, h2, h3, h4, h5, h6, h7⟩ := h
  refine (lsync_any f w h1 h2 h3 h6 (by omega)).mono ?_
  rintro e w' (⟨F', S', rfl, hk, hch, hF, ho, hcl⟩ | ⟨F', S', rfl, _, _, _, hg, _⟩)
  · have hq := h7.step hch (fun b _ e => by
      rcases e with e | e | e
      · exact .inl e
      · exact .inr (e ▸ h1.lg.fp)
      · exact .inr (e ▸ h1.lg.mb.fm)) hF (fun _ h => .inl h)
    exact ⟨rfl, ⟨F', G, S', m, V, hk, hcl, ho.off, ho.arm h4, by have := ho.wr; omega, (by rw [ks_none]; omega), hq.1⟩, hq.2⟩
  · have := hg.arm; omega
theorem sync_upT (h : TxUp X w0 w pd pl q K f com pend live own wrote N) (hx : N < 1000000000) :
    Calls Tryz.prog 40 #[.pointer (some ⟨pl, 0, none⟩)] w fun e w' => e = .returned (.int .i64 0) ∧ TxUp X w0 w' pd pl q K (ovr f com) (fun _ => none) 0 live own wrote (N + 128) ∧ Sm X w w' := by
  obtain ⟨F, G, S, m, V, mt, Vt, h1, h2, h3, h4, h5, h6, h7, h8, h9⟩ := h
  refine (lsync_any f w h1.lk h2 h3 h6 (by omega)).mono ?_
  rintro e w' (⟨F', S', rfl, hk, hch, hF, ho, hcl⟩ | ⟨F', S', rfl, _, _, _, hg, _⟩)
  · have hq := h7.step hch (fun b _ e => by
      rcases e with e | e | e
      · exact .inl e
      · exact .inr (e ▸ h1.lk.lg.fp)
      · exact .inr (e ▸ h1.lk.lg.mb.fm)) hF (fun _ h => .inl h)
    exact ⟨rfl, ⟨F', G, S', m, V, mt, Vt, h1.sync hk hch, hcl, ho.off, ho.arm h4, by have := ho.wr; omega, (by rw [ks_none]; omega), hq.1, h8, h9⟩, hq.2⟩
  · have := hg.arm; omega
theorem read_up (n : Nat) (h : LogUp X w0 w pd pl K f com pend N) (hn : n < K) (hx : N < 1000000000) :
    Calls Tryz.prog 99 #[.pointer (some ⟨pl, 0, none⟩), .int .i64 (n : Int)] w fun e w' => ∃ u, e = .returned (.tuple #[u, .int .i64 0]) ∧ Fresh w w' u (ovr f com n) := by
  obtain ⟨F, G, S, m, V, h1, h2, h3, h4, h5, h6, h7⟩ := h
  exact lread_any f n w h1 (h2.last hn) hn h3 (by omega)
theorem read_upT (n : Nat) (h : TxUp X w0 w pd pl q K f com pend live own wrote N) (hn : n < K) (hx : N < 1000000000) :
    Calls Tryz.prog 99 #[.pointer (some ⟨pl, 0, none⟩), .int .i64 (n : Int)] w fun e w' => ∃ u, e = .returned (.tuple #[u, .int .i64 0]) ∧ Fresh w w' u (ovr f com n) := by
  obtain ⟨F, G, S, m, V, mt, Vt, h1, h2, h3, h4, h5, h6, h7, h8, h9⟩ := h
  exact lread_any f n w h1.lk (h2.last hn) hn h3 (by omega)
theorem tread_up (n : Nat) (h : TxUp X w0 w pd pl q K f com pend live own wrote N) (hn : n < K) (hx : N < 1000000000) :
    Calls Tryz.prog 68 #[.pointer (some ⟨q, 0, none⟩), .int .i64 (n : Int)] w fun e w' => ∃ u, e = .returned (.tuple #[u, .int .i64 0]) ∧ Fresh w w' u (ovr (ovr f com) own n) := by
  obtain ⟨F, G, S, m, V, mt, Vt, h1, h2, h3, h4, h5, h6, h7, h8, h9⟩ := h
  exact tread_any f n w h1 (h2.last hn) hn h3 (by omega)
theorem blocks_up (h : LogUp X w0 w pd pl K f com pend N) : Calls Tryz.prog 127 #[.pointer (some ⟨pl, 0, none⟩)] w fun e w' => e = .returned (.int .i64 (K : Int)) ∧ w' = w := by
  obtain ⟨F, G, S, m, V, h1, _⟩ := h
  exact lblocks_any w h1
/-- The power goes between calls: what lasted lasts. -/
theorem cut_up (v : Value) (ps : List Int) (h : LogUp X w0 w pd pl K f com pend N) (hi : Is w v ps) (hv : ps ≠ [] → ∀ g, v.ownBlock = some g → g < w0.heap.size) (hx : N < 1000000000) :
    Calls Tryz.prog 87 #[.pointer (some ⟨pd, 0, none⟩), v] w fun e w' => e = .returned (.tuple #[]) ∧ DkUp X w0 w' pd K f true N ∧ Sm X w w' := by
  obtain ⟨F, G, S, m, V, h1, h2, h3, h4, h5, h6, h7⟩ := h
  refine (cut_arg F pd S v ps w h1.dk hi (fun hp g hg hf => by have := hv hp g hg; have := h7.f g hf; omega) (by omega)).mono ?_
  rintro e w' ⟨rfl, F', d, c, hF⟩
  have hq := h7.step c (fun b _ h => .inl h) hF (G' := fun _ => False) (fun _ h => h.elim)
  exact ⟨rfl, ⟨F', S.cut ps, d, h2.lasts.cut ps, St.cut_off S ps, (fun h => by cases h), by rw [St.cut_writes]; exact h5, hq.1⟩, hq.2⟩
end
end Go.Proofs.YtnnaemlipahamaaGreat

/-
  The contracts of package wal with the power on, over a state that is plain functions: what lasts, what was committed, what the transaction has.
-/
import Derived.Test.YthohgljlcfbpjaaGreatWEnd
import Derived.Test.YthohgljlcfbpjaaGreatMem
namespace Go.Proofs.YthohgljlcfbpjaaGreat
open Go.RowKit Go.Maps

theorem ks_none (K : Nat) : (ks K fun _ => none).length = 0 := cntF_zero (fun _ _ => rfl)
/-- The blocks of X are as they were. -/
def Sm (X : Nat → Prop) (w w' : World) : Prop := ∀ b, X b → w'.heap[b]? = w.heap[b]?
theorem Sm.trans {X : Nat → Prop} {a b c : World} (h : Sm X a b) (k : Sm X b c) : Sm X a c := fun x hx => (k x hx).trans (h x hx)
theorem Sm.cell {X : Nat → Prop} {w w' : World} (h : Sm X w w') {p : Addr} {v : Value} (hc : w.cell? p = some v) (hx : X p.block) : w'.cell? p = some v := (World.cell?_of_block (h p.block hx)).trans hc
theorem Bs.sm {X : Nat → Prop} {w w' : World} {v : Value} {xs : List Int} (h : Bs w v xs) (hs : Sm X w w') (hx : ∀ g, v.ownBlock = some g → X g) : Bs w' v xs := by
  rcases h with h | ⟨a, c, rfl, hl, hm, hcell⟩
  · exact .inl h
  · exact .inr ⟨a, c, rfl, hl, hm, fun j hj => hs.cell (hcell j hj) (by rw [add_block]; exact hx _ rfl)⟩
/-- All of F and G was made since w0, and is apart from X; nothing that was there has changed. -/
structure Nw (X : Nat → Prop) (w0 w : World) (F G : Nat → Prop) : Prop where
  chg : Chg (fun _ => False) w0 w
  f : ∀ b, F b → w0.heap.size ≤ b
  g : ∀ b, G b → w0.heap.size ≤ b
  x : ∀ b, X b → b < w.heap.size ∧ ¬ F b ∧ ¬ G b
theorem Nw.step {X : Nat → Prop} {w0 w w' : World} {F G F' G' E : Nat → Prop} (h : Nw X w0 w F G) (hc : Chg E w w') (hE : ∀ b, b < w.heap.size → E b → F b ∨ G b) (hF : ∀ b, F' b → F b ∨ w.heap.size ≤ b) (hG : ∀ b, G' b → G b ∨ w.heap.size ≤ b) : Nw X w0 w' F' G' ∧ Sm X w w' := by
  have hz := h.chg.size
  have hz2 := hc.size
  refine ⟨⟨h.chg.trans hc (fun b hb he => ?_), fun b hb => ?_, fun b hb => ?_, fun b hb => ?_⟩, fun b hb => ?_⟩
  · rcases hE b (by omega) he with e | e
    · have := h.f b e; omega
    · have := h.g b e; omega
  · rcases hF b hb with e | e
    · exact h.f b e
    · omega
  · rcases hG b hb with e | e
    · exact h.g b e
    · omega
  · obtain ⟨h1, h2, h3⟩ := h.x b hb
    refine ⟨by omega, fun e => ?_, fun e => ?_⟩
    · rcases hF b e with e | e
      · exact h2 e
      · omega
    · rcases hG b e with e | e
      · exact h3 e
      · omega
  · obtain ⟨h1, h2, h3⟩ := h.x b hb
    exact hc.block b h1 (fun e => by
      rcases hE b h1 e with e | e
      · exact h2 e
      · exact h3 e)
/-- X, and what was made since. -/
def addX (X : Nat → Prop) (a b : Nat) : Nat → Prop := fun k => X k ∨ (a ≤ k ∧ k < b)
theorem Nw.more {X : Nat → Prop} {w0 w w' : World} {F G : Nat → Prop} (h : Nw X w0 w F G) (hc : Chg (fun _ => False) w w') : Nw X w0 w' F G := (h.step hc (fun _ _ h => h.elim) (fun _ h => .inl h) (fun _ h => .inl h)).1
theorem Nw.add {X : Nat → Prop} {w0 w w' : World} {F G : Nat → Prop} (h : Nw X w0 w F G) (hc : Chg (fun _ => False) w w') (hF : ∀ b, F b → b < w.heap.size) (hG : ∀ b, G b → b < w.heap.size) : Nw (addX X w.heap.size w'.heap.size) w0 w' F G := by
  have h1 := h.more hc
  refine ⟨h1.chg, h1.f, h1.g, fun b hb => ?_⟩
  rcases hb with e | e
  · exact h1.x b e
  · exact ⟨e.2, fun hf => by have := hF b hf; omega, fun hg => by have := hG b hg; omega⟩
theorem Nw.less {X X' : Nat → Prop} {w0 w : World} {F G : Nat → Prop} (h : Nw X w0 w F G) (hx : ∀ b, X' b → X b) : Nw X' w0 w F G := ⟨h.chg, h.f, h.g, fun b hb => h.x b (hx b hb)⟩

/-- A log with the power on: f lasts, com was committed; N bounds the disk's writes. -/
def LogUp (X : Nat → Prop) (w0 w : World) (pd pl K : Nat) (f : Nat → List Int) (com : Nat → Option (List Int)) (pend N : Nat) : Prop :=
  ∃ F G S m V, Lk w F G pd pl K S com pend (.pointer none) m V ∧ Clean S K f ∧ S.off = false ∧ S.arm < 1 ∧ S.writes ≤ N ∧ (ks K com).length ≤ 63 ∧ Nw X w0 w F G
/-- A log with its transaction. -/
def TxUp (X : Nat → Prop) (w0 w : World) (pd pl q K : Nat) (f : Nat → List Int) (com : Nat → Option (List Int)) (pend : Nat) (live : Bool) (own : Nat → Option (List Int)) (wrote N : Nat) : Prop :=
  ∃ F G S m V mt Vt, Tk w F G pd pl q K S com pend live own wrote m V mt Vt ∧ Clean S K f ∧ S.off = false ∧ S.arm < 1 ∧ S.writes ≤ N ∧ (ks K com).length ≤ 63 ∧ Nw X w0 w F G ∧ (live = true → wrote = (ks K own).length ∧ wrote ≤ 63) ∧ (live = false → own = fun _ => none)
/-- A disk on which f lasts. -/
def DkUp (X : Nat → Prop) (w0 w : World) (pd K : Nat) (f : Nat → List Int) (off : Bool) (N : Nat) : Prop :=
  ∃ F S, Dk w F pd S ∧ Lasts S K f ∧ S.off = off ∧ (off = false → S.arm < 1) ∧ S.writes ≤ N ∧ Nw X w0 w F (fun _ => False)

section
variable {X : Nat → Prop} {w0 w w' : World} {pd pl q K : Nat} {f : Nat → List Int} {com own : Nat → Option (List Int)} {pend wrote N : Nat} {live : Bool}
theorem LogUp.more (h : LogUp X w0 w pd pl K f com pend N) (hc : Chg (fun _ => False) w w') : LogUp X w0 w' pd pl K f com pend N := by
  obtain ⟨F, G, S, m, V, h1, h2, h3, h4, h5, h6, h7⟩ := h
  exact ⟨F, G, S, m, V, h1.kept hc, h2, h3, h4, h5, h6, h7.more hc⟩
theorem TxUp.more (h : TxUp X w0 w pd pl q K f com pend live own wrote N) (hc : Chg (fun _ => False) w w') : TxUp X w0 w' pd pl q K f com pend live own wrote N := by
  obtain ⟨F, G, S, m, V, mt, Vt, h1, h2, h3, h4, h5, h6, h7, h8⟩ := h
  exact ⟨F, G, S, m, V, mt, Vt, h1.kept hc, h2, h3, h4, h5, h6, h7.more hc, h8⟩
theorem LogUp.add (h : LogUp X w0 w pd pl K f com pend N) (hc : Chg (fun _ => False) w w') : LogUp (addX X w.heap.size w'.heap.size) w0 w' pd pl K f com pend N := by
  obtain ⟨F, G, S, m, V, h1, h2, h3, h4, h5, h6, h7⟩ := h
  exact ⟨F, G, S, m, V, h1.kept hc, h2, h3, h4, h5, h6, h7.add hc h1.dk.lt h1.lg.lt⟩
theorem TxUp.add (h : TxUp X w0 w pd pl q K f com pend live own wrote N) (hc : Chg (fun _ => False) w w') : TxUp (addX X w.heap.size w'.heap.size) w0 w' pd pl q K f com pend live own wrote N := by
  obtain ⟨F, G, S, m, V, mt, Vt, h1, h2, h3, h4, h5, h6, h7, h8⟩ := h
  exact ⟨F, G, S, m, V, mt, Vt, h1.kept hc, h2, h3, h4, h5, h6, h7.add hc h1.lk.dk.lt h1.lk.lg.lt, h8⟩
theorem LogUp.less {X' : Nat → Prop} (h : LogUp X w0 w pd pl K f com pend N) (hx : ∀ b, X' b → X b) : LogUp X' w0 w pd pl K f com pend N := by
  obtain ⟨F, G, S, m, V, h1, h2, h3, h4, h5, h6, h7⟩ := h
  exact ⟨F, G, S, m, V, h1, h2, h3, h4, h5, h6, h7.less hx⟩
theorem TxUp.less {X' : Nat → Prop} (h : TxUp X w0 w pd pl q K f com pend live own wrote N) (hx : ∀ b, X' b → X b) : TxUp X' w0 w pd pl q K f com pend live own wrote N := by
  obtain ⟨F, G, S, m, V, mt, Vt, h1, h2, h3, h4, h5, h6, h7, h8⟩ := h
  exact ⟨F, G, S, m, V, mt, Vt, h1, h2, h3, h4, h5, h6, h7.less hx, h8⟩
theorem LogUp.xlt (h : LogUp X w0 w pd pl K f com pend N) : ∀ b, X b → b < w.heap.size := by
  obtain ⟨F, G, S, m, V, h1, h2, h3, h4, h5, h6, h7⟩ := h
  exact fun b hb => (h7.x b hb).1
theorem LogUp.chg (h : LogUp X w0 w pd pl K f com pend N) : Chg (fun _ => False) w0 w := by obtain ⟨F, G, S, m, V, _, _, _, _, _, _, h7⟩ := h; exact h7.chg
theorem TxUp.chg (h : TxUp X w0 w pd pl q K f com pend live own wrote N) : Chg (fun _ => False) w0 w := by obtain ⟨F, G, S, m, V, mt, Vt, _, _, _, _, _, _, h7, _⟩ := h; exact h7.chg
theorem DkUp.chg {off : Bool} (h : DkUp X w0 w pd K f off N) : Chg (fun _ => False) w0 w := by obtain ⟨F, S, _, _, _, _, _, h7⟩ := h; exact h7.chg
theorem LogUp.mono (h : LogUp X w0 w pd pl K f com pend N) {N' : Nat} (hN : N ≤ N') : LogUp X w0 w pd pl K f com pend N' := by
  obtain ⟨F, G, S, m, V, h1, h2, h3, h4, h5, h6, h7⟩ := h
  exact ⟨F, G, S, m, V, h1, h2, h3, h4, by omega, h6, h7⟩
theorem TxUp.log (h : TxUp X w0 w pd pl q K f com pend false own wrote N) : LogUp X w0 w pd pl K f com pend N := by
  obtain ⟨F, G, S, m, V, mt, Vt, h1, h2, h3, h4, h5, h6, h7, h8⟩ := h
  exact ⟨F, G, S, m, V, h1.lk, h2, h3, h4, h5, h6, h7⟩
theorem TxUp.ownNone (h : TxUp X w0 w pd pl q K f com pend false own wrote N) : own = fun _ => none := by
  obtain ⟨F, G, S, m, V, mt, Vt, h1, h2, h3, h4, h5, h6, h7, h8, h9⟩ := h; exact h9 rfl
theorem TxUp.inv (h : TxUp X w0 w pd pl q K f com pend true own wrote N) : wrote = (ks K own).length ∧ wrote ≤ 63 := by
  obtain ⟨F, G, S, m, V, mt, Vt, h1, h2, h3, h4, h5, h6, h7, h8, h9⟩ := h; exact h8 rfl
theorem TxUp.lt (h : TxUp X w0 w pd pl q K f com pend live own wrote N) : ∀ n b, own n = some b → n < K ∧ b.length = 512 := by
  obtain ⟨F, G, S, m, V, mt, Vt, h1, _⟩ := h
  exact fun n b hb => ⟨(h1.tx.mb.row n b hb).1, (h1.tx.mb.row n b hb).2.1⟩
theorem LogUp.lt (h : LogUp X w0 w pd pl K f com pend N) : (∀ n b, com n = some b → n < K ∧ b.length = 512) ∧ (ks K com).length ≤ 63 ∧ K ≤ 16384 := by
  obtain ⟨F, G, S, m, V, h1, h2, h3, h4, h5, h6, h7⟩ := h
  exact ⟨fun n b hb => ⟨(h1.lg.mb.row n b hb).1, (h1.lg.mb.row n b hb).2.1⟩, h6, h1.top⟩
theorem LogUp.flen (h : LogUp X w0 w pd pl K f com pend N) : ∀ n, n < K → (f n).length = 512 := by
  obtain ⟨F, G, S, m, V, h1, h2, h3, h4, h5, h6, h7⟩ := h
  intro n hn
  rw [← h2.last hn]
  exact St.last_len h2.wf (by have := h2.nb; omega)
theorem LogUp.ext (h : LogUp X w0 w pd pl K f com pend N) {g : Nat → List Int} (e : ∀ n, n < K → f n = g n) : LogUp X w0 w pd pl K g com pend N := by
  obtain ⟨F, G, S, m, V, h1, h2, h3, h4, h5, h6, h7⟩ := h
  exact ⟨F, G, S, m, V, h1, Holds.ext h2 e, h3, h4, h5, h6, h7⟩

/-- New memory that holds bs. -/
structure NewB (w w' : World) (u : Value) (bs : List Int) : Prop where
  bs : Bs w' u bs
  chg : Chg (fun _ => False) w w'
  new : ∀ g, u.ownBlock = some g → w.heap.size ≤ g
theorem Fresh.newB {w1 : World} {u : Value} {bs : List Int} (h : Fresh w1 w' u bs) (hc : Chg (fun _ => False) w w1) : NewB w w' u bs := ⟨h.bs, hc.trans h.chg (fun _ _ h => h), fun g hg => by have := h.new g hg; have := hc.size; omega⟩

theorem format_up (F : Nat → Prop) (S : St) (h : Dk w F pd S) (hn : Nw X w0 w F (fun _ => False)) (hc : ∀ n, S.wait n = []) (hK : S.nb = K + 65) (hK1 : 1 ≤ K) (hoff : S.off = false) (harm : S.arm < 1) (hN : S.writes + K + 2 ≤ N) (hx : N < 1000000000) :
    Calls Tryz.prog 25 #[.pointer (some ⟨pd, 0, none⟩)] w fun e w' => ∃ pl, e = .returned (.tuple #[.pointer (some ⟨pl, 0, none⟩), .int .i64 0]) ∧ LogUp X w0 w' pd pl K (fun _ => zeros 512) (fun _ => none) 0 N ∧ Sm X w w' := by
  refine (format_any F pd K S w h hc hK hK1 hoff (by omega)).mono ?_
  rintro e w' (⟨pl, F', G, m, V, S', rfl, hk, hch, hF, hG, ho, hcl⟩ | ⟨S', rfl, _, hg, _⟩)
  · have hq := hn.step hch (fun b _ h => .inl h) hF (fun b hb => .inr (hG b hb))
    exact ⟨pl, rfl, ⟨F', G, S', m, V, hk, hcl, ho.off, ho.arm harm, by have := ho.wr; omega, by rw [ks_none]; omega, hq.1⟩, hq.2⟩
  · have := hg.arm; omega

theorem begin_up (h : LogUp X w0 w pd pl K f com pend N) :
    Calls Tryz.prog 11 #[.pointer (some ⟨pl, 0, none⟩)] w fun e w' => ∃ q, e = .returned (.tuple #[.pointer (some ⟨q, 0, none⟩), .int .i64 0]) ∧ TxUp X w0 w' pd pl q K f com pend true (fun _ => none) 0 N ∧ Sm X w w' := by
  obtain ⟨F, G, S, m, V, h1, h2, h3, h4, h5, h6, h7⟩ := h
  refine (begin_any w h1 h3).mono ?_
  rintro e w' ⟨q, G', mt, Vt, rfl, htk, hch, hG⟩
  have hq := h7.step hch (fun b _ e => .inr (e ▸ h1.lg.fp)) (fun _ h => .inl h) hG
  exact ⟨q, rfl, ⟨F, G', S, m, V, mt, Vt, htk, h2, h3, h4, h5, h6, hq.1, fun _ => ⟨by rw [ks_none], by omega⟩, (fun h => by cases h)⟩, hq.2⟩

theorem ks_upd_first {n : Nat} {b : List Int} (hn : n < K) (h : own n = none) : (ks K (upd own n (some b))).length = (ks K own).length + 1 :=
  cntF_flip (p := fun k => (own k).isSome) (p' := fun k => (upd own n (some b) k).isSome) hn (by simp [h]) (by simp [upd_same]) (fun k hk => by simp [upd_other _ _ hk])
theorem ks_upd_again {n : Nat} {b b0 : List Int} (h : own n = some b0) : (ks K (upd own n (some b))).length = (ks K own).length :=
  cntF_congr (fun k _ => by
    by_cases e : k = n
    · subst e; simp [upd_same, h]
    · simp [upd_other _ _ e])

theorem write_up {w1 : World} (n : Nat) (bs : List Int) (ua : Option Addr) (uc : Nat) (h : TxUp X w0 w1 pd pl q K f com pend true own wrote N) (hb : NewB w1 w (.slice ua 512 uc) bs) (hl : bs.length = 512) (hn : n < K) (hr : own n ≠ none ∨ wrote < 63) :
    Calls Tryz.prog 79 #[.pointer (some ⟨q, 0, none⟩), .int .i64 (n : Int), .slice ua 512 uc] w fun e w' => e = .returned (.int .i64 0) ∧ TxUp X w0 w' pd pl q K f com pend true (upd own n (some bs)) (ks K (upd own n (some bs))).length N ∧ Sm X w w' := by
  obtain ⟨F, G, S, m, V, mt, Vt, h1, h2, h3, h4, h5, h6, h7, h8, h9⟩ := h
  have k1 := h1.kept hb.chg
  have k7 := h7.more hb.chg
  have inv := h8 rfl
  have hgE : ∀ b, b < w.heap.size → (b = q ∨ b = mt) → F b ∨ G b := fun b _ e => by
    rcases e with e | e
    · exact .inr (e ▸ k1.tx.fp)
    · exact .inr (e ▸ k1.tx.mb.fm)
  cases ho : own n with
  | some b0 =>
    refine (twrite_again n bs b0 ua uc w k1 hn hb.bs hl h3 ho).mono ?_
    rintro e w' ⟨G', Vt', rfl, htk, hch, hG⟩
    have e := ks_upd_again (K := K) (b := bs) ho
    have hq := k7.step hch hgE (fun _ h => .inl h) hG
    exact ⟨rfl, ⟨F, G', S, m, V, mt, Vt', by rw [e, ← inv.1]; exact htk, h2, h3, h4, h5, h6, hq.1, fun _ => ⟨rfl, by omega⟩, (fun h => by cases h)⟩, hq.2⟩
  | none =>
    have hr' : wrote < 63 := by
      rcases hr with h | h
      · exact absurd ho h
      · exact h
    refine (twrite_first n bs ua uc w k1 hn hb.bs hl h3 ho hr' (fun a ha e => ?_)).mono ?_
    · have h10 := hb.new a.block (by rw [ha]; rfl)
      have h11 := h1.tx.lt q h1.tx.fp
      omega
    rintro e w' ⟨G', Vt', rfl, htk, hch, hG⟩
    have e := ks_upd_first (K := K) (b := bs) hn ho
    have hq := k7.step hch hgE (fun _ h => .inl h) hG
    exact ⟨rfl, ⟨F, G', S, m, V, mt, Vt', by rw [e, ← inv.1]; exact htk, h2, h3, h4, h5, h6, hq.1, fun _ => ⟨rfl, by omega⟩, (fun h => by cases h)⟩, hq.2⟩
theorem write_full_up {w1 : World} (n : Nat) (bs : List Int) (ua : Option Addr) (uc : Nat) (h : TxUp X w0 w1 pd pl q K f com pend true own wrote N) (hb : NewB w1 w (.slice ua 512 uc) bs) (hn : n < K) (hr : own n = none) (hw : wrote = 63) :
    Calls Tryz.prog 79 #[.pointer (some ⟨q, 0, none⟩), .int .i64 (n : Int), .slice ua 512 uc] w fun e w' => e = .returned (.int .i64 7) ∧ TxUp X w0 w' pd pl q K f com pend true own wrote N ∧ Sm X w w' := by
  have hm := h.more hb.chg
  obtain ⟨F, G, S, m, V, mt, Vt, h1, h2, h3, h4, h5, h6, h7, h8, h9⟩ := h
  refine (twrite_full n ua uc w (h1.kept hb.chg) hn h3 hr hw).mono ?_
  rintro e w' ⟨rfl, rfl⟩
  exact ⟨rfl, hm, fun _ _ => rfl⟩

theorem commit_up (h : TxUp X w0 w pd pl q K f com pend true own wrote N) (hx : N < 1000000000) (hp : pend < 1000000000) :
    Calls Tryz.prog 16 #[.pointer (some ⟨q, 0, none⟩)] w fun e w' => e = .returned (.int .i64 0) ∧ ∃ f' com' pend', TxUp X w0 w' pd pl q K f' com' pend' false (fun _ => none) wrote (N + 128) ∧ Sm X w w' ∧ (∀ n, ovr f' com' n = ovr (ovr f com) own n) ∧
      ((pend' = pend + 1 ∧ f' = f ∧ com' = mrg com own ∧ (ks K (mrg com own)).length ≤ 63) ∨ (pend' = 1 ∧ f' = ovr f com ∧ com' = own ∧ 63 < (ks K (mrg com own)).length)) := by
  obtain ⟨F, G, S, m, V, mt, Vt, h1, h2, h3, h4, h5, h6, h7, h8, h9⟩ := h
  have inv := h8 rfl
  have hgE : ∀ b, b < w.heap.size → (F b ∨ b = pl ∨ b = m ∨ b = mt) → F b ∨ G b := fun b _ e => by
    rcases e with e | e | e | e
    · exact .inl e
    · exact .inr (e ▸ h1.lk.lg.fp)
    · exact .inr (e ▸ h1.lk.lg.mb.fm)
    · exact .inr (e ▸ h1.tx.mb.fm)
  refine (commit_any f w h1 h2 h3 h6 (by omega) (by omega)).mono ?_
  rintro e w' (⟨F', S', V', com', pend', rfl, htk, hch, hF, ho, hr⟩ | ⟨F', S', V', rfl, htk, hch, hF, hg, hr, hl⟩)
  · have hwr := ho.wr
    have hq := h7.step hch hgE hF (fun _ h => .inl h)
    rcases hr with ⟨rfl, rfl, rfl, hT⟩ | ⟨rfl, rfl, hcl, hT⟩
    · exact ⟨rfl, f, mrg com own, pend + 1, ⟨F', G, S', m, V', mt, Vt, htk, h2, h3, h4, by omega, hT, hq.1, (fun h => by cases h), fun _ => rfl⟩, hq.2, fun n => ovr_mrg f com own n, .inl ⟨rfl, rfl, rfl, hT⟩⟩
    · exact ⟨rfl, ovr f com, com', 1, ⟨F', G, S', m, V', mt, Vt, htk, hcl, ho.off, ho.arm h4, by omega, by omega, hq.1, (fun h => by cases h), fun _ => rfl⟩, hq.2, fun n => rfl, .inr ⟨rfl, rfl, rfl, hT⟩⟩
  · have := hg.arm; omega
theorem sync_up (h : LogUp X w0 w pd pl K f com pend N) (hx : N < 1000000000) :
    Calls Tryz.prog 43 #[.pointer (some ⟨pl, 0, none⟩)] w fun e w' => e = .returned (.int .i64 0) ∧ LogUp X w0 w' pd pl K (ovr f com) (fun _ => none) 0 (N + 128) ∧ Sm X w w' := by
  obtain ⟨F, G, S, m, V, h1, h2, h3, h4, h5, h6, h7⟩ := h
  refine (lsync_any f w h1 h2 h3 h6 (by omega)).mono ?_
  rintro e w' (⟨F', S', rfl, hk, hch, hF, ho, hcl⟩ | ⟨F', S', rfl, _, _, _, hg, _⟩)
  · have hq := h7.step hch (fun b _ e => by
      rcases e with e | e | e
      · exact .inl e
      · exact .inr (e ▸ h1.lg.fp)
      · exact .inr (e ▸ h1.lg.mb.fm)) hF (fun _ h => .inl h)
    exact ⟨rfl, ⟨F', G, S', m, V, hk, hcl, ho.off, ho.arm h4, by have := ho.wr; omega, (by rw [ks_none]; omega), hq.1⟩, hq.2⟩
  · have := hg.arm; omega
theorem sync_upT (h : TxUp X w0 w pd pl q K f com pend live own wrote N) (hx : N < 1000000000) :
    Calls Tryz.prog 43 #[.pointer (some ⟨pl, 0, none⟩)] w fun e w' => e = .returned (.int .i64 0) ∧ TxUp X w0 w' pd pl q K (ovr f com) (fun _ => none) 0 live own wrote (N + 128) ∧ Sm X w w' := by
  obtain ⟨F, G, S, m, V, mt, Vt, h1, h2, h3, h4, h5, h6, h7, h8, h9⟩ := h
  refine (lsync_any f w h1.lk h2 h3 h6 (by omega)).mono ?_
  rintro e w' (⟨F', S', rfl, hk, hch, hF, ho, hcl⟩ | ⟨F', S', rfl, _, _, _, hg, _⟩)
  · have hq := h7.step hch (fun b _ e => by
      rcases e with e | e | e
      · exact .inl e
      · exact .inr (e ▸ h1.lk.lg.fp)
      · exact .inr (e ▸ h1.lk.lg.mb.fm)) hF (fun _ h => .inl h)
    exact ⟨rfl, ⟨F', G, S', m, V, mt, Vt, h1.sync hk hch, hcl, ho.off, ho.arm h4, by have := ho.wr; omega, (by rw [ks_none]; omega), hq.1, h8, h9⟩, hq.2⟩
  · have := hg.arm; omega
theorem read_up (n : Nat) (h : LogUp X w0 w pd pl K f com pend N) (hn : n < K) (hx : N < 1000000000) :
    Calls Tryz.prog 102 #[.pointer (some ⟨pl, 0, none⟩), .int .i64 (n : Int)] w fun e w' => ∃ u, e = .returned (.tuple #[u, .int .i64 0]) ∧ Fresh w w' u (ovr f com n) := by
  obtain ⟨F, G, S, m, V, h1, h2, h3, h4, h5, h6, h7⟩ := h
  exact lread_any f n w h1 (h2.last hn) hn h3 (by omega)
theorem read_upT (n : Nat) (h : TxUp X w0 w pd pl q K f com pend live own wrote N) (hn : n < K) (hx : N < 1000000000) :
    Calls Tryz.prog 102 #[.pointer (some ⟨pl, 0, none⟩), .int .i64 (n : Int)] w fun e w' => ∃ u, e = .returned (.tuple #[u, .int .i64 0]) ∧ Fresh w w' u (ovr f com n) := by
  obtain ⟨F, G, S, m, V, mt, Vt, h1, h2, h3, h4, h5, h6, h7, h8, h9⟩ := h
  exact lread_any f n w h1.lk (h2.last hn) hn h3 (by omega)
theorem tread_up (n : Nat) (h : TxUp X w0 w pd pl q K f com pend live own wrote N) (hn : n < K) (hx : N < 1000000000) :
    Calls Tryz.prog 71 #[.pointer (some ⟨q, 0, none⟩), .int .i64 (n : Int)] w fun e w' => ∃ u, e = .returned (.tuple #[u, .int .i64 0]) ∧ Fresh w w' u (ovr (ovr f com) own n) := by
  obtain ⟨F, G, S, m, V, mt, Vt, h1, h2, h3, h4, h5, h6, h7, h8, h9⟩ := h
  exact tread_any f n w h1 (h2.last hn) hn h3 (by omega)
theorem blocks_up (h : LogUp X w0 w pd pl K f com pend N) : Calls Tryz.prog 129 #[.pointer (some ⟨pl, 0, none⟩)] w fun e w' => e = .returned (.int .i64 (K : Int)) ∧ w' = w := by
  obtain ⟨F, G, S, m, V, h1, _⟩ := h
  exact lblocks_any w h1
/-- The power goes between calls: what lasted lasts. -/
theorem cut_up (v : Value) (ps : List Int) (h : LogUp X w0 w pd pl K f com pend N) (hi : Is w v ps) (hv : ps ≠ [] → ∀ g, v.ownBlock = some g → g < w0.heap.size) (hx : N < 1000000000) :
    Calls Tryz.prog 90 #[.pointer (some ⟨pd, 0, none⟩), v] w fun e w' => e = .returned (.tuple #[]) ∧ DkUp X w0 w' pd K f true N ∧ Sm X w w' := by
  obtain ⟨F, G, S, m, V, h1, h2, h3, h4, h5, h6, h7⟩ := h
  refine (cut_arg F pd S v ps w h1.dk hi (fun hp g hg hf => by have := hv hp g hg; have := h7.f g hf; omega) (by omega)).mono ?_
  rintro e w' ⟨rfl, F', d, c, hF⟩
  have hq := h7.step c (fun b _ h => .inl h) hF (G' := fun _ => False) (fun _ h => h.elim)
  exact ⟨rfl, ⟨F', S.cut ps, d, h2.lasts.cut ps, St.cut_off S ps, (fun h => by cases h), by rw [St.cut_writes]; exact h5, hq.1⟩, hq.2⟩
end
end Go.Proofs.YthohgljlcfbpjaaGreat

namespace Go.Proofs.YthohgljlcfbpjaaGreat
open Go.RowKit

/-- Each is a byte. -/
def IsBy (xs : List Int) : Prop := ∀ x ∈ xs, 0 ≤ x ∧ x < 256
/-- The byte at j, a number. -/
def byt (xs : List Int) (j : Nat) : Nat := (xs.getD j 0).toNat
/-- Bit k. -/
def bitN (xs : List Int) (k : Nat) : Bool := (byt xs (k / 8)).testBit (k % 8)
/-- Bit i, none being 0. -/
def bitI (xs : List Int) (i : Int) : Bool := decide (0 ≤ i) && bitN xs i.toNat
/-- Bit k turned. -/
def flipN (xs : List Int) (k : Nat) : List Int := xs.set (k / 8) ((byt xs (k / 8) ^^^ 2 ^ (k % 8) : Nat) : Int)

theorem IsBy.at {xs : List Int} (h : IsBy xs) (j : Nat) : 0 ≤ xs.getD j 0 ∧ xs.getD j 0 < 256 := by
  by_cases hj : j < xs.length
  · have e : xs.getD j 0 = xs[j] := by simp [List.getD, hj]
    rw [e]; exact h _ (List.getElem_mem hj)
  · have e : xs.getD j 0 = 0 := by simp [List.getD, hj]
    rw [e]; omega
theorem IsBy.byt {xs : List Int} (h : IsBy xs) (j : Nat) : xs.getD j 0 = (byt xs j : Int) ∧ byt xs j < 256 := by
  have := h.at j
  unfold Go.Proofs.YthohgljlcfbpjaaGreat.byt
  omega
theorem byt_out {xs : List Int} {j : Nat} (h : xs.length ≤ j) : byt xs j = 0 := by
  have e : xs.getD j 0 = 0 := by simp [List.getD, h]
  unfold byt; rw [e]; rfl
theorem bitN_out {xs : List Int} {k : Nat} (h : 8 * xs.length ≤ k) : bitN xs k = false := by
  unfold bitN
  rw [byt_out (by omega), Nat.zero_testBit]
theorem bitI_nat (xs : List Int) (k : Nat) : bitI xs (k : Int) = bitN xs k := by simp [bitI]
theorem bitI_neg {xs : List Int} {i : Int} (h : i < 0) : bitI xs i = false := by
  have : decide (0 ≤ i) = false := by simp; omega
  simp [bitI, this]
theorem bitI_out {xs : List Int} {i : Int} (h : i < 0 ∨ 8 * (xs.length : Int) ≤ i) : bitI xs i = false := by
  rcases h with h | h
  · exact bitI_neg h
  · obtain ⟨k, rfl⟩ := Int.eq_ofNat_of_zero_le (show 0 ≤ i by omega)
    rw [bitI_nat]; exact bitN_out (by omega)
theorem bitI_true {xs : List Int} {i : Int} (h : bitI xs i = true) : ∃ k : Nat, i = (k : Int) ∧ k < 8 * xs.length ∧ bitN xs k = true := by
  by_cases h0 : i < 0
  · rw [bitI_neg h0] at h; cases h
  · obtain ⟨k, rfl⟩ := Int.eq_ofNat_of_zero_le (show 0 ≤ i by omega)
    rw [bitI_nat] at h
    refine ⟨k, rfl, ?_, h⟩
    by_cases hk : k < 8 * xs.length
    · exact hk
    · rw [bitN_out (by omega)] at h; cases h

theorem flipN_len (xs : List Int) (k : Nat) : (flipN xs k).length = xs.length := by simp [flipN]
theorem byt_set {xs : List Int} {j : Nat} {n : Nat} (hj : j < xs.length) (m : Nat) : byt (xs.set j (n : Int)) m = if m = j then n else byt xs m := by
  unfold byt
  by_cases e : m = j
  · subst e
    have : (xs.set m (n : Int)).getD m 0 = (n : Int) := by simp [List.getD, hj]
    rw [this, if_pos rfl]; simp
  · have : (xs.set j (n : Int)).getD m 0 = xs.getD m 0 := by simp [List.getD, List.getElem?_set_ne (Ne.symm e)]
    rw [this, if_neg e]
theorem bitN_flip {xs : List Int} {k : Nat} (hk : k < 8 * xs.length) (m : Nat) : bitN (flipN xs k) m = if m = k then !bitN xs k else bitN xs m := by
  unfold bitN flipN
  rw [byt_set (by omega)]
  by_cases e : m = k
  · subst e
    rw [if_pos rfl, if_pos rfl, Nat.testBit_xor, Nat.testBit_two_pow]; simp
  · rw [if_neg e]
    by_cases e2 : m / 8 = k / 8
    · rw [if_pos e2, Nat.testBit_xor, Nat.testBit_two_pow, e2]
      have : decide (k % 8 = m % 8) = false := by simp; omega
      rw [this]; simp
    · rw [if_neg e2]
theorem xor_byte {x j : Nat} (hx : x < 256) (hj : j < 8) : x ^^^ 2 ^ j < 256 := by
  have hp : (2 : Nat) ^ j < 256 := Nat.lt_of_lt_of_le (Nat.pow_lt_pow_right (by omega) hj) (by decide)
  exact Nat.xor_lt_two_pow (n := 8) (by omega) hp
theorem IsBy.flip {xs : List Int} (h : IsBy xs) (k : Nat) : IsBy (flipN xs k) := by
  intro x hx
  rcases List.mem_or_eq_of_mem_set hx with h1 | h1
  · exact h x h1
  · subst h1
    have := xor_byte (h.byt (k / 8)).2 (show k % 8 < 8 by omega)
    omega
theorem flip_flip {xs : List Int} (h : IsBy xs) {k : Nat} (hk : k < 8 * xs.length) : flipN (flipN xs k) k = xs := by
  have hj : k / 8 < xs.length := by omega
  unfold flipN
  rw [byt_set hj, if_pos rfl, List.set_set, Nat.xor_assoc, Nat.xor_self, Nat.xor_zero, ← (h.byt (k / 8)).1]
  have e : xs.getD (k / 8) 0 = xs[k / 8] := by simp [List.getD, hj]
  rw [e, List.set_getElem_self]

/-- How many of the n bits from a on are 1. -/
def cnt (xs : List Int) (a : Nat) : Nat → Nat
  | 0 => 0
  | n + 1 => cnt xs a n + (bitN xs (a + n)).toNat
theorem cnt_succ (xs : List Int) (a n : Nat) : cnt xs a (n + 1) = cnt xs a n + (bitN xs (a + n)).toNat := rfl
theorem cnt_le (xs : List Int) (a n : Nat) : cnt xs a n ≤ n := by
  induction n with
  | zero => exact Nat.le_refl _
  | succ n ih => unfold cnt; have : (bitN xs (a + n)).toNat ≤ 1 := Bool.toNat_le _; omega
theorem cnt_add (xs : List Int) (a n m : Nat) : cnt xs a (n + m) = cnt xs a n + cnt xs (a + n) m := by
  induction m with
  | zero => rfl
  | succ m ih => rw [← Nat.add_assoc, cnt_succ, cnt_succ, ih, Nat.add_assoc a n m]; omega
theorem cnt_zero {xs : List Int} {a n : Nat} (h : ∀ j, j < n → bitN xs (a + j) = false) : cnt xs a n = 0 := by
  induction n with
  | zero => rfl
  | succ n ih => unfold cnt; rw [ih (fun j hj => h j (by omega)), h n (by omega)]; rfl
theorem cnt_congr {xs ys : List Int} {a n : Nat} (h : ∀ j, j < n → bitN xs (a + j) = bitN ys (a + j)) : cnt xs a n = cnt ys a n := by
  induction n with
  | zero => rfl
  | succ n ih => unfold cnt; rw [ih (fun j hj => h j (by omega)), h n (by omega)]
/-- One more bit is 1. -/
theorem cnt_flip {xs : List Int} {a n k : Nat} (hk : k < 8 * xs.length) (h0 : bitN xs k = false) (h1 : a ≤ k) (h2 : k < a + n) : cnt (flipN xs k) a n = cnt xs a n + 1 := by
  induction n with
  | zero => omega
  | succ n ih =>
    unfold cnt
    rw [bitN_flip hk]
    by_cases e : a + n = k
    · rw [if_pos e, h0, e, h0, cnt_congr (ys := xs) (fun j hj => by rw [bitN_flip hk, if_neg (by omega)])]
      simp
    · rw [if_neg e, ih (by omega)]; omega

/-- The first row of n noughts, f bits being left from i on, k noughts standing ahead of i. -/
def runF (xs : List Int) (n : Int) : Nat → Nat → Nat → Option Nat
  | 0, _, _ => none
  | f + 1, i, k => if bitN xs i = true then runF xs n f (i + 1) 0 else if (k : Int) + 1 = n then some (i - k) else runF xs n f (i + 1) (k + 1)
theorem runF_one {xs : List Int} {n : Int} {f i k : Nat} (h : bitN xs i = true) : runF xs n (f + 1) i k = runF xs n f (i + 1) 0 := by
  show (if bitN xs i = true then _ else _) = _
  rw [if_pos h]
theorem runF_end {xs : List Int} {n : Int} {f i k : Nat} (h : bitN xs i = false) (hn : (k : Int) + 1 = n) : runF xs n (f + 1) i k = some (i - k) := by
  show (if bitN xs i = true then _ else _) = _
  rw [if_neg (by rw [h]; exact Bool.false_ne_true), if_pos hn]
theorem runF_on {xs : List Int} {n : Int} {f i k : Nat} (h : bitN xs i = false) (hn : (k : Int) + 1 ≠ n) : runF xs n (f + 1) i k = runF xs n f (i + 1) (k + 1) := by
  show (if bitN xs i = true then _ else _) = _
  rw [if_neg (by rw [h]; exact Bool.false_ne_true), if_neg hn]
theorem runF_next1 {xs : List Int} {n : Int} {F t i k : Nat} {X : Option Nat} (h : X = runF xs n (F - t) i k) (ht : t < F) (hb : bitN xs i = true) : X = runF xs n (F - (t + 1)) (i + 1 + 0) 0 := by
  have e : F - t = (F - (t + 1)) + 1 := by omega
  rw [e] at h
  exact h.trans (runF_one hb)
theorem runF_next2 {xs : List Int} {n : Int} {F t s k : Nat} {X : Option Nat} (h : X = runF xs n (F - t) (s + k) k) (ht : t < F) (hb : bitN xs (s + k) = false) (hn : (k : Int) + 1 ≠ n) : X = runF xs n (F - (t + 1)) (s + (k + 1)) (k + 1) := by
  have e : F - t = (F - (t + 1)) + 1 := by omega
  rw [e] at h
  exact h.trans (runF_on hb hn)
theorem runF_next3 {xs : List Int} {n : Int} {F t s k : Nat} {X : Option Nat} (h : X = runF xs n (F - t) (s + k) k) (ht : t < F) (hb : bitN xs (s + k) = false) (hn : (k : Int) + 1 = n) : X = some s := by
  have e : F - t = (F - (t + 1)) + 1 := by omega
  rw [e] at h
  have e2 : s + k - k = s := by omega
  exact h.trans ((runF_end hb hn).trans (by rw [e2]))
theorem runF_stop {xs : List Int} {n : Int} {F t i k : Nat} {X : Option Nat} (h : X = runF xs n (F - t) i k) (ht : F ≤ t) : X = none := by
  have e : F - t = 0 := by omega
  rw [e] at h
  exact h
/-- What is found is a row of noughts. -/
theorem runF_some {xs : List Int} {n f i k s : Nat} (h : runF xs (n : Int) f i k = some s) (hk : k < n) (hi : k ≤ i) (hz : ∀ j, i - k ≤ j → j < i → bitN xs j = false) : i - k ≤ s ∧ s + n ≤ i + f ∧ ∀ j, s ≤ j → j < s + n → bitN xs j = false := by
  induction f generalizing i k with
  | zero => cases h
  | succ f ih =>
    cases hb : bitN xs i with
    | true =>
      rw [runF_one hb] at h
      obtain ⟨h1, h2, h3⟩ := ih h (by omega) (by omega) (fun j _ _ => by omega)
      exact ⟨by omega, by omega, h3⟩
    | false =>
      by_cases hn : (k : Int) + 1 = (n : Int)
      · rw [runF_end hb hn] at h
        obtain rfl : i - k = s := by simpa using h
        refine ⟨Nat.le_refl _, by omega, fun j h1 h2 => ?_⟩
        by_cases e : j = i
        · subst e; exact hb
        · exact hz j h1 (by omega)
      · rw [runF_on hb hn] at h
        obtain ⟨h1, h2, h3⟩ := ih h (by omega) (by omega) (fun j h1 h2 => by
          by_cases e : j = i
          · subst e; exact hb
          · exact hz j (by omega) (by omega))
        exact ⟨by omega, by omega, h3⟩
/-- .. and none stands ahead of it. -/
theorem runF_least {xs : List Int} {n f i k j : Nat} (hk : k < n) (hi : k ≤ i) (h1 : i - k ≤ j) (h2 : j + n ≤ i + f) (hz : ∀ m, j ≤ m → m < j + n → bitN xs m = false) : ∃ s, runF xs (n : Int) f i k = some s ∧ s ≤ j := by
  induction f generalizing i k with
  | zero => omega
  | succ f ih =>
    cases hb : bitN xs i with
    | true =>
      rw [runF_one hb]
      refine ih (by omega) (by omega) ?_ (by omega)
      by_cases e : j ≤ i
      · have := hz i e (by omega)
        rw [hb] at this; cases this
      · omega
    | false =>
      by_cases hn : (k : Int) + 1 = (n : Int)
      · exact ⟨i - k, runF_end hb hn, h1⟩
      · rw [runF_on hb hn]
        exact ih (by omega) (by omega) (by omega) (by omega)
/-- A row of one: the first nought. -/
theorem runF_first (xs : List Int) (f i : Nat) : (runF xs 1 f i 0 = none ∧ cnt xs i f = f) ∨ ∃ s, runF xs 1 f i 0 = some s ∧ i ≤ s ∧ s < i + f ∧ bitN xs s = false ∧ cnt xs i (s - i) = s - i ∧ cnt xs i f < f := by
  have one : ∀ a m, cnt xs a (1 + m) = (bitN xs a).toNat + cnt xs (a + 1) m := fun a m => by
    rw [cnt_add]
    show 0 + (bitN xs (a + 0)).toNat + _ = _
    rw [Nat.zero_add, Nat.add_zero]
  induction f generalizing i with
  | zero => exact .inl ⟨rfl, rfl⟩
  | succ f ih =>
    cases hb : bitN xs i with
    | true =>
      rw [runF_one hb, Nat.add_comm f 1, one, hb]
      rcases ih (i + 1) with ⟨h1, h2⟩ | ⟨s, h1, h2, h3, h4, h5, h6⟩
      · exact .inl ⟨h1, by rw [h2]; rfl⟩
      · refine .inr ⟨s, h1, by omega, by omega, h4, ?_, by show 1 + _ < _; omega⟩
        obtain ⟨m, rfl⟩ : ∃ m, s = i + 1 + m := ⟨s - (i + 1), by omega⟩
        have e1 : i + 1 + m - i = 1 + m := by omega
        have e2 : i + 1 + m - (i + 1) = m := by omega
        rw [e2] at h5
        rw [e1, one, hb, h5]; rfl
    | false =>
      refine .inr ⟨i, runF_end (k := 0) hb rfl, Nat.le_refl _, by omega, hb, by rw [Nat.sub_self]; rfl, ?_⟩
      rw [Nat.add_comm f 1, one, hb]
      have := cnt_le xs (i + 1) f
      show 0 + _ < _
      omega

/-- Where a walk begins and ends. -/
def loB (i : Int) : Nat := i.toNat
def hiB (xs : List Int) (i : Int) : Nat := (min i (8 * (xs.length : Int))).toNat
/-- How many from 'a' on, below 'b', are 1. -/
def cntI (xs : List Int) (a b : Int) : Nat := cnt xs (loB a) (hiB xs b - loB a)
/-- The first row of n noughts from 'a' on, below 'b'. -/
def runI (xs : List Int) (a b n : Int) : Option Nat := if n < 1 then none else runF xs n (hiB xs b - loB a) (loB a) 0
def runV (r : Option Nat) : Int := ((r.getD 0 : Nat) : Int)
theorem hiB_le (xs : List Int) (i : Int) : hiB xs i ≤ 8 * xs.length := by unfold hiB; omega
theorem runI_no {xs : List Int} {a b n : Int} (h : n < 1) : runI xs a b n = none := by unfold runI; rw [if_pos h]
theorem runI_yes {xs : List Int} {a b n : Int} (h : ¬ n < 1) : runI xs a b n = runF xs n (hiB xs b - loB a) (loB a) 0 := by unfold runI; rw [if_neg h]
end Go.Proofs.YthohgljlcfbpjaaGreat

namespace Go.Proofs.YthohgljlcfbpjaaGreat
open Go.RowKit

/-- How many blocks the map of n bits has. -/
def mapsN (n : Nat) : Nat := (n - 1) / 4096 + 1
/-- How many bits of block i are the pool's. -/
def sizeN (n i : Nat) : Nat := min (n - i * 4096) 4096
/-- How many of the first n are taken. -/
def cntT (T : Nat → Bool) : Nat → Nat
  | 0 => 0
  | n + 1 => cntT T n + (T n).toNat
theorem cntT_succ (T : Nat → Bool) (n : Nat) : cntT T (n + 1) = cntT T n + (T n).toNat := rfl
theorem cntT_le (T : Nat → Bool) : ∀ n, cntT T n ≤ n
  | 0 => Nat.le_refl _
  | n + 1 => by have := cntT_le T n; have := Bool.toNat_le (T n); rw [cntT_succ]; omega
theorem cntT_congr {T U : Nat → Bool} : ∀ {n : Nat}, (∀ k, k < n → T k = U k) → cntT T n = cntT U n
  | 0, _ => rfl
  | n + 1, h => by rw [cntT_succ, cntT_succ, cntT_congr (fun k hk => h k (by omega)), h n (by omega)]
theorem cntT_none {T : Nat → Bool} : ∀ {n : Nat}, (∀ k, k < n → T k = false) → cntT T n = 0
  | 0, _ => rfl
  | n + 1, h => by rw [cntT_succ, cntT_none (fun k hk => h k (by omega)), h n (by omega)]; rfl
theorem cntT_all {T : Nat → Bool} : ∀ {n : Nat}, (∀ k, k < n → T k = true) → cntT T n = n
  | 0, _ => rfl
  | n + 1, h => by rw [cntT_succ, cntT_all (fun k hk => h k (by omega)), h n (by omega)]; rfl
theorem cntT_full {T : Nat → Bool} : ∀ {n : Nat}, cntT T n = n → ∀ k, k < n → T k = true
  | 0, _, k, hk => absurd hk (Nat.not_lt_zero k)
  | n + 1, h, k, hk => by
    rw [cntT_succ] at h
    have h1 := cntT_le T n
    have h2 := Bool.toNat_le (T n)
    rcases Nat.lt_succ_iff_lt_or_eq.1 hk with e | e
    · exact cntT_full (by omega) k e
    · subst e
      have h3 : (T k).toNat = 1 := by omega
      simpa using h3
theorem cntT_set {T : Nat → Bool} {j : Nat} (h0 : T j = false) : ∀ {n : Nat}, j < n → cntT (upd T j true) n = cntT T n + 1
  | 0, h => absurd h (Nat.not_lt_zero j)
  | n + 1, h => by
    rw [cntT_succ, cntT_succ]
    by_cases e : j = n
    · subst e
      rw [upd_same, h0, cntT_congr (U := T) (fun k hk => upd_other _ _ (by omega))]; rfl
    · rw [cntT_set h0 (by omega), upd_other _ _ (fun x => e x.symm)]; omega
theorem cntT_clear {T : Nat → Bool} {j n : Nat} (h0 : T j = true) (h : j < n) : cntT (upd T j false) n + 1 = cntT T n := by
  have e : upd (upd T j false) j true = T := by
    funext k
    by_cases e : k = j
    · subst e; rw [upd_same, h0]
    · rw [upd_other _ _ e, upd_other _ _ e]
  have := cntT_set (T := upd T j false) (j := j) (upd_same _ _ _) h
  rw [e] at this
  exact this.symm
theorem cntT_add (T : Nat → Bool) (n : Nat) : ∀ m, cntT T (n + m) = cntT T n + cntT (fun k => T (n + k)) m
  | 0 => rfl
  | m + 1 => by rw [← Nat.add_assoc, cntT_succ, cntT_add T n m, cntT_succ]; omega
theorem cnt_cntT (xs : List Int) : ∀ n, cnt xs 0 n = cntT (bitN xs) n
  | 0 => rfl
  | n + 1 => by rw [cnt_succ, cnt_cntT xs n, cntT_succ, Nat.zero_add]

/-- The blocks from M on say that of n numbers those of T are taken. -/
structure Bt (V : Nat → List Int) (M n : Nat) (T : Nat → Bool) : Prop where
  by' : ∀ i, i < mapsN n → IsBy (V (M + i)) ∧ (V (M + i)).length = 512
  bit : ∀ k, k < n → bitN (V (M + k / 4096)) (k % 4096) = T k
section
variable {V V' : Nat → List Int} {M n : Nat} {T : Nat → Bool}
theorem maps_lt {k : Nat} (h : k < n) : k / 4096 < mapsN n := by unfold mapsN; omega
theorem Bt.same (h : Bt V M n T) (e : ∀ i, i < mapsN n → V' (M + i) = V (M + i)) : Bt V' M n T :=
  ⟨fun i hi => by rw [e i hi]; exact h.by' i hi, fun k hk => by rw [e _ (maps_lt hk)]; exact h.bit k hk⟩
theorem Bt.flip (h : Bt V M n T) {k : Nat} (hk : k < n) : Bt (upd V (M + k / 4096) (flipN (V (M + k / 4096)) (k % 4096))) M n (upd T k (!T k)) := by
  have h1 := h.by' (k / 4096) (maps_lt hk)
  refine ⟨fun i hi => ?_, fun j hj => ?_⟩
  · by_cases e : i = k / 4096
    · subst e; rw [upd_same]; exact ⟨h1.1.flip _, by rw [flipN_len]; exact h1.2⟩
    · rw [upd_other _ _ (by omega)]; exact h.by' i hi
  · by_cases e : j / 4096 = k / 4096
    · rw [e, upd_same, bitN_flip (by rw [h1.2]; omega)]
      by_cases e2 : j = k
      · subst e2; rw [if_pos rfl, upd_same, h.bit j hj]
      · rw [if_neg (by omega), upd_other _ _ e2, ← h.bit j hj, e]
    · rw [upd_other _ _ (by omega), upd_other _ _ (by omega)]; exact h.bit j hj
theorem Bt.ext (h : Bt V M n T) {U : Nat → Bool} (e : ∀ k, k < n → T k = U k) : Bt V M n U := ⟨h.by', fun k hk => (h.bit k hk).trans (e k hk)⟩
theorem bitN_zeros (k : Nat) : bitN (zeros 512) k = false := by
  have : byt (zeros 512) (k / 8) = 0 := by
    unfold byt zeros
    rw [List.getD_eq_getElem?_getD, List.getElem?_replicate]
    split <;> rfl
  unfold bitN; rw [this]; simp
theorem IsBy.zeros (k : Nat) : IsBy (zeros k) := fun x hx => by
  rw [List.eq_of_mem_replicate hx]; omega
set_option maxRecDepth 100000 in
theorem Bt.zero (e : ∀ i, i < mapsN n → V (M + i) = Go.Proofs.YthohgljlcfbpjaaGreat.zeros 512) : Bt V M n (fun _ => false) :=
  ⟨fun i hi => by rw [e i hi]; exact ⟨IsBy.zeros 512, zeros_len 512⟩, fun k hk => by rw [e _ (maps_lt hk)]; exact bitN_zeros _⟩
set_option maxRecDepth 100000 in
/-- The bits of block i. -/
theorem Bt.cnt (h : Bt V M n T) {i : Nat} (hi : i < mapsN n) (hn : 1 ≤ n) : cntT T (min n ((i + 1) * 4096)) = cntT T (min n (i * 4096)) + Go.Proofs.YthohgljlcfbpjaaGreat.cnt (V (M + i)) 0 (sizeN n i) := by
  have hin : i * 4096 < n := by unfold mapsN at hi; omega
  have e1 : min n ((i + 1) * 4096) = i * 4096 + sizeN n i := by unfold sizeN; omega
  have e2 : min n (i * 4096) = i * 4096 := Nat.min_eq_right (Nat.le_of_lt hin)
  rw [e1, e2, cntT_add, cnt_cntT]
  congr 1
  refine cntT_congr (fun k hk => ?_)
  have hk2 : k < 4096 ∧ i * 4096 + k < n := by unfold sizeN at hk; omega
  rw [← h.bit _ hk2.2, show (i * 4096 + k) / 4096 = i by omega, show (i * 4096 + k) % 4096 = k by omega]
theorem sizeN_le (n i : Nat) : sizeN n i ≤ 4096 := by unfold sizeN; omega
theorem hiB_size {xs : List Int} (hl : xs.length = 512) (n i : Nat) : hiB xs (sizeN n i : Int) = sizeN n i := by
  have := sizeN_le n i
  unfold hiB; rw [hl]; omega
set_option maxRecDepth 100000 in
/-- First of block i: none of its bits is 0, or the first that is. -/
theorem Bt.first (h : Bt V M n T) {i : Nat} (hi : i < mapsN n) (hn : 1 ≤ n) :
    (runI (V (M + i)) 0 (sizeN n i : Int) 1 = none ∧ ∀ k, i * 4096 ≤ k → k < min n ((i + 1) * 4096) → T k = true) ∨
    ∃ s, runI (V (M + i)) 0 (sizeN n i : Int) 1 = some s ∧ s < 4096 ∧ i * 4096 + s < n ∧ T (i * 4096 + s) = false ∧ ∀ k, i * 4096 ≤ k → k < i * 4096 + s → T k = true := by
  have hin : i * 4096 < n := by unfold mapsN at hi; omega
  have hx := h.by' i hi
  have hb : ∀ k, k < 4096 → i * 4096 + k < n → bitN (V (M + i)) k = T (i * 4096 + k) := fun k h1 h2 => by
    rw [← h.bit _ h2, show (i * 4096 + k) / 4096 = i by omega, show (i * 4096 + k) % 4096 = k by omega]
  rw [runI_yes (by omega), hiB_size hx.2, show loB 0 = 0 from rfl, Nat.sub_zero]
  have hall : ∀ f, f ≤ sizeN n i → Go.Proofs.YthohgljlcfbpjaaGreat.cnt (V (M + i)) 0 f = f → ∀ k, i * 4096 ≤ k → k < i * 4096 + f → T k = true := fun f hf hc k h1 h2 => by
    rw [cnt_cntT] at hc
    have := cntT_full hc (k - i * 4096) (by omega)
    unfold sizeN at hf
    rw [hb _ (by omega) (by omega), show i * 4096 + (k - i * 4096) = k by omega] at this
    exact this
  rcases runF_first (V (M + i)) (sizeN n i) 0 with ⟨h1, h2⟩ | ⟨s, h1, _, h3, h4, h5, _⟩
  · refine .inl ⟨h1, fun k hk1 hk2 => hall (sizeN n i) (Nat.le_refl _) h2 k hk1 ?_⟩
    unfold sizeN; omega
  · have hs : s < 4096 ∧ i * 4096 + s < n := by unfold sizeN at h3; omega
    refine .inr ⟨s, h1, hs.1, hs.2, ?_, fun k hk1 hk2 => hall s (by omega) (by simpa using h5) k hk1 hk2⟩
    rw [← hb s hs.1 hs.2]; exact h4
end
end Go.Proofs.YthohgljlcfbpjaaGreat

/-
  The contracts of package wal with the power going: a Commit, a Sync, an Open that is done, or cut.
-/
import Derived.Test.YtmlhjcjonfalhaaGreatRef5
import Derived.Test.YtmlhjcjonfalhaaGreatWArm
namespace Go.Proofs.YtmlhjcjonfalhaaGreat.C
open Go.RowKit Go.Maps

/-- A log with the power on: f lasts, com was committed; N bounds the disk's writes. -/
def LogUp (X : Nat → Prop) (w0 w : World) (pd pl K : Nat) (f : Nat → List Int) (com : Nat → Option (List Int)) (pend N : Nat) : Prop :=
  ∃ F G S m V, Lk w F G pd pl K S com pend (.pointer none) m V ∧ Clean S K f ∧ S.off = false ∧ True ∧ S.writes ≤ N ∧ (ks K com).length ≤ 63 ∧ Nw X w0 w F G
/-- A log with its transaction. -/
def TxUp (X : Nat → Prop) (w0 w : World) (pd pl q K : Nat) (f : Nat → List Int) (com : Nat → Option (List Int)) (pend : Nat) (live : Bool) (own : Nat → Option (List Int)) (wrote N : Nat) : Prop :=
  ∃ F G S m V mt Vt, Tk w F G pd pl q K S com pend live own wrote m V mt Vt ∧ Clean S K f ∧ S.off = false ∧ True ∧ S.writes ≤ N ∧ (ks K com).length ≤ 63 ∧ Nw X w0 w F G ∧ (live = true → wrote = (ks K own).length ∧ wrote ≤ 63) ∧ (live = false → own = fun _ => none)
section
variable {X : Nat → Prop} {w0 w w' : World} {pd pl q K : Nat} {f : Nat → List Int} {com own : Nat → Option (List Int)} {pend wrote N : Nat} {live : Bool}
theorem LogUp.more (h : LogUp X w0 w pd pl K f com pend N) (hc : Chg (fun _ => False) w w') : LogUp X w0 w' pd pl K f com pend N := by
  obtain ⟨F, G, S, m, V, h1, h2, h3, h4, h5, h6, h7⟩ := h
  exact ⟨F, G, S, m, V, h1.kept hc, h2, h3, h4, h5, h6, h7.more hc⟩
theorem TxUp.more (h : TxUp X w0 w pd pl q K f com pend live own wrote N) (hc : Chg (fun _ => False) w w') : TxUp X w0 w' pd pl q K f com pend live own wrote N := by
  obtain ⟨F, G, S, m, V, mt, Vt, h1, h2, h3, h4, h5, h6, h7, h8⟩ := h
  exact ⟨F, G, S, m, V, mt, Vt, h1.kept hc, h2, h3, h4, h5, h6, h7.more hc, h8⟩
theorem LogUp.add (h : LogUp X w0 w pd pl K f com pend N) (hc : Chg (fun _ => False) w w') : LogUp (addX X w.heap.size w'.heap.size) w0 w' pd pl K f com pend N := by
  obtain ⟨F, G, S, m, V, h1, h2, h3, h4, h5, h6, h7⟩ := h
  exact ⟨F, G, S, m, V, h1.kept hc, h2, h3, h4, h5, h6, h7.add hc h1.dk.lt h1.lg.lt⟩
theorem TxUp.add (h : TxUp X w0 w pd pl q K f com pend live own wrote N) (hc : Chg (fun _ => False) w w') : TxUp (addX X w.heap.size w'.heap.size) w0 w' pd pl q K f com pend live own wrote N := by
  obtain ⟨F, G, S, m, V, mt, Vt, h1, h2, h3, h4, h5, h6, h7, h8⟩ := h
  exact ⟨F, G, S, m, V, mt, Vt, h1.kept hc, h2, h3, h4, h5, h6, h7.add hc h1.lk.dk.lt h1.lk.lg.lt, h8⟩
theorem LogUp.less {X' : Nat → Prop} (h : LogUp X w0 w pd pl K f com pend N) (hx : ∀ b, X' b → X b) : LogUp X' w0 w pd pl K f com pend N := by
  obtain ⟨F, G, S, m, V, h1, h2, h3, h4, h5, h6, h7⟩ := h
  exact ⟨F, G, S, m, V, h1, h2, h3, h4, h5, h6, h7.less hx⟩
theorem TxUp.less {X' : Nat → Prop} (h : TxUp X w0 w pd pl q K f com pend live own wrote N) (hx : ∀ b, X' b → X b) : TxUp X' w0 w pd pl q K f com pend live own wrote N := by
  obtain ⟨F, G, S, m, V, mt, Vt, h1, h2, h3, h4, h5, h6, h7, h8⟩ := h
  exact ⟨F, G, S, m, V, mt, Vt, h1, h2, h3, h4, h5, h6, h7.less hx, h8⟩
theorem LogUp.xlt (h : LogUp X w0 w pd pl K f com pend N) : ∀ b, X b → b < w.heap.size := by
  obtain ⟨F, G, S, m, V, h1, h2, h3, h4, h5, h6, h7⟩ := h
  exact fun b hb => (h7.x b hb).1
theorem LogUp.chg (h : LogUp X w0 w pd pl K f com pend N) : Chg (fun _ => False) w0 w := by obtain ⟨F, G, S, m, V, _, _, _, _, _, _, h7⟩ := h; exact h7.chg
theorem TxUp.chg (h : TxUp X w0 w pd pl q K f com pend live own wrote N) : Chg (fun _ => False) w0 w := by obtain ⟨F, G, S, m, V, mt, Vt, _, _, _, _, _, _, h7, _⟩ := h; exact h7.chg
theorem LogUp.mono (h : LogUp X w0 w pd pl K f com pend N) {N' : Nat} (hN : N ≤ N') : LogUp X w0 w pd pl K f com pend N' := by
  obtain ⟨F, G, S, m, V, h1, h2, h3, h4, h5, h6, h7⟩ := h
  exact ⟨F, G, S, m, V, h1, h2, h3, h4, by omega, h6, h7⟩
theorem TxUp.log (h : TxUp X w0 w pd pl q K f com pend false own wrote N) : LogUp X w0 w pd pl K f com pend N := by
  obtain ⟨F, G, S, m, V, mt, Vt, h1, h2, h3, h4, h5, h6, h7, h8⟩ := h
  exact ⟨F, G, S, m, V, h1.lk, h2, h3, h4, h5, h6, h7⟩
theorem TxUp.ownNone (h : TxUp X w0 w pd pl q K f com pend false own wrote N) : own = fun _ => none := by
  obtain ⟨F, G, S, m, V, mt, Vt, h1, h2, h3, h4, h5, h6, h7, h8, h9⟩ := h; exact h9 rfl
theorem TxUp.inv (h : TxUp X w0 w pd pl q K f com pend true own wrote N) : wrote = (ks K own).length ∧ wrote ≤ 63 := by
  obtain ⟨F, G, S, m, V, mt, Vt, h1, h2, h3, h4, h5, h6, h7, h8, h9⟩ := h; exact h8 rfl
theorem TxUp.lt (h : TxUp X w0 w pd pl q K f com pend live own wrote N) : ∀ n b, own n = some b → n < K ∧ b.length = 512 := by
  obtain ⟨F, G, S, m, V, mt, Vt, h1, _⟩ := h
  exact fun n b hb => ⟨(h1.tx.mb.row n b hb).1, (h1.tx.mb.row n b hb).2.1⟩
theorem LogUp.lt (h : LogUp X w0 w pd pl K f com pend N) : (∀ n b, com n = some b → n < K ∧ b.length = 512) ∧ (ks K com).length ≤ 63 ∧ K ≤ 16384 := by
  obtain ⟨F, G, S, m, V, h1, h2, h3, h4, h5, h6, h7⟩ := h
  exact ⟨fun n b hb => ⟨(h1.lg.mb.row n b hb).1, (h1.lg.mb.row n b hb).2.1⟩, h6, h1.top⟩
theorem LogUp.flen (h : LogUp X w0 w pd pl K f com pend N) : ∀ n, n < K → (f n).length = 512 := by
  obtain ⟨F, G, S, m, V, h1, h2, h3, h4, h5, h6, h7⟩ := h
  intro n hn
  rw [← h2.last hn]
  exact St.last_len h2.wf (by have := h2.nb; omega)
theorem LogUp.ext (h : LogUp X w0 w pd pl K f com pend N) {g : Nat → List Int} (e : ∀ n, n < K → f n = g n) : LogUp X w0 w pd pl K g com pend N := by
  obtain ⟨F, G, S, m, V, h1, h2, h3, h4, h5, h6, h7⟩ := h
  exact ⟨F, G, S, m, V, h1, Holds.ext h2 e, h3, h4, h5, h6, h7⟩

theorem begin_up (h : LogUp X w0 w pd pl K f com pend N) :
    Calls Tryz.prog 13 #[.pointer (some ⟨pl, 0, none⟩)] w fun e w' => ∃ q, e = .returned (.tuple #[.pointer (some ⟨q, 0, none⟩), .int .i64 0]) ∧ TxUp X w0 w' pd pl q K f com pend true (fun _ => none) 0 N ∧ Sm X w w' := by
  obtain ⟨F, G, S, m, V, h1, h2, h3, h4, h5, h6, h7⟩ := h
  refine (begin_any w h1 h3).mono ?_
  rintro e w' ⟨q, G', mt, Vt, rfl, htk, hch, hG⟩
  have hq := h7.step hch (fun b _ e => .inr (e ▸ h1.lg.fp)) (fun _ h => .inl h) hG
  exact ⟨q, rfl, ⟨F, G', S, m, V, mt, Vt, htk, h2, h3, h4, h5, h6, hq.1, fun _ => ⟨by rw [ks_none], by omega⟩, (fun h => by cases h)⟩, hq.2⟩

theorem write_up {w1 : World} (n : Nat) (bs : List Int) (ua : Option Addr) (uc : Nat) (h : TxUp X w0 w1 pd pl q K f com pend true own wrote N) (hb : NewB w1 w (.slice ua 512 uc) bs) (hl : bs.length = 512) (hn : n < K) (hr : own n ≠ none ∨ wrote < 63) :
    Calls Tryz.prog 14 #[.pointer (some ⟨q, 0, none⟩), .int .i64 (n : Int), .slice ua 512 uc] w fun e w' => e = .returned (.int .i64 0) ∧ TxUp X w0 w' pd pl q K f com pend true (upd own n (some bs)) (ks K (upd own n (some bs))).length N ∧ Sm X w w' := by
  obtain ⟨F, G, S, m, V, mt, Vt, h1, h2, h3, h4, h5, h6, h7, h8, h9⟩ := h
  have k1 := h1.kept hb.chg
  have k7 := h7.more hb.chg
  have inv := h8 rfl
  have hgE : ∀ b, b < w.heap.size → (b = q ∨ b = mt) → F b ∨ G b := fun b _ e => by
    rcases e with e | e
    · exact .inr (e ▸ k1.tx.fp)
    · exact .inr (e ▸ k1.tx.mb.fm)
  cases ho : own n with
  | some b0 =>
    refine (twrite_again n bs b0 ua uc w k1 hn hb.bs hl h3 ho).mono ?_
    rintro e w' ⟨G', Vt', rfl, htk, hch, hG⟩
    have e := ks_upd_again (K := K) (b := bs) ho
    have hq := k7.step hch hgE (fun _ h => .inl h) hG
    exact ⟨rfl, ⟨F, G', S, m, V, mt, Vt', by rw [e, ← inv.1]; exact htk, h2, h3, h4, h5, h6, hq.1, fun _ => ⟨rfl, by omega⟩, (fun h => by cases h)⟩, hq.2⟩
  | none =>
    have hr' : wrote < 63 := by
      rcases hr with h | h
      · exact absurd ho h
      · exact h
    refine (twrite_first n bs ua uc w k1 hn hb.bs hl h3 ho hr' (fun a ha e => ?_)).mono ?_
    · have h10 := hb.new a.block (by rw [ha]; rfl)
      have h11 := h1.tx.lt q h1.tx.fp
      omega
    rintro e w' ⟨G', Vt', rfl, htk, hch, hG⟩
    have e := ks_upd_first (K := K) (b := bs) hn ho
    have hq := k7.step hch hgE (fun _ h => .inl h) hG
    exact ⟨rfl, ⟨F, G', S, m, V, mt, Vt', by rw [e, ← inv.1]; exact htk, h2, h3, h4, h5, h6, hq.1, fun _ => ⟨rfl, by omega⟩, (fun h => by cases h)⟩, hq.2⟩
theorem write_full_up {w1 : World} (n : Nat) (bs : List Int) (ua : Option Addr) (uc : Nat) (h : TxUp X w0 w1 pd pl q K f com pend true own wrote N) (hb : NewB w1 w (.slice ua 512 uc) bs) (hn : n < K) (hr : own n = none) (hw : wrote = 63) :
    Calls Tryz.prog 14 #[.pointer (some ⟨q, 0, none⟩), .int .i64 (n : Int), .slice ua 512 uc] w fun e w' => e = .returned (.int .i64 7) ∧ TxUp X w0 w' pd pl q K f com pend true own wrote N ∧ Sm X w w' := by
  have hm := h.more hb.chg
  obtain ⟨F, G, S, m, V, mt, Vt, h1, h2, h3, h4, h5, h6, h7, h8, h9⟩ := h
  refine (twrite_full n ua uc w (h1.kept hb.chg) hn h3 hr hw).mono ?_
  rintro e w' ⟨rfl, rfl⟩
  exact ⟨rfl, hm, fun _ _ => rfl⟩

theorem abort_up (h : TxUp X w0 w pd pl q K f com pend true own wrote N) :
    Calls Tryz.prog 72 #[.pointer (some ⟨q, 0, none⟩)] w fun e w' => e = .returned (.tuple #[]) ∧ TxUp X w0 w' pd pl q K f com pend false (fun _ => none) 0 N ∧ Sm X w w' := by
  obtain ⟨F, G, S, m, V, mt, Vt, h1, h2, h3, h4, h5, h6, h7, h8, h9⟩ := h
  refine (abort_live w h1).mono ?_
  rintro e w' ⟨rfl, htk, hch⟩
  have hq := h7.step hch (fun b _ e => by
    rcases e with e | e | e
    · exact .inr (e ▸ h1.lk.lg.fp)
    · exact .inr (e ▸ h1.tx.mb.fm)
    · exact .inr (e ▸ h1.tx.fp)) (fun _ h => .inl h) (fun _ h => .inl h)
  exact ⟨rfl, ⟨F, G, S, m, V, mt, Vt, htk, h2, h3, h4, h5, h6, hq.1, (fun h => by cases h), fun _ => rfl⟩, hq.2⟩
theorem read_up (n : Nat) (h : LogUp X w0 w pd pl K f com pend N) (hn : n < K) (hx : N < 1000000000) :
    Calls Tryz.prog 18 #[.pointer (some ⟨pl, 0, none⟩), .int .i64 (n : Int)] w fun e w' => ∃ u, e = .returned (.tuple #[u, .int .i64 0]) ∧ Fresh w w' u (ovr f com n) := by
  obtain ⟨F, G, S, m, V, h1, h2, h3, h4, h5, h6, h7⟩ := h
  exact lread_any f n w h1 (h2.last hn) hn h3 (by omega)
theorem read_upT (n : Nat) (h : TxUp X w0 w pd pl q K f com pend live own wrote N) (hn : n < K) (hx : N < 1000000000) :
    Calls Tryz.prog 18 #[.pointer (some ⟨pl, 0, none⟩), .int .i64 (n : Int)] w fun e w' => ∃ u, e = .returned (.tuple #[u, .int .i64 0]) ∧ Fresh w w' u (ovr f com n) := by
  obtain ⟨F, G, S, m, V, mt, Vt, h1, h2, h3, h4, h5, h6, h7, h8, h9⟩ := h
  exact lread_any f n w h1.lk (h2.last hn) hn h3 (by omega)
theorem tread_up (n : Nat) (h : TxUp X w0 w pd pl q K f com pend live own wrote N) (hn : n < K) (hx : N < 1000000000) :
    Calls Tryz.prog 76 #[.pointer (some ⟨q, 0, none⟩), .int .i64 (n : Int)] w fun e w' => ∃ u, e = .returned (.tuple #[u, .int .i64 0]) ∧ Fresh w w' u (ovr (ovr f com) own n) := by
  obtain ⟨F, G, S, m, V, mt, Vt, h1, h2, h3, h4, h5, h6, h7, h8, h9⟩ := h
  exact tread_any f n w h1 (h2.last hn) hn h3 (by omega)
theorem blocks_up (h : LogUp X w0 w pd pl K f com pend N) : Calls Tryz.prog 11 #[.pointer (some ⟨pl, 0, none⟩)] w fun e w' => e = .returned (.int .i64 (K : Int)) ∧ w' = w := by
  obtain ⟨F, G, S, m, V, h1, _⟩ := h
  exact lblocks_any w h1
theorem twrites_up (h : TxUp X w0 w pd pl q K f com pend live own wrote N) : Calls Tryz.prog 78 #[.pointer (some ⟨q, 0, none⟩)] w fun e w' => e = .returned (.int .i64 (wrote : Int)) ∧ w' = w := by
  obtain ⟨F, G, S, m, V, mt, Vt, h1, _⟩ := h
  exact twrites_any w h1.tx
/-- A log whose disk is not armed. -/
theorem ofUp (h : _root_.Go.Proofs.YtmlhjcjonfalhaaGreat.LogUp X w0 w pd pl K f com pend N) : LogUp X w0 w pd pl K f com pend N := by
  obtain ⟨F, G, S, m, V, h1, h2, h3, h4, h5, h6, h7⟩ := h
  exact ⟨F, G, S, m, V, h1, h2, h3, trivial, h5, h6, h7⟩
/-- A disk without power, on which one of two lasts. -/
def Off2 (X : Nat → Prop) (w0 w : World) (pd : Nat) (f g : Nat → List Int) (N : Nat) : Prop := DkUp X w0 w pd 70 f true N ∨ DkUp X w0 w pd 70 g true N
theorem DkUp.mono {off : Bool} {N' : Nat} (h : DkUp X w0 w pd K f off N) (hN : N ≤ N') : DkUp X w0 w pd K f off N' := by
  obtain ⟨F, S, h1, h2, h3, h4, h5, h6⟩ := h
  exact ⟨F, S, h1, h2, h3, h4, by omega, h6⟩
theorem DkUp.refE {E : Nat → Prop} {off : Bool} (h : DkUp X w0 w pd K f off N) (hc : Chg E w w') (hE : ∀ b, b < w.heap.size → E b → X b ∧ w0.heap.size ≤ b) : DkUp (addX X w.heap.size w'.heap.size) w0 w' pd K f off N := by
  obtain ⟨F, S, h1, h2, h3, h4, h5, h7⟩ := h
  have hn : ∀ b, F b → ¬ E b := fun b hb e => (h7.x b (hE b (h1.lt b hb) e).1).2.1 hb
  refine ⟨F, S, h1.kept hc (fun b hb => hn b hb), h2, h3, h4, h5, h7.chg.trans hc (fun i hi e => ?_), h7.f, h7.g, fun b hb => ?_⟩
  · have := (hE i (by have := h7.chg.size; omega) e).2; omega
  · rcases hb with e | e
    · exact ⟨by have := (h7.x b e).1; have := hc.size; omega, (h7.x b e).2⟩
    · exact ⟨e.2, fun hf => by have := h1.lt b hf; omega, fun hg => hg⟩
theorem Off2.refE {E : Nat → Prop} {g : Nat → List Int} (h : Off2 X w0 w pd f g N) (hc : Chg E w w') (hE : ∀ b, b < w.heap.size → E b → X b ∧ w0.heap.size ≤ b) : Off2 (addX X w.heap.size w'.heap.size) w0 w' pd f g N := by
  rcases h with h | h
  · exact .inl (DkUp.refE h hc hE)
  · exact .inr (DkUp.refE h hc hE)
theorem Off2.off {g : Nat → List Int} (h : Off2 X w0 w pd f g N) : Calls Tryz.prog 32 #[.pointer (some ⟨pd, 0, none⟩)] w fun e w' => e = .returned (.bool true) ∧ w' = w := by
  rcases h with h | h
  · exact off_up h
  · exact off_up h
theorem Off2.chg {g : Nat → List Int} (h : Off2 X w0 w pd f g N) : Chg (fun _ => False) w0 w := by
  rcases h with h | h
  · exact DkUp.chg h
  · exact DkUp.chg h
theorem Off2.mono {g : Nat → List Int} {N' : Nat} (h : Off2 X w0 w pd f g N) (hN : N ≤ N') : Off2 X w0 w pd f g N' := by
  rcases h with h | h
  · exact .inl (DkUp.mono h hN)
  · exact .inr (DkUp.mono h hN)
theorem LogUp.isOn (h : LogUp X w0 w pd pl K f com pend N) : Calls Tryz.prog 32 #[.pointer (some ⟨pd, 0, none⟩)] w fun e w' => e = .returned (.bool false) ∧ w' = w := by
  obtain ⟨F, G, S, m, V, a1, a2, a3, _⟩ := h
  have := off_any F pd S w a1.dk
  rw [a3] at this
  exact this
theorem TxUp.isOn (h : TxUp X w0 w pd pl q K f com pend live own wrote N) : Calls Tryz.prog 32 #[.pointer (some ⟨pd, 0, none⟩)] w fun e w' => e = .returned (.bool false) ∧ w' = w := by
  obtain ⟨F, G, S, m, V, mt, Vt, a1, a2, a3, _⟩ := h
  have := off_any F pd S w a1.lk.dk
  rw [a3] at this
  exact this
/-- Commit: done, or cut. -/
theorem commit_up (h : TxUp X w0 w pd pl q 70 f com pend true own wrote N) (hx : N < 1000000000) (hp : pend < 1000000000) :
    Calls Tryz.prog 16 #[.pointer (some ⟨q, 0, none⟩)] w fun e w' => Sm X w w' ∧ ((e = .returned (.int .i64 0) ∧ ∃ f' com' pend', TxUp X w0 w' pd pl q 70 f' com' pend' false (fun _ => none) wrote (N + 128) ∧ (∀ n, ovr f' com' n = ovr (ovr f com) own n) ∧
      ((pend' = pend + 1 ∧ f' = f ∧ com' = mrg com own ∧ (ks 70 (mrg com own)).length ≤ 63) ∨ (pend' = 1 ∧ f' = ovr f com ∧ com' = own ∧ 63 < (ks 70 (mrg com own)).length))) ∨
      (e = .returned (.int .i64 6) ∧ 63 < (ks 70 (mrg com own)).length ∧ Off2 X w0 w' pd f (ovr f com) (N + 128))) := by
  obtain ⟨F, G, S, m, V, mt, Vt, h1, h2, h3, h4, h5, h6, h7, h8, h9⟩ := h
  have inv := h8 rfl
  have hgE : ∀ b, b < w.heap.size → (F b ∨ b = pl ∨ b = m ∨ b = mt) → F b ∨ G b := fun b _ e => by
    rcases e with e | e | e | e
    · exact .inl e
    · exact .inr (e ▸ h1.lk.lg.fp)
    · exact .inr (e ▸ h1.lk.lg.mb.fm)
    · exact .inr (e ▸ h1.tx.mb.fm)
  refine (commit_any f w h1 h2 h3 h6 (by omega) (by omega)).mono ?_
  rintro e w' (⟨F', S', V', com', pend', rfl, htk, hch, hF, ho, hr⟩ | ⟨F', S', V', rfl, htk, hch, hF, hg, hr, hl⟩)
  · have hwr := ho.wr
    have hq := h7.step hch hgE hF (fun _ h => .inl h)
    refine ⟨hq.2, .inl ⟨rfl, ?_⟩⟩
    rcases hr with ⟨rfl, rfl, rfl, hT⟩ | ⟨rfl, rfl, hcl, hT⟩
    · exact ⟨f, mrg com own, pend + 1, ⟨F', G, S', m, V', mt, Vt, htk, h2, h3, h4, by omega, hT, hq.1, (fun h => by cases h), fun _ => rfl⟩, fun n => ovr_mrg f com own n, .inl ⟨rfl, rfl, rfl, hT⟩⟩
    · exact ⟨ovr f com, com', 1, ⟨F', G, S', m, V', mt, Vt, htk, hcl, ho.off, trivial, by omega, by omega, hq.1, (fun h => by cases h), fun _ => rfl⟩, fun n => rfl, .inr ⟨rfl, rfl, rfl, hT⟩⟩
  · have hq := h7.step hch hgE hF (G' := fun _ => False) (fun _ h => h.elim)
    refine ⟨hq.2, .inr ⟨rfl, hr, ?_⟩⟩
    rcases hl with hl | hl
    · exact .inl ⟨F', S', htk.lk.dk, hl, hg.off, (fun h => by cases h), by have := hg.wr; omega, hq.1⟩
    · exact .inr ⟨F', S', htk.lk.dk, hl, hg.off, (fun h => by cases h), by have := hg.wr; omega, hq.1⟩
/-- Sync: done, or cut. -/
theorem sync_up (h : LogUp X w0 w pd pl 70 f com pend N) (hx : N < 1000000000) :
    Calls Tryz.prog 17 #[.pointer (some ⟨pl, 0, none⟩)] w fun e w' => Sm X w w' ∧ ((e = .returned (.int .i64 0) ∧ LogUp X w0 w' pd pl 70 (ovr f com) (fun _ => none) 0 (N + 128)) ∨ (e = .returned (.int .i64 6) ∧ Off2 X w0 w' pd f (ovr f com) (N + 128))) := by
  obtain ⟨F, G, S, m, V, h1, h2, h3, h4, h5, h6, h7⟩ := h
  refine (lsync_any f w h1 h2 h3 h6 (by omega)).mono ?_
  rintro e w' (⟨F', S', rfl, hk, hch, hF, ho, hcl⟩ | ⟨F', S', rfl, hk, hch, hF, hg, hl⟩)
  · have hq := h7.step hch (fun b _ e => by
      rcases e with e | e | e
      · exact .inl e
      · exact .inr (e ▸ h1.lg.fp)
      · exact .inr (e ▸ h1.lg.mb.fm)) hF (fun _ h => .inl h)
    exact ⟨hq.2, .inl ⟨rfl, F', G, S', m, V, hk, hcl, ho.off, trivial, by have := ho.wr; omega, (by rw [ks_none]; omega), hq.1⟩⟩
  · have hq := h7.step hch (fun b _ h => .inl h) hF (G' := fun _ => False) (fun _ h => h.elim)
    refine ⟨hq.2, .inr ⟨rfl, ?_⟩⟩
    rcases hl with hl | hl
    · exact .inl ⟨F', S', hk.dk, hl, hg.off, (fun h => by cases h), by have := hg.wr; omega, hq.1⟩
    · exact .inr ⟨F', S', hk.dk, hl, hg.off, (fun h => by cases h), by have := hg.wr; omega, hq.1⟩
theorem sync_upT (h : TxUp X w0 w pd pl q 70 f com pend live own wrote N) (hx : N < 1000000000) :
    Calls Tryz.prog 17 #[.pointer (some ⟨pl, 0, none⟩)] w fun e w' => Sm X w w' ∧ ((e = .returned (.int .i64 0) ∧ TxUp X w0 w' pd pl q 70 (ovr f com) (fun _ => none) 0 live own wrote (N + 128)) ∨ (e = .returned (.int .i64 6) ∧ Off2 X w0 w' pd f (ovr f com) (N + 128))) := by
  obtain ⟨F, G, S, m, V, mt, Vt, h1, h2, h3, h4, h5, h6, h7, h8, h9⟩ := h
  refine (lsync_any f w h1.lk h2 h3 h6 (by omega)).mono ?_
  rintro e w' (⟨F', S', rfl, hk, hch, hF, ho, hcl⟩ | ⟨F', S', rfl, hk, hch, hF, hg, hl⟩)
  · have hq := h7.step hch (fun b _ e => by
      rcases e with e | e | e
      · exact .inl e
      · exact .inr (e ▸ h1.lk.lg.fp)
      · exact .inr (e ▸ h1.lk.lg.mb.fm)) hF (fun _ h => .inl h)
    exact ⟨hq.2, .inl ⟨rfl, F', G, S', m, V, mt, Vt, h1.sync hk hch, hcl, ho.off, trivial, by have := ho.wr; omega, (by rw [ks_none]; omega), hq.1, h8, h9⟩⟩
  · have hq := h7.step hch (fun b _ h => .inl h) hF (G' := fun _ => False) (fun _ h => h.elim)
    refine ⟨hq.2, .inr ⟨rfl, ?_⟩⟩
    rcases hl with hl | hl
    · exact .inl ⟨F', S', hk.dk, hl, hg.off, (fun h => by cases h), by have := hg.wr; omega, hq.1⟩
    · exact .inr ⟨F', S', hk.dk, hl, hg.off, (fun h => by cases h), by have := hg.wr; omega, hq.1⟩
/-- A disk that may be armed. -/
def DkArm (X : Nat → Prop) (w0 w : World) (pd K : Nat) (f : Nat → List Int) (N : Nat) : Prop :=
  ∃ F S, Dk w F pd S ∧ Lasts S K f ∧ S.off = false ∧ S.writes ≤ N ∧ Nw X w0 w F (fun _ => False)
theorem DkUp.toArm (h : DkUp X w0 w pd K f false N) : DkArm X w0 w pd K f N := by
  obtain ⟨F, S, h1, h2, h3, h4, h5, h6⟩ := h
  exact ⟨F, S, h1, h2, h3, h5, h6⟩
theorem darm_up (n : Int) (v : Value) (ps : List Int) (h : DkUp X w0 w pd K f false N) (hi : Is w v ps) (hl : ps.length ≤ 1000) (h0 : -9223372036854775808 ≤ n) (h1 : n < 9223372036854775808) :
    Calls Tryz.prog 29 #[.pointer (some ⟨pd, 0, none⟩), .int .i64 n, v] w fun e w' => e = .returned (.tuple #[]) ∧ DkArm X w0 w' pd K f N ∧ Sm X w w' := by
  obtain ⟨F, S, a1, a2, a3, a4, a5, a7⟩ := h
  refine (arm_any F pd S n v ps w a1 hi (by omega) h0 h1).mono ?_
  rintro e w' ⟨rfl, F', d, c, hF⟩
  obtain ⟨hs, a2⟩ := a2
  have hq := a7.step c (fun b _ h => .inl h) hF (G' := fun _ => False) (fun _ h => h.elim)
  exact ⟨rfl, ⟨F', S.armed n ps, d, ⟨hs, Holds.armed a2 ps h0 h1⟩, a3, a5, hq.1⟩, hq.2⟩
/-- Arm of a disk beneath a log. -/
theorem larm_up (n : Int) (v : Value) (ps : List Int) (h : LogUp X w0 w pd pl K f com pend N) (hi : Is w v ps) (hl : ps.length ≤ 1000) (h0 : -9223372036854775808 ≤ n) (h1 : n < 9223372036854775808) :
    Calls Tryz.prog 29 #[.pointer (some ⟨pd, 0, none⟩), .int .i64 n, v] w fun e w' => e = .returned (.tuple #[]) ∧ LogUp X w0 w' pd pl K f com pend N ∧ Sm X w w' := by
  obtain ⟨F, G, S, m, V, a1, a2, a3, a4, a5, a6, a7⟩ := h
  refine (arm_any F pd S n v ps w a1.dk hi (by omega) h0 h1).mono ?_
  rintro e w' ⟨rfl, t⟩
  obtain ⟨F', hk, hc, hF⟩ := a1.to t rfl
  have hq := a7.step hc (fun b _ h => .inl h) hF (fun _ h => .inl h)
  exact ⟨rfl, ⟨F', G, S.armed n ps, m, V, hk, Holds.armed a2 ps h0 h1, a3, trivial, a5, a6, hq.1⟩, hq.2⟩
/-- Open: done, or cut. -/
theorem open_up (h : DkArm X w0 w pd 70 f N) (hx : N < 1000000000) :
    Calls Tryz.prog 21 #[.pointer (some ⟨pd, 0, none⟩)] w fun e w' => Sm X w w' ∧ ((∃ pl, e = .returned (.tuple #[.pointer (some ⟨pl, 0, none⟩), .int .i64 0]) ∧ LogUp X w0 w' pd pl 70 f (fun _ => none) 0 (N + 128)) ∨ (e = .returned (.tuple #[.pointer none, .int .i64 6]) ∧ DkUp X w0 w' pd 70 f true (N + 128))) := by
  obtain ⟨F, S, h1, h2, h3, h5, h6⟩ := h
  refine (open_ok F pd 70 f S w h1 h2 (by omega) h3 (by omega)).mono ?_
  rintro e w' (⟨pl, F', G, m, V, S', rfl, hk, hch, hF, hG, ho, hcl⟩ | ⟨S', rfl, ht, hg, hl⟩)
  · have hq := h6.step hch (fun b _ h => .inl h) hF (fun b hb => .inr (hG b hb))
    exact ⟨hq.2, .inl ⟨pl, rfl, ⟨F', G, S', m, V, hk, hcl, ho.off, trivial, by have := ho.wr; omega, (by rw [ks_none]; omega), hq.1⟩⟩⟩
  · obtain ⟨F', d, hch, hF⟩ := ht
    have hq := h6.step hch (fun b _ h => .inl h) hF (G' := fun _ => False) (fun _ h => h.elim)
    exact ⟨hq.2, .inr ⟨rfl, F', S', d, hl, hg.off, (fun h => by cases h), by have := hg.wr; omega, hq.1⟩⟩
/-- .. of a disk that is not armed. -/
theorem open_up0 (h : DkUp X w0 w pd 70 f false N) (hx : N < 1000000000) :
    Calls Tryz.prog 21 #[.pointer (some ⟨pd, 0, none⟩)] w fun e w' => ∃ pl, e = .returned (.tuple #[.pointer (some ⟨pl, 0, none⟩), .int .i64 0]) ∧ LogUp X w0 w' pd pl 70 f (fun _ => none) 0 (N + 128) ∧ Sm X w w' := by
  refine (_root_.Go.Proofs.YtmlhjcjonfalhaaGreat.open_up (by omega) h hx).mono ?_
  rintro e w' ⟨pl, rfl, h, hs⟩
  exact ⟨pl, rfl, ofUp (h.mono (by omega)), hs⟩
end
end Go.Proofs.YtmlhjcjonfalhaaGreat.C

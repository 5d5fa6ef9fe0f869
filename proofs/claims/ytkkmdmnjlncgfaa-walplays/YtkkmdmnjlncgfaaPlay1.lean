/-
  A log with or without its transaction, beside memory of the laws; what was left: answers of a dead transaction, and out of range.
-/
import Derived.Test.YtkkmdmnjlncgfaaRef5
namespace Go.Proofs.Ytkkmdmnjlncgfaa
open Go.RowKit Go.Maps

theorem MapIs.lookOut {w : World} {m nb : Nat} {f : Nat → Option Value} (h : MapIs w m nb f) (n : Int) (hw : -9223372036854775808 ≤ n ∧ n ≤ 9223372036854775807) (hn : ¬ (0 ≤ n ∧ n < nb)) :
    (Instr.lookup 74 (.map (some m)) (.int .i64 n) true).run Try.prog w = .ok (.tuple #[.slice none 0 0, .bool false]) w := by
  obtain ⟨c, D, ho, hD⟩ := h
  have hkey : keyOf Try.prog 3 (.int .i64 n) = some (.int .i64 n) := keyOf_int_mk Try.underlying3 (WalkArith.wf_i64 (by omega))
  obtain ⟨v, ps, hrun, hv⟩ := ho.look_ok law3 Try.underlying74 (zeroB w) (show hold (.slice none 0 0) = some (.held (.slice none 0 0), []) from rfl) hkey
  have hno : Maps.has D (.int .i64 n) = false := by
    cases hh : Maps.has D (.int .i64 n) with
    | false => rfl
    | true =>
      obtain ⟨k, hk, e⟩ := hD.keys _ hh
      simp [kn] at e
      exact absurd (show 0 ≤ n ∧ n < nb by omega) hn
  rw [hrun, hno]
  have e : DataW.held v = D.atKey (.int .i64 n) (.held (.slice none 0 0)) := by simpa [hold] using congrArg (Option.map Prod.fst) hv
  rw [atKey_of_not_has hno] at e
  cases e; rfl

section
variable {F G : Nat → Prop} {pd pl q K : Nat} {S : St} {com own : Nat → Option (List Int)} {pend wrote m mt N : Nat} {live : Bool} {V Vt : Nat → Value} {X : Nat → Prop} {w0 w w' : World} {f : Nat → List Int}
set_option maxHeartbeats 1600000 in
theorem tread_out (n : Int) (w : World) (h : Tk w F G pd pl q K S com pend live own wrote m V mt Vt) (hw : -9223372036854775808 ≤ n ∧ n ≤ 9223372036854775807) (hn : ¬ (0 ≤ n ∧ n < K)) (hoff : S.off = false) :
    Calls Try.prog 30 #[.pointer (some ⟨q, 0, none⟩), .int .i64 n] w fun e w' => e = .returned (.tuple #[.slice none 0 0, .int .i64 1]) ∧ w' = w := by
  have HK : Hid (Tk w F G pd pl q K S com pend live own wrote m V mt Vt) := h
  have t0 := h.tx.c0
  have t1 := h.tx.c1
  have c0 := h.lk.lg.c0
  have lk := h.tx.mb.map.lookOut n hw hn
  have HN : Hid (¬ (0 ≤ n ∧ n < K)) := hn
  clear h hn hw
  go_enter Try.func30, Try.ntmps30
  go_wp2_with fail
  refine (off_any F pd S w HK.out.lk.dk).mono ?_
  rintro e w2 ⟨rfl, rfl⟩
  rw [hoff]
  go_wp2_with fail
  refine (lread_out n w2 HK.out.lk HN.out).mono ?_
  rintro e w3 ⟨rfl, rfl⟩
  clear HK
  go_wp2
  go_ret2
  exact ⟨rfl, rfl⟩
theorem tread_out_up (n : Int) (h : TxUp X w0 w pd pl q K f com pend live own wrote N) (hw : -9223372036854775808 ≤ n ∧ n ≤ 9223372036854775807) (hn : ¬ (0 ≤ n ∧ n < K)) :
    Calls Try.prog 30 #[.pointer (some ⟨q, 0, none⟩), .int .i64 n] w fun e w' => e = .returned (.tuple #[.slice none 0 0, .int .i64 1]) ∧ w' = w := by
  obtain ⟨F, G, S, m, V, mt, Vt, h1, h2, h3, _⟩ := h
  exact tread_out n w h1 hw hn h3
theorem twrite_out_up (n : Int) (v : Value) (h : TxUp X w0 w pd pl q K f com pend live own wrote N) (hn : ¬ (0 ≤ n ∧ n < K)) :
    Calls Try.prog 21 #[.pointer (some ⟨q, 0, none⟩), .int .i64 n, v] w fun e w' => e = .returned (.int .i64 1) ∧ w' = w := by
  obtain ⟨F, G, S, m, V, mt, Vt, h1, h2, h3, _⟩ := h
  exact twrite_out n v w h1 hn h3
theorem twrite_dead_up (n : Nat) (va : Option Addr) (vc : Nat) (h : TxUp X w0 w pd pl q K f com pend false own wrote N) (hn : n < K) :
    Calls Try.prog 21 #[.pointer (some ⟨q, 0, none⟩), .int .i64 (n : Int), .slice va 512 vc] w fun e w' => e = .returned (.int .i64 15) ∧ w' = w := by
  obtain ⟨F, G, S, m, V, mt, Vt, h1, h2, h3, _⟩ := h
  exact twrite_dead n va vc w h1 hn h3
theorem commit_dead_up (h : TxUp X w0 w pd pl q K f com pend false own wrote N) :
    Calls Try.prog 23 #[.pointer (some ⟨q, 0, none⟩)] w fun e w' => e = .returned (.int .i64 15) ∧ w' = w := by
  obtain ⟨F, G, S, m, V, mt, Vt, h1, _⟩ := h
  exact commit_dead w h1
theorem abort_dead_up (h : TxUp X w0 w pd pl q K f com pend false own wrote N) :
    Calls Try.prog 16 #[.pointer (some ⟨q, 0, none⟩)] w fun e w' => e = .returned (.tuple #[]) ∧ w' = w := by
  obtain ⟨F, G, S, m, V, mt, Vt, h1, _⟩ := h
  exact abort_dead w h1
theorem begin_busy_up (h : TxUp X w0 w pd pl q K f com pend true own wrote N) :
    Calls Try.prog 20 #[.pointer (some ⟨pl, 0, none⟩)] w fun e w' => e = .returned (.tuple #[.pointer none, .int .i64 15]) ∧ w' = w := by
  obtain ⟨F, G, S, m, V, mt, Vt, h1, h2, h3, _⟩ := h
  exact begin_busy ⟨q, 0, none⟩ w h1.lk h3
theorem read_outT (n : Int) (h : TxUp X w0 w pd pl q K f com pend live own wrote N) (hn : ¬ (0 ≤ n ∧ n < K)) :
    Calls Try.prog 28 #[.pointer (some ⟨pl, 0, none⟩), .int .i64 n] w fun e w' => e = .returned (.tuple #[.slice none 0 0, .int .i64 1]) ∧ w' = w := by
  obtain ⟨F, G, S, m, V, mt, Vt, h1, _⟩ := h
  exact lread_out n w h1.lk hn
theorem pendingT (h : TxUp X w0 w pd pl q K f com pend live own wrote N) : Calls Try.prog 14 #[.pointer (some ⟨pl, 0, none⟩)] w fun e w' => e = .returned (.int .i64 (pend : Int)) ∧ w' = w := by
  obtain ⟨F, G, S, m, V, mt, Vt, h1, _⟩ := h
  exact pending_any w h1.lk.lg

/-- Memory of X was changed, and some was made. -/
theorem Nw.ref {E : Nat → Prop} (h : Nw X w0 w F G) (hc : Chg E w w') (hE : ∀ b, b < w.heap.size → E b → X b ∧ w0.heap.size ≤ b) (hF : ∀ b, F b → b < w.heap.size) (hG : ∀ b, G b → b < w.heap.size) : Nw (addX X w.heap.size w'.heap.size) w0 w' F G := by
  have hz := hc.size
  have h0 := h.chg.size
  refine ⟨h.chg.trans hc (fun i hi e => ?_), h.f, h.g, fun b hb => ?_⟩
  · have := (hE i (by omega) e).2; omega
  · rcases hb with e | e
    · exact ⟨by have := (h.x b e).1; omega, (h.x b e).2⟩
    · exact ⟨e.2, fun hf => by have := hF b hf; omega, fun hg => by have := hG b hg; omega⟩
theorem LogUp.ref {E : Nat → Prop} (h : LogUp X w0 w pd pl K f com pend N) (hc : Chg E w w') (hE : ∀ b, b < w.heap.size → E b → X b ∧ w0.heap.size ≤ b) : LogUp (addX X w.heap.size w'.heap.size) w0 w' pd pl K f com pend N := by
  obtain ⟨F, G, S, m, V, h1, h2, h3, h4, h5, h6, h7⟩ := h
  have hn : ∀ b, (F b ∨ G b) → ¬ E b := fun b hb e => by
    have hl : b < w.heap.size := by
      rcases hb with hb | hb
      · exact h1.dk.lt b hb
      · exact h1.lg.lt b hb
    have := h7.x b (hE b hl e).1
    rcases hb with hb | hb
    · exact this.2.1 hb
    · exact this.2.2 hb
  exact ⟨F, G, S, m, V, ⟨h1.dk.kept hc (fun b hb => hn b (.inl hb)), h1.lg.kept hc (fun b hb => hn b (.inr hb)), h1.no, h1.nb⟩, h2, h3, h4, h5, h6, h7.ref hc hE h1.dk.lt h1.lg.lt⟩
theorem TxUp.ref {E : Nat → Prop} (h : TxUp X w0 w pd pl q K f com pend live own wrote N) (hc : Chg E w w') (hE : ∀ b, b < w.heap.size → E b → X b ∧ w0.heap.size ≤ b) : TxUp (addX X w.heap.size w'.heap.size) w0 w' pd pl q K f com pend live own wrote N := by
  obtain ⟨F, G, S, m, V, mt, Vt, h1, h2, h3, h4, h5, h6, h7, h8⟩ := h
  have hn : ∀ b, (F b ∨ G b) → ¬ E b := fun b hb e => by
    have hl : b < w.heap.size := by
      rcases hb with hb | hb
      · exact h1.lk.dk.lt b hb
      · exact h1.lk.lg.lt b hb
    have := h7.x b (hE b hl e).1
    rcases hb with hb | hb
    · exact this.2.1 hb
    · exact this.2.2 hb
  exact ⟨F, G, S, m, V, mt, Vt, h1.keptE hc (fun b hb => hn b (.inl hb)) (fun b hb => hn b (.inr hb)), h2, h3, h4, h5, h6, h7.ref hc hE h1.lk.dk.lt h1.lk.lg.lt, h8⟩
theorem TxUp.xlt (h : TxUp X w0 w pd pl q K f com pend live own wrote N) : ∀ b, X b → b < w.heap.size := by
  obtain ⟨F, G, S, m, V, mt, Vt, h1, h2, h3, h4, h5, h6, h7, h8⟩ := h
  exact fun b hb => (h7.x b hb).1
end
end Go.Proofs.Ytkkmdmnjlncgfaa

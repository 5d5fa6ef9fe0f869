/-
  A transaction with the power on, by what it reads: Read, also out of range, and Write.
-/
import Derived.Test.YtdcmcgdalanjjaaGreatWUp
import Derived.Test.YtdcmcgdalanjjaaGreatAPool
namespace Go.Proofs.YtdcmcgdalanjjaaGreat
open Go.RowKit Go.Maps

theorem MapIs.lookOut {w : World} {m nb : Nat} {f : Nat → Option Value} (h : MapIs w m nb f) (n : Int) (hw : -9223372036854775808 ≤ n ∧ n ≤ 9223372036854775807) (hn : ¬ (0 ≤ n ∧ n < nb)) :
    (Instr.lookup 59 (.map (some m)) (.int .i64 n) true).run Tryz.prog w = .ok (.tuple #[.slice none 0 0, .bool false]) w := by
  obtain ⟨c, D, ho, hD⟩ := h
  have hkey : keyOf Tryz.prog 3 (.int .i64 n) = some (.int .i64 n) := keyOf_int_mk Tryz.underlying3 (WalkArith.wf_i64 (by omega))
  obtain ⟨v, ps, hrun, hv⟩ := ho.look_ok law3 Tryz.underlying59 (zeroB w) (show hold (.slice none 0 0) = some (.held (.slice none 0 0), []) from rfl) hkey
  have hno : Maps.has D (.int .i64 n) = false := by
    cases hh : Maps.has D (.int .i64 n) with
    | false => rfl
    | true =>
      obtain ⟨k, hk, e⟩ := hD.keys _ hh
      simp [kn] at e
      exact absurd (show 0 ≤ n ∧ n < nb by omega) hn
  rw [hrun, hno]
  have e : DataW.held v = D.atKey (.int .i64 n) (.held (.slice none 0 0)) := by simpa [hold] using congrArg (Option.map Prod.fst) hv
  rw [atKey_of_not_has hno] at e
  cases e; rfl

section
variable {F G : Nat → Prop} {pd pl q K : Nat} {S : St} {com own : Nat → Option (List Int)} {pend wrote m mt N : Nat} {live : Bool} {V Vt : Nat → Value} {X : Nat → Prop} {w0 w w' : World} {f : Nat → List Int}
set_option maxHeartbeats 1600000 in
theorem tread_out (n : Int) (w : World) (h : Tk w F G pd pl q K S com pend live own wrote m V mt Vt) (hw : -9223372036854775808 ≤ n ∧ n ≤ 9223372036854775807) (hn : ¬ (0 ≤ n ∧ n < K)) (hoff : S.off = false) :
    Calls Tryz.prog 66 #[.pointer (some ⟨q, 0, none⟩), .int .i64 n] w fun e w' => e = .returned (.tuple #[.slice none 0 0, .int .i64 1]) ∧ w' = w := by
  have HK : Hid (Tk w F G pd pl q K S com pend live own wrote m V mt Vt) := h
  have t0 := h.tx.c0
  have t1 := h.tx.c1
  have c0 := h.lk.lg.c0
  have lk := h.tx.mb.map.lookOut n hw hn
  have HN : Hid (¬ (0 ≤ n ∧ n < K)) := hn
  clear h hn hw
  go_enter Tryz.func66, Tryz.ntmps66
  go_wp2_with fail
  refine (off_any F pd S w HK.out.lk.dk).mono ?_
  rintro e w2 ⟨rfl, rfl⟩
  rw [hoff]
  go_wp2_with fail
  refine (lread_out n w2 HK.out.lk HN.out).mono ?_
  rintro e w3 ⟨rfl, rfl⟩
  clear HK
  go_wp2
  go_ret2
  exact ⟨rfl, rfl⟩
theorem tread_out_up (n : Int) (h : TxUp X w0 w pd pl q K f com pend live own wrote N) (hw : -9223372036854775808 ≤ n ∧ n ≤ 9223372036854775807) (hn : ¬ (0 ≤ n ∧ n < K)) :
    Calls Tryz.prog 66 #[.pointer (some ⟨q, 0, none⟩), .int .i64 n] w fun e w' => e = .returned (.tuple #[.slice none 0 0, .int .i64 1]) ∧ w' = w := by
  obtain ⟨F, G, S, m, V, mt, Vt, h1, h2, h3, _⟩ := h
  exact tread_out n w h1 hw hn h3
end

/-- A transaction by what it reads: V; f lasts, com was committed; it can write all blocks of the log. -/
def Tv (X : Nat → Prop) (w0 w : World) (pd pl q K : Nat) (f : Nat → List Int) (com : Nat → Option (List Int)) (pend N : Nat) (V : Nat → List Int) : Prop :=
  ∃ own wrote, TxUp X w0 w pd pl q K f com pend true own wrote N ∧ (∀ n, ovr (ovr f com) own n = V n) ∧ N < 1000000000 ∧ K ≤ 62
section
variable {X X' : Nat → Prop} {w0 w w' w1 : World} {pd pl q K : Nat} {f : Nat → List Int} {com : Nat → Option (List Int)} {pend N : Nat} {V : Nat → List Int}
theorem Tv.more (h : Tv X w0 w pd pl q K f com pend N V) (hc : Chg (fun _ => False) w w') : Tv X w0 w' pd pl q K f com pend N V := by
  obtain ⟨own, wrote, h1, h2⟩ := h
  exact ⟨own, wrote, h1.more hc, h2⟩
theorem Tv.add (h : Tv X w0 w pd pl q K f com pend N V) (hc : Chg (fun _ => False) w w') : Tv (addX X w.heap.size w'.heap.size) w0 w' pd pl q K f com pend N V := by
  obtain ⟨own, wrote, h1, h2⟩ := h
  exact ⟨own, wrote, h1.add hc, h2⟩
theorem Tv.less (h : Tv X w0 w pd pl q K f com pend N V) (hx : ∀ b, X' b → X b) : Tv X' w0 w pd pl q K f com pend N V := by
  obtain ⟨own, wrote, h1, h2⟩ := h
  exact ⟨own, wrote, h1.less hx, h2⟩
theorem Tv.chg (h : Tv X w0 w pd pl q K f com pend N V) : Chg (fun _ => False) w0 w := by
  obtain ⟨own, wrote, h1, h2⟩ := h
  exact h1.chg
theorem Tv.xlt (h : Tv X w0 w pd pl q K f com pend N V) : ∀ b, X b → b < w.heap.size := by
  obtain ⟨own, wrote, ⟨F, G, S, m, Vv, mt, Vt, h1, h2, h3, h4, h5, h6, h7, h8⟩, _⟩ := h
  exact fun b hb => (h7.x b hb).1
theorem Tv.start (h : TxUp X w0 w pd pl q K f com pend true (fun _ => none) 0 N) (hN : N < 1000000000) (hK : K ≤ 62) : Tv X w0 w pd pl q K f com pend N (ovr f com) :=
  ⟨_, _, h, fun _ => ovr_none rfl, hN, hK⟩
theorem Tv.len (h : Tv X w0 w pd pl q K f com pend N V) {n : Nat} (hn : n < K) : (V n).length = 512 := by
  obtain ⟨own, wrote, h1, h2, _, _⟩ := h
  rw [← h2 n]
  have hl := h1.lt n
  cases ho : own n with
  | some b => rw [ovr_some ho]; exact (hl b ho).2
  | none =>
    rw [ovr_none ho]
    obtain ⟨F, G, S, m, Vv, mt, Vt, h3, h4, h5, h6, h7, h8, h9, h10⟩ := h1
    cases hc : com n with
    | some b => rw [ovr_some hc]; exact (h3.lk.lg.mb.row n b hc).2.1
    | none =>
      rw [ovr_none hc, ← h4.last hn]
      exact St.last_len h4.wf (by have := h4.nb; omega)
theorem ks_le (K : Nat) (own : Nat → Option (List Int)) : (ks K own).length ≤ K := by
  unfold ks
  exact Nat.le_trans (List.length_filter_le _ _) (by simp)
theorem tv_read (n : Nat) (h : Tv X w0 w pd pl q K f com pend N V) (hn : n < K) :
    Calls Tryz.prog 66 #[.pointer (some ⟨q, 0, none⟩), .int .i64 (n : Int)] w fun e w' => ∃ u, e = .returned (.tuple #[u, .int .i64 0]) ∧ Fresh w w' u (V n) := by
  obtain ⟨own, wrote, h1, h2, h3, _⟩ := h
  rw [← h2 n]
  exact tread_up n h1 hn h3
theorem tv_read_out (n : Int) (h : Tv X w0 w pd pl q K f com pend N V) (hw : -9223372036854775808 ≤ n ∧ n ≤ 9223372036854775807) (hn : ¬ (0 ≤ n ∧ n < K)) :
    Calls Tryz.prog 66 #[.pointer (some ⟨q, 0, none⟩), .int .i64 n] w fun e w' => e = .returned (.tuple #[.slice none 0 0, .int .i64 1]) ∧ w' = w := by
  obtain ⟨own, wrote, h1, h2, h3, _⟩ := h
  exact tread_out_up n h1 hw hn
theorem tv_write (n : Nat) (bs : List Int) (ua : Option Addr) (uc : Nat) (h : Tv X w0 w1 pd pl q K f com pend N V) (hb : NewB w1 w (.slice ua 512 uc) bs) (hl : bs.length = 512) (hn : n < K) :
    Calls Tryz.prog 70 #[.pointer (some ⟨q, 0, none⟩), .int .i64 (n : Int), .slice ua 512 uc] w fun e w' => e = .returned (.int .i64 0) ∧ Tv X w0 w' pd pl q K f com pend N (upd V n bs) ∧ Sm X w w' := by
  obtain ⟨own, wrote, h1, h2, h3, h4⟩ := h
  have hi := h1.inv
  have hk := ks_le K own
  refine (write_up n bs ua uc h1 hb hl hn (.inr (by omega))).mono ?_
  rintro e w' ⟨rfl, ht, hs⟩
  refine ⟨rfl, ⟨_, _, ht, fun k => ?_, h3, h4⟩, hs⟩
  by_cases e : k = n
  · subst e; rw [upd_same]; exact ovr_some (upd_same _ _ _)
  · rw [upd_other _ _ e, ← h2 k]; unfold ovr; rw [upd_other _ _ e]
end
end Go.Proofs.YtdcmcgdalanjjaaGreat

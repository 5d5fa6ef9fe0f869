/-
  AllocApart answers true for every two numbers and every slice of bools.
-/
import Derived.Test.YtdcmcgdalanjjaaGreatAFree2
namespace Go.Proofs.YtdcmcgdalanjjaaGreat
open Go.RowKit Go.Maps

/-- v is a slice of bools that reads ts. -/
def Bo (w : World) (v : Value) (ts : List Bool) : Prop :=
  (v = .slice none 0 0 ∧ ts = []) ∨
  ∃ a c, v = .slice (some a) ts.length c ∧ ts.length ≤ c ∧ c ≤ maxLen ∧ ∀ j, j < ts.length → w.cell? (a.add j) = some (.bool (ts.getD j false))
theorem Bo.kept {w w' : World} {v : Value} {ts : List Bool} (h : Bo w v ts) (hc : Chg (fun _ => False) w w') : Bo w' v ts := by
  rcases h with h | ⟨a, c, rfl, h1, h2, h3⟩
  · exact .inl h
  · exact .inr ⟨a, c, rfl, h1, h2, fun j hj => hc.cell (h3 j hj) (fun h => h)⟩
theorem Bo.form {w : World} {v : Value} {ts : List Bool} (h : Bo w v ts) : ∃ a c, v = .slice a ts.length c ∧ ts.length ≤ c := by
  rcases h with ⟨rfl, rfl⟩ | ⟨a, c, rfl, h1, _⟩
  · exact ⟨none, 0, rfl, Nat.le_refl _⟩
  · exact ⟨some a, c, rfl, h1⟩
theorem Bo.nth {w : World} {va : Option Addr} {ts : List Bool} {c j : Nat} (h : Bo w (.slice va ts.length c) ts) (hj : j < ts.length) : ∃ b off, va = some ⟨b, off, none⟩ ∧ ∀ i, i < ts.length → w.cell? ⟨b, off + i, none⟩ = some (.bool (ts.getD i false)) := by
  rcases h with ⟨_, rfl⟩ | ⟨x, c', e, _, _, hcell⟩
  · simp at hj
  · simp at e
    obtain ⟨rfl, _⟩ := e
    obtain ⟨b, off, spot⟩ := x
    have h0 := hcell 0 (by omega)
    have hspot : spot = none := by simpa [Addr.add] using World.cell?_spot h0
    subst hspot
    refine ⟨b, off, rfl, fun k hk => ?_⟩
    have := hcell k hk
    unfold Addr.add at this
    split at this
    · rename_i e; subst e; simpa using this
    · exact this

/-- Two pools side by side, a of the one, b of the other being taken. -/
def Ap (X : Nat → Prop) (w0 w : World) (pd pl q B1 B2 n m a b : Nat) : Prop :=
  ∃ V, Tv X w0 w pd pl q 35 (fun _ => zeros 512) (fun _ => none) 0 37 V ∧ Bt V 0 n (fun k => decide (k < a)) ∧ Bt V 1 m (fun k => decide (k < b)) ∧ PAt w B1 0 10 n ∧ PAt w B2 1 ((10 + n : Nat) : Int) m ∧ X B1 ∧ X B2 ∧ a ≤ n ∧ b ≤ m
section
variable {X : Nat → Prop} {w0 w w' : World} {pd pl q B1 B2 n m a b : Nat}
theorem upd_lt (a : Nat) (k : Nat) : upd (fun k => decide (k < a)) a true k = decide (k < a + 1) := by
  by_cases e : k = a
  · subst e; rw [upd_same]; simp
  · rw [upd_other _ _ e]; simp; omega
theorem cntT_lt (a n : Nat) (h : a ≤ n) : cntT (fun k => decide (k < a)) n = a := by
  obtain ⟨d, rfl⟩ : ∃ d, n = a + d := ⟨n - a, by omega⟩
  rw [cntT_add, cntT_all (fun k hk => by simpa using hk), cntT_none (fun k _ => by simp)]
  rfl
theorem pr1 (h1 : 1 ≤ n) (h2 : n ≤ 60) : Pr 0 10 n 35 := ⟨by decide, h1, by omega, by unfold mapsN; omega⟩
theorem pr2 (h2 : n ≤ 60) (h3 : 1 ≤ m) (h4 : m ≤ 60) : Pr 1 (10 + n) m 35 := ⟨by omega, h3, by omega, by unfold mapsN; omega⟩
theorem Ap.more (h : Ap X w0 w pd pl q B1 B2 n m a b) (hc : Chg (fun _ => False) w w') : Ap X w0 w' pd pl q B1 B2 n m a b := by
  obtain ⟨V, h1, h2, h3, h4, h5, h6⟩ := h
  exact ⟨V, h1.more hc, h2, h3, h4.kept hc (fun h => h), h5.kept hc (fun h => h), h6⟩
theorem Ap.chg (h : Ap X w0 w pd pl q B1 B2 n m a b) : Chg (fun _ => False) w0 w := by
  obtain ⟨V, h1, _⟩ := h
  exact h1.chg
theorem ap_take1 (h : Ap X w0 w pd pl q B1 B2 n m a b) (h1 : 1 ≤ n) (h2 : n ≤ 60) (_h4 : m ≤ 60) (ha : a < n) :
    Calls Tryz.prog 12 #[PV 0 10 n, .pointer (some ⟨q, 0, none⟩)] w fun e w' => e = .returned (.tuple #[.int .i64 (10 + (a : Int)), .int .i64 0]) ∧ Ap X w0 w' pd pl q B1 B2 n m (a + 1) b := by
  obtain ⟨V, t, b1, b2, p1, p2, x1, x2, la, lb⟩ := h
  rw [show 10 + (a : Int) = ((10 + a : Nat) : Int) by omega]
  refine (take_ok 0 10 n a t (pr1 h1 h2) b1 ha (by simp) (fun j hj => by simpa using hj)).mono ?_
  rintro e w' ⟨rfl, V', t', b1', he, hs⟩
  exact ⟨rfl, V', t', b1'.ext (fun k _ => upd_lt a k), b2.same (fun i _ => he _ (.inr (by unfold mapsN; omega))), p1.sm hs x1, p2.sm hs x2, x1, x2, ha, lb⟩
theorem ap_take2 (h : Ap X w0 w pd pl q B1 B2 n m a b) (h1 : 1 ≤ n) (h2 : n ≤ 60) (h3 : 1 ≤ m) (h4 : m ≤ 60) (hb : b < m) :
    Calls Tryz.prog 12 #[PV 1 ((10 + n : Nat) : Int) m, .pointer (some ⟨q, 0, none⟩)] w fun e w' => e = .returned (.tuple #[.int .i64 (10 + (n : Int) + (b : Int)), .int .i64 0]) ∧ Ap X w0 w' pd pl q B1 B2 n m a (b + 1) := by
  obtain ⟨V, t, b1, b2, p1, p2, x1, x2, la, lb⟩ := h
  rw [show 10 + (n : Int) + (b : Int) = ((10 + n + b : Nat) : Int) by omega]
  refine (take_ok 1 (10 + n) m b t (pr2 h2 h3 h4) b2 hb (by simp) (fun j hj => by simpa using hj)).mono ?_
  rintro e w' ⟨rfl, V', t', b2', he, hs⟩
  exact ⟨rfl, V', t', b1.same (fun i hi => he _ (.inl (by unfold mapsN at hi; omega))), b2'.ext (fun k _ => upd_lt b k), p1.sm hs x1, p2.sm hs x2, x1, x2, la, hb⟩
theorem ap_full1 (h : Ap X w0 w pd pl q B1 B2 n m a b) (h1 : 1 ≤ n) (h2 : n ≤ 60) (ha : ¬ a < n) :
    Calls Tryz.prog 12 #[PV 0 10 n, .pointer (some ⟨q, 0, none⟩)] w fun e w' => e = .returned (.tuple #[.int .i64 0, .int .i64 7]) ∧ Ap X w0 w' pd pl q B1 B2 n m a b := by
  have h' := h
  obtain ⟨V, t, b1, b2, p1, p2, x1, x2, la, lb⟩ := h
  refine (take_full 0 10 n t (pr1 h1 h2) b1 (fun j hj => by simp; omega)).mono ?_
  rintro e w' ⟨rfl, hc⟩
  exact ⟨rfl, h'.more hc⟩
theorem ap_full2 (h : Ap X w0 w pd pl q B1 B2 n m a b) (h2 : n ≤ 60) (h3 : 1 ≤ m) (h4 : m ≤ 60) (hb : ¬ b < m) :
    Calls Tryz.prog 12 #[PV 1 ((10 + n : Nat) : Int) m, .pointer (some ⟨q, 0, none⟩)] w fun e w' => e = .returned (.tuple #[.int .i64 0, .int .i64 7]) ∧ Ap X w0 w' pd pl q B1 B2 n m a b := by
  have h' := h
  obtain ⟨V, t, b1, b2, p1, p2, x1, x2, la, lb⟩ := h
  refine (take_full 1 (10 + n) m t (pr2 h2 h3 h4) b2 (fun j hj => by simp; omega)).mono ?_
  rintro e w' ⟨rfl, hc⟩
  exact ⟨rfl, h'.more hc⟩
theorem ap_free1 (h : Ap X w0 w pd pl q B1 B2 n m a b) (h1 : 1 ≤ n) (h2 : n ≤ 60) :
    Calls Tryz.prog 13 #[PV 0 10 n, .pointer (some ⟨q, 0, none⟩)] w fun e w' => e = .returned (.tuple #[.int .i64 ((n : Int) - (a : Int)), .int .i64 0]) ∧ Ap X w0 w' pd pl q B1 B2 n m a b := by
  have h' := h
  obtain ⟨V, t, b1, b2, p1, p2, x1, x2, la, lb⟩ := h
  have := free_ok 0 10 n t (pr1 h1 h2) b1
  rw [cntT_lt a n la] at this
  rw [show (n : Int) - (a : Int) = ((n - a : Nat) : Int) by omega]
  refine this.mono ?_
  rintro e w' ⟨rfl, hc⟩
  exact ⟨rfl, h'.more hc⟩
theorem ap_free2 (h : Ap X w0 w pd pl q B1 B2 n m a b) (h2 : n ≤ 60) (h3 : 1 ≤ m) (h4 : m ≤ 60) :
    Calls Tryz.prog 13 #[PV 1 ((10 + n : Nat) : Int) m, .pointer (some ⟨q, 0, none⟩)] w fun e w' => e = .returned (.tuple #[.int .i64 ((m : Int) - (b : Int)), .int .i64 0]) ∧ Ap X w0 w' pd pl q B1 B2 n m a b := by
  have h' := h
  obtain ⟨V, t, b1, b2, p1, p2, x1, x2, la, lb⟩ := h
  have := free_ok 1 (10 + n) m t (pr2 h2 h3 h4) b2
  rw [cntT_lt b m lb] at this
  rw [show (m : Int) - (b : Int) = ((m - b : Nat) : Int) by omega]
  refine this.mono ?_
  rintro e w' ⟨rfl, hc⟩
  exact ⟨rfl, h'.more hc⟩
theorem Ap.at1 (h : Ap X w0 w pd pl q B1 B2 n m a b) : PAt w B1 0 10 n := by obtain ⟨V, t, b1, b2, p1, p2, _⟩ := h; exact p1
theorem Ap.at2 (h : Ap X w0 w pd pl q B1 B2 n m a b) : PAt w B2 1 ((10 + n : Nat) : Int) m := by obtain ⟨V, t, b1, b2, p1, p2, _⟩ := h; exact p2
theorem Ap.le (h : Ap X w0 w pd pl q B1 B2 n m a b) : a ≤ n ∧ b ≤ m := by obtain ⟨V, t, b1, b2, p1, p2, x1, x2, la, lb⟩ := h; exact ⟨la, lb⟩
/-- Clear of both: the beginning. -/
theorem ap_start (h : Tv X w0 w pd pl q 35 (fun _ => zeros 512) (fun _ => none) 0 37 (fun _ => zeros 512)) (p1 : PAt w B1 0 10 n) (p2 : PAt w B2 1 ((10 + n : Nat) : Int) m) (x1 : X B1) (x2 : X B2) (h1 : 1 ≤ n) (h2 : n ≤ 60) (h3 : 1 ≤ m) (h4 : m ≤ 60) :
    Calls Tryz.prog 15 #[PV 0 10 n, .pointer (some ⟨q, 0, none⟩)] w fun e w1 => e = .returned (.int .i64 0) ∧ PAt w1 B2 1 ((10 + n : Nat) : Int) m ∧ Hid (Calls Tryz.prog 15 #[PV 1 ((10 + n : Nat) : Int) m, .pointer (some ⟨q, 0, none⟩)] w1 fun e w2 => e = .returned (.int .i64 0) ∧ Hid (Ap X w0 w2 pd pl q B1 B2 n m 0 0)) := by
  refine (pclear_ok 0 10 n h (pr1 h1 h2)).mono ?_
  rintro e w1 ⟨rfl, V1, t1, b1, e1, s1⟩
  refine ⟨rfl, p2.sm s1 x2, (pclear_ok 1 (10 + n) m t1 (pr2 h2 h3 h4)).mono ?_⟩
  rintro e w2 ⟨rfl, V2, t2, b2, e2, s2⟩
  exact ⟨rfl, V2, t2, (b1.same (fun i hi => e2 _ (.inl (by unfold mapsN at hi; omega)))).ext (fun k _ => by simp), b2.ext (fun k _ => by simp), (p1.sm s1 x1).sm s2 x1, (p2.sm s1 x2).sm s2 x2, x1, x2, Nat.zero_le _, Nat.zero_le _⟩
end

end Go.Proofs.YtdcmcgdalanjjaaGreat

namespace Go.Proofs.YtdcmcgdalanjjaaGreat
open Go.RowKit Go.Maps

section
variable {X : Nat → Prop} {w0 w w' : World} {pd pl q K B M F n : Nat} {f : Nat → List Int} {com : Nat → Option (List Int)} {pend N : Nat} {V : Nat → List Int} {T : Nat → Bool}
theorem tv_commit (h : Tv X w0 w pd pl q K f com pend N V) (hp : pend < 1000000000) :
    Calls Tryz.prog 17 #[.pointer (some ⟨q, 0, none⟩)] w fun e w' => e = .returned (.int .i64 0) ∧ ∃ f' com' pend', LogUp X w0 w' pd pl K f' com' pend' (N + 128) ∧ Sm X w w' ∧ (∀ n, ovr f' com' n = V n) ∧ pend' ≤ pend + 1 ∧ ((∀ n, com n = none) → ∀ n, f' n = f n) := by
  obtain ⟨own, wrote, h1, h2, h3, h4⟩ := h
  refine (commit_up h1 h3 hp).mono ?_
  rintro e w' ⟨rfl, f', com', pend', ht, hs, hv, hr⟩
  refine ⟨rfl, f', com', pend', ht.log, hs, fun n => (hv n).trans (h2 n), ?_, fun hc n => ?_⟩
  · rcases hr with ⟨e, _⟩ | ⟨e, _⟩ <;> omega
  · rcases hr with ⟨_, rfl, _⟩ | ⟨_, rfl, _⟩
    · rfl
    · exact ovr_none (hc n)
theorem tv_abort (h : Tv X w0 w pd pl q K f com pend N V) :
    Calls Tryz.prog 23 #[.pointer (some ⟨q, 0, none⟩)] w fun e w' => e = .returned (.tuple #[]) ∧ LogUp X w0 w' pd pl K f com pend N ∧ Sm X w w' := by
  obtain ⟨own, wrote, h1, h2, h3, h4⟩ := h
  refine (abort_up h1).mono ?_
  rintro e w' ⟨rfl, ht, hs⟩
  exact ⟨rfl, ht.log, hs⟩
theorem tv_begin (h : LogUp X w0 w pd pl K f com pend N) (hN : N < 1000000000) (hK : K ≤ 62) :
    Calls Tryz.prog 18 #[.pointer (some ⟨pl, 0, none⟩)] w fun e w' => ∃ q, e = .returned (.tuple #[.pointer (some ⟨q, 0, none⟩), .int .i64 0]) ∧ Tv X w0 w' pd pl q K f com pend N (ovr f com) ∧ Sm X w w' := by
  refine (begin_up h).mono ?_
  rintro e w' ⟨q, rfl, ht, hs⟩
  exact ⟨q, rfl, Tv.start ht hN hK, hs⟩
end


section
variable {X : Nat → Prop} {w0 w w' : World} {pd pl q K B M F n : Nat} {f : Nat → List Int} {com : Nat → Option (List Int)} {pend N : Nat} {V : Nat → List Int} {T U : Nat → Bool}
/-- Commit, Sync, Begin. -/
theorem lasts_mid (h : Pq X w0 w pd pl q K f com pend N B M F n T) (hN : N < 100000) (hpd : pend < 100000) :
    Calls Tryz.prog 17 #[.pointer (some ⟨q, 0, none⟩)] w fun e w1 => e = .returned (.int .i64 0) ∧ Hid (Calls Tryz.prog 27 #[.pointer (some ⟨pl, 0, none⟩)] w1 fun e w2 => e = .returned (.int .i64 0) ∧
      Hid (Calls Tryz.prog 18 #[.pointer (some ⟨pl, 0, none⟩)] w2 fun e w3 => ∃ q2, e = .returned (.tuple #[.pointer (some ⟨q2, 0, none⟩), .int .i64 0]) ∧ Hid (∃ f2, Bt f2 M n T ∧ Pq X w0 w3 pd pl q2 K f2 (fun _ => none) 0 (N + 256) B M F n T))) := by
  obtain ⟨V, t, b, a, x, p⟩ := h
  have hK : K ≤ 62 := by obtain ⟨_, _, _, _, _, h⟩ := t; exact h
  refine (tv_commit t (by omega)).mono ?_
  rintro e w1 ⟨rfl, f1, com1, pend1, l1, s1, v1, hp1, _⟩
  refine ⟨rfl, (sync_up l1 (by omega)).mono ?_⟩
  rintro e w2 ⟨rfl, l2, s2⟩
  refine ⟨rfl, (tv_begin l2 (by omega) hK).mono ?_⟩
  rintro e w3 ⟨q2, rfl, t3, s3⟩
  have b2 : Bt (ovr f1 com1) M n T := b.same (fun i _ => v1 _)
  exact ⟨q2, rfl, _, b2, _, t3, b2.same (fun i _ => ovr_none rfl), ((a.sm s1 x).sm s2 x).sm s3 x, x, p⟩
/-- The power goes, comes; opened, begun: what lasts is there. -/
theorem lasts_tail (h : LogUp X w0 w pd pl K f com pend N) (hb : Bt f M n T) (ha : PAt w B M F n) (hx : X B) (hp : Pr M F n K) (hN : N < 100000) (hK1 : 1 ≤ K) (hK : K ≤ 62) :
    Calls Tryz.prog 28 #[.pointer (some ⟨pd, 0, none⟩), .slice none 0 0] w fun e w1 => e = .returned (.tuple #[]) ∧ Hid (Calls Tryz.prog 29 #[.pointer (some ⟨pd, 0, none⟩)] w1 fun e w2 => e = .returned (.tuple #[]) ∧
      Hid (Calls Tryz.prog 30 #[.pointer (some ⟨pd, 0, none⟩)] w2 fun e w3 => ∃ pl2, e = .returned (.tuple #[.pointer (some ⟨pl2, 0, none⟩), .int .i64 0]) ∧
        Hid (Calls Tryz.prog 18 #[.pointer (some ⟨pl2, 0, none⟩)] w3 fun e w4 => ∃ q2, e = .returned (.tuple #[.pointer (some ⟨q2, 0, none⟩), .int .i64 0]) ∧ PAt w4 B M F n ∧
          Hid (Calls Tryz.prog 13 #[PV M F n, .pointer (some ⟨q2, 0, none⟩)] w4 fun e w5 => e = .returned (.tuple #[.int .i64 ((n - cntT T n : Nat) : Int), .int .i64 0]) ∧ Hid (Chg (fun _ => False) w0 w5))))) := by
  refine (cut_up (.slice none 0 0) [] h (.inl ⟨rfl, rfl⟩) (fun h => absurd rfl h) (by omega)).mono ?_
  rintro e w1 ⟨rfl, d1, s1⟩
  refine ⟨rfl, (on_up d1).mono ?_⟩
  rintro e w2 ⟨rfl, d2, s2⟩
  refine ⟨rfl, (open_up hK1 d2 (by omega)).mono ?_⟩
  rintro e w3 ⟨pl2, rfl, l3, s3⟩
  refine ⟨pl2, rfl, (tv_begin l3 (by omega) hK).mono ?_⟩
  rintro e w4 ⟨q2, rfl, t4, s4⟩
  have a4 := (((ha.sm s1 hx).sm s2 hx).sm s3 hx).sm s4 hx
  refine ⟨q2, rfl, a4, (free_ok M F n t4 hp (hb.same (fun i _ => ovr_none rfl))).mono ?_⟩
  rintro e w5 ⟨rfl, hc⟩
  exact ⟨rfl, t4.chg.trans hc (fun _ _ h => h)⟩
/-- Commit or Abort of the second transaction: what lasts is as it was. -/
theorem lasts_commit (h : Pq X w0 w pd pl q K f (fun _ => none) pend N B M F n U) (hb : Bt f M n T) (_hN : N < 10000) (hpd : pend < 10000) :
    Calls Tryz.prog 17 #[.pointer (some ⟨q, 0, none⟩)] w fun e w1 => e = .returned (.int .i64 0) ∧ Hid (∃ f2 com2 pend2, LogUp X w0 w1 pd pl K f2 com2 pend2 (N + 128) ∧ Bt f2 M n T ∧ PAt w1 B M F n) := by
  obtain ⟨V, t, b, a, x, p⟩ := h
  refine (tv_commit t (by omega)).mono ?_
  rintro e w1 ⟨rfl, f1, com1, pend1, l1, s1, v1, hp1, hf⟩
  exact ⟨rfl, f1, com1, pend1, l1, hb.same (fun i _ => hf (fun _ => rfl) _), a.sm s1 x⟩
theorem lasts_abort (h : Pq X w0 w pd pl q K f (fun _ => none) pend N B M F n U) (hb : Bt f M n T) :
    Calls Tryz.prog 23 #[.pointer (some ⟨q, 0, none⟩)] w fun e w1 => e = .returned (.tuple #[]) ∧ Hid (∃ f2 com2 pend2, LogUp X w0 w1 pd pl K f2 com2 pend2 (N + 128) ∧ Bt f2 M n T ∧ PAt w1 B M F n) := by
  obtain ⟨V, t, b, a, x, p⟩ := h
  refine (tv_abort t).mono ?_
  rintro e w1 ⟨rfl, l1, s1⟩
  exact ⟨rfl, f, _, pend, l1.mono (by omega), hb, a.sm s1 x⟩
end
set_option maxHeartbeats 6400000 in
set_option maxRecDepth 100000 in
theorem law_lasts (n t m : Int) (ab : Bool) (w : World) :
    Calls Tryz.prog 4 #[.int .i64 n, .int .i64 t, .int .i64 m, .bool ab] w fun e w' => e = .returned (.bool true) ∧ Chg (fun _ => False) w w' := by
  have KN : Hid (Calls Tryz.prog 5 #[] w fun e w' => e = .returned (.bool true) ∧ Hid (Chg (fun _ => False) w w')) := (known_any w).mono (by rintro e w' ⟨rfl, h⟩; exact ⟨rfl, h⟩)
  by_cases g1 : n < 1
  · have k1 : decide (n < 1) = true := by simpa using g1
    go_enter Tryz.func4, Tryz.ntmps4
    go_wp2_with fail
    refine KN.out.mono ?_
    rintro e w1 ⟨rfl, HC⟩
    go_wp2
    go_ret
    exact ⟨rfl, HC.out⟩
  have k1 : decide (n < 1) = false := by simpa using g1
  by_cases g2 : 200 < n
  · have k2 : decide (200 < n) = true := by simpa using g2
    go_enter Tryz.func4, Tryz.ntmps4
    go_wp2_with fail
    refine KN.out.mono ?_
    rintro e w1 ⟨rfl, HC⟩
    go_wp2
    go_ret
    exact ⟨rfl, HC.out⟩
  have k2 : decide (200 < n) = false := by simpa using g2
  by_cases g3 : t < 0
  · have k3 : decide (t < 0) = true := by simpa using g3
    go_enter Tryz.func4, Tryz.ntmps4
    go_wp2_with fail
    refine KN.out.mono ?_
    rintro e w1 ⟨rfl, HC⟩
    go_wp2
    go_ret
    exact ⟨rfl, HC.out⟩
  have k3 : decide (t < 0) = false := by simpa using g3
  by_cases g4 : n < t
  · have k4 : decide (n < t) = true := by simpa using g4
    go_enter Tryz.func4, Tryz.ntmps4
    go_wp2_with fail
    refine KN.out.mono ?_
    rintro e w1 ⟨rfl, HC⟩
    go_wp2
    go_ret
    exact ⟨rfl, HC.out⟩
  have k4 : decide (n < t) = false := by simpa using g4
  by_cases g5 : m < 0
  · have k5 : decide (m < 0) = true := by simpa using g5
    go_enter Tryz.func4, Tryz.ntmps4
    go_wp2_with fail
    refine KN.out.mono ?_
    rintro e w1 ⟨rfl, HC⟩
    go_wp2
    go_ret
    exact ⟨rfl, HC.out⟩
  have k5 : decide (m < 0) = false := by simpa using g5
  by_cases g6 : n - t < m
  · have k6 : decide (n - t < m) = true := by simpa using g6
    go_enter Tryz.func4, Tryz.ntmps4
    go_wp2_with fail
    refine KN.out.mono ?_
    rintro e w1 ⟨rfl, HC⟩
    go_wp2
    go_ret
    exact ⟨rfl, HC.out⟩
  have k6 : decide (n - t < m) = false := by simpa using g6
  obtain ⟨n, rfl⟩ : ∃ n' : Nat, n = (n' : Int) := ⟨n.toNat, by omega⟩
  obtain ⟨t, rfl⟩ : ∃ t' : Nat, t = (t' : Int) := ⟨t.toNat, by omega⟩
  obtain ⟨m, rfl⟩ : ∃ m' : Nat, m = (m' : Int) := ⟨m.toNat, by omega⟩
  have n1 : 1 ≤ n := by omega
  have n2 : n ≤ 200 := by omega
  have tn : t ≤ n := by omega
  have mn : t + m ≤ n := by omega
  have hpr : Pr 1 3 n 35 := ⟨by decide, n1, by omega, by unfold mapsN; omega⟩
  have HPR : Hid (Pr 1 3 n 35) := hpr
  clear g1 g2 g3 g4 g5 g6 hpr
  go_enter Tryz.func4, Tryz.ntmps4
  go_wp2_with fail
  refine KN.out.mono ?_
  clear KN
  rintro e w1 ⟨rfl, HC⟩
  go_wp2_with fail
  refine (new_ok 100 w1 (by decide) (by decide)).mono ?_
  rintro e w2 ⟨F, pd, rfl, hd, hc2, hF⟩
  have H2 : Hid (Dk w2 F pd (St.new 100) ∧ Nw (fun b => b < w1.heap.size) w1 w2 F (fun _ => False)) := ⟨hd, Nw.ofNew hc2 hF⟩
  clear hd hc2 hF
  go_wp2_with fail
  refine (format_up (N := 37) (K := 35) F (St.new 100) H2.out.1 H2.out.2 (fun _ => rfl) rfl (by decide) rfl (by decide) (by decide) (by decide)).mono ?_
  rintro e w3 ⟨pl, rfl, h3, _⟩
  have hq := eqL_some ⟨pl, 0, none⟩
  have h4 := h3.add (Chg.alloc (fun _ => False) w3 (PO 1 3 n))
  have x4 := box_in (fun b => b < w1.heap.size) w3 (PO 1 3 n)
  obtain ⟨X, hX⟩ : ∃ X, addX (fun b => b < w1.heap.size) w3.heap.size (w3.alloc (PO 1 3 n)).heap.size = X := ⟨_, rfl⟩
  rw [hX] at h4 x4
  have BG : Hid (Calls Tryz.prog 18 #[.pointer (some ⟨pl, 0, none⟩)] (w3.alloc (PO 1 3 n)) fun e w' => ∃ q, e = .returned (.tuple #[.pointer (some ⟨q, 0, none⟩), .int .i64 0]) ∧ PAt w' w3.heap.size 1 3 n ∧ Hid (Tv X w1 w' pd pl q 35 (fun _ => zeros 512) (fun _ => none) 0 37 (fun _ => zeros 512))) := (tv_begin h4 (by decide) (by decide)).mono (by
    rintro e w' ⟨q, rfl, ht, hs⟩
    exact ⟨q, rfl, (PAt.box w3 1 3 n).sm hs x4, ht⟩)
  have HX : Hid (X w3.heap.size) := x4
  clear h3 h4 x4 hX H2
  unfold PO at BG
  go_wp2_with fail
  refine BG.out.mono ?_
  clear BG
  rintro e w5 ⟨q, rfl, hb5, HT⟩
  have CL : Hid (Calls Tryz.prog 15 #[PV 1 3 n, .pointer (some ⟨q, 0, none⟩)] w5 fun e w' => e = .returned (.int .i64 0) ∧ Hid (Pq X w1 w' pd pl q 35 (fun _ => zeros 512) (fun _ => none) 0 37 w3.heap.size 1 3 n (fun k => decide (k < 0)))) := (tv_clear HT.out hb5 HX.out HPR.out).mono (by
    rintro e w' ⟨rfl, hp, _⟩
    exact ⟨rfl, hp.ext (fun k _ => by simp)⟩)
  have p0 := hb5.c0
  have p1 := hb5.c1
  have p2 := hb5.c2
  have hq2 := eqT_some ⟨q, 0, none⟩
  clear hb5 HT
  unfold PV at CL
  go_wp2_with fail
  refine CL.out.mono ?_
  clear CL p0 p1 p2
  rintro e w6 ⟨rfl, H6⟩
  go_wp2
  go_loopw [16] (fun x wr => ∃ i, i ≤ t ∧ x = .int .i64 ((i : Nat) : Int) ∧ Hid (Pq X w1 wr pd pl q 35 (fun _ => zeros 512) (fun _ => none) 0 37 w3.heap.size 1 3 n (fun k => decide (k < i)))) (fun x _ => t - (intOf x).toNat)
  case atStart => exact ⟨0, by omega, rfl, H6⟩
  case round =>
    obtain ⟨i, hi, rfl, HR⟩ := hrel
    clear H6
    have hbr := HR.out.at
    have p0 := hbr.c0
    have p1 := hbr.c1
    have p2 := hbr.c2
    by_cases hit : i < t
    · have kit : (i : Int) < (t : Int) := by omega
      have TK : Hid (Calls Tryz.prog 12 #[PV 1 3 n, .pointer (some ⟨q, 0, none⟩)] wr fun e w' => (∃ u, e = .returned u) ∧ Hid (Pq X w1 w' pd pl q 35 (fun _ => zeros 512) (fun _ => none) 0 37 w3.heap.size 1 3 n (fun k => decide (k < i + 1)))) := (pq_take i HR.out (by omega) (by simp) (fun j hj => by simpa using hj)).mono (by
        rintro e w' ⟨rfl, hp, _⟩
        exact ⟨⟨_, rfl⟩, hp.ext (fun k _ => upd_lt i k)⟩)
      clear HR hbr
      unfold PV at TK
      go_wp2_with fail
      refine TK.out.mono ?_
      clear TK
      rintro e w7 ⟨⟨u, rfl⟩, H7⟩
      go_wp2
      go_roundw
      case rel => exact ⟨i + 1, by omega, by go_num, H7⟩
      case measure => simp [intOf]; omega
    · have kit : ¬ ((i : Int) < (t : Int)) := by omega
      obtain rfl : i = t := by omega
      have CM : Hid _ := lasts_mid HR.out (by decide) (by decide)
      clear hbr p0 p1 p2 HR
      go_wp2_with fail
      refine (show Calls _ _ _ _ _ from CM.out).mono ?_
      clear CM
      rintro e w7 ⟨rfl, SY⟩
      go_wp2_with fail
      refine SY.out.mono ?_
      clear SY
      rintro e w8 ⟨rfl, BG⟩
      go_wp2_with fail
      refine BG.out.mono ?_
      clear BG hq2
      rintro e w9 ⟨q2, rfl, HP⟩
      obtain ⟨f2, hb2, hp2⟩ := HP.out
      have HB : Hid (Bt f2 1 n (fun k => decide (k < i))) := hb2
      have H9 : Hid (Pq X w1 w9 pd pl q2 35 f2 (fun _ => none) 0 293 w3.heap.size 1 3 n (fun k => decide (k < i + 0))) := hp2
      have hq2 := eqT_some ⟨q2, 0, none⟩
      clear hb2 hp2 HP
      go_wp2
      go_loopw [17] (fun x wr => ∃ j, j ≤ m ∧ x = .int .i64 ((j : Nat) : Int) ∧ Hid (Pq X w1 wr pd pl q2 35 f2 (fun _ => none) 0 293 w3.heap.size 1 3 n (fun k => decide (k < i + j)))) (fun x _ => m - (intOf x).toNat)
      case atStart => exact ⟨0, by omega, rfl, H9⟩
      case round =>
        obtain ⟨j, hj, rfl, HS⟩ := hrel
        clear H9
        have hbr := HS.out.at
        have p0 := hbr.c0
        have p1 := hbr.c1
        have p2 := hbr.c2
        by_cases hjm : j < m
        · have kjm : (j : Int) < (m : Int) := by omega
          have TK : Hid (Calls Tryz.prog 12 #[PV 1 3 n, .pointer (some ⟨q2, 0, none⟩)] wr fun e w' => (∃ u, e = .returned u) ∧ Hid (Pq X w1 w' pd pl q2 35 f2 (fun _ => none) 0 293 w3.heap.size 1 3 n (fun k => decide (k < i + (j + 1))))) := (pq_take (i + j) HS.out (by omega) (by simp) (fun j hj => by simpa using hj)).mono (by
            rintro e w' ⟨rfl, hp, _⟩
            exact ⟨⟨_, rfl⟩, hp.ext (fun k _ => upd_lt (i + j) k)⟩)
          clear HS hbr
          unfold PV at TK
          go_wp2_with fail
          refine TK.out.mono ?_
          clear TK
          rintro e w10 ⟨⟨u, rfl⟩, H10⟩
          go_wp2
          go_roundw
          case rel => exact ⟨j + 1, by omega, by go_num, H10⟩
          case measure => simp [intOf]; omega
        · have kjm : ¬ ((j : Int) < (m : Int)) := by omega
          clear hbr p0 p1 p2
          have esub : (n : Int) - (i : Int) = ((n - i : Nat) : Int) := by omega
          have TL : Hid (∀ w10, (∃ f2 com2 pend2, LogUp X w1 w10 pd pl 35 f2 com2 pend2 (293 + 128) ∧ Bt f2 1 n (fun k => decide (k < i)) ∧ PAt w10 w3.heap.size 1 3 n) → Calls Tryz.prog 28 #[.pointer (some ⟨pd, 0, none⟩), .slice none 0 0] w10 fun e w1' => e = .returned (.tuple #[]) ∧ Hid (Calls Tryz.prog 29 #[.pointer (some ⟨pd, 0, none⟩)] w1' fun e w2 => e = .returned (.tuple #[]) ∧
      Hid (Calls Tryz.prog 30 #[.pointer (some ⟨pd, 0, none⟩)] w2 fun e w3' => ∃ pl2, e = .returned (.tuple #[.pointer (some ⟨pl2, 0, none⟩), .int .i64 0]) ∧
        Hid (Calls Tryz.prog 18 #[.pointer (some ⟨pl2, 0, none⟩)] w3' fun e w4 => ∃ q2, e = .returned (.tuple #[.pointer (some ⟨q2, 0, none⟩), .int .i64 0]) ∧ PAt w4 w3.heap.size 1 3 n ∧
          Hid (Calls Tryz.prog 13 #[PV 1 3 n, .pointer (some ⟨q2, 0, none⟩)] w4 fun e w5 => e = .returned (.tuple #[.int .i64 ((n - i : Nat) : Int), .int .i64 0]) ∧ Hid (Chg (fun _ => False) w1 w5)))))) := fun w10 hw10 => by
            obtain ⟨f3, com3, pend3, l3, b3, a3⟩ := hw10
            have := lasts_tail l3 b3 a3 HX.out HPR.out (by decide) (by decide) (by decide)
            rw [cntT_lt i n (by omega)] at this
            exact this
          have CM : Hid _ := lasts_commit HS.out HB.out (by decide) (by decide)
          have AB : Hid _ := lasts_abort HS.out HB.out
          clear HS HB
          obtain ⟨res, hres⟩ : ∃ res, n - i = res := ⟨_, rfl⟩
          rw [hres] at TL esub
          clear hres
          cases ab with
          | true =>
            clear CM
            go_wp2_with fail
            refine (show Calls _ _ _ _ _ from AB.out).mono ?_
            clear AB
            rintro e w10 ⟨rfl, HL⟩
            have CT : Hid _ := TL.out w10 HL.out
            clear TL HL
            go_wp2_with fail
            refine (show Calls _ _ _ _ _ from CT.out).mono ?_
            clear CT
            rintro e w11 ⟨rfl, ON⟩
            go_wp2_with fail
            refine ON.out.mono ?_
            clear ON
            rintro e w12 ⟨rfl, OP⟩
            go_wp2_with fail
            refine OP.out.mono ?_
            clear OP
            rintro e w13 ⟨pl2, rfl, BG⟩
            have hq3 := eqL_some ⟨pl2, 0, none⟩
            go_wp2_with fail
            refine BG.out.mono ?_
            clear BG
            rintro e w14 ⟨q3, rfl, a14, FR⟩
            have hq4 := eqT_some ⟨q3, 0, none⟩
            have r0 := a14.c0
            have r1 := a14.c1
            have r2 := a14.c2
            clear a14
            unfold PV at FR
            go_wp2_with fail
            refine FR.out.mono ?_
            clear FR
            rintro e w15 ⟨rfl, HZ⟩
            have HY : Hid (Chg (fun _ => False) w w15) := HC.out.trans HZ.out (fun _ _ h => h)
            clear HZ
            go_wp2
            go_ret
            exact ⟨rfl, HY.out⟩
          | false =>
            clear AB
            go_wp2_with fail
            refine (show Calls _ _ _ _ _ from CM.out).mono ?_
            clear CM
            rintro e w10 ⟨rfl, HL⟩
            have CT : Hid _ := TL.out w10 HL.out
            clear TL HL
            go_wp2_with fail
            refine (show Calls _ _ _ _ _ from CT.out).mono ?_
            clear CT
            rintro e w11 ⟨rfl, ON⟩
            go_wp2_with fail
            refine ON.out.mono ?_
            clear ON
            rintro e w12 ⟨rfl, OP⟩
            go_wp2_with fail
            refine OP.out.mono ?_
            clear OP
            rintro e w13 ⟨pl2, rfl, BG⟩
            have hq3 := eqL_some ⟨pl2, 0, none⟩
            go_wp2_with fail
            refine BG.out.mono ?_
            clear BG
            rintro e w14 ⟨q3, rfl, a14, FR⟩
            have hq4 := eqT_some ⟨q3, 0, none⟩
            have r0 := a14.c0
            have r1 := a14.c1
            have r2 := a14.c2
            clear a14
            unfold PV at FR
            go_wp2_with fail
            refine FR.out.mono ?_
            clear FR
            rintro e w15 ⟨rfl, HZ⟩
            have HY : Hid (Chg (fun _ => False) w w15) := HC.out.trans HZ.out (fun _ _ h => h)
            clear HZ
            go_wp2
            go_ret
            exact ⟨rfl, HY.out⟩
end Go.Proofs.YtdcmcgdalanjjaaGreat

/-
  Contracts of the reference's small methods.
-/
import Derived.Test.YtioloobeakjbeaaRef
namespace Go.Proofs.Ytioloobeakjbeaa
open Go.RowKit Go.Maps
attribute [local go_sem ↓] Go.wp_at_zero Go.wp_at_succ

set_option maxHeartbeats 400000 in
theorem ris_any (G : Nat → Prop) (q : Nat) (R : RSt) (n : Int) (w : World) {lb lc : Nat} {wv pv : Value} (h : RkAt w G q R lb lc wv pv) : Calls Try.prog 58 #[.pointer (some ⟨q, 0, none⟩), .int .i64 n] w fun e w' => e = .returned (.bool (decide (0 ≤ n ∧ n < R.nb))) ∧ w' = w := by
  have c0 := h.c0
  clear h
  by_cases h0 : 0 ≤ n
  · go_enter Try.func58, Try.ntmps58
    go_wp2
    go_ret
    simp [h0]
  · have k0 : decide (0 ≤ n) = false := by simpa using h0
    go_enter Try.func58, Try.ntmps58
    go_wp2
    go_ret
    simp

/-- What Last finds. -/
def lastR (R : RSt) (n : Nat) : List Int := (versOf R.W n).getLast?.getD (R.f n)
theorem versOf_none {W : Ws} {n : Nat} (h : ∀ x ∈ W, x.1 ≠ n) : versOf W n = [] := by
  unfold versOf
  rw [List.map_eq_nil_iff, List.filter_eq_nil_iff]
  intro x hx
  simpa using h x hx
theorem versOf_at {W : Ws} {n k : Nat} (hk : k < W.length) (h : ∀ j (hj : j < W.length), k < j → W[j].1 ≠ n) (e : W[k].1 = n) : (versOf W n).getLast? = some W[k].2 := by
  have hs : W = W.take k ++ [W[k]] ++ W.drop (k + 1) := by
    rw [List.append_assoc, List.singleton_append, ← List.drop_eq_getElem_cons hk, List.take_append_drop]
  have hd : versOf (W.drop (k + 1)) n = [] := versOf_none (fun x hx => by
    obtain ⟨j, hj, rfl⟩ := List.getElem_of_mem hx
    rw [List.getElem_drop]
    exact h _ _ (by omega))
  have h1 : versOf [W[k]] n = [W[k].2] := by
    have : versOf [(W[k].1, W[k].2)] n = _ := versOf_one W[k].1 W[k].2 n
    rw [if_pos e] at this
    exact this
  have e0 := congrArg (versOf · n) hs
  simp only [versOf_append, hd, h1] at e0
  rw [e0]
  simp

set_option maxHeartbeats 1600000 in
set_option maxRecDepth 100000 in
theorem rlast_any (G : Nat → Prop) (q : Nat) (R : RSt) (n : Nat) (w : World) {lb lc : Nat} {wv pv : Value} (h : RkAt w G q R lb lc wv pv) (hn : n < R.nb) (_hb : R.nb ≤ 16384) (hw : R.W.length < 1099511627776) :
    Calls Try.prog 52 #[.pointer (some ⟨q, 0, none⟩), .int .i64 (n : Int)] w fun e w' => e = .returned (.string (strOf (lastR R n))) ∧ w' = w := by
  have c0 := h.c0
  have c1 := h.c1
  have hl := h.lcell hn
  obtain ⟨wa, wc, rfl⟩ := h.wlen
  have HH : Hid (RkAt w G q R lb lc (.slice wa R.W.length wc) pv) := h
  obtain ⟨t, ht⟩ : ∃ t, strOf (lastR R n) = t := ⟨_, rfl⟩
  have HT : Hid (strOf (lastR R n) = t) := ht
  rw [ht]
  clear h ht
  go_enter Try.func52, Try.ntmps52
  go_wp2_with fail
  go_loop [5] (fun x => ∃ k : Nat, k ≤ R.W.length ∧ x = .int .i64 ((k : Int) - 1) ∧ Hid (∀ j (hj : j < R.W.length), k ≤ j → R.W[j].1 ≠ n)) (fun x => (intOf x + 1).toNat)
  case atStart => exact ⟨R.W.length, Nat.le_refl _, by go_num, fun j hj hk => by omega⟩
  case round =>
    obtain ⟨k, hk, rfl, hnone⟩ := hrel
    cases k with
    | zero =>
      have e : lastR R n = R.f n := by
        unfold lastR
        rw [versOf_none (fun x hx => by
          obtain ⟨j, hj, rfl⟩ := List.getElem_of_mem hx
          exact hnone.out j hj (Nat.zero_le _))]
        rfl
      have hnI : (n : Int) < (R.nb : Int) := by omega
      rw [← e, HT.out] at hl
      clear HH hnone e
      go_wp2
      go_ret
      exact ⟨rfl, rfl⟩
    | succ k =>
      have hf : (wa, wc).1 = none ∨ ∃ g, wa = some ⟨g, 0, none⟩ := by
        rcases HH.out.wform with ⟨e, e2⟩ | ⟨g, c, e⟩
        · rw [e2] at hk; simp at hk
        · cases e; exact .inr ⟨g, rfl⟩
      rcases hf with e | ⟨g, rfl⟩
      · exact absurd e (by
          rcases HH.out.wform with ⟨_, e2⟩ | ⟨g, c, e3⟩
          · rw [e2] at hk; simp at hk
          · cases e3; simp)
      · have hk' : k < R.W.length := by omega
        obtain ⟨d0, d1⟩ := HH.out.wcell hk'
        have hkI : ((k + 1 : Nat) : Int) - 1 = (k : Int) := by omega
        rw [hkI]
        have hkL : (k : Int) < (R.W.length : Int) := by omega
        by_cases e : R.W[k].1 = n
        · have e2 : lastR R n = R.W[k].2 := by
            unfold lastR
            rw [versOf_at hk' (fun j hj hlt => hnone.out j hj (by omega)) e]
            rfl
          rw [← e2, HT.out] at d1
          rw [e] at d0
          clear HH hnone e2 e hl
          go_wp2
          go_ret
          exact ⟨rfl, rfl⟩
        · have HN : Hid (∀ j (hj : j < R.W.length), k ≤ j → R.W[j].1 ≠ n) := fun j hj hkj => by
            by_cases ej : j = k
            · subst ej; exact e
            · exact hnone.out j hj (by omega)
          have e3 : ((R.W[k].1 : Int) == (n : Int)) = false := by simp; omega
          have e4 : ¬ (R.W[k].1 : Int) = (n : Int) := by omega
          clear HH hnone d1 hl
          generalize R.W[k].1 = x at *
          go_wp2
          go_roundw
          case rel => exact ⟨k, by omega, by go_num, HN⟩
          case measure => simp [intOf]

theorem Sim.last {S : St} {R : RSt} (h : Sim S R) {n : Nat} (hn : n < S.nb) : lastR R n = S.last n := by
  unfold lastR
  rw [last_eq, h.vers n, h.f n hn]

set_option maxHeartbeats 800000 in
theorem rread_any (G : Nat → Prop) (q : Nat) (S : St) (n : Int) (w : World) (h : Rk w G q S) (hx : S.writes < 1099511627776) :
    Calls Try.prog 61 #[.pointer (some ⟨q, 0, none⟩), .int .i64 n] w fun e w' => e = .returned (.tuple #[.string (strOf (S.readV n)), .int .i64 (S.readE n)]) ∧ w' = w := by
  obtain ⟨R, lb, lc, wv, pv, s, h⟩ := h
  have c2 := h.c2
  rw [s.off] at c2
  by_cases ho : S.off = true
  · have e1 : S.readE n = 6 := by simp [St.readE, ho]
    have e2 : strOf (S.readV n) = ByteArray.empty := by simp [St.readV, e1, strOf]
    rw [ho] at c2
    rw [e1, e2]
    clear h s
    go_enter Try.func61, Try.ntmps61
    go_wp2
    go_ret2
    exact ⟨rfl, rfl⟩
  have ho' : S.off = false := by simpa using ho
  rw [ho'] at c2
  have HH : Hid (Sim S R ∧ RkAt w G q R lb lc wv pv) := ⟨s, h⟩
  clear h s
  by_cases hn : 0 ≤ n ∧ n < S.nb
  · have e1 : S.readE n = 0 := by simp [St.readE, ho', hn]
    have e2 : S.readV n = S.last n.toNat := by simp [St.readV, e1]
    rw [e1, e2]
    obtain ⟨k, rfl⟩ := Int.eq_ofNat_of_zero_le hn.1
    have hk : k < S.nb := by have := hn.2; omega
    rw [Int.toNat_natCast, ← HH.out.1.last hk]
    have hd : decide (0 ≤ (k : Int) ∧ (k : Int) < (R.nb : Int)) = true := by rw [HH.out.1.nb]; simpa using hk
    clear e1 e2 hn
    go_enter Try.func61, Try.ntmps61
    go_wp2_with fail
    refine (ris_any G q R (k : Int) w HH.out.2).mono ?_
    rintro e w1 ⟨rfl, rfl⟩
    rw [hd]
    go_wp2_with fail
    refine (rlast_any G q R k w1 HH.out.2 (by rw [HH.out.1.nb]; exact hk) (by rw [HH.out.1.nb]; exact HH.out.1.wf.top) (by have := HH.out.1.few; omega)).mono ?_
    rintro e w2 ⟨rfl, rfl⟩
    go_wp2
    go_ret2
    exact ⟨rfl, rfl⟩
  · have e1 : S.readE n = 1 := by simp [St.readE, ho', hn]
    have e2 : strOf (S.readV n) = ByteArray.empty := by simp [St.readV, e1, strOf]
    rw [e1, e2]
    have hd : decide (0 ≤ n ∧ n < (R.nb : Int)) = false := by rw [HH.out.1.nb]; simpa using hn
    clear e1 e2 hn
    go_enter Try.func61, Try.ntmps61
    go_wp2_with fail
    refine (ris_any G q R n w HH.out.2).mono ?_
    rintro e w1 ⟨rfl, rfl⟩
    rw [hd]
    go_wp2
    go_ret2
    exact ⟨rfl, rfl⟩

theorem Sim.on {S : St} {R : RSt} (h : Sim S R) : Sim S.on { R with off := false, arm := 0 } :=
  ⟨St.on_wf h.wf, h.nb, h.f, h.vers, h.num, h.few, rfl, rfl, fun h1 => absurd h1 (by show ¬ (1 : Int) ≤ 0; decide), h.done⟩

set_option maxHeartbeats 400000 in
theorem ron_any (G : Nat → Prop) (q : Nat) (S : St) (w : World) (h : Rk w G q S) :
    Calls Try.prog 42 #[.pointer (some ⟨q, 0, none⟩)] w fun e w' => e = .returned (.tuple #[]) ∧ RTo G q w w' S.on := by
  obtain ⟨R, lb, lc, wv, pv, s, h⟩ := h
  have c2 := h.c2
  have f2 := h.fr 2
  obtain ⟨h1, k1⟩ := h.setOff false
  have c3 := h1.c3
  have f3 := h1.fr 3
  obtain ⟨h2, k2⟩ := h1.setArm 0
  have HE : Hid (RTo G q w ((w.setCell ⟨q, 2, none⟩ (.bool false)).setCell ⟨q, 3, none⟩ (.int .i64 0)) S.on) :=
    ⟨G, ⟨_, lb, lc, wv, pv, s.on, h2⟩, (k1.trans k2 (fun _ _ h => h)).mono (fun k _ e => by rw [e]; exact h.fq), fun b hb => .inl hb⟩
  clear h h1 k1 h2 k2 s
  go_enter Try.func42, Try.ntmps42
  go_wp2
  go_end0
  exact ⟨rfl, HE.out⟩
end Go.Proofs.Ytioloobeakjbeaa

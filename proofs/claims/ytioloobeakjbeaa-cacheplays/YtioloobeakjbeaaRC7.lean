/-
  The contracts of the reference's Get and Put.
-/
import Derived.Test.YtioloobeakjbeaaRC6
namespace Go.Proofs.Ytioloobeakjbeaa
open Go.RowKit Go.Maps
attribute [local go_sem ↓] Go.wp_at_zero Go.wp_at_succ
attribute [local go_sem ↓] appG_eq

theorem hit_eq {C : Ca} {nb : Nat} (h : C.Wf nb) {xs ys : List It} {x : It} (hL : C.L = xs ++ x :: ys) : C.hit x.n = { C with hits := C.hits + 1, L := xs ++ ys ++ [x] } := by
  unfold Ca.hit
  rw [(Ca.filter_eq h.uniq hL).1, (Ca.filter_eq h.uniq hL).2]
theorem add_lastB (C : Ca) (n : Nat) (b : List Int) : (C.add n b).lastB = b := by simp [Ca.lastB, Ca.add]
theorem miss_lastB {S : St} {C : Ca} {n : Nat} {fe : Int} {fb : List Int} (h : (miss S C n fe fb).e = 0) : (miss S C n fe fb).C.lastB = fb := by
  revert h
  unfold miss
  split
  · split
    · intro h; simp at h
    · split
      · intro h; simp at h; contradiction
      · split
        · intro h; simp at h; contradiction
        · intro _; exact add_lastB _ _ _
  · split
    · intro h; simp at h; contradiction
    · intro _; exact add_lastB _ _ _

theorem use_bad {S : St} {C : Ca} {n fe : Int} {fb : List Int} (h : ¬ (0 ≤ n ∧ n < S.nb)) : use S C n fe fb = ⟨1, S, C⟩ := by unfold use; rw [if_pos h]
theorem use_held {S : St} {C : Ca} {n fe : Int} {fb : List Int} (h : 0 ≤ n ∧ n < S.nb) (hh : C.has n.toNat = true) : use S C n fe fb = ⟨0, S, C.hit n.toNat⟩ := by unfold use; rw [if_neg (by simpa using h), if_pos hh]
theorem use_miss {S : St} {C : Ca} {n fe : Int} {fb : List Int} (h : 0 ≤ n ∧ n < S.nb) (hh : C.has n.toNat = false) : use S C n fe fb = miss S C n.toNat fe fb := by unfold use; rw [if_neg (by simpa using h), if_neg (by rw [hh]; decide)]

theorem rget_any (G H : Nat → Prop) (c q : Nat) (S : St) (C : Ca) (lv : Value) (n : Int) (w : World) (h : RCk w G H c q S C lv) (hw : C.Wf S.nb) (hx : S.writes < 1099511627776) (hu : C.hits + C.misses < 1099511627776) (hev : C.evicted < 1099511627776) :
    Calls Try.prog 32 #[.pointer (some ⟨c, 0, none⟩), .int .i64 n] w fun e w' => e = .returned (.tuple #[.string (strOf (getB S C n)), .int .i64 (get S C n).e]) ∧ EvTo G H c q w w' (get S C n).S (get S C n).C := by
  have hfew := hw.few
  have htop := hw.top
  by_cases hn : 0 ≤ n ∧ n < S.nb
  · obtain ⟨m, rfl⟩ := Int.eq_ofNat_of_zero_le hn.1
    by_cases hh : C.has m = true
    · have hg : get S C m = ⟨0, S, C.hit m⟩ := use_held hn hh
      obtain ⟨x0, hx0, hxn⟩ := Ca.has_iff.1 hh
      refine (rget_hit G H c q S C lv m w h (by omega) (by omega) hn hx0 (by omega)).mono ?_
      rintro e w' ⟨xs, x, ys, hL, hxm, rfl, ht⟩
      have hxm' : x.n = m := by omega
      have he := hit_eq hw hL
      rw [hxm'] at he
      have hb : getB S C m = x.b := by
        unfold getB
        rw [hg, if_pos rfl, he]
        simp [Ca.lastB]
      rw [hb, hg, he]
      obtain ⟨H', lv', m1, m2, m3⟩ := h.cache ht
      exact ⟨rfl, G, H', lv', m1, m2.mono (fun _ _ h => .inr h), fun _ h => .inl h, m3⟩
    · have hh : C.has m = false := by simpa using hh
      have hg : get S C m = miss S C m (S.readE m) (S.readV m) := use_miss hn hh
      refine (rget_miss G H c q S C lv m w h hw hx hu hev (by omega) hh _ hg _ rfl).mono ?_
      rintro e w' ⟨rfl, ht⟩
      refine ⟨?_, ht⟩
      have hb : strOf (getB S C m) = if (get S C m).e = 0 then strOf (S.readV m) else ByteArray.empty := by
        unfold getB
        by_cases he : (get S C m).e = 0
        · rw [if_pos he, if_pos he, hg, miss_lastB (by rw [← hg]; exact he)]
        · rw [if_neg he, if_neg he, strOf_nil]
      rw [hb]
  · have hg : get S C n = ⟨1, S, C⟩ := use_bad hn
    have hb : getB S C n = [] := by unfold getB; rw [hg, if_neg (by simp)]
    refine (rget_bad G H c q S C lv n w h hn).mono ?_
    rintro e w' ⟨rfl, rfl⟩
    rw [hb, hg, strOf_nil]
    exact ⟨rfl, EvTo.refl h (Chg.refl _ _)⟩

/-! ### Put -/
theorem rput_bad (G H : Nat → Prop) (c q : Nat) (S : St) (C : Ca) (lv : Value) (n : Int) (b : List Int) (w : World) (h : RCk w G H c q S C lv) (hn : ¬ (0 ≤ n ∧ n < S.nb) ∨ b.length ≠ 512) :
    Calls Try.prog 33 #[.pointer (some ⟨c, 0, none⟩), .int .i64 n, .string (strOf b)] w fun e w' => e = .returned (.int .i64 1) ∧ w' = w := by
  have c0 := h.rc.c0
  have HI : Hid (Calls Try.prog 58 #[.pointer (some ⟨q, 0, none⟩), .int .i64 n] w fun e w' => e = .returned (.bool (decide (0 ≤ n ∧ n < S.nb))) ∧ w' = w) := ris_rk G q S n w h.rk
  have hsz := strOf_size b
  by_cases hd : 0 ≤ n ∧ n < S.nb
  · have hd' : decide (0 ≤ n ∧ n < S.nb) = true := by simpa using hd
    have hb : b.length ≠ 512 := hn.resolve_left (fun e => e hd)
    have hl5 : (((strOf b).size : Int) == 512) = false := by rw [hsz]; simp; omega
    have hl6 : ¬ ((strOf b).size : Int) = 512 := by rw [hsz]; omega
    have hl7 : ¬ (strOf b).size = 512 := by rw [hsz]; exact hb
    rw [hd'] at HI
    clear h hn hd hd' hb hsz
    generalize strOf b = t at *
    go_enter Try.func33, Try.ntmps33
    go_wp2_with fail
    refine (show Calls _ _ _ _ _ from HI.out).mono ?_
    rintro e w1 ⟨rfl, rfl⟩
    go_wp2
    go_ret
    exact ⟨rfl, rfl⟩
  · have hd' : decide (0 ≤ n ∧ n < S.nb) = false := by simpa using hd
    rw [hd'] at HI
    clear h hn hd hd' hsz
    generalize strOf b = t at *
    go_enter Try.func33, Try.ntmps33
    go_wp2_with fail
    refine (show Calls _ _ _ _ _ from HI.out).mono ?_
    rintro e w1 ⟨rfl, rfl⟩
    go_wp2
    go_ret
    exact ⟨rfl, rfl⟩

set_option maxHeartbeats 800000 in
theorem rput_hit (G H : Nat → Prop) (c q : Nat) (S : St) (C : Ca) (lv : Value) (n : Int) (b : List Int) (w : World) (h : RCk w G H c q S C lv) (hl : C.L.length ≤ 1024) (hu : C.hits < 1099511627776) (hn : 0 ≤ n ∧ n < S.nb) (hb : b.length = 512) {x0 : It} (hx0 : x0 ∈ C.L) (hxn : (x0.n : Int) = n) :
    Calls Try.prog 33 #[.pointer (some ⟨c, 0, none⟩), .int .i64 n, .string (strOf b)] w fun e w' => e = .returned (.int .i64 0) ∧ ∃ xs x ys, C.L = xs ++ x :: ys ∧ (x.n : Int) = n ∧ RcTo H c q w w' { C with hits := C.hits + 1, L := xs ++ ys ++ [{ x with b := b, dirty := true }] } := by
  have c0 := h.rc.c0
  have c3 := h.rc.c3
  have f3 := h.rc.fr 3
  have HI : Hid (Calls Try.prog 58 #[.pointer (some ⟨q, 0, none⟩), .int .i64 n] w fun e w' => e = .returned (.bool (decide (0 ≤ n ∧ n < S.nb))) ∧ w' = w) := ris_rk G q S n w h.rk
  have hd : decide (0 ≤ n ∧ n < S.nb) = true := by simpa using hn
  have hsz := strOf_size b
  have hl5 : ((strOf b).size : Int) = 512 := by rw [hsz]; omega
  have hl6 : (strOf b).size = 512 := by rw [hsz]; exact hb
  rw [hd] at HI
  obtain ⟨t, ht⟩ : ∃ t, strOf b = t := ⟨_, rfl⟩
  have HF : Hid (Calls Try.prog 47 #[.pointer (some ⟨c, 0, none⟩), .int .i64 n] w fun e w' => ∃ (i g cap N : Nat) (hv : Int) (t0 : Value) (d0 : Bool), e = .returned (.int .i64 (i : Int)) ∧ w' = w ∧ i < N ∧ N ≤ 1024 ∧ (C.hits : Int) = hv ∧
      (w.setCell ⟨c, 3, none⟩ (.int .i64 (hv + 1))).cell? ⟨c, 2, none⟩ = some (.slice (some ⟨g, 0, none⟩) N cap) ∧ (w.setCell ⟨c, 3, none⟩ (.int .i64 (hv + 1))).cell? ⟨g, i * 4 + 1, none⟩ = some t0 ∧ (w.setCell ⟨c, 3, none⟩ (.int .i64 (hv + 1))).frozen? ⟨g, i * 4 + 1, none⟩ = false ∧
      ((w.setCell ⟨c, 3, none⟩ (.int .i64 (hv + 1))).setCell ⟨g, i * 4 + 1, none⟩ (.string t)).cell? ⟨c, 2, none⟩ = some (.slice (some ⟨g, 0, none⟩) N cap) ∧ ((w.setCell ⟨c, 3, none⟩ (.int .i64 (hv + 1))).setCell ⟨g, i * 4 + 1, none⟩ (.string t)).cell? ⟨g, i * 4 + 2, none⟩ = some (.bool d0) ∧ ((w.setCell ⟨c, 3, none⟩ (.int .i64 (hv + 1))).setCell ⟨g, i * 4 + 1, none⟩ (.string t)).frozen? ⟨g, i * 4 + 2, none⟩ = false ∧
      Hid (Calls Try.prog 59 #[.pointer (some ⟨c, 0, none⟩), .int .i64 (i : Int)] (((w.setCell ⟨c, 3, none⟩ (.int .i64 (hv + 1))).setCell ⟨g, i * 4 + 1, none⟩ (.string t)).setCell ⟨g, i * 4 + 2, none⟩ (.bool true)) fun e w' => e = .returned (.tuple #[]) ∧ ∃ xs x ys, C.L = xs ++ x :: ys ∧ (x.n : Int) = n ∧ RcTo H c q w w' { C with hits := C.hits + 1, L := xs ++ ys ++ [{ x with b := b, dirty := true }] })) := by
    refine (rfind_any H c q C lv n w h.rc hl).mono ?_
    rintro e w' ⟨k, rfl, hf, rfl⟩
    rcases hf with ⟨xs, x, ys, hL, hx, rfl⟩ | ⟨hf, _⟩
    · have hlt : xs.length < C.L.length := by rw [hL]; simp
      obtain ⟨g, cap, hlv, hcap, _, _⟩ := h.rc.sm hlt
      obtain ⟨a1, k1⟩ := h.rc.setHits
      rw [hlv] at a1
      have i1 := a1.item (i := xs.length) (k := 1) hlt (by decide) rfl
      obtain ⟨a2, k2⟩ := a1.setItem (xs := xs) (ys := ys) (x := x) (y := { x with b := b }) hL (k := 1) (by decide) (v := .string (strOf b)) rfl _ rfl
      have hN : C.L.length = (xs ++ { x with b := b } :: ys).length := by rw [hL]; simp
      have a2' := a2
      rw [hN] at a2'
      have i2 := a2'.item (i := xs.length) (k := 2) (by simp) (by decide) rfl
      obtain ⟨a3, k3⟩ := a2'.setItem (xs := xs) (ys := ys) (x := { x with b := b }) (y := { x with b := b, dirty := true }) rfl (k := 2) (by decide) (v := .bool true) rfl _ rfl
      have hN2 : (xs ++ { x with b := b } :: ys).length = (xs ++ { x with b := b, dirty := true } :: ys).length := by simp
      have c2' := a2.c2
      rw [← ht]
      refine ⟨xs.length, g, cap, C.L.length, (C.hits : Int), _, _, rfl, rfl, hlt, hl, rfl, a1.c2, i1, a1.gfr _, c2', i2, a2'.gfr _, ?_⟩
      have a3' := a3
      rw [show ({ C with hits := C.hits + 1, L := xs ++ { x with b := b } :: ys } : Ca).L.length = _ from hN2] at a3'
      refine (rlastu_any H c q _ g cap xs ys { x with b := b, dirty := true } _ a3' (by show (xs ++ { x with b := b, dirty := true } :: ys).length ≤ cap; rw [← hN2, ← hN]; exact hcap) rfl (by show (xs ++ { x with b := b, dirty := true } :: ys).length ≤ 1024; rw [← hN2, ← hN]; exact hl) _ rfl).mono ?_
      rintro e w2 ⟨rfl, ht⟩
      exact ⟨rfl, xs, x, ys, hL, hx, RcTo.trans (((k1.mono (fun b _ e => by rw [e]; exact h.rc.fc)).trans k2 (fun _ _ h => h)).trans k3 (fun _ _ h => h)) (fun b hb => .inl hb) ht⟩
    · exact absurd hxn (hf x0 hx0)
  have hu' : (C.hits : Int) < 1099511627776 := by omega
  have hu0 : (0 : Int) ≤ (C.hits : Int) := by omega
  have HP : Hid (strOf b = t) := ht
  rw [ht] at hl5 hl6
  rw [ht]
  clear h hn hd hu hl hxn hx0 hsz ht
  go_enter Try.func33, Try.ntmps33
  go_wp2_with fail
  refine (show Calls _ _ _ _ _ from HI.out).mono ?_
  rintro e w1 ⟨rfl, rfl⟩
  go_wp2_with fail
  refine (show Calls _ _ _ _ _ from HF.out).mono ?_
  rintro e w2 ⟨i, g, cap, N, hv, t0, d0, rfl, rfl, hi, hN, hh, z2, z1, z3, z4, z5, z6, HL⟩
  rw [hh] at c3 hu' hu0
  have hi' : (i : Int) < (N : Int) := by omega
  have hi0 : ¬ (i : Int) < 0 := by omega
  clear hh HF HI
  go_wp2_with fail
  refine (show Calls _ _ _ _ _ from HL.out).mono ?_
  rintro e w3 ⟨rfl, ht⟩
  have HT : Hid _ := ht
  clear ht HL z1 z2 z3 z4 z5 z6 c0 c3 f3
  go_wp2
  go_ret
  exact ⟨rfl, HT.out⟩

set_option maxHeartbeats 1600000 in
theorem rput_miss (G H : Nat → Prop) (c q : Nat) (S : St) (C : Ca) (lv : Value) (m : Nat) (b : List Int) (w : World) (h : RCk w G H c q S C lv) (hw : C.Wf S.nb) (hx : S.writes < 1099511627776) (hu : C.hits + C.misses < 1099511627776) (hev : C.evicted < 1099511627776) (hn : m < S.nb) (hb : b.length = 512) (hh : C.has m = false) (R : Res) (hR : R = if (miss S C m 0 (zeros 512)).e ≠ 0 then miss S C m 0 (zeros 512) else ⟨0, (miss S C m 0 (zeros 512)).S, (miss S C m 0 (zeros 512)).C.last fun i => { i with b := b, dirty := true }⟩) :
    Calls Try.prog 33 #[.pointer (some ⟨c, 0, none⟩), .int .i64 (m : Int), .string (strOf b)] w fun e w' => e = .returned (.int .i64 R.e) ∧ EvTo G H c q w w' R.S R.C := by
  have htop := hw.top
  have hfew := hw.few
  have c0 := h.rc.c0
  have hsz := strOf_size b
  have hl5 : ((strOf b).size : Int) = 512 := by rw [hsz]; omega
  have hl6 : (strOf b).size = 512 := by rw [hsz]; exact hb
  have HI : Hid (Calls Try.prog 58 #[.pointer (some ⟨q, 0, none⟩), .int .i64 (m : Int)] w fun e w' => e = .returned (.bool (decide (0 ≤ (m : Int) ∧ (m : Int) < S.nb))) ∧ w' = w) := ris_rk G q S m w h.rk
  have hd : decide (0 ≤ (m : Int) ∧ (m : Int) < S.nb) = true := by simpa using hn
  rw [hd] at HI
  have HF : Hid (Calls Try.prog 47 #[.pointer (some ⟨c, 0, none⟩), .int .i64 (m : Int)] w fun e w' => e = .returned (.int .i64 (-1)) ∧ w' = w) := by
    refine (rfind_any H c q C lv m w h.rc (by omega)).mono ?_
    rintro e w' ⟨k, rfl, hf, rfl⟩
    rcases hf with ⟨xs, x, ys, hL, hx, rfl⟩ | ⟨_, rfl⟩
    · have : C.has m = true := Ca.has_iff.2 ⟨x, by rw [hL]; simp, by omega⟩
      rw [hh] at this; cases this
    · exact ⟨rfl, rfl⟩
  have HW : Hid (Calls Try.prog 60 #[.pointer (some ⟨c, 0, none⟩)] w fun e w1 => ∃ k b1, e = .returned (.tuple #[.int .i64 k, .bool b1]) ∧ (b1 = false → Hid (R.e = 13 ∧ EvTo G H c q w w1 R.S R.C)) ∧
      (b1 = true → Hid (Calls Try.prog 62 #[.pointer (some ⟨c, 0, none⟩), .int .i64 k] w1 fun e w2 => ∃ E, e = .returned (.int .i64 E) ∧ R.e = E ∧ (E ≠ 0 → Hid (EvTo G H c q w w2 R.S R.C)) ∧ (E = 0 → AddF G H c q w w2 (m : Int) (strOf b) true R)))) := by
    refine (rwho_any H c q C lv w h.rc (by omega)).mono ?_
    rintro e w1 ⟨k, b1, rfl, hk, hc⟩
    have k1 := h.kept hc (fun _ _ h => h)
    refine ⟨k, b1, rfl, fun hb1 => ?_, fun hb1 => ?_⟩
    · subst hb1
      rw [miss_full (who_false hw hk), if_pos (by simp)] at hR
      rw [hR]
      exact ⟨rfl, EvTo.refl h hc⟩
    · subst hb1
      refine (revict_any G H c q S C lv k w1 k1 hw hev hx hk).mono ?_
      rintro e w2 ⟨E, S', C', rfl, hr, ht⟩
      have hm := miss_room m (zeros 512) hr
      by_cases he : E = 0
      · rw [if_neg (by simpa using he)] at hm
        rw [hm, if_neg (by simp)] at hR
        have hr2 := room_wf hr hw
        refine ⟨E, rfl, by rw [hR]; exact he.symm, fun h => absurd he h, fun _ => addF (EvTo.after hc ht) hr2.1 (by omega) ⟨m, b, true, 0⟩ rfl R ?_⟩
        rw [hR]
        show (⟨0, S', (C'.add m (zeros 512)).last _⟩ : Res) = _
        unfold Ca.last Ca.add
        simp only
        rw [modLast_snoc]
      · rw [if_pos he] at hm
        rw [hm, if_pos he] at hR
        exact ⟨E, rfl, by rw [hR], fun _ => by rw [hR]; exact EvTo.after hc ht, fun h => absurd h he⟩
  obtain ⟨t, ht⟩ : ∃ x, strOf b = x := ⟨_, rfl⟩
  rw [ht] at HW hl5 hl6
  rw [ht]
  clear h hw hR hd ht hh hn hsz
  generalize (m : Int) = mi at *
  go_enter Try.func33, Try.ntmps33
  go_wp2_with fail
  refine (show Calls _ _ _ _ _ from HI.out).mono ?_
  rintro e w1 ⟨rfl, rfl⟩
  go_wp2_with fail
  refine (show Calls _ _ _ _ _ from HF.out).mono ?_
  rintro e w2 ⟨rfl, rfl⟩
  go_wp2_with fail
  refine (show Calls _ _ _ _ _ from HW.out).mono ?_
  clear HI HF HW c0
  rintro e w3 ⟨k, b1, rfl, y1, y3⟩
  cases b1 with
  | false =>
    have HY := y1 rfl
    clear y1 y3
    go_wp2
    go_ret
    rw [HY.out.1]
    exact ⟨rfl, HY.out.2⟩
  | true =>
    have HE := y3 rfl
    clear y1 y3
    go_wp2_with fail
    refine (show Calls _ _ _ _ _ from HE.out).mono ?_
    clear HE
    rintro e w5 ⟨E, rfl, hRE, u1, u2⟩
    by_cases he : E = 0
    · obtain ⟨ms, lv, v1, w6, a2, n2, d2, w7, c4, f4, m0, m1, z2, ⟨la, ll, lp, rfl⟩, r1, r2, z3, z4, z5, HZ⟩ := u2 he
      subst he
      have HRE : Hid (R.e = 0) := hRE
      clear u1 u2 hRE
      go_wp2
      go_ret
      rw [HRE.out]
      exact ⟨rfl, HZ.out⟩
    · have HY := u1 he
      have he0 : (E == 0) = false := by simpa using he
      have HRE : Hid (R.e = E) := hRE
      clear u1 u2 hRE
      go_wp2
      go_ret
      rw [HRE.out]
      exact ⟨rfl, HY.out⟩

theorem rput_any (G H : Nat → Prop) (c q : Nat) (S : St) (C : Ca) (lv : Value) (n : Int) (b : List Int) (w : World) (h : RCk w G H c q S C lv) (hw : C.Wf S.nb) (hx : S.writes < 1099511627776) (hu : C.hits + C.misses < 1099511627776) (hev : C.evicted < 1099511627776) :
    Calls Try.prog 33 #[.pointer (some ⟨c, 0, none⟩), .int .i64 n, .string (strOf b)] w fun e w' => e = .returned (.int .i64 (put S C n b).e) ∧ EvTo G H c q w w' (put S C n b).S (put S C n b).C := by
  have hfew := hw.few
  have htop := hw.top
  by_cases hb : b.length = 512
  · have hp : put S C n b = if (use S C n 0 (zeros 512)).e ≠ 0 then use S C n 0 (zeros 512) else ⟨0, (use S C n 0 (zeros 512)).S, (use S C n 0 (zeros 512)).C.last fun i => { i with b := b, dirty := true }⟩ := by unfold put; rw [if_neg (by simpa using hb)]
    by_cases hn : 0 ≤ n ∧ n < S.nb
    · obtain ⟨m, rfl⟩ := Int.eq_ofNat_of_zero_le hn.1
      by_cases hh : C.has m = true
      · rw [use_held hn hh, if_neg (by simp)] at hp
        obtain ⟨x0, hx0, hxn⟩ := Ca.has_iff.1 hh
        refine (rput_hit G H c q S C lv m b w h (by omega) (by omega) hn hb hx0 (by omega)).mono ?_
        rintro e w' ⟨rfl, xs, x, ys, hL, hxm, ht⟩
        have hxm' : x.n = m := by omega
        have he := hit_eq hw hL
        rw [hxm'] at he
        have hm : (Int.ofNat m).toNat = m := rfl
        have hp2 : put S C (m : Int) b = ⟨0, S, { C with hits := C.hits + 1, L := xs ++ ys ++ [{ x with b := b, dirty := true }] }⟩ := by
          rw [hp]
          show (⟨0, S, (C.hit m).last _⟩ : Res) = _
          rw [he]
          unfold Ca.last
          simp only
          rw [modLast_snoc]
        rw [hp2]
        obtain ⟨H', lv', m1, m2, m3⟩ := h.cache ht
        exact ⟨rfl, G, H', lv', m1, m2.mono (fun _ _ h => .inr h), fun _ h => .inl h, m3⟩
      · have hh : C.has m = false := by simpa using hh
        rw [use_miss hn hh] at hp
        exact rput_miss G H c q S C lv m b w h hw hx hu hev (by omega) hb hh _ hp
    · rw [use_bad hn, if_pos (by simp)] at hp
      refine (rput_bad G H c q S C lv n b w h (.inl hn)).mono ?_
      rintro e w' ⟨rfl, rfl⟩
      rw [hp]
      exact ⟨rfl, EvTo.refl h (Chg.refl _ _)⟩
  · have hp : put S C n b = ⟨1, S, C⟩ := by unfold put; rw [if_pos hb]
    refine (rput_bad G H c q S C lv n b w h (.inr hb)).mono ?_
    rintro e w' ⟨rfl, rfl⟩
    rw [hp]
    exact ⟨rfl, EvTo.refl h (Chg.refl _ _)⟩
end Go.Proofs.Ytioloobeakjbeaa

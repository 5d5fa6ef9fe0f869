/-
  The contracts of the reference's Pin, Unpin and Held.
-/
import Derived.Test.YtioloobeakjbeaaRC7
import Derived.BigRegion
namespace Go.Proofs.Ytioloobeakjbeaa
open Go.RowKit Go.Maps
attribute [local go_sem ↓] Go.wp_at_zero Go.wp_at_succ

theorem mod_eq {C : Ca} {nb : Nat} (h : C.Wf nb) {xs ys : List It} {x : It} (hL : C.L = xs ++ x :: ys) (f : It → It) : C.mod x.n f = { C with L := xs ++ f x :: ys } := by
  have hu := h.uniq
  rw [hL] at hu
  simp only [List.map_append, List.map_cons, List.nodup_append, List.nodup_cons] at hu
  obtain ⟨_, ⟨h2, _⟩, h3⟩ := hu
  have hx : ∀ j ∈ xs, j.n ≠ x.n := fun j hj e => h3 _ (List.mem_map_of_mem hj) _ (by simp) e
  have hy : ∀ j ∈ ys, j.n ≠ x.n := fun j hj e => h2 (e ▸ List.mem_map_of_mem hj)
  unfold Ca.mod
  rw [hL]
  congr 1
  rw [List.map_append, List.map_cons, if_pos rfl]
  have e1 : xs.map (fun i => if i.n = x.n then f i else i) = xs := by
    conv => rhs; rw [← List.map_id xs]
    exact List.map_congr_left (fun i hi => by simp [hx i hi])
  have e2 : ys.map (fun i => if i.n = x.n then f i else i) = ys := by
    conv => rhs; rw [← List.map_id ys]
    exact List.map_congr_left (fun i hi => by simp [hy i hi])
  rw [e1, e2]
theorem found_any {C : Ca} {nb : Nat} (h : C.Wf nb) {xs ys : List It} {x : It} (hL : C.L = xs ++ x :: ys) (p : It → Bool) : (C.L.any fun i => i.n == x.n && p i) = p x := by
  have hm : x ∈ C.L := by rw [hL]; simp
  cases hp : p x with
  | true => exact List.any_eq_true.2 ⟨x, hm, by simp [hp]⟩
  | false =>
    refine List.any_eq_false.2 (fun i hi => ?_)
    by_cases e : i.n = x.n
    · have h1 := Ca.item_of h hi
      have h2 := Ca.item_of h hm
      rw [e] at h1
      rw [← h1, h2]
      simp [hp]
    · simp [e]

set_option maxHeartbeats 800000 in
theorem rpin_any (G H : Nat → Prop) (c q : Nat) (S : St) (C : Ca) (lv : Value) (n : Int) (w : World) (h : RCk w G H c q S C lv) (hw : C.Wf S.nb) (hx : S.writes < 1099511627776) (hu : C.hits + C.misses < 1099511627776) (hev : C.evicted < 1099511627776) :
    Calls Try.prog 34 #[.pointer (some ⟨c, 0, none⟩), .int .i64 n] w fun e w' => e = .returned (.int .i64 (pin S C n).e) ∧ EvTo G H c q w w' (pin S C n).S (pin S C n).C := by
  have HG : Hid _ := rget_any G H c q S C lv n w h hw hx hu hev
  have HP : Hid (pin S C n = if (get S C n).e ≠ 0 then get S C n else ⟨0, (get S C n).S, (get S C n).C.last fun i => { i with pins := i.pins + 1 }⟩) := (show pin S C n = _ from rfl)
  have HL : Hid ((get S C n).e = 0 → ∃ ys i, (get S C n).C.L = ys ++ [i] ∧ i.pins < 1099511627776 ∧ (get S C n).C.L.length ≤ 1024) := (show _ → _ from fun he => by
    obtain ⟨_, ys, i, h1, _⟩ := use_ok hw.uniq he
    obtain ⟨R, _, _, _, _, s, _⟩ := h.rk
    have hg := (use_good s.wf hw (fun e h0 h1 => readV_len s.wf e h0 h1) : (get S C n).S.Wf ∧ _).2.2.1
    exact ⟨ys, i, h1, Nat.lt_of_le_of_lt (hit_pins hw he i (by rw [h1]; simp)) hu, Nat.le_trans hg.few hg.top⟩)
  generalize get S C n = R at *
  generalize getB S C n = B at *
  clear h hw
  go_enter Try.func34, Try.ntmps34
  go_wp2_with fail
  refine (show Calls _ _ _ _ _ from HG.out).mono ?_
  clear HG
  rintro e w1 ⟨rfl, ht⟩
  have HT : Hid (EvTo G H c q w w1 R.S R.C) := ht
  obtain ⟨re, hre⟩ : ∃ x, R.e = x := ⟨_, rfl⟩
  have HRE : Hid (R.e = re) := hre
  rw [hre]
  generalize strOf B = t at *
  by_cases he : re = 0
  · subst he
    obtain ⟨ys, i, hL, hpi, hll⟩ := HL.out hre
    obtain ⟨G1, H1, lv1, k1, k2, k3, k4⟩ := ht
    have hlt : ys.length < R.C.L.length := by rw [hL]; simp
    have hN : R.C.L.length = ys.length + 1 := by rw [hL]; simp
    obtain ⟨g, cap, rfl, hcap, _, _⟩ := k1.rc.sm hlt
    have c2 := k1.rc.c2
    have i3 := k1.rc.item (k := 3) hlt (by decide) rfl
    have hii : R.C.L[ys.length] = i := by simp [hL]
    rw [hii] at i3
    have f3 := k1.rc.gfr (ys.length * 4 + 3)
    obtain ⟨a1, m1⟩ := k1.rc.setItem (xs := ys) (ys := []) (x := i) (y := { i with pins := i.pins + 1 }) hL (k := 3) (by decide) (v := .int .i64 ((i.pins : Int) + 1)) rfl _ rfl
    have HQ : Hid (EvTo G H c q w ((w1.setCell ⟨g, ys.length * 4 + 3, none⟩ (.int .i64 ((i.pins : Int) + 1))).drew) R.S (R.C.last fun i => { i with pins := i.pins + 1 })) := (show EvTo _ _ _ _ _ _ _ _ by
      have e : (R.C.last fun i => { i with pins := i.pins + 1 }) = { R.C with L := ys ++ [{ i with pins := i.pins + 1 }] } := by unfold Ca.last; rw [hL, modLast_snoc]
      rw [e]
      have cd := Chg.drew (fun _ => False) (w1.setCell ⟨g, ys.length * 4 + 3, none⟩ (.int .i64 ((i.pins : Int) + 1)))
      exact EvTo.then k1 k2 k3 k4 ⟨H1, _, a1.kept cd (fun _ _ h => h), m1.trans cd (fun _ _ h => h.elim), fun _ h => .inl h⟩)
    rw [hN] at c2
    have hyl : ys.length < 1048576 := by omega
    clear k1 k2 k3 k4 hlt hL hii a1 m1 hcap HL hN hre hll
    generalize ys.length = y at *
    have hp' : (i.pins : Int) < 1099511627776 := by omega
    have hp0 : (0 : Int) ≤ (i.pins : Int) := by omega
    clear hpi
    generalize (i.pins : Int) = ip at *
    go_wp2_with fail
    go_region
    all_goals
      go_wp2
      go_ret
      rw [HP.out, if_neg (by rw [HRE.out]; simp)]
      exact ⟨rfl, HQ.out⟩
  · have he0 : (re == 0) = false := by simpa using he
    clear hre ht
    go_wp2
    go_ret
    rw [HP.out, if_pos (by rw [HRE.out]; exact he), HRE.out]
    exact ⟨rfl, HT.out⟩
end Go.Proofs.Ytioloobeakjbeaa

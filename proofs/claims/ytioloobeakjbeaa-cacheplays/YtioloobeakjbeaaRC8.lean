/-
  The contracts of the reference's Pin, Unpin and Held.
-/
import Derived.Test.YtioloobeakjbeaaRC5
import Derived.BigRegion
namespace Go.Proofs.Ytioloobeakjbeaa
open Go.RowKit Go.Maps
attribute [local go_sem ↓] Go.wp_at_zero Go.wp_at_succ

theorem mod_eq {C : Ca} {nb : Nat} (h : C.Wf nb) {xs ys : List It} {x : It} (hL : C.L = xs ++ x :: ys) (f : It → It) : C.mod x.n f = { C with L := xs ++ f x :: ys } := by
  have hu := h.uniq
  rw [hL] at hu
  simp only [List.map_append, List.map_cons, List.nodup_append, List.nodup_cons] at hu
  obtain ⟨_, ⟨h2, _⟩, h3⟩ := hu
  have hx : ∀ j ∈ xs, j.n ≠ x.n := fun j hj e => h3 _ (List.mem_map_of_mem hj) _ (by simp) e
  have hy : ∀ j ∈ ys, j.n ≠ x.n := fun j hj e => h2 (e ▸ List.mem_map_of_mem hj)
  unfold Ca.mod
  rw [hL]
  congr 1
  rw [List.map_append, List.map_cons, if_pos rfl]
  have e1 : xs.map (fun i => if i.n = x.n then f i else i) = xs := by
    conv => rhs; rw [← List.map_id xs]
    exact List.map_congr_left (fun i hi => by simp [hx i hi])
  have e2 : ys.map (fun i => if i.n = x.n then f i else i) = ys := by
    conv => rhs; rw [← List.map_id ys]
    exact List.map_congr_left (fun i hi => by simp [hy i hi])
  rw [e1, e2]
theorem found_any {C : Ca} {nb : Nat} (h : C.Wf nb) {xs ys : List It} {x : It} (hL : C.L = xs ++ x :: ys) (p : It → Bool) : (C.L.any fun i => i.n == x.n && p i) = p x := by
  have hm : x ∈ C.L := by rw [hL]; simp
  cases hp : p x with
  | true => exact List.any_eq_true.2 ⟨x, hm, by simp [hp]⟩
  | false =>
    refine List.any_eq_false.2 (fun i hi => ?_)
    by_cases e : i.n = x.n
    · have h1 := Ca.item_of h hi
      have h2 := Ca.item_of h hm
      rw [e] at h1
      rw [← h1, h2]
      simp [hp]
    · simp [e]

set_option maxHeartbeats 800000 in
theorem rpin_any (G H : Nat → Prop) (c q : Nat) (S : St) (C : Ca) (lv : Value) (n : Int) (w : World) (h : RCk w G H c q S C lv) (hw : C.Wf S.nb) (hx : S.writes < 1099511627776) (hu : C.hits + C.misses < 1099511627776) (hev : C.evicted < 1099511627776) :
    Calls Try.prog 34 #[.pointer (some ⟨c, 0, none⟩), .int .i64 n] w fun e w' => e = .returned (.int .i64 (pin S C n).e) ∧ EvTo G H c q w w' (pin S C n).S (pin S C n).C := by
  have HG : Hid _ := rget_any G H c q S C lv n w h hw hx hu hev
  have HP : Hid (pin S C n = if (get S C n).e ≠ 0 then get S C n else ⟨0, (get S C n).S, (get S C n).C.last fun i => { i with pins := i.pins + 1 }⟩) := (show pin S C n = _ from rfl)
  have HL : Hid ((get S C n).e = 0 → ∃ ys i, (get S C n).C.L = ys ++ [i] ∧ i.pins < 1099511627776 ∧ (get S C n).C.L.length ≤ 1024) := (show _ → _ from fun he => by
    obtain ⟨_, ys, i, h1, _⟩ := use_ok hw.uniq he
    obtain ⟨R, _, _, _, _, s, _⟩ := h.rk
    have hg := (use_good s.wf hw (fun e h0 h1 => readV_len s.wf e h0 h1) : (get S C n).S.Wf ∧ _).2.2.1
    exact ⟨ys, i, h1, Nat.lt_of_le_of_lt (hit_pins hw he i (by rw [h1]; simp)) hu, Nat.le_trans hg.few hg.top⟩)
  generalize get S C n = R at *
  generalize getB S C n = B at *
  clear h hw
  go_enter Try.func34, Try.ntmps34
  go_wp2_with fail
  refine (show Calls _ _ _ _ _ from HG.out).mono ?_
  clear HG
  rintro e w1 ⟨rfl, ht⟩
  have HT : Hid (EvTo G H c q w w1 R.S R.C) := ht
  obtain ⟨re, hre⟩ : ∃ x, R.e = x := ⟨_, rfl⟩
  have HRE : Hid (R.e = re) := hre
  rw [hre]
  generalize strOf B = t at *
  by_cases he : re = 0
  · subst he
    obtain ⟨ys, i, hL, hpi, hll⟩ := HL.out hre
    obtain ⟨G1, H1, lv1, k1, k2, k3, k4⟩ := ht
    have hlt : ys.length < R.C.L.length := by rw [hL]; simp
    have hN : R.C.L.length = ys.length + 1 := by rw [hL]; simp
    obtain ⟨g, cap, rfl, hcap, _, _⟩ := k1.rc.sm hlt
    have c2 := k1.rc.c2
    have i3 := k1.rc.item (k := 3) hlt (by decide) rfl
    have hii : R.C.L[ys.length] = i := by simp [hL]
    rw [hii] at i3
    have f3 := k1.rc.gfr (ys.length * 4 + 3)
    obtain ⟨a1, m1⟩ := k1.rc.setItem (xs := ys) (ys := []) (x := i) (y := { i with pins := i.pins + 1 }) hL (k := 3) (by decide) (v := .int .i64 ((i.pins : Int) + 1)) rfl _ rfl
    have HQ : Hid (EvTo G H c q w ((w1.setCell ⟨g, ys.length * 4 + 3, none⟩ (.int .i64 ((i.pins : Int) + 1))).drew) R.S (R.C.last fun i => { i with pins := i.pins + 1 })) := (show EvTo _ _ _ _ _ _ _ _ by
      have e : (R.C.last fun i => { i with pins := i.pins + 1 }) = { R.C with L := ys ++ [{ i with pins := i.pins + 1 }] } := by unfold Ca.last; rw [hL, modLast_snoc]
      rw [e]
      have cd := Chg.drew (fun _ => False) (w1.setCell ⟨g, ys.length * 4 + 3, none⟩ (.int .i64 ((i.pins : Int) + 1)))
      exact EvTo.then k1 k2 k3 k4 ⟨H1, _, a1.kept cd (fun _ _ h => h), m1.trans cd (fun _ _ h => h.elim), fun _ h => .inl h⟩)
    rw [hN] at c2
    have hyl : ys.length < 1048576 := by omega
    clear k1 k2 k3 k4 hlt hL hii a1 m1 hcap HL hN hre hll
    generalize ys.length = y at *
    have hp' : (i.pins : Int) < 1099511627776 := by omega
    have hp0 : (0 : Int) ≤ (i.pins : Int) := by omega
    clear hpi
    generalize (i.pins : Int) = ip at *
    go_wp2_with fail
    go_region
    all_goals
      go_wp2
      go_ret
      rw [HP.out, if_neg (by rw [HRE.out]; simp)]
      exact ⟨rfl, HQ.out⟩
  · have he0 : (re == 0) = false := by simpa using he
    clear hre ht
    go_wp2
    go_ret
    rw [HP.out, if_pos (by rw [HRE.out]; exact he), HRE.out]
    exact ⟨rfl, HT.out⟩
end Go.Proofs.Ytioloobeakjbeaa

namespace Go.Proofs.Ytioloobeakjbeaa
open Go.RowKit Go.Maps
attribute [local go_sem ↓] Go.wp_at_zero Go.wp_at_succ
attribute [local go_sem ↓] appG_eq

set_option maxHeartbeats 800000 in
theorem runpin_any (H : Nat → Prop) (c q nb : Nat) (C : Ca) (lv : Value) (n : Int) (w : World) (h : RcAt w H c q C lv) (hw : C.Wf nb) (hu : C.hits + C.misses < 1099511627776) :
    Calls Try.prog 36 #[.pointer (some ⟨c, 0, none⟩), .int .i64 n] w fun e w' => e = .returned (.bool (unpins C n)) ∧ RcTo H c q w w' (unpin C n) := by
  have hfew := hw.few
  have htop := hw.top
  have HF : Hid (Calls Try.prog 47 #[.pointer (some ⟨c, 0, none⟩), .int .i64 n] w fun e w' => w' = w ∧ ((e = .returned (.int .i64 (-1)) ∧ Hid (unpins C n = false ∧ unpin C n = C)) ∨
      ∃ (i g cap N : Nat) (pn : Int), e = .returned (.int .i64 (i : Int)) ∧ i < N ∧ N ≤ 1024 ∧ w.cell? ⟨c, 2, none⟩ = some (.slice (some ⟨g, 0, none⟩) N cap) ∧ w.cell? ⟨g, i * 4 + 3, none⟩ = some (.int .i64 pn) ∧ w.frozen? ⟨g, i * 4 + 3, none⟩ = false ∧ 0 ≤ pn ∧ pn < 1099511627776 ∧
        (pn = 0 → Hid (unpins C n = false ∧ unpin C n = C)) ∧ (pn ≠ 0 → Hid (unpins C n = true ∧ RcTo H c q w (w.setCell ⟨g, i * 4 + 3, none⟩ (.int .i64 (pn - 1))) (unpin C n))))) := by
    refine (rfind_any H c q C lv n w h (by omega)).mono ?_
    rintro e w' ⟨k, rfl, hf, rfl⟩
    refine ⟨rfl, ?_⟩
    rcases hf with ⟨xs, x, ys, hL, rfl, rfl⟩ | ⟨hf, rfl⟩
    · right
      have hlt : xs.length < C.L.length := by rw [hL]; simp
      have hm : x ∈ C.L := by rw [hL]; simp
      obtain ⟨g, cap, rfl, hcap, _, _⟩ := h.sm hlt
      have i3 := h.item (k := 3) hlt (by decide) rfl
      have hii : C.L[xs.length] = x := by simp [hL]
      rw [hii] at i3
      have hpi := hw.pins x hm
      have hup : unpins C (x.n : Int) = (x.pins != 0) := by
        unfold unpins
        have := found_any hw hL (fun i => i.pins != 0)
        simpa using this
      refine ⟨xs.length, g, cap, C.L.length, (x.pins : Int), rfl, hlt, by omega, h.c2, i3, h.gfr _, by omega, by omega, fun h0 => ?_, fun h0 => ?_⟩
      · have e : unpins C (x.n : Int) = false := by rw [hup]; simp; omega
        exact ⟨e, by unfold unpin; rw [if_neg (by rw [e]; decide)]⟩
      · have e : unpins C (x.n : Int) = true := by rw [hup]; simp; omega
        refine ⟨e, ?_⟩
        have e2 : unpin C (x.n : Int) = { C with L := xs ++ { x with pins := x.pins - 1 } :: ys } := by
          unfold unpin
          rw [if_pos e]
          exact mod_eq hw hL _
        have hj : jcell { x with pins := x.pins - 1 } = (jcell x).set 3 (.int .i64 ((x.pins : Int) - 1)) := by
          have : ((x.pins - 1 : Nat) : Int) = (x.pins : Int) - 1 := by omega
          simp [jcell, this]
        obtain ⟨a1, m1⟩ := h.setItem (xs := xs) (ys := ys) (x := x) (y := { x with pins := x.pins - 1 }) hL (k := 3) (by decide) (v := .int .i64 ((x.pins : Int) - 1)) hj _ e2
        exact ⟨H, _, a1, m1, fun _ h => .inl h⟩
    · left
      refine ⟨rfl, ?_⟩
      have e : unpins C n = false := by
        unfold unpins
        by_cases h0 : 0 ≤ n
        · have : (C.L.any fun i => i.n == n.toNat && i.pins != 0) = false := by
            refine List.any_eq_false.2 (fun i hi => ?_)
            have := hf i hi
            have : ¬ i.n = n.toNat := by omega
            simp [this]
          simp [this]
        · simp [h0]
      exact ⟨e, by unfold unpin; rw [if_neg (by rw [e]; decide)]⟩
  have HR : Hid (RcTo H c q w w C) := ⟨H, lv, h, Chg.refl _ _, fun _ h => .inl h⟩
  clear h hw hu hfew htop
  generalize unpins C n = u at *
  generalize unpin C n = U at *
  go_enter Try.func36, Try.ntmps36
  go_wp2_with fail
  refine (show Calls _ _ _ _ _ from HF.out).mono ?_
  clear HF
  rintro e w1 ⟨rfl, ⟨rfl, HX⟩ | ⟨i, g, cap, N, pn, rfl, hi, hN, c2, i3, f3, p0, p1, y0, y1⟩⟩
  · go_wp2
    go_ret
    rw [HX.out.1, HX.out.2]
    exact ⟨rfl, HR.out⟩
  · have hi' : (i : Int) < (N : Int) := by omega
    have hi0 : ¬ (i : Int) < 0 := by omega
    by_cases hp : pn = 0
    · have HX := y0 hp
      subst hp
      clear y0 y1
      go_wp2
      go_ret
      rw [HX.out.1, HX.out.2]
      exact ⟨rfl, HR.out⟩
    · have HX := y1 hp
      have hp0 : (pn == 0) = false := by simpa using hp
      clear y0 y1
      go_wp2
      go_ret
      rw [HX.out.1]
      exact ⟨rfl, HX.out.2⟩

theorem run_appIr {P : Program} (w : World) (N : Nat) (t ty : TypeId) (i : TypeInfo) (ht : P.underlying t = some (.slice 3)) (hi : P.info? 3 = some i) (hz : i.zero = some (.int .i64 0)) (hs : i.size = 1) (hb : i.bytes = 8)
    (v x : Value) (n : Nat) (xs news : List Int) (hown : w.ownsRow N 3 1 v n (xs.map (Value.int .i64))) (hx : Is w x news) (hlen : xs.length + news.length ≤ 1099511627776) (hN : N ≤ w.heap.size) :
    ∃ v' w', (Builtin.append_ #[t, t] ty #[v, x]).run P w = .ok v' w' ∧ w'.ownsRow N 3 1 v' (n + news.length) ((xs ++ news).map (Value.int .i64)) ∧ w.grownBy w' v.ownBlock ∧ (v'.ownBlock = v.ownBlock ∨ v'.ownBlock = some w.heap.size) := by
  have hn : xs.length = n := by have := hown.1; simpa using this
  subst hn
  rw [List.map_append]
  rcases hx with ⟨rfl, rfl⟩ | ⟨a, c, rfl, _, _, hcell⟩
  · exact ⟨v, w, run_append_owned_none w N t ty 3 i 1 ht hi v _ _ hown, by simpa using hown, ⟨rfl, rfl, rfl, Nat.le_refl _, fun _ _ _ => rfl⟩, .inl rfl⟩
  · obtain ⟨v', w', h1, h2, h3, _, h5⟩ := run_append_own_at (P := P) w N t ty 3 i (.int .i64 0) 1 8 ht hi hz hs hb rfl (by decide) v xs.length (xs.map (Value.int .i64)) hown a news.length c (news.map (Value.int .i64)) (by simp)
      (fun j u hu => by
        have hj : j < news.length := by simpa using (List.getElem?_eq_some_iff.1 hu).1
        have : u = .int .i64 (news.getD j 0) := by
          simp [hj] at hu
          simp [List.getD, hj, ← hu]
        rw [this]; exact hcell j hj) (fun u hu => by obtain ⟨z, _, rfl⟩ := List.mem_map.1 hu; rfl) (by unfold maxLen; omega) (by omega) hN
    exact ⟨v', w', h1, by simpa using h2, h3, h5⟩

theorem icells_map (R : List Nat) : (R.map fun n : Nat => (n : Int)).map (Value.int .i64) = icells R := by simp [icells]
theorem appNr {W : World} {N : Nat} {rv : Value} {R : List Nat} (x : Nat) (ho : W.ownsRow N 3 1 rv R.length (icells R)) (hN : N ≤ W.heap.size) (hl : R.length ≤ 1048576) :
    ∃ v' w', (appG #[40, 40] 40 #[rv, .slice (some ⟨W.heap.size, 0, none⟩) 1 1]).run Try.prog (W.alloc (.cells #[.int .i64 (x : Int)] 3)) = .ok v' w' ∧ w'.ownsRow N 3 1 v' (R ++ [x]).length (icells (R ++ [x])) ∧ Chg (fun b => N ≤ b) W w' := by
  obtain ⟨i0, hi, hz0, hz1, hz2⟩ := info_parts info3
  have ho' : (W.alloc (.cells #[.int .i64 (x : Int)] 3)).ownsRow N 3 1 rv R.length ((R.map fun n : Nat => (n : Int)).map (Value.int .i64)) := by rw [icells_map]; exact ho.alloc _
  obtain ⟨v', w', h1, h2, h3, h4⟩ := run_appIr (P := Try.prog) (W.alloc (.cells #[.int .i64 (x : Int)] 3)) N 40 40 i0 Try.underlying40 hi hz0 hz1 hz2 rv (.slice (some ⟨W.heap.size, 0, none⟩) 1 1) R.length (R.map fun n : Nat => (n : Int)) [(x : Int)] ho' (Is.one W x) (by simp; omega) (by simp; omega)
  refine ⟨v', w', h1, ?_, ?_⟩
  · have e : ((R.map fun n : Nat => (n : Int)) ++ [(x : Int)]).map (Value.int .i64) = icells (R ++ [x]) := by simp [icells]
    rw [e] at h2
    simpa using h2
  · refine (Chg.alloc (fun b => N ≤ b) W _).trans ((Chg.ofGrown h3).mono (fun b _ e => ?_)) (fun _ _ h => h)
    exact (ho.lt b e).1

/-- The numbers below i that are held, or that are dirty. -/
def heldTo (C : Ca) (d : Bool) (i : Nat) : List Nat := (List.range i).filter fun n => if d then C.isDirty n else C.has n
theorem heldTo_succ (C : Ca) (d : Bool) (i : Nat) : heldTo C d (i + 1) = heldTo C d i ++ (if (if d then C.isDirty i else C.has i) then [i] else []) := by
  unfold heldTo
  rw [List.range_succ, List.filter_append]
  congr 1
  cases h : (if d then C.isDirty i else C.has i) <;> simp [h]
theorem heldTo_le (C : Ca) (d : Bool) (i : Nat) : (heldTo C d i).length ≤ i := by
  have := List.length_filter_le (fun n => if d then C.isDirty n else C.has n) (List.range i)
  rwa [List.length_range] at this

set_option maxHeartbeats 1600000 in
theorem rheld_any (G H : Nat → Prop) (c q : Nat) (S : St) (C : Ca) (lv : Value) (d : Bool) (w : World) (h : RCk w G H c q S C lv) (hw : C.Wf S.nb) (hnb : S.nb ≤ 16384) :
    Calls Try.prog 19 #[.pointer (some ⟨c, 0, none⟩), .bool d] w fun e w' => ∃ v, e = .returned v ∧ w'.ownsRow w.heap.size 3 1 v (heldTo C d S.nb).length (icells (heldTo C d S.nb)) ∧ Chg (fun _ => False) w w' := by
  have hfew := hw.few
  have htop := hw.top
  have HH : Hid (RCk w G H c q S C lv ∧ C.Wf S.nb) := ⟨h, hw⟩
  clear h hw
  obtain ⟨nb, hnbe⟩ : ∃ x, S.nb = x := ⟨_, rfl⟩
  have HNB : Hid (S.nb = nb) := hnbe
  rw [hnbe] at hnb ⊢
  clear hnbe
  go_enter Try.func19, Try.ntmps19
  go_wp2_with fail
  go_loopg [5, 6, 7] nb (fun gg v x _ wr => ∃ (i : Nat) (a : Option Addr) (n cp : Nat), i ≤ nb ∧ v = .slice a n cp ∧ x = .int .i64 (i : Int) ∧ nb - i ≤ gg ∧ Hid (n = (heldTo C d i).length ∧ wr.ownsRow w.heap.size 3 1 (.slice a n cp) (heldTo C d i).length (icells (heldTo C d i)) ∧ Chg (fun _ => False) w wr))
  case atStart => exact ⟨0, none, 0, 0, Nat.zero_le _, rfl, rfl, by omega, rfl, World.ownsRow_nil _ _ _ _, Chg.refl _ _⟩
  case round =>
    obtain ⟨i, a, n, cp, hi, rfl, rfl, hgg, HX⟩ := hrel
    obtain ⟨hn, hown, hch⟩ := HX.out
    have k1 := HH.out.1.kept hch (fun _ _ h => h)
    have c0 := k1.rc.c0
    have q0 : ∃ lb lc, wr.cell? ⟨q, 0, none⟩ = some (.slice (some ⟨lb, 0, none⟩) nb lc) := by
      obtain ⟨R, lb, lc, wv, pv, s, h⟩ := k1.rk
      have := h.c0
      rw [s.nb, HNB.out] at this
      exact ⟨lb, lc, this⟩
    obtain ⟨lb, lc, q0⟩ := q0
    by_cases hlt : i < nb
    · have g1 : decide ((i : Int) < (nb : Int)) = true := by simp; omega
      have g1' : (i : Int) < (nb : Int) := by omega
      have hle := heldTo_le C d i
      obtain ⟨v', w2, hr, ho2, hc2⟩ := appNr i hown hch.size (by omega)
      have hc2' : Chg (fun _ => False) w w2 := hch.trans hc2 (fun k hk e => by omega)
      have HF : Hid (Calls Try.prog 47 #[.pointer (some ⟨c, 0, none⟩), .int .i64 (i : Int)] wr fun e w' => w' = wr ∧ ((e = .returned (.int .i64 (-1)) ∧ Hid (heldTo C d (i + 1) = heldTo C d i)) ∨
          ∃ (j g cap N : Nat) (dd : Bool), e = .returned (.int .i64 (j : Int)) ∧ j < N ∧ N ≤ 1024 ∧ wr.cell? ⟨c, 2, none⟩ = some (.slice (some ⟨g, 0, none⟩) N cap) ∧ wr.cell? ⟨g, j * 4 + 2, none⟩ = some (.bool dd) ∧
            Hid (heldTo C d (i + 1) = if (!d || dd) = true then heldTo C d i ++ [i] else heldTo C d i))) := by
        have hW := HH.out.2
        refine (rfind_any H c q C lv i wr k1.rc (by omega)).mono ?_
        rintro e w' ⟨k, rfl, hf, rfl⟩
        refine ⟨rfl, ?_⟩
        rcases hf with ⟨xs, x, ys, hL, hxi, rfl⟩ | ⟨hf, rfl⟩
        · right
          have hxi' : x.n = i := by omega
          have hlt2 : xs.length < C.L.length := by rw [hL]; simp
          have hm : x ∈ C.L := by rw [hL]; simp
          obtain ⟨g, cap, rfl, hcap, _, _⟩ := k1.rc.sm hlt2
          have i2 := k1.rc.item (k := 2) hlt2 (by decide) rfl
          have hii : C.L[xs.length] = x := by simp [hL]
          rw [hii] at i2
          refine ⟨xs.length, g, cap, C.L.length, x.dirty, rfl, hlt2, by omega, k1.rc.c2, i2, ?_⟩
          have e1 : C.has i = true := Ca.has_iff.2 ⟨x, hm, hxi'⟩
          have e2 : C.isDirty i = x.dirty := by rw [← hxi']; exact found_any hW hL (fun i => i.dirty)
          show heldTo C d (i + 1) = _
          rw [heldTo_succ, e1, e2]
          cases d <;> cases x.dirty <;> simp
        · left
          refine ⟨rfl, ?_⟩
          have e1 : C.has i = false := Ca.not_has (fun x hx => by have := hf x hx; omega)
          have e2 : C.isDirty i = false := by
            unfold Ca.isDirty
            refine List.any_eq_false.2 (fun x hx => ?_)
            have := hf x hx
            have : ¬ x.n = i := by omega
            simp [this]
          show heldTo C d (i + 1) = _
          rw [heldTo_succ, e1, e2]
          cases d <;> simp
      have HO : Hid (w2.ownsRow w.heap.size 3 1 v' (heldTo C d i ++ [i]).length (icells (heldTo C d i ++ [i])) ∧ Chg (fun _ => False) w w2) := ⟨ho2, hc2'⟩
      obtain ⟨b2, p2, hv2⟩ := own_form ho2
      have HV : Hid (v' = .slice b2 (heldTo C d i ++ [i]).length p2) := hv2
      rw [hv2] at hr
      clear k1 hown hch hn ho2 hc2 hc2' hle hv2
      generalize hNN : (heldTo C d i ++ [i]).length = NN at *
      have HNN : Hid ((heldTo C d i ++ [i]).length = NN) := hNN
      clear hNN
      go_wp2_with fail
      refine (show Calls _ _ _ _ _ from HF.out).mono ?_
      clear HF
      rintro e w1 ⟨rfl, ⟨rfl, HY⟩ | ⟨j, g, cap, N, dd, rfl, hj, hN, c2, j2, HY⟩⟩
      · go_wp2
        go_roundg (nb - (i + 1))
        case measure => omega
        case rel =>
          refine ⟨i + 1, a, n, cp, by omega, rfl, by go_num, Nat.le_refl _, ?_⟩
          show Hid _
          rw [HY.out]
          exact HX.out
      · have hj' : (j : Int) < (N : Int) := by omega
        have hj0 : ¬ (j : Int) < 0 := by omega
        cases d with
        | false =>
          go_wp2
          go_roundg (nb - (i + 1))
          case measure => omega
          case rel =>
            refine ⟨i + 1, b2, NN, p2, by omega, rfl, by go_num, Nat.le_refl _, ?_⟩
            have e := HY.out
            simp at e
            show Hid _
            rw [e]
            have ho := HO.out
            rw [HV.out] at ho
            exact ⟨HNN.out.symm, by rw [HNN.out]; exact ho.1, ho.2⟩
        | true =>
          cases dd with
          | true =>
            go_wp2
            go_roundg (nb - (i + 1))
            case measure => omega
            case rel =>
              refine ⟨i + 1, b2, NN, p2, by omega, rfl, by go_num, Nat.le_refl _, ?_⟩
              have e := HY.out
              simp at e
              show Hid _
              rw [e]
              have ho := HO.out
              rw [HV.out] at ho
              exact ⟨HNN.out.symm, by rw [HNN.out]; exact ho.1, ho.2⟩
          | false =>
            go_wp2
            go_roundg (nb - (i + 1))
            case measure => omega
            case rel =>
              refine ⟨i + 1, a, n, cp, by omega, rfl, by go_num, Nat.le_refl _, ?_⟩
              have e := HY.out
              simp at e
              show Hid _
              rw [e]
              exact HX.out
    · have hie : i = nb := by omega
      subst hie
      have g1 : decide ((i : Int) < (i : Int)) = false := by simp
      clear k1 hown hch hn
      go_wp2
      go_ret
      exact ⟨_, rfl, HX.out.2⟩
end Go.Proofs.Ytioloobeakjbeaa

namespace Go.Proofs.Ytioloobeakjbeaa
open Go.RowKit Go.Maps
attribute [local go_sem ↓] Go.wp_at_zero Go.wp_at_succ

theorem heldTo_dirty (C : Ca) (nb : Nat) : heldTo C true nb = C.dirties nb := rfl
theorem heldTo_held (C : Ca) (nb : Nat) : heldTo C false nb = C.held nb := rfl

set_option maxHeartbeats 1600000 in
theorem ints_any (v u : Value) (l : List Int) (w : World) (hv : Is w v l) (hu : Is w u l) (hl : l.length ≤ 1048576) : Calls Try.prog 17 #[v, u] w fun e w' => e = .returned (.bool true) ∧ Chg (fun _ => False) w w' := by
  obtain ⟨va, vc, rfl, _⟩ := hv.form
  obtain ⟨ua, uc, rfl, _⟩ := hu.form
  have HH : Hid (Is w (.slice va l.length vc) l ∧ Is w (.slice ua l.length uc) l) := ⟨hv, hu⟩
  clear hv hu
  obtain ⟨n, hn⟩ : ∃ n, l.length = n := ⟨_, rfl⟩
  have HN : Hid (l.length = n) := hn
  rw [hn] at hl HH
  rw [hn]
  clear hn
  go_enter Try.func17, Try.ntmps17
  go_wp2_with fail
  go_loopg [5] n (fun gg x wr => ∃ i : Nat, i ≤ n ∧ x = .int .i64 (i : Int) ∧ n - i ≤ gg ∧ Hid (Chg (fun _ => False) w wr))
  case atStart => exact ⟨0, Nat.zero_le _, rfl, by omega, Chg.refl _ _⟩
  case round =>
    obtain ⟨i, hi, rfl, hgg, HX⟩ := hrel
    by_cases hlt : i < n
    · have g1 : decide ((i : Int) < (n : Int)) = true := by simp; omega
      have g1' : (i : Int) < (n : Int) := by omega
      have hlt2 : i < l.length := by rw [HN.out]; exact hlt
      obtain ⟨b1, o1, rfl, f1⟩ := (HH.out.1.kept HX.out (fun _ _ h => h)).nth hlt2
      obtain ⟨b2, o2, rfl, f2⟩ := (HH.out.2.kept HX.out (fun _ _ h => h)).nth hlt2
      have d1 := f1 i hlt2
      have d2 := f2 i hlt2
      clear f1 f2
      generalize l.getD i 0 = x at *
      go_wp2_with fail
      go_region
      all_goals
        go_wp2
        go_roundg (n - (i + 1))
        case measure => omega
        case rel => exact ⟨i + 1, by omega, by go_num, Nat.le_refl _, HX.out.trans (Chg.drew _ _) (fun _ _ h => h)⟩
    · have hie : i = n := by omega
      subst hie
      have g1 : decide ((i : Int) < (i : Int)) = false := by simp
      go_wp2
      go_ret
      exact ⟨rfl, HX.out⟩

set_option maxHeartbeats 3200000 in
set_option maxRecDepth 100000 in
theorem rflush_any (G H : Nat → Prop) (c q : Nat) (S : St) (C : Ca) (lv : Value) (w : World) (h : RCk w G H c q S C lv) (hw : C.Wf S.nb) (hnb : S.nb ≤ 16384) (hx : S.writes + 16384 < 1099511627776) :
    Calls Try.prog 37 #[.pointer (some ⟨c, 0, none⟩)] w fun e w' => e = .returned (.int .i64 (flush S C).e) ∧ EvTo G H c q w w' (flush S C).S (flush S C).C := by
  have hdl := dirties_le C S.nb
  have HD := rheld_any G H c q S C lv true w h hw hnb
  rw [heldTo_dirty] at HD
  have HDD : Hid _ := HD
  have HK : Hid (RCk w G H c q S C lv ∧ C.Wf S.nb) := ⟨h, hw⟩
  have HFl : Hid (flush S C = if (flushTo S C (C.dirties S.nb)).e ≠ 0 then flushTo S C (C.dirties S.nb) else ⟨(flushTo S C (C.dirties S.nb)).S.syncE, (flushTo S C (C.dirties S.nb)).S.sync, (flushTo S C (C.dirties S.nb)).C⟩) := (show flush S C = _ from rfl)
  have HLH : Hid ((∀ n ∈ C.dirties S.nb, C.isDirty n = true) ∧ (C.dirties S.nb).Nodup) := ⟨fun n hn => (mem_dirties.1 hn).2, dirties_nodup C S.nb⟩
  generalize C.dirties S.nb = L at *
  clear h HD hw
  go_enter Try.func37, Try.ntmps37
  go_wp2_with fail
  refine (show Calls _ _ _ _ _ from HDD.out).mono ?_
  clear HDD
  rintro e w1 ⟨v, rfl, ho, hc⟩
  have HK1 : Hid (RCk w1 G H c q S C lv ∧ Chg (fun _ => False) w w1) := ⟨HK.out.1.kept hc (fun _ _ h => h), hc⟩
  have HVN : Hid (∀ g, v.ownBlock = some g → w.heap.size ≤ g ∧ g < w1.heap.size ∧ ¬ G g ∧ ¬ H g) := (show ∀ g, v.ownBlock = some g → _ from fun g hg => by
    obtain ⟨h1, h2⟩ := ho.lt g hg
    exact ⟨h1, h2, fun e => by have := HK.out.1.rk.lt g e; omega, fun e => by have := HK.out.1.rc.lt g e; omega⟩)
  have HV : Hid (w1.ownsRow w.heap.size 3 1 v L.length (icells L)) := ho
  obtain ⟨va, vc, hvf⟩ := own_form ho
  subst hvf
  clear ho hc
  go_wp2_with fail
  go_loopg [4, 5, 6] (L.length) (fun gg x _ _ wr => ∃ (j : Nat) (Sj : St) (Cj : Ca) (Gj : Nat → Prop), j ≤ L.length ∧ x = .int .i64 (j : Int) ∧ L.length - j ≤ gg ∧
    Hid (RCk wr Gj H c q Sj Cj lv ∧ Chg (fun b => G b ∨ H b) w1 wr ∧ (∀ b, Gj b → G b ∨ w1.heap.size ≤ b) ∧ flushTo S C L = flushTo Sj Cj (L.drop j) ∧ Sj.nb = S.nb ∧ Sj.writes ≤ S.writes + j ∧ Cj.Wf S.nb ∧ ∀ n ∈ L.drop j, Cj.isDirty n = true))
  case atStart => exact ⟨0, S, C, G, Nat.zero_le _, rfl, by omega, HK1.out.1, Chg.refl _ _, fun _ h => .inl h, rfl, rfl, Nat.le_refl _, HK.out.2, HLH.out.1⟩
  case round =>
    obtain ⟨j, Sj, Cj, Gj, hj, rfl, hgg, HX⟩ := hrel
    have c0 := HX.out.1.rc.c0
    by_cases hlt : j < L.length
    · have k1 : decide ((j : Int) < (L.length : Int)) = true := by simp; omega
      have k1' : (j : Int) < (L.length : Int) := by omega
      obtain ⟨gn, hva⟩ : ∃ g, va = some ⟨g, 0, none⟩ := by
        rcases HV.out.2 with ⟨e, h0⟩ | ⟨g, cap, cur, e, _⟩
        · omega
        · simp at e; exact ⟨g, e.1⟩
      subst hva
      have hrow : w1.cell? ⟨gn, j, none⟩ = some (.int .i64 ((L.getD j 0 : Nat) : Int)) := own_cells HV.out j hlt
      obtain ⟨n1, n2, n3, n4⟩ := HVN.out gn rfl
      have hcell : wr.cell? ⟨gn, j, none⟩ = some (.int .i64 ((L.getD j 0 : Nat) : Int)) := HX.out.2.1.cell hrow (fun e => by
        rcases e with e | e
        · exact n3 e
        · exact n4 e)
      have hdrop := drop_head hlt
      have hdirty : Cj.isDirty (L.getD j 0) = true := HX.out.2.2.2.2.2.2.2 _ (by rw [hdrop]; simp)
      obtain ⟨hd1, hd2, hd3⟩ := Ca.isDirty_item HX.out.2.2.2.2.2.2.1 hdirty
      obtain ⟨xs, ys, hL⟩ := List.append_of_mem hd3
      obtain ⟨x, hxe⟩ : ∃ x, Cj.item (L.getD j 0) = x := ⟨_, rfl⟩
      rw [hxe] at hd1 hd2 hL
      have hxm : x ∈ Cj.L := by rw [hL]; simp
      have hW := HX.out.2.2.2.2.2.2.1
      have hft : flushTo S C L = if Sj.writeE x.n x.b ≠ 0 then ⟨Sj.writeE x.n x.b, Sj.write x.n x.b, Cj⟩ else flushTo (Sj.write x.n x.b) (Cj.mod x.n fun i => { i with dirty := false }) (L.drop (j + 1)) := by
        rw [HX.out.2.2.2.1, hdrop]
        show (if cleanE Sj (Cj.item (L.getD j 0)) ≠ 0 then _ else _) = _
        rw [hxe]
        have e1 : cleanE Sj x = Sj.writeE x.n x.b := by unfold cleanE; rw [if_pos hd1]
        have e2 : cleanS Sj x = Sj.write x.n x.b := by unfold cleanS; rw [if_pos hd1]
        rw [e1, e2, hd2]
      have hlt2 : xs.length < Cj.L.length := by rw [hL]; simp
      have hii : Cj.L[xs.length] = x := by simp [hL]
      obtain ⟨g, cap, hlv, hcap, hgc, _⟩ := HX.out.1.rc.sm hlt2
      have hR := HX.out.1
      rw [hlv] at hR
      have c2 := hR.rc.c2
      have i1 := hR.rc.item (k := 1) hlt2 (by decide) rfl
      rw [hii] at i1
      have hll : Cj.L.length ≤ 1024 := Nat.le_trans hW.few hW.top
      have HF : Hid (Calls Try.prog 47 #[.pointer (some ⟨c, 0, none⟩), .int .i64 ((L.getD j 0 : Nat) : Int)] wr fun e w' => e = .returned (.int .i64 (xs.length : Int)) ∧ w' = wr) := by
        refine (rfind_any H c q Cj _ _ wr hR.rc hll).mono ?_
        rintro e w' ⟨k, rfl, hf, rfl⟩
        refine ⟨?_, rfl⟩
        rcases hf with ⟨xs2, x2, ys2, hL2, hx2, rfl⟩ | ⟨hf, _⟩
        · have hu := hW.uniq
          have hx2' : x2.n = x.n := by omega
          have hi2 : (Cj.L.map It.n)[xs2.length]? = some x.n := by rw [hL2]; simp [hx2']
          have hi1 : (Cj.L.map It.n)[xs.length]? = some x.n := by rw [hL]; simp
          have hlt3 : xs2.length < (Cj.L.map It.n).length := by rw [hL2]; simp
          have := (List.getElem?_inj hlt3 hu).1 (hi2.trans hi1.symm)
          rw [this]
        · exact absurd (by omega) (hf x hxm)
      have hbl := hW.len x hxm
      obtain ⟨E, hE⟩ : ∃ E, Sj.writeE x.n x.b = E := ⟨_, rfl⟩
      have cd := Chg.drew (fun _ => False) wr
      have hRd := hR.kept cd (fun _ _ h => h)
      have W0 := rwrite_any Gj q Sj x.n x.b wr.drew hRd.rk (by have := HX.out.2.2.2.2.2.1; omega) (by omega)
      rw [hE] at W0
      have hxn : (x.n : Int) = ((L.getD j 0 : Nat) : Int) := by rw [hd2]
      obtain ⟨nn, hnn⟩ : ∃ z, ((L.getD j 0 : Nat) : Int) = z := ⟨_, rfl⟩
      obtain ⟨i, hi⟩ : ∃ z, xs.length = z := ⟨_, rfl⟩
      obtain ⟨t, ht⟩ : ∃ z, strOf x.b = z := ⟨_, rfl⟩
      obtain ⟨N, hN⟩ : ∃ z, Cj.L.length = z := ⟨_, rfl⟩
      have WR : Hid (Calls Try.prog 63 #[.pointer (some ⟨q, 0, none⟩), .int .i64 nn, .string t] wr.drew fun e w2 => e = .returned (.int .i64 E) ∧ w2.cell? ⟨c, 0, none⟩ = some (.pointer (some ⟨q, 0, none⟩)) ∧ w2.cell? ⟨gn, j, none⟩ = some (.int .i64 nn) ∧ w2.cell? ⟨c, 2, none⟩ = some (.slice (some ⟨g, 0, none⟩) N cap) ∧ w2.cell? ⟨g, i * 4 + 1, none⟩ = some (.string t) ∧
          (∃ dd, w2.cell? ⟨g, i * 4 + 2, none⟩ = some (.bool dd)) ∧ w2.frozen? ⟨g, i * 4 + 2, none⟩ = false ∧
          (E ≠ 0 → Hid (flushTo S C L = ⟨E, Sj.write x.n x.b, Cj⟩ ∧ ∃ G2, RCk w2 G2 H c q (Sj.write x.n x.b) Cj lv ∧ Chg (fun b => G b ∨ H b) w1 w2 ∧ ∀ b, G2 b → G b ∨ w1.heap.size ≤ b)) ∧
          (E = 0 → Hid (∃ (Sk : St) (Ck : Ca) (G2 : Nat → Prop), RCk (w2.setCell ⟨g, i * 4 + 2, none⟩ (.bool false)) G2 H c q Sk Ck lv ∧ Chg (fun b => G b ∨ H b) w1 (w2.setCell ⟨g, i * 4 + 2, none⟩ (.bool false)) ∧ (∀ b, G2 b → G b ∨ w1.heap.size ≤ b) ∧ flushTo S C L = flushTo Sk Ck (L.drop (j + 1)) ∧ Sk.nb = S.nb ∧ Sk.writes ≤ S.writes + (j + 1) ∧ Ck.Wf S.nb ∧ ∀ n ∈ L.drop (j + 1), Ck.isDirty n = true))) := by
        rw [← hnn, ← ht, ← hxn]
        refine W0.mono ?_
        rintro e w2 ⟨rfl, ht2⟩
        obtain ⟨G2, m1, m2, m3⟩ := hRd.disk ht2
        have j1 := m1.rc.item (k := 1) hlt2 (by decide) rfl
        have j2 := m1.rc.item (k := 2) hlt2 (by decide) rfl
        rw [hii] at j1 j2
        have m2' : Chg Gj wr w2 := (cd.mono (fun _ _ h => h.elim)).trans m2 (fun _ _ h => h)
        have hG12 : ∀ b, G2 b → G b ∨ w1.heap.size ≤ b := fun b hb => by
          rcases m3 b hb with e | e
          · exact HX.out.2.2.1 b e
          · exact .inr (Nat.le_trans HX.out.2.1.size e)
        have hch : Chg (fun b => G b ∨ H b) w1 w2 := HX.out.2.1.trans m2' (fun k hk e => by
          rcases HX.out.2.2.1 k e with e | e
          · exact .inl e
          · omega)
        have hcn : w2.cell? ⟨gn, j, none⟩ = some (.int .i64 ((L.getD j 0 : Nat) : Int)) := hch.cell hrow (fun e => by
          rcases e with e | e
          · exact n3 e
          · exact n4 e)
        refine ⟨rfl, m1.rc.c0, by rw [hxn]; exact hcn, by rw [← hN]; exact m1.rc.c2, by rw [← hi]; exact j1, ⟨_, by rw [← hi]; exact j2⟩, m1.rc.gfr _, fun h0 => ?_, fun h0 => ?_⟩
        · refine ⟨by rw [hft, hE, if_pos h0], G2, by rw [hlv]; exact m1, hch, hG12⟩
        · obtain ⟨a1, z1⟩ := m1.rc.setItem (xs := xs) (ys := ys) (x := x) (y := { x with dirty := false }) hL (k := 2) (by decide) (v := .bool false) rfl _ (mod_eq hW hL fun i => { i with dirty := false })
          rw [← hi]
          have hnot : ∀ b, G2 b → ¬ H b := m1.no
          refine ⟨Sj.write x.n x.b, Cj.mod x.n fun i => { i with dirty := false }, G2, ⟨m1.rk.kept z1 (fun b hb hH => hnot b hb hH), by rw [hlv]; exact a1, hnot⟩, hch.trans z1 (fun _ _ h => .inr h), hG12, by rw [hft, hE, if_neg (by simpa using h0)], (St.write_nb _ _ _).trans HX.out.2.2.2.2.1, ?_, Ca.mod_wf hW _ _ (fun _ => rfl) (fun _ => rfl) (fun _ => Nat.le_refl _), fun n hn => ?_⟩
          · have := St.write_writes_le Sj x.n x.b
            have := HX.out.2.2.2.2.2.1
            omega
          · have hnd : (L.drop j).Nodup := HLH.out.2.sublist (List.drop_sublist _ _)
            rw [hdrop, List.nodup_cons] at hnd
            have hne : n ≠ x.n := fun e => hnd.1 (by rw [hd2] at e; rw [← e]; exact hn)
            rw [Ca.isDirty_mod hne]
            exact HX.out.2.2.2.2.2.2.2 n (by rw [hdrop]; exact List.mem_cons_of_mem _ hn)
      rw [hnn] at hcell HF
      rw [hi] at HF i1
      rw [ht] at i1
      rw [hN] at c2
      have hiN : (i : Int) < (N : Int) := by omega
      have hN1 : N ≤ 1024 := by omega
      clear hR hRd W0 cd hft hdrop hdirty hd1 hd2 hd3 hL hxe hxm hW hlt2 hii hlv hcap hgc hll hbl hE hxn hnn hi ht hN hrow n1 n2 n3 n4
      go_wp2_with fail
      refine (show Calls _ _ _ _ _ from HF.out).mono ?_
      rintro e w2 ⟨rfl, rfl⟩
      clear HF
      go_wp2_with fail
      go_region_held (fun w' => w'.cell? ⟨c, 0, none⟩ = some (.pointer (some ⟨q, 0, none⟩)) ∧ w'.cell? ⟨gn, j, none⟩ = some (.int .i64 nn) ∧ w'.cell? ⟨c, 2, none⟩ = some (.slice (some ⟨g, 0, none⟩) N cap) ∧ w'.cell? ⟨g, i * 4 + 1, none⟩ = some (.string t))
        (first | assumption | exact ⟨c0, hcell, c2, i1⟩ | exact ⟨q0, q1, q2, q3⟩)
        (first | (go_at_call 63; refine WR.out.mono ?_; clear WR; rintro e w3 ⟨rfl, q0, q1, q2, q3, ⟨dd, q4⟩, q5, y1, y2⟩))
      all_goals
        clear c0 hcell c2 i1
        by_cases he : E = 0
        · have HY := y2 he
          subst he
          clear y1 y2
          go_wp2
          go_roundg (L.length - (j + 1))
          case measure => omega
          case rel =>
            obtain ⟨Sk, Ck, G2, hh⟩ := HY.out
            exact ⟨j + 1, Sk, Ck, G2, by omega, by go_num, Nat.le_refl _, hh⟩
        · have HY := y1 he
          have he0 : (E == 0) = false := by simpa using he
          clear y1 y2
          go_wp2
          go_ret
          obtain ⟨hf, G2, m1, m2, m3⟩ := HY.out
          rw [HFl.out, hf, if_pos he]
          exact ⟨rfl, EvTo.after HK1.out.2 ⟨G2, H, lv, m1, m2, m3, fun _ h => .inl h⟩⟩
    · have hje : j = L.length := by omega
      subst hje
      have k1 : decide ((L.length : Int) < (L.length : Int)) = false := by simp
      have hf : flushTo S C L = ⟨0, Sj, Cj⟩ := by rw [HX.out.2.2.2.1, List.drop_length]; rfl
      have HF : Hid (flush S C = ⟨Sj.syncE, Sj.sync, Cj⟩) := (show flush S C = ⟨Sj.syncE, Sj.sync, Cj⟩ by rw [HFl.out, hf, if_neg (by simp)])
      have hww : Sj.writes < 1099511627776 := by have := HX.out.2.2.2.2.2.1; omega
      have HS : Hid _ := rsync_any Gj q Sj wr HX.out.1.rk hww
      clear hf HFl
      go_wp2_with fail
      refine (show Calls _ _ _ _ _ from HS.out).mono ?_
      rintro e w2 ⟨rfl, ht⟩
      have HT : Hid (RTo Gj q wr w2 Sj.sync) := ht
      clear ht c0 HS
      go_wp2
      go_ret
      rw [HF.out]
      obtain ⟨G2, m1, m2, m3⟩ := HX.out.1.disk HT.out
      refine ⟨rfl, EvTo.after HK1.out.2 ⟨G2, H, lv, m1, HX.out.2.1.trans m2 (fun k hk e => ?_), fun b hb => ?_, fun _ h => .inl h⟩⟩
      · rcases HX.out.2.2.1 k e with e | e
        · exact .inl e
        · omega
      · rcases m3 b hb with e | e
        · exact HX.out.2.2.1 b e
        · exact .inr (Nat.le_trans HX.out.2.1.size e)
end Go.Proofs.Ytioloobeakjbeaa

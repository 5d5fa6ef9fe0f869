/-
  The contracts of the reference's Unpin and Held, and of the law's comparison of two lists of numbers.
-/
import Derived.Test.YtioloobeakjbeaaRC8
namespace Go.Proofs.Ytioloobeakjbeaa
open Go.RowKit Go.Maps
attribute [local go_sem ↓] Go.wp_at_zero Go.wp_at_succ
attribute [local go_sem ↓] appG_eq

set_option maxHeartbeats 800000 in
theorem runpin_any (H : Nat → Prop) (c q nb : Nat) (C : Ca) (lv : Value) (n : Int) (w : World) (h : RcAt w H c q C lv) (hw : C.Wf nb) (hu : C.hits + C.misses < 1099511627776) :
    Calls Try.prog 36 #[.pointer (some ⟨c, 0, none⟩), .int .i64 n] w fun e w' => e = .returned (.bool (unpins C n)) ∧ RcTo H c q w w' (unpin C n) := by
  have hfew := hw.few
  have htop := hw.top
  have HF : Hid (Calls Try.prog 47 #[.pointer (some ⟨c, 0, none⟩), .int .i64 n] w fun e w' => w' = w ∧ ((e = .returned (.int .i64 (-1)) ∧ Hid (unpins C n = false ∧ unpin C n = C)) ∨
      ∃ (i g cap N : Nat) (pn : Int), e = .returned (.int .i64 (i : Int)) ∧ i < N ∧ N ≤ 1024 ∧ w.cell? ⟨c, 2, none⟩ = some (.slice (some ⟨g, 0, none⟩) N cap) ∧ w.cell? ⟨g, i * 4 + 3, none⟩ = some (.int .i64 pn) ∧ w.frozen? ⟨g, i * 4 + 3, none⟩ = false ∧ 0 ≤ pn ∧ pn < 1099511627776 ∧
        (pn = 0 → Hid (unpins C n = false ∧ unpin C n = C)) ∧ (pn ≠ 0 → Hid (unpins C n = true ∧ RcTo H c q w (w.setCell ⟨g, i * 4 + 3, none⟩ (.int .i64 (pn - 1))) (unpin C n))))) := by
    refine (rfind_any H c q C lv n w h (by omega)).mono ?_
    rintro e w' ⟨k, rfl, hf, rfl⟩
    refine ⟨rfl, ?_⟩
    rcases hf with ⟨xs, x, ys, hL, rfl, rfl⟩ | ⟨hf, rfl⟩
    · right
      have hlt : xs.length < C.L.length := by rw [hL]; simp
      have hm : x ∈ C.L := by rw [hL]; simp
      obtain ⟨g, cap, rfl, hcap, _, _⟩ := h.sm hlt
      have i3 := h.item (k := 3) hlt (by decide) rfl
      have hii : C.L[xs.length] = x := by simp [hL]
      rw [hii] at i3
      have hpi := hw.pins x hm
      have hup : unpins C (x.n : Int) = (x.pins != 0) := by
        unfold unpins
        have := found_any hw hL (fun i => i.pins != 0)
        simpa using this
      refine ⟨xs.length, g, cap, C.L.length, (x.pins : Int), rfl, hlt, by omega, h.c2, i3, h.gfr _, by omega, by omega, fun h0 => ?_, fun h0 => ?_⟩
      · have e : unpins C (x.n : Int) = false := by rw [hup]; simp; omega
        exact ⟨e, by unfold unpin; rw [if_neg (by rw [e]; decide)]⟩
      · have e : unpins C (x.n : Int) = true := by rw [hup]; simp; omega
        refine ⟨e, ?_⟩
        have e2 : unpin C (x.n : Int) = { C with L := xs ++ { x with pins := x.pins - 1 } :: ys } := by
          unfold unpin
          rw [if_pos e]
          exact mod_eq hw hL _
        have hj : jcell { x with pins := x.pins - 1 } = (jcell x).set 3 (.int .i64 ((x.pins : Int) - 1)) := by
          have : ((x.pins - 1 : Nat) : Int) = (x.pins : Int) - 1 := by omega
          simp [jcell, this]
        obtain ⟨a1, m1⟩ := h.setItem (xs := xs) (ys := ys) (x := x) (y := { x with pins := x.pins - 1 }) hL (k := 3) (by decide) (v := .int .i64 ((x.pins : Int) - 1)) hj _ e2
        exact ⟨H, _, a1, m1, fun _ h => .inl h⟩
    · left
      refine ⟨rfl, ?_⟩
      have e : unpins C n = false := by
        unfold unpins
        by_cases h0 : 0 ≤ n
        · have : (C.L.any fun i => i.n == n.toNat && i.pins != 0) = false := by
            refine List.any_eq_false.2 (fun i hi => ?_)
            have := hf i hi
            have : ¬ i.n = n.toNat := by omega
            simp [this]
          simp [this]
        · simp [h0]
      exact ⟨e, by unfold unpin; rw [if_neg (by rw [e]; decide)]⟩
  have HR : Hid (RcTo H c q w w C) := ⟨H, lv, h, Chg.refl _ _, fun _ h => .inl h⟩
  clear h hw hu hfew htop
  generalize unpins C n = u at *
  generalize unpin C n = U at *
  go_enter Try.func36, Try.ntmps36
  go_wp2_with fail
  refine (show Calls _ _ _ _ _ from HF.out).mono ?_
  clear HF
  rintro e w1 ⟨rfl, ⟨rfl, HX⟩ | ⟨i, g, cap, N, pn, rfl, hi, hN, c2, i3, f3, p0, p1, y0, y1⟩⟩
  · go_wp2
    go_ret
    rw [HX.out.1, HX.out.2]
    exact ⟨rfl, HR.out⟩
  · have hi' : (i : Int) < (N : Int) := by omega
    have hi0 : ¬ (i : Int) < 0 := by omega
    by_cases hp : pn = 0
    · have HX := y0 hp
      subst hp
      clear y0 y1
      go_wp2
      go_ret
      rw [HX.out.1, HX.out.2]
      exact ⟨rfl, HR.out⟩
    · have HX := y1 hp
      have hp0 : (pn == 0) = false := by simpa using hp
      clear y0 y1
      go_wp2
      go_ret
      rw [HX.out.1]
      exact ⟨rfl, HX.out.2⟩

theorem run_appIr {P : Program} (w : World) (N : Nat) (t ty : TypeId) (i : TypeInfo) (ht : P.underlying t = some (.slice 3)) (hi : P.info? 3 = some i) (hz : i.zero = some (.int .i64 0)) (hs : i.size = 1) (hb : i.bytes = 8)
    (v x : Value) (n : Nat) (xs news : List Int) (hown : w.ownsRow N 3 1 v n (xs.map (Value.int .i64))) (hx : Is w x news) (hlen : xs.length + news.length ≤ 1099511627776) (hN : N ≤ w.heap.size) :
    ∃ v' w', (Builtin.append_ #[t, t] ty #[v, x]).run P w = .ok v' w' ∧ w'.ownsRow N 3 1 v' (n + news.length) ((xs ++ news).map (Value.int .i64)) ∧ w.grownBy w' v.ownBlock ∧ (v'.ownBlock = v.ownBlock ∨ v'.ownBlock = some w.heap.size) := by
  have hn : xs.length = n := by have := hown.1; simpa using this
  subst hn
  rw [List.map_append]
  rcases hx with ⟨rfl, rfl⟩ | ⟨a, c, rfl, _, _, hcell⟩
  · exact ⟨v, w, run_append_owned_none w N t ty 3 i 1 ht hi v _ _ hown, by simpa using hown, ⟨rfl, rfl, rfl, Nat.le_refl _, fun _ _ _ => rfl⟩, .inl rfl⟩
  · obtain ⟨v', w', h1, h2, h3, _, h5⟩ := run_append_own_at (P := P) w N t ty 3 i (.int .i64 0) 1 8 ht hi hz hs hb rfl (by decide) v xs.length (xs.map (Value.int .i64)) hown a news.length c (news.map (Value.int .i64)) (by simp)
      (fun j u hu => by
        have hj : j < news.length := by simpa using (List.getElem?_eq_some_iff.1 hu).1
        have : u = .int .i64 (news.getD j 0) := by
          simp [hj] at hu
          simp [List.getD, hj, ← hu]
        rw [this]; exact hcell j hj) (fun u hu => by obtain ⟨z, _, rfl⟩ := List.mem_map.1 hu; rfl) (by unfold maxLen; omega) (by omega) hN
    exact ⟨v', w', h1, by simpa using h2, h3, h5⟩

theorem icells_map (R : List Nat) : (R.map fun n : Nat => (n : Int)).map (Value.int .i64) = icells R := by simp [icells]
theorem appNr {W : World} {N : Nat} {rv : Value} {R : List Nat} (x : Nat) (ho : W.ownsRow N 3 1 rv R.length (icells R)) (hN : N ≤ W.heap.size) (hl : R.length ≤ 1048576) :
    ∃ v' w', (appG #[40, 40] 40 #[rv, .slice (some ⟨W.heap.size, 0, none⟩) 1 1]).run Try.prog (W.alloc (.cells #[.int .i64 (x : Int)] 3)) = .ok v' w' ∧ w'.ownsRow N 3 1 v' (R ++ [x]).length (icells (R ++ [x])) ∧ Chg (fun b => N ≤ b) W w' := by
  obtain ⟨i0, hi, hz0, hz1, hz2⟩ := info_parts info3
  have ho' : (W.alloc (.cells #[.int .i64 (x : Int)] 3)).ownsRow N 3 1 rv R.length ((R.map fun n : Nat => (n : Int)).map (Value.int .i64)) := by rw [icells_map]; exact ho.alloc _
  obtain ⟨v', w', h1, h2, h3, h4⟩ := run_appIr (P := Try.prog) (W.alloc (.cells #[.int .i64 (x : Int)] 3)) N 40 40 i0 Try.underlying40 hi hz0 hz1 hz2 rv (.slice (some ⟨W.heap.size, 0, none⟩) 1 1) R.length (R.map fun n : Nat => (n : Int)) [(x : Int)] ho' (Is.one W x) (by simp; omega) (by simp; omega)
  refine ⟨v', w', h1, ?_, ?_⟩
  · have e : ((R.map fun n : Nat => (n : Int)) ++ [(x : Int)]).map (Value.int .i64) = icells (R ++ [x]) := by simp [icells]
    rw [e] at h2
    simpa using h2
  · refine (Chg.alloc (fun b => N ≤ b) W _).trans ((Chg.ofGrown h3).mono (fun b _ e => ?_)) (fun _ _ h => h)
    exact (ho.lt b e).1

/-- The numbers below i that are held, or that are dirty. -/
def heldTo (C : Ca) (d : Bool) (i : Nat) : List Nat := (List.range i).filter fun n => if d then C.isDirty n else C.has n
theorem heldTo_succ (C : Ca) (d : Bool) (i : Nat) : heldTo C d (i + 1) = heldTo C d i ++ (if (if d then C.isDirty i else C.has i) then [i] else []) := by
  unfold heldTo
  rw [List.range_succ, List.filter_append]
  congr 1
  cases h : (if d then C.isDirty i else C.has i) <;> simp [h]
theorem heldTo_le (C : Ca) (d : Bool) (i : Nat) : (heldTo C d i).length ≤ i := by
  have := List.length_filter_le (fun n => if d then C.isDirty n else C.has n) (List.range i)
  rwa [List.length_range] at this

set_option maxHeartbeats 1600000 in
theorem rheld_any (G H : Nat → Prop) (c q : Nat) (S : St) (C : Ca) (lv : Value) (d : Bool) (w : World) (h : RCk w G H c q S C lv) (hw : C.Wf S.nb) (hnb : S.nb ≤ 16384) :
    Calls Try.prog 19 #[.pointer (some ⟨c, 0, none⟩), .bool d] w fun e w' => ∃ v, e = .returned v ∧ w'.ownsRow w.heap.size 3 1 v (heldTo C d S.nb).length (icells (heldTo C d S.nb)) ∧ Chg (fun _ => False) w w' := by
  have hfew := hw.few
  have htop := hw.top
  have HH : Hid (RCk w G H c q S C lv ∧ C.Wf S.nb) := ⟨h, hw⟩
  clear h hw
  obtain ⟨nb, hnbe⟩ : ∃ x, S.nb = x := ⟨_, rfl⟩
  have HNB : Hid (S.nb = nb) := hnbe
  rw [hnbe] at hnb ⊢
  clear hnbe
  go_enter Try.func19, Try.ntmps19
  go_wp2_with fail
  go_loopg [5, 6, 7] nb (fun gg v x _ wr => ∃ (i : Nat) (a : Option Addr) (n cp : Nat), i ≤ nb ∧ v = .slice a n cp ∧ x = .int .i64 (i : Int) ∧ nb - i ≤ gg ∧ Hid (n = (heldTo C d i).length ∧ wr.ownsRow w.heap.size 3 1 (.slice a n cp) (heldTo C d i).length (icells (heldTo C d i)) ∧ Chg (fun _ => False) w wr))
  case atStart => exact ⟨0, none, 0, 0, Nat.zero_le _, rfl, rfl, by omega, rfl, World.ownsRow_nil _ _ _ _, Chg.refl _ _⟩
  case round =>
    obtain ⟨i, a, n, cp, hi, rfl, rfl, hgg, HX⟩ := hrel
    obtain ⟨hn, hown, hch⟩ := HX.out
    have k1 := HH.out.1.kept hch (fun _ _ h => h)
    have c0 := k1.rc.c0
    have q0 : ∃ lb lc, wr.cell? ⟨q, 0, none⟩ = some (.slice (some ⟨lb, 0, none⟩) nb lc) := by
      obtain ⟨R, lb, lc, wv, pv, s, h⟩ := k1.rk
      have := h.c0
      rw [s.nb, HNB.out] at this
      exact ⟨lb, lc, this⟩
    obtain ⟨lb, lc, q0⟩ := q0
    by_cases hlt : i < nb
    · have g1 : decide ((i : Int) < (nb : Int)) = true := by simp; omega
      have g1' : (i : Int) < (nb : Int) := by omega
      have hle := heldTo_le C d i
      obtain ⟨v', w2, hr, ho2, hc2⟩ := appNr i hown hch.size (by omega)
      have hc2' : Chg (fun _ => False) w w2 := hch.trans hc2 (fun k hk e => by omega)
      have HF : Hid (Calls Try.prog 47 #[.pointer (some ⟨c, 0, none⟩), .int .i64 (i : Int)] wr fun e w' => w' = wr ∧ ((e = .returned (.int .i64 (-1)) ∧ Hid (heldTo C d (i + 1) = heldTo C d i)) ∨
          ∃ (j g cap N : Nat) (dd : Bool), e = .returned (.int .i64 (j : Int)) ∧ j < N ∧ N ≤ 1024 ∧ wr.cell? ⟨c, 2, none⟩ = some (.slice (some ⟨g, 0, none⟩) N cap) ∧ wr.cell? ⟨g, j * 4 + 2, none⟩ = some (.bool dd) ∧
            Hid (heldTo C d (i + 1) = if (!d || dd) = true then heldTo C d i ++ [i] else heldTo C d i))) := by
        have hW := HH.out.2
        refine (rfind_any H c q C lv i wr k1.rc (by omega)).mono ?_
        rintro e w' ⟨k, rfl, hf, rfl⟩
        refine ⟨rfl, ?_⟩
        rcases hf with ⟨xs, x, ys, hL, hxi, rfl⟩ | ⟨hf, rfl⟩
        · right
          have hxi' : x.n = i := by omega
          have hlt2 : xs.length < C.L.length := by rw [hL]; simp
          have hm : x ∈ C.L := by rw [hL]; simp
          obtain ⟨g, cap, rfl, hcap, _, _⟩ := k1.rc.sm hlt2
          have i2 := k1.rc.item (k := 2) hlt2 (by decide) rfl
          have hii : C.L[xs.length] = x := by simp [hL]
          rw [hii] at i2
          refine ⟨xs.length, g, cap, C.L.length, x.dirty, rfl, hlt2, by omega, k1.rc.c2, i2, ?_⟩
          have e1 : C.has i = true := Ca.has_iff.2 ⟨x, hm, hxi'⟩
          have e2 : C.isDirty i = x.dirty := by rw [← hxi']; exact found_any hW hL (fun i => i.dirty)
          show heldTo C d (i + 1) = _
          rw [heldTo_succ, e1, e2]
          cases d <;> cases x.dirty <;> simp
        · left
          refine ⟨rfl, ?_⟩
          have e1 : C.has i = false := Ca.not_has (fun x hx => by have := hf x hx; omega)
          have e2 : C.isDirty i = false := by
            unfold Ca.isDirty
            refine List.any_eq_false.2 (fun x hx => ?_)
            have := hf x hx
            have : ¬ x.n = i := by omega
            simp [this]
          show heldTo C d (i + 1) = _
          rw [heldTo_succ, e1, e2]
          cases d <;> simp
      have HO : Hid (w2.ownsRow w.heap.size 3 1 v' (heldTo C d i ++ [i]).length (icells (heldTo C d i ++ [i])) ∧ Chg (fun _ => False) w w2) := ⟨ho2, hc2'⟩
      obtain ⟨b2, p2, hv2⟩ := own_form ho2
      have HV : Hid (v' = .slice b2 (heldTo C d i ++ [i]).length p2) := hv2
      rw [hv2] at hr
      clear k1 hown hch hn ho2 hc2 hc2' hle hv2
      generalize hNN : (heldTo C d i ++ [i]).length = NN at *
      have HNN : Hid ((heldTo C d i ++ [i]).length = NN) := hNN
      clear hNN
      go_wp2_with fail
      refine (show Calls _ _ _ _ _ from HF.out).mono ?_
      clear HF
      rintro e w1 ⟨rfl, ⟨rfl, HY⟩ | ⟨j, g, cap, N, dd, rfl, hj, hN, c2, j2, HY⟩⟩
      · go_wp2
        go_roundg (nb - (i + 1))
        case measure => omega
        case rel =>
          refine ⟨i + 1, a, n, cp, by omega, rfl, by go_num, Nat.le_refl _, ?_⟩
          show Hid _
          rw [HY.out]
          exact HX.out
      · have hj' : (j : Int) < (N : Int) := by omega
        have hj0 : ¬ (j : Int) < 0 := by omega
        cases d with
        | false =>
          go_wp2
          go_roundg (nb - (i + 1))
          case measure => omega
          case rel =>
            refine ⟨i + 1, b2, NN, p2, by omega, rfl, by go_num, Nat.le_refl _, ?_⟩
            have e := HY.out
            simp at e
            show Hid _
            rw [e]
            have ho := HO.out
            rw [HV.out] at ho
            exact ⟨HNN.out.symm, by rw [HNN.out]; exact ho.1, ho.2⟩
        | true =>
          cases dd with
          | true =>
            go_wp2
            go_roundg (nb - (i + 1))
            case measure => omega
            case rel =>
              refine ⟨i + 1, b2, NN, p2, by omega, rfl, by go_num, Nat.le_refl _, ?_⟩
              have e := HY.out
              simp at e
              show Hid _
              rw [e]
              have ho := HO.out
              rw [HV.out] at ho
              exact ⟨HNN.out.symm, by rw [HNN.out]; exact ho.1, ho.2⟩
          | false =>
            go_wp2
            go_roundg (nb - (i + 1))
            case measure => omega
            case rel =>
              refine ⟨i + 1, a, n, cp, by omega, rfl, by go_num, Nat.le_refl _, ?_⟩
              have e := HY.out
              simp at e
              show Hid _
              rw [e]
              exact HX.out
    · have hie : i = nb := by omega
      subst hie
      have g1 : decide ((i : Int) < (i : Int)) = false := by simp
      clear k1 hown hch hn
      go_wp2
      go_ret
      exact ⟨_, rfl, HX.out.2⟩
end Go.Proofs.Ytioloobeakjbeaa

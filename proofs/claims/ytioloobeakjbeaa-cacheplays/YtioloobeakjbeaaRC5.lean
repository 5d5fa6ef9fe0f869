/-
  The reference's cache: room is made, an item is added.
-/
import Derived.Test.YtioloobeakjbeaaRC3
namespace Go.Proofs.Ytioloobeakjbeaa
open Go.RowKit Go.Maps
attribute [local go_sem ↓] Go.wp_at_zero Go.wp_at_succ

theorem ris_rk (G : Nat → Prop) (q : Nat) (S : St) (n : Int) (w : World) (h : Rk w G q S) : Calls Try.prog 58 #[.pointer (some ⟨q, 0, none⟩), .int .i64 n] w fun e w' => e = .returned (.bool (decide (0 ≤ n ∧ n < S.nb))) ∧ w' = w := by
  obtain ⟨R, lb, lc, wv, pv, s, h⟩ := h
  have := ris_any G q R n w h
  rw [s.nb] at this
  exact this

/-- What making room leaves. -/
def Room (S : St) (C : Ca) (E : Int) (S' : St) (C' : Ca) : Prop := (C.L.length ≠ C.size ∧ E = 0 ∧ S' = S ∧ C' = C) ∨ (C.L.length = C.size ∧ ∃ g, C.goes = some g ∧ E = cleanE S g ∧ S' = cleanS S g ∧ C' = if E = 0 then C.out g.n else C)

theorem outC_eq {C : Ca} {nb : Nat} (h : C.Wf nb) {xs ys : List It} {x : It} (hL : C.L = xs ++ x :: ys) : outC C xs ys = C.out x.n := by
  unfold outC Ca.out
  rw [(Ca.filter_eq h.uniq hL).1]

theorem revict_any (G H : Nat → Prop) (c q : Nat) (S : St) (C : Ca) (lv : Value) (k : Int) (w : World) (h : RCk w G H c q S C lv) (hw : C.Wf S.nb) (hev : C.evicted < 1099511627776) (hx : S.writes < 1099511627776) (hk : Who C k true) :
    Calls Try.prog 62 #[.pointer (some ⟨c, 0, none⟩), .int .i64 k] w fun e w' => ∃ E S' C', e = .returned (.int .i64 E) ∧ Room S C E S' C' ∧ EvTo G H c q w w' S' C' := by
  have hfew := hw.few
  have htop := hw.top
  rcases hk with ⟨h1, rfl, _⟩ | ⟨h1, h2, h3⟩
  · refine (revict_none c w).mono ?_
    rintro e w' ⟨rfl, rfl⟩
    exact ⟨0, S, C, rfl, .inl ⟨by omega, rfl, rfl, rfl⟩, G, H, lv, h, Chg.refl _ _, fun _ h => .inl h, fun _ h => .inl h⟩
  · rcases h2 with ⟨xs, x, ys, hL, hg, rfl⟩ | ⟨_, rfl⟩
    · have hm : x ∈ C.L := by rw [hL]; simp
      by_cases hd : x.dirty = true
      · refine (revict_dirty G H c q S C lv xs ys x w h hL (by omega) hev (hw.len x hm) hd hx _ _ _ rfl rfl rfl).mono ?_
        rintro e w' ⟨rfl, ht⟩
        refine ⟨_, _, _, rfl, .inr ⟨by omega, x, hg, ?_, ?_, ?_⟩, ht⟩
        · unfold cleanE; rw [if_pos hd]
        · unfold cleanS; rw [if_pos hd]
        · rw [outC_eq hw hL]
      · have hd : x.dirty = false := by simpa using hd
        refine (revict_clean H c q C lv xs ys x w h.rc hL (by omega) hev hd).mono ?_
        rintro e w' ⟨rfl, ht⟩
        obtain ⟨H', lv', m1, m2, m3⟩ := h.cache ht
        refine ⟨_, S, outC C xs ys, rfl, .inr ⟨by omega, x, hg, ?_, ?_, ?_⟩, G, H', lv', m1, m2.mono (fun _ _ h => .inr h), fun _ h => .inl h, m3⟩
        · unfold cleanE; rw [if_neg (by rw [hd]; decide)]
        · unfold cleanS; rw [if_neg (by rw [hd]; decide)]
        · rw [if_pos rfl, outC_eq hw hL]
    · simp at h3

section
variable {w : World} {H : Nat → Prop} {c q : Nat} {C : Ca} {lv : Value}
theorem RcAt.setHits (h : RcAt w H c q C lv) : RcAt (w.setCell ⟨c, 3, none⟩ (.int .i64 ((C.hits : Int) + 1))) H c q { C with hits := C.hits + 1 } lv ∧ Chg (fun k => k = c) w (w.setCell ⟨c, 3, none⟩ (.int .i64 ((C.hits : Int) + 1))) := by
  have hb := heap_setCell_same w c 3 _ _ (.int .i64 ((C.hits : Int) + 1)) h.blk
  simp at hb
  have kc : Chg (fun k => k = c) w (w.setCell ⟨c, 3, none⟩ (.int .i64 ((C.hits : Int) + 1))) := Chg.setCell _ _ _ rfl
  exact ⟨h.restruct kc (by simpa using hb) (h.rsame kc) h.fl, kc⟩
theorem RcAt.setMisses (h : RcAt w H c q C lv) : RcAt (w.setCell ⟨c, 4, none⟩ (.int .i64 ((C.misses : Int) + 1))) H c q { C with misses := C.misses + 1 } lv ∧ Chg (fun k => k = c) w (w.setCell ⟨c, 4, none⟩ (.int .i64 ((C.misses : Int) + 1))) := by
  have hb := heap_setCell_same w c 4 _ _ (.int .i64 ((C.misses : Int) + 1)) h.blk
  simp at hb
  have kc : Chg (fun k => k = c) w (w.setCell ⟨c, 4, none⟩ (.int .i64 ((C.misses : Int) + 1))) := Chg.setCell _ _ _ rfl
  exact ⟨h.restruct kc (by simpa using hb) (h.rsame kc) h.fl, kc⟩
/-- An item is added. -/
theorem radd_facts (h : RcAt w H c q C lv) (hl : C.L.length ≤ 1024) (x : It) (C' : Ca) (hC' : C' = { C with L := C.L ++ [x] }) :
    ∃ v1 w1 a2 n2 d2 w2, (appG #[45, 45] 45 #[.slice (some ⟨w.heap.size, 0, none⟩) 0 0, lv]).run Try.prog (w.alloc (.cells #[] 92)) = .ok v1 w1 ∧
      (appG #[45, 45] 45 #[v1, .slice (some ⟨w1.heap.size, 0, none⟩) 1 1]).run Try.prog (w1.alloc (.cells #[.int .i64 (x.n : Int), .string (strOf x.b), .bool x.dirty, .int .i64 (x.pins : Int)] 92)) = .ok (.slice a2 n2 d2) w2 ∧
      (w.alloc (.cells #[] 92)).cell? ⟨c, 2, none⟩ = some lv ∧ w2.cell? ⟨c, 2, none⟩ = some lv ∧ w2.frozen? ⟨c, 2, none⟩ = false ∧
      Hid (RcTo H c q w (w2.setCell ⟨c, 2, none⟩ (.slice a2 n2 d2)) C') := by
  have hcl : c < w.heap.size := h.lt c h.fc
  have cb0 : Chg (fun k => w.heap.size ≤ k) w (w.alloc (.cells #[] 92)) := Chg.alloc _ _ _
  obtain ⟨v1, w1, r1, o1, k1, _⟩ := (Ow.lit w w.heap.size (Nat.le_refl _)).app cb0.size ((Js.ofOwns h.row).kept cb0 (fun k hk => by have := (h.row.lt k hk).2; show ¬ w.heap.size ≤ k; omega)) (by simp; omega)
  have e1 := cb0.trans k1 (fun _ _ h => h)
  have cc : Chg (fun k => w.heap.size ≤ k) w (w1.alloc (.cells #[.int .i64 (x.n : Int), .string (strOf x.b), .bool x.dirty, .int .i64 (x.pins : Int)] 92)) := e1.trans (Chg.alloc _ _ _) (fun _ _ h => h)
  have oc1 := o1.kept (Chg.alloc (fun _ => False) _ (.cells #[.int .i64 (x.n : Int), .string (strOf x.b), .bool x.dirty, .int .i64 (x.pins : Int)] 92)) (fun _ _ h => h)
  obtain ⟨v2, w2, r2, o2, k2, _⟩ := oc1.app cc.size (Js.lit w1 x) (by simp; omega)
  have e2 := cc.trans k2 (fun _ _ h => h)
  obtain ⟨a2, d2, rfl⟩ := own_form o2.1
  obtain ⟨f1, f2, f3, f4⟩ := h.store e2 o2
  refine ⟨v1, w1, a2, _, d2, w2, r1, r2, cb0.cell h.c2 (by show ¬ w.heap.size ≤ c; omega), f3, f4, _, _, by rw [hC']; exact f1, f2, fun b hb => ?_⟩
  rcases hb with e | e
  · exact .inl e
  · exact .inr e.1
end
/-- Items are changed in place: one cell of the item at i. -/
theorem RcAt.setItem {w : World} {H : Nat → Prop} {c q : Nat} {C : Ca} {g cap : Nat} (h : RcAt w H c q C (.slice (some ⟨g, 0, none⟩) C.L.length cap)) {xs ys : List It} {x y : It} (hL : C.L = xs ++ x :: ys) {k : Nat} (hk : k < 4) {v : Value} (hy : jcell y = (jcell x).set k v) (C' : Ca) (hC' : C' = { C with L := xs ++ y :: ys }) :
    RcAt (w.setCell ⟨g, xs.length * 4 + k, none⟩ v) H c q C' (.slice (some ⟨g, 0, none⟩) C.L.length cap) ∧ Chg H w (w.setCell ⟨g, xs.length * 4 + k, none⟩ v) := by
  have hlt : xs.length < C.L.length := by rw [hL]; simp
  have hg : H g := h.fl g rfl
  obtain ⟨g', cap', e, _, hgc, _⟩ := h.sm hlt
  simp at e
  obtain ⟨rfl, rfl⟩ := e
  have kc : Chg (fun b => b = g) w (w.setCell ⟨g, xs.length * 4 + k, none⟩ v) := Chg.setCell _ _ _ rfl
  have hlen : C'.L.length = C.L.length := by rw [hC', hL]; simp
  have hj : jcells C'.L = (jcells C.L).set (xs.length * 4 + k) v := by
    have e1 : (jcells xs).length = xs.length * 4 := jcells_len xs
    rw [hC', hL]
    show jcells (xs ++ y :: ys) = _
    rw [jcells_append, jcells_append, jcells_cons, jcells_cons, hy, List.set_append_right _ _ (by rw [e1]; omega), e1, List.set_append_left _ _ (by simp [jcell]; omega)]
    congr 3
    omega
  refine ⟨⟨?_, ?_, h.fc, h.fl, fun b hb => by simpa using h.lt b hb⟩, kc.mono (fun b _ e => by rw [e]; exact hg)⟩
  · rw [kc.block c (h.lt c h.fc) (fun e => hgc e.symm), h.blk, hC']
  · rw [hlen, hj]
    rcases h.row.2 with ⟨e, _⟩ | ⟨g2, cap2, cur, e, hb0, hb, h1, h2, h3, h4⟩
    · cases e
    · simp at e
      obtain ⟨rfl, rfl⟩ := e
      have hs := heap_setCell_same w g (xs.length * 4 + k) _ _ v hb
      refine ⟨by rw [List.length_set]; exact h.row.1, .inr ⟨g, cap, _, rfl, hb0, hs, h1, h2, by simpa using h3, ?_⟩⟩
      rw [← h4]
      simp [List.take_set]
end Go.Proofs.Ytioloobeakjbeaa

namespace Go.Proofs.Ytioloobeakjbeaa
open Go.RowKit Go.Maps
attribute [local go_sem ↓] Go.wp_at_zero Go.wp_at_succ
attribute [local go_sem ↓] appG_eq

theorem strOf_nil : strOf [] = ByteArray.empty := by simp [strOf]
theorem who_false {C : Ca} {nb : Nat} (h : C.Wf nb) {k : Int} (hk : Who C k false) : C.L.length = C.size ∧ C.goes = none := by
  have := h.few
  rcases hk with ⟨_, _, h3⟩ | ⟨h1, h2, h3⟩
  · cases h3
  · refine ⟨by omega, ?_⟩
    rcases h2 with ⟨xs, x, ys, _, _, rfl⟩ | ⟨h2, _⟩
    · simp at h3
    · exact h2
theorem miss_room {S S' : St} {C C' : Ca} {E : Int} (n : Nat) (fb : List Int) (h : Room S C E S' C') : miss S C n 0 fb = if E ≠ 0 then ⟨E, S', C'⟩ else ⟨0, S', C'.add n fb⟩ := by
  unfold miss
  rcases h with ⟨h1, rfl, rfl, rfl⟩ | ⟨h1, g, hg, rfl, rfl, rfl⟩
  · rw [if_neg h1, if_neg (by simp)]
  · rw [if_pos h1, hg]
    show (if (0 : Int) ≠ 0 then _ else _) = _
    rw [if_neg (by simp)]
    by_cases he : cleanE S g = 0
    · rw [if_neg (by simpa using he), if_neg (by simpa using he), if_pos he]
    · rw [if_pos he, if_pos he, if_neg he]
theorem miss_fe {S : St} {C : Ca} {n : Nat} {fe : Int} {fb : List Int} (hfe : fe ≠ 0) (h : C.L.length = C.size → C.goes ≠ none) : miss S C n fe fb = ⟨fe, S, C⟩ := by
  unfold miss
  by_cases hl : C.L.length = C.size
  · rw [if_pos hl]
    cases hg : C.goes with
    | none => exact absurd hg (h hl)
    | some g => show (if fe ≠ 0 then _ else _) = _; rw [if_pos hfe]
  · rw [if_neg hl, if_pos hfe]
theorem miss_full {S : St} {C : Ca} {n : Nat} {fe : Int} {fb : List Int} (h : C.L.length = C.size ∧ C.goes = none) : miss S C n fe fb = ⟨13, S, C⟩ := by
  unfold miss
  rw [if_pos h.1, h.2]
theorem who_true {C : Ca} {k : Int} (hk : Who C k true) : C.L.length = C.size → C.goes ≠ none := fun hl e => by
  rcases hk with ⟨h1, _, _⟩ | ⟨_, h2, h3⟩
  · omega
  · rcases h2 with ⟨xs, x, ys, _, h5, _⟩ | ⟨_, rfl⟩
    · rw [e] at h5; cases h5
    · simp at h3
theorem found_has {L : List It} {C : Ca} (hL : C.L = L) {n : Int} {k : Int} (h : Found L n k) (hk : k < 0) : C.has n.toNat = false ∨ n < 0 := by
  rcases h with ⟨xs, x, ys, _, _, rfl⟩ | ⟨h, _⟩
  · omega
  · by_cases hn : n < 0
    · exact .inr hn
    · left
      cases hh : C.has n.toNat with
      | false => rfl
      | true =>
        obtain ⟨i, hi, e⟩ := Ca.has_iff.1 hh
        rw [hL] at hi
        exact absurd (by omega) (h i hi)

theorem rget_bad (G H : Nat → Prop) (c q : Nat) (S : St) (C : Ca) (lv : Value) (n : Int) (w : World) (h : RCk w G H c q S C lv) (hn : ¬ (0 ≤ n ∧ n < S.nb)) :
    Calls Try.prog 32 #[.pointer (some ⟨c, 0, none⟩), .int .i64 n] w fun e w' => e = .returned (.tuple #[.string ByteArray.empty, .int .i64 1]) ∧ w' = w := by
  have c0 := h.rc.c0
  have HI : Hid (Calls Try.prog 58 #[.pointer (some ⟨q, 0, none⟩), .int .i64 n] w fun e w' => e = .returned (.bool (decide (0 ≤ n ∧ n < S.nb))) ∧ w' = w) := ris_rk G q S n w h.rk
  have hd : decide (0 ≤ n ∧ n < S.nb) = false := by simpa using hn
  rw [hd] at HI
  clear h hn hd
  go_enter Try.func32, Try.ntmps32
  go_wp2_with fail
  refine (show Calls _ _ _ _ _ from HI.out).mono ?_
  rintro e w1 ⟨rfl, rfl⟩
  go_wp2
  go_ret2
  exact ⟨rfl, rfl⟩

set_option maxHeartbeats 800000 in
theorem rget_hit (G H : Nat → Prop) (c q : Nat) (S : St) (C : Ca) (lv : Value) (n : Int) (w : World) (h : RCk w G H c q S C lv) (hl : C.L.length ≤ 1024) (hu : C.hits < 1099511627776) (hn : 0 ≤ n ∧ n < S.nb) {x0 : It} (hx0 : x0 ∈ C.L) (hxn : (x0.n : Int) = n) :
    Calls Try.prog 32 #[.pointer (some ⟨c, 0, none⟩), .int .i64 n] w fun e w' => ∃ xs x ys, C.L = xs ++ x :: ys ∧ (x.n : Int) = n ∧ e = .returned (.tuple #[.string (strOf x.b), .int .i64 0]) ∧ RcTo H c q w w' { C with hits := C.hits + 1, L := xs ++ ys ++ [x] } := by
  have c0 := h.rc.c0
  have c3 := h.rc.c3
  have f3 := h.rc.fr 3
  have HI : Hid (Calls Try.prog 58 #[.pointer (some ⟨q, 0, none⟩), .int .i64 n] w fun e w' => e = .returned (.bool (decide (0 ≤ n ∧ n < S.nb))) ∧ w' = w) := ris_rk G q S n w h.rk
  have hd : decide (0 ≤ n ∧ n < S.nb) = true := by simpa using hn
  rw [hd] at HI
  have HF : Hid (Calls Try.prog 47 #[.pointer (some ⟨c, 0, none⟩), .int .i64 n] w fun e w' => ∃ (xs : List It) (x : It) (ys : List It) (i : Nat) (t : ByteArray) (g cap N : Nat) (hv : Int), e = .returned (.int .i64 (i : Int)) ∧ w' = w ∧ i < N ∧ N ≤ 1024 ∧ (C.hits : Int) = hv ∧
      (w.setCell ⟨c, 3, none⟩ (.int .i64 (hv + 1))).cell? ⟨c, 2, none⟩ = some (.slice (some ⟨g, 0, none⟩) N cap) ∧ (w.setCell ⟨c, 3, none⟩ (.int .i64 (hv + 1))).cell? ⟨g, i * 4 + 1, none⟩ = some (.string t) ∧
      Hid (Calls Try.prog 59 #[.pointer (some ⟨c, 0, none⟩), .int .i64 (i : Int)] (w.setCell ⟨c, 3, none⟩ (.int .i64 (hv + 1))) fun e w' => e = .returned (.tuple #[]) ∧ RcTo H c q w w' { C with hits := C.hits + 1, L := xs ++ ys ++ [x] }) ∧ Hid (C.L = xs ++ x :: ys ∧ (x.n : Int) = n ∧ t = strOf x.b)) := by
    refine (rfind_any H c q C lv n w h.rc hl).mono ?_
    rintro e w' ⟨k, rfl, hf, rfl⟩
    rcases hf with ⟨xs, x, ys, hL, hx, rfl⟩ | ⟨hf, _⟩
    · have hlt : xs.length < C.L.length := by rw [hL]; simp
      obtain ⟨g, cap, hlv, hcap, _, _⟩ := h.rc.sm hlt
      obtain ⟨a1, k1⟩ := h.rc.setHits
      rw [hlv] at a1
      have i1 := a1.item (i := xs.length) (k := 1) hlt (by decide) rfl
      have e1 : (jcell C.L[xs.length])[1]? = some (.string (strOf x.b)) := by simp [hL, jcell]
      have hxx : C.L[xs.length] = x := by simp [hL]
      refine ⟨xs, x, ys, xs.length, strOf x.b, g, cap, C.L.length, (C.hits : Int), rfl, rfl, hlt, hl, rfl, a1.c2, ?_, ?_, hL, hx, rfl⟩
      · simp only [hxx] at i1; exact i1
      · refine (rlastu_any H c q { C with hits := C.hits + 1 } g cap xs ys x _ a1 hcap hL hl _ rfl).mono ?_
        rintro e w2 ⟨rfl, ht⟩
        exact ⟨rfl, RcTo.trans (k1.mono (fun b _ e => by rw [e]; exact h.rc.fc)) (fun b hb => .inl hb) ht⟩
    · exact absurd hxn (hf x0 hx0)
  have hu' : (C.hits : Int) < 1099511627776 := by omega
  have hu0 : (0 : Int) ≤ (C.hits : Int) := by omega
  clear h hn hd hu hl hxn hx0
  go_enter Try.func32, Try.ntmps32
  go_wp2_with fail
  refine (show Calls _ _ _ _ _ from HI.out).mono ?_
  rintro e w1 ⟨rfl, rfl⟩
  go_wp2_with fail
  refine (show Calls _ _ _ _ _ from HF.out).mono ?_
  rintro e w2 ⟨xs, x, ys, i, t, g, cap, N, hv, rfl, rfl, hi, hN, hh, z2, z1, HL, HX⟩
  rw [hh] at c3 hu' hu0
  have hi' : (i : Int) < (N : Int) := by omega
  have hi0 : ¬ (i : Int) < 0 := by omega
  clear hh HF HI
  go_wp2_with fail
  refine (show Calls _ _ _ _ _ from HL.out).mono ?_
  rintro e w3 ⟨rfl, ht⟩
  have HT : Hid (RcTo H c q w2 w3 { C with hits := C.hits + 1, L := xs ++ ys ++ [x] }) := ht
  clear ht HL z1 z2 c0 c3 f3
  go_wp2
  go_ret2
  obtain ⟨e1, e2, e3⟩ := HX.out
  exact ⟨xs, x, ys, e1, e2, by rw [← e3]; rfl, HT.out⟩

theorem EvTo.refl {G H : Nat → Prop} {c q : Nat} {w w' : World} {S : St} {C : Ca} {lv : Value} (h : RCk w G H c q S C lv) (hc : Chg (fun _ => False) w w') : EvTo G H c q w w' S C :=
  ⟨G, H, lv, h.kept hc (fun _ _ h => h), hc.mono (fun _ _ h => h.elim), fun _ h => .inl h, fun _ h => .inl h⟩
theorem EvTo.after {G H : Nat → Prop} {c q : Nat} {w w1 w2 : World} {S2 : St} {C2 : Ca} (hc : Chg (fun _ => False) w w1) (h : EvTo G H c q w1 w2 S2 C2) : EvTo G H c q w w2 S2 C2 := by
  obtain ⟨G', H', lv', h1, h2, h3, h4⟩ := h
  exact ⟨G', H', lv', h1, (hc.mono (fun _ _ h => h.elim)).trans h2 (fun _ _ h => h), fun b hb => (h3 b hb).imp id (Nat.le_trans hc.size), fun b hb => (h4 b hb).imp id (Nat.le_trans hc.size)⟩
/-- .. and then the cache alone. -/
theorem EvTo.then {G H G1 H1 : Nat → Prop} {c q : Nat} {w w1 w2 : World} {S1 : St} {C1 C2 : Ca} {lv1 : Value} (h1 : RCk w1 G1 H1 c q S1 C1 lv1) (hc : Chg (fun b => G b ∨ H b) w w1) (hG : ∀ b, G1 b → G b ∨ w.heap.size ≤ b) (hH : ∀ b, H1 b → H b ∨ w.heap.size ≤ b) (ht : RcTo H1 c q w1 w2 C2) : EvTo G H c q w w2 S1 C2 := by
  obtain ⟨H', lv', m1, m2, m3⟩ := h1.cache ht
  refine ⟨G1, H', lv', m1, hc.trans m2 (fun k hk e => ?_), hG, fun b hb => ?_⟩
  · rcases hH k e with e | e
    · exact .inr e
    · omega
  · rcases m3 b hb with e | e
    · exact hH b e
    · exact .inr (Nat.le_trans hc.size e)

/-- What an added item leaves, for the walk. -/
def AddF (G H : Nat → Prop) (c q : Nat) (w w2 : World) (n : Int) (t : ByteArray) (d : Bool) (R : Res) : Prop :=
  ∃ (mi : Int) (lv v1 : Value) (w4 : World) (a2 : Option Addr) (n2 d2 : Nat) (w5 : World), w2.cell? ⟨c, 4, none⟩ = some (.int .i64 mi) ∧ w2.frozen? ⟨c, 4, none⟩ = false ∧ 0 ≤ mi ∧ mi < 1099511627776 ∧ (w2.setCell ⟨c, 4, none⟩ (.int .i64 (mi + 1))).cell? ⟨c, 2, none⟩ = some lv ∧ (∃ a len cp, lv = .slice a len cp) ∧
    (appG #[45, 45] 45 #[.slice (some ⟨w2.heap.size, 0, none⟩) 0 0, lv]).run Try.prog ((w2.setCell ⟨c, 4, none⟩ (.int .i64 (mi + 1))).alloc (.cells #[] 92)) = .ok v1 w4 ∧
    (appG #[45, 45] 45 #[v1, .slice (some ⟨w4.heap.size, 0, none⟩) 1 1]).run Try.prog (w4.alloc (.cells #[.int .i64 n, .string t, .bool d, .int .i64 0] 92)) = .ok (.slice a2 n2 d2) w5 ∧
    ((w2.setCell ⟨c, 4, none⟩ (.int .i64 (mi + 1))).alloc (.cells #[] 92)).cell? ⟨c, 2, none⟩ = some lv ∧ w5.cell? ⟨c, 2, none⟩ = some lv ∧ w5.frozen? ⟨c, 2, none⟩ = false ∧
    Hid (EvTo G H c q w (w5.setCell ⟨c, 2, none⟩ (.slice a2 n2 d2)) R.S R.C)
theorem addF {G H : Nat → Prop} {c q : Nat} {w w2 : World} {S' : St} {C' : Ca} (h : EvTo G H c q w w2 S' C') (hl : C'.L.length ≤ 1024) (hm : C'.misses < 1099511627776) (x : It) (hx : x.pins = 0) (R : Res) (hR : R = ⟨0, S', { C' with misses := C'.misses + 1, L := C'.L ++ [x] }⟩) : AddF G H c q w w2 (x.n : Int) (strOf x.b) x.dirty R := by
  obtain ⟨G1, H1, lv1, h1, hc, hG, hH⟩ := h
  obtain ⟨a1, k1⟩ := h1.rc.setMisses
  obtain ⟨v1, w4, a2, n2, d2, w5, r1, r2, z0, z1, z2, HZ⟩ := radd_facts a1 hl x _ rfl
  have hs : (w2.setCell ⟨c, 4, none⟩ (.int .i64 ((C'.misses : Int) + 1))).heap.size = w2.heap.size := by simp
  rw [hs] at r1
  rw [hx] at r2
  obtain ⟨a, cp, hlv, _⟩ := h1.rc.form
  refine ⟨(C'.misses : Int), lv1, v1, w4, a2, n2, d2, w5, h1.rc.c4, h1.rc.fr 4, by omega, by omega, a1.c2, ⟨a, _, cp, hlv⟩, r1, r2, z0, z1, z2, ?_⟩
  rw [hR]
  exact EvTo.then h1 hc hG hH (RcTo.trans (k1.mono (fun b _ e => by rw [e]; exact h1.rc.fc)) (fun b hb => .inl hb) HZ.out)

theorem room_wf {S S' : St} {C C' : Ca} {E : Int} {nb : Nat} (h : Room S C E S' C') (hw : C.Wf nb) : C'.L.length ≤ 1024 ∧ C'.misses = C.misses := by
  have := hw.few
  have := hw.top
  rcases h with ⟨_, _, _, rfl⟩ | ⟨_, g, _, _, _, rfl⟩
  · exact ⟨by omega, rfl⟩
  · split
    · exact ⟨Nat.le_trans (List.length_filter_le _ _) (by omega), rfl⟩
    · exact ⟨by omega, rfl⟩

set_option maxHeartbeats 1600000 in
theorem rget_miss (G H : Nat → Prop) (c q : Nat) (S : St) (C : Ca) (lv : Value) (m : Nat) (w : World) (h : RCk w G H c q S C lv) (hw : C.Wf S.nb) (hx : S.writes < 1099511627776) (hu : C.hits + C.misses < 1099511627776) (hev : C.evicted < 1099511627776) (hn : m < S.nb) (hh : C.has m = false) (R : Res) (hR : R = miss S C m (S.readE m) (S.readV m)) (B : ByteArray) (hB : B = if R.e = 0 then strOf (S.readV m) else ByteArray.empty) :
    Calls Try.prog 32 #[.pointer (some ⟨c, 0, none⟩), .int .i64 (m : Int)] w fun e w' => e = .returned (.tuple #[.string B, .int .i64 R.e]) ∧ EvTo G H c q w w' R.S R.C := by
  have htop := hw.top
  have hfew := hw.few
  have c0 := h.rc.c0
  have HI : Hid (Calls Try.prog 58 #[.pointer (some ⟨q, 0, none⟩), .int .i64 (m : Int)] w fun e w' => e = .returned (.bool (decide (0 ≤ (m : Int) ∧ (m : Int) < S.nb))) ∧ w' = w) := ris_rk G q S m w h.rk
  have hd : decide (0 ≤ (m : Int) ∧ (m : Int) < S.nb) = true := by simpa using hn
  rw [hd] at HI
  have HF : Hid (Calls Try.prog 47 #[.pointer (some ⟨c, 0, none⟩), .int .i64 (m : Int)] w fun e w' => e = .returned (.int .i64 (-1)) ∧ w' = w) := by
    refine (rfind_any H c q C lv m w h.rc (by omega)).mono ?_
    rintro e w' ⟨k, rfl, hf, rfl⟩
    rcases hf with ⟨xs, x, ys, hL, hx, rfl⟩ | ⟨_, rfl⟩
    · have : C.has m = true := Ca.has_iff.2 ⟨x, by rw [hL]; simp, by omega⟩
      rw [hh] at this; cases this
    · exact ⟨rfl, rfl⟩
  have HW : Hid (Calls Try.prog 60 #[.pointer (some ⟨c, 0, none⟩)] w fun e w1 => ∃ k b, e = .returned (.tuple #[.int .i64 k, .bool b]) ∧ w1.cell? ⟨c, 0, none⟩ = some (.pointer (some ⟨q, 0, none⟩)) ∧ (b = false → Hid (R.e = 13 ∧ EvTo G H c q w w1 R.S R.C)) ∧
      Hid (Calls Try.prog 61 #[.pointer (some ⟨q, 0, none⟩), .int .i64 (m : Int)] w1 fun e w' => e = .returned (.tuple #[.string (strOf (S.readV m)), .int .i64 (S.readE m)]) ∧ w' = w1) ∧
      (b = true → S.readE m ≠ 0 → Hid (R.e = S.readE m ∧ EvTo G H c q w w1 R.S R.C)) ∧
      (b = true → S.readE m = 0 → Hid (Calls Try.prog 62 #[.pointer (some ⟨c, 0, none⟩), .int .i64 k] w1 fun e w2 => ∃ E, e = .returned (.int .i64 E) ∧ R.e = E ∧ (E ≠ 0 → Hid (EvTo G H c q w w2 R.S R.C)) ∧ (E = 0 → AddF G H c q w w2 (m : Int) (strOf (S.readV m)) false R)))) := by
    refine (rwho_any H c q C lv w h.rc (by omega)).mono ?_
    rintro e w1 ⟨k, b, rfl, hk, hc⟩
    have k1 := h.kept hc (fun _ _ h => h)
    refine ⟨k, b, rfl, k1.rc.c0, fun hb => ?_, rread_any G q S m w1 k1.rk hx, fun hb hf => ?_, fun hb hf => ?_⟩
    · subst hb
      rw [hR, miss_full (who_false hw hk)]
      exact ⟨rfl, EvTo.refl h hc⟩
    · subst hb
      rw [hR, miss_fe hf (who_true hk)]
      exact ⟨rfl, EvTo.refl h hc⟩
    · subst hb
      refine (revict_any G H c q S C lv k w1 k1 hw hev hx hk).mono ?_
      rintro e w2 ⟨E, S', C', rfl, hr, ht⟩
      have hR2 := hR
      rw [hf, miss_room m (S.readV m) hr] at hR2
      refine ⟨E, rfl, ?_, fun he => ?_, fun he => ?_⟩
      · rw [hR2]
        by_cases he : E = 0
        · rw [if_neg (by simpa using he)]; exact he.symm
        · rw [if_pos he]
      · rw [if_pos he] at hR2
        rw [hR2]; exact EvTo.after hc ht
      · rw [if_neg (by simpa using he)] at hR2
        have hr2 := room_wf hr hw
        exact addF (EvTo.after hc ht) hr2.1 (by omega) ⟨m, S.readV m, false, 0⟩ rfl R hR2
  obtain ⟨fe, hfe⟩ : ∃ x, S.readE m = x := ⟨_, rfl⟩
  obtain ⟨t, ht⟩ : ∃ x, strOf (S.readV m) = x := ⟨_, rfl⟩
  rw [hfe, ht] at HW
  rw [ht] at hB
  have HB : Hid (B = if R.e = 0 then t else ByteArray.empty) := hB
  clear h hw hR hB hd hfe ht hh hn
  generalize (m : Int) = mi at *
  go_enter Try.func32, Try.ntmps32
  go_wp2_with fail
  refine (show Calls _ _ _ _ _ from HI.out).mono ?_
  rintro e w1 ⟨rfl, rfl⟩
  go_wp2_with fail
  refine (show Calls _ _ _ _ _ from HF.out).mono ?_
  rintro e w2 ⟨rfl, rfl⟩
  go_wp2_with fail
  refine (show Calls _ _ _ _ _ from HW.out).mono ?_
  clear HI HF HW c0
  rintro e w3 ⟨k, b, rfl, c0, y1, HR, y2, y3⟩
  cases b with
  | false =>
    have HY := y1 rfl
    clear y1 y2 y3 HR
    go_wp2
    go_ret2
    have hb := HB.out
    rw [HY.out.1, if_neg (by decide)] at hb
    rw [HY.out.1, hb]
    exact ⟨rfl, HY.out.2⟩
  | true =>
    have y2' := y2 rfl
    have y3' := y3 rfl
    clear y1 y2 y3
    go_wp2_with fail
    refine (show Calls _ _ _ _ _ from HR.out).mono ?_
    rintro e w4 ⟨rfl, rfl⟩
    clear HR c0
    by_cases hf : fe = 0
    · have HE := y3' hf
      subst hf
      clear y2' y3'
      go_wp2_with fail
      refine (show Calls _ _ _ _ _ from HE.out).mono ?_
      clear HE
      rintro e w5 ⟨E, rfl, hRE, u1, u2⟩
      by_cases he : E = 0
      · obtain ⟨ms, lv, v1, w6, a2, n2, d2, w7, c4, f4, m0, m1, z2, ⟨la, ll, lp, rfl⟩, r1, r2, z3, z4, z5, HZ⟩ := u2 he
        subst he
        have HRE : Hid (R.e = 0) := hRE
        clear u1 u2 hRE
        go_wp2
        go_ret2
        have hb := HB.out
        rw [HRE.out, if_pos rfl] at hb
        rw [HRE.out, hb]
        exact ⟨rfl, HZ.out⟩
      · have HY := u1 he
        have he0 : (E == 0) = false := by simpa using he
        have HRE : Hid (R.e = E) := hRE
        clear u1 u2 hRE
        go_wp2
        go_ret2
        have hb := HB.out
        rw [HRE.out, if_neg he] at hb
        rw [HRE.out, hb]
        exact ⟨rfl, HY.out⟩
    · have HY := y2' hf
      have he0 : (fe == 0) = false := by simpa using hf
      clear y2' y3'
      go_wp2
      go_ret2
      have hb := HB.out
      rw [HY.out.1, if_neg hf] at hb
      rw [HY.out.1, hb]
      exact ⟨rfl, HY.out.2⟩
end Go.Proofs.Ytioloobeakjbeaa

namespace Go.Proofs.Ytioloobeakjbeaa
open Go.RowKit Go.Maps
attribute [local go_sem ↓] Go.wp_at_zero Go.wp_at_succ
attribute [local go_sem ↓] appG_eq

theorem hit_eq {C : Ca} {nb : Nat} (h : C.Wf nb) {xs ys : List It} {x : It} (hL : C.L = xs ++ x :: ys) : C.hit x.n = { C with hits := C.hits + 1, L := xs ++ ys ++ [x] } := by
  unfold Ca.hit
  rw [(Ca.filter_eq h.uniq hL).1, (Ca.filter_eq h.uniq hL).2]
theorem add_lastB (C : Ca) (n : Nat) (b : List Int) : (C.add n b).lastB = b := by simp [Ca.lastB, Ca.add]
theorem miss_lastB {S : St} {C : Ca} {n : Nat} {fe : Int} {fb : List Int} (h : (miss S C n fe fb).e = 0) : (miss S C n fe fb).C.lastB = fb := by
  revert h
  unfold miss
  split
  · split
    · intro h; simp at h
    · split
      · intro h; simp at h; contradiction
      · split
        · intro h; simp at h; contradiction
        · intro _; exact add_lastB _ _ _
  · split
    · intro h; simp at h; contradiction
    · intro _; exact add_lastB _ _ _

theorem use_bad {S : St} {C : Ca} {n fe : Int} {fb : List Int} (h : ¬ (0 ≤ n ∧ n < S.nb)) : use S C n fe fb = ⟨1, S, C⟩ := by unfold use; rw [if_pos h]
theorem use_held {S : St} {C : Ca} {n fe : Int} {fb : List Int} (h : 0 ≤ n ∧ n < S.nb) (hh : C.has n.toNat = true) : use S C n fe fb = ⟨0, S, C.hit n.toNat⟩ := by unfold use; rw [if_neg (by simpa using h), if_pos hh]
theorem use_miss {S : St} {C : Ca} {n fe : Int} {fb : List Int} (h : 0 ≤ n ∧ n < S.nb) (hh : C.has n.toNat = false) : use S C n fe fb = miss S C n.toNat fe fb := by unfold use; rw [if_neg (by simpa using h), if_neg (by rw [hh]; decide)]

theorem rget_any (G H : Nat → Prop) (c q : Nat) (S : St) (C : Ca) (lv : Value) (n : Int) (w : World) (h : RCk w G H c q S C lv) (hw : C.Wf S.nb) (hx : S.writes < 1099511627776) (hu : C.hits + C.misses < 1099511627776) (hev : C.evicted < 1099511627776) :
    Calls Try.prog 32 #[.pointer (some ⟨c, 0, none⟩), .int .i64 n] w fun e w' => e = .returned (.tuple #[.string (strOf (getB S C n)), .int .i64 (get S C n).e]) ∧ EvTo G H c q w w' (get S C n).S (get S C n).C := by
  have hfew := hw.few
  have htop := hw.top
  by_cases hn : 0 ≤ n ∧ n < S.nb
  · obtain ⟨m, rfl⟩ := Int.eq_ofNat_of_zero_le hn.1
    by_cases hh : C.has m = true
    · have hg : get S C m = ⟨0, S, C.hit m⟩ := use_held hn hh
      obtain ⟨x0, hx0, hxn⟩ := Ca.has_iff.1 hh
      refine (rget_hit G H c q S C lv m w h (by omega) (by omega) hn hx0 (by omega)).mono ?_
      rintro e w' ⟨xs, x, ys, hL, hxm, rfl, ht⟩
      have hxm' : x.n = m := by omega
      have he := hit_eq hw hL
      rw [hxm'] at he
      have hb : getB S C m = x.b := by
        unfold getB
        rw [hg, if_pos rfl, he]
        simp [Ca.lastB]
      rw [hb, hg, he]
      obtain ⟨H', lv', m1, m2, m3⟩ := h.cache ht
      exact ⟨rfl, G, H', lv', m1, m2.mono (fun _ _ h => .inr h), fun _ h => .inl h, m3⟩
    · have hh : C.has m = false := by simpa using hh
      have hg : get S C m = miss S C m (S.readE m) (S.readV m) := use_miss hn hh
      refine (rget_miss G H c q S C lv m w h hw hx hu hev (by omega) hh _ hg _ rfl).mono ?_
      rintro e w' ⟨rfl, ht⟩
      refine ⟨?_, ht⟩
      have hb : strOf (getB S C m) = if (get S C m).e = 0 then strOf (S.readV m) else ByteArray.empty := by
        unfold getB
        by_cases he : (get S C m).e = 0
        · rw [if_pos he, if_pos he, hg, miss_lastB (by rw [← hg]; exact he)]
        · rw [if_neg he, if_neg he, strOf_nil]
      rw [hb]
  · have hg : get S C n = ⟨1, S, C⟩ := use_bad hn
    have hb : getB S C n = [] := by unfold getB; rw [hg, if_neg (by simp)]
    refine (rget_bad G H c q S C lv n w h hn).mono ?_
    rintro e w' ⟨rfl, rfl⟩
    rw [hb, hg, strOf_nil]
    exact ⟨rfl, EvTo.refl h (Chg.refl _ _)⟩

/-! ### Put -/
theorem rput_bad (G H : Nat → Prop) (c q : Nat) (S : St) (C : Ca) (lv : Value) (n : Int) (b : List Int) (w : World) (h : RCk w G H c q S C lv) (hn : ¬ (0 ≤ n ∧ n < S.nb) ∨ b.length ≠ 512) :
    Calls Try.prog 33 #[.pointer (some ⟨c, 0, none⟩), .int .i64 n, .string (strOf b)] w fun e w' => e = .returned (.int .i64 1) ∧ w' = w := by
  have c0 := h.rc.c0
  have HI : Hid (Calls Try.prog 58 #[.pointer (some ⟨q, 0, none⟩), .int .i64 n] w fun e w' => e = .returned (.bool (decide (0 ≤ n ∧ n < S.nb))) ∧ w' = w) := ris_rk G q S n w h.rk
  have hsz := strOf_size b
  by_cases hd : 0 ≤ n ∧ n < S.nb
  · have hd' : decide (0 ≤ n ∧ n < S.nb) = true := by simpa using hd
    have hb : b.length ≠ 512 := hn.resolve_left (fun e => e hd)
    have hl5 : (((strOf b).size : Int) == 512) = false := by rw [hsz]; simp; omega
    have hl6 : ¬ ((strOf b).size : Int) = 512 := by rw [hsz]; omega
    have hl7 : ¬ (strOf b).size = 512 := by rw [hsz]; exact hb
    rw [hd'] at HI
    clear h hn hd hd' hb hsz
    generalize strOf b = t at *
    go_enter Try.func33, Try.ntmps33
    go_wp2_with fail
    refine (show Calls _ _ _ _ _ from HI.out).mono ?_
    rintro e w1 ⟨rfl, rfl⟩
    go_wp2
    go_ret
    exact ⟨rfl, rfl⟩
  · have hd' : decide (0 ≤ n ∧ n < S.nb) = false := by simpa using hd
    rw [hd'] at HI
    clear h hn hd hd' hsz
    generalize strOf b = t at *
    go_enter Try.func33, Try.ntmps33
    go_wp2_with fail
    refine (show Calls _ _ _ _ _ from HI.out).mono ?_
    rintro e w1 ⟨rfl, rfl⟩
    go_wp2
    go_ret
    exact ⟨rfl, rfl⟩

set_option maxHeartbeats 800000 in
theorem rput_hit (G H : Nat → Prop) (c q : Nat) (S : St) (C : Ca) (lv : Value) (n : Int) (b : List Int) (w : World) (h : RCk w G H c q S C lv) (hl : C.L.length ≤ 1024) (hu : C.hits < 1099511627776) (hn : 0 ≤ n ∧ n < S.nb) (hb : b.length = 512) {x0 : It} (hx0 : x0 ∈ C.L) (hxn : (x0.n : Int) = n) :
    Calls Try.prog 33 #[.pointer (some ⟨c, 0, none⟩), .int .i64 n, .string (strOf b)] w fun e w' => e = .returned (.int .i64 0) ∧ ∃ xs x ys, C.L = xs ++ x :: ys ∧ (x.n : Int) = n ∧ RcTo H c q w w' { C with hits := C.hits + 1, L := xs ++ ys ++ [{ x with b := b, dirty := true }] } := by
  have c0 := h.rc.c0
  have c3 := h.rc.c3
  have f3 := h.rc.fr 3
  have HI : Hid (Calls Try.prog 58 #[.pointer (some ⟨q, 0, none⟩), .int .i64 n] w fun e w' => e = .returned (.bool (decide (0 ≤ n ∧ n < S.nb))) ∧ w' = w) := ris_rk G q S n w h.rk
  have hd : decide (0 ≤ n ∧ n < S.nb) = true := by simpa using hn
  have hsz := strOf_size b
  have hl5 : ((strOf b).size : Int) = 512 := by rw [hsz]; omega
  have hl6 : (strOf b).size = 512 := by rw [hsz]; exact hb
  rw [hd] at HI
  obtain ⟨t, ht⟩ : ∃ t, strOf b = t := ⟨_, rfl⟩
  have HF : Hid (Calls Try.prog 47 #[.pointer (some ⟨c, 0, none⟩), .int .i64 n] w fun e w' => ∃ (i g cap N : Nat) (hv : Int) (t0 : Value) (d0 : Bool), e = .returned (.int .i64 (i : Int)) ∧ w' = w ∧ i < N ∧ N ≤ 1024 ∧ (C.hits : Int) = hv ∧
      (w.setCell ⟨c, 3, none⟩ (.int .i64 (hv + 1))).cell? ⟨c, 2, none⟩ = some (.slice (some ⟨g, 0, none⟩) N cap) ∧ (w.setCell ⟨c, 3, none⟩ (.int .i64 (hv + 1))).cell? ⟨g, i * 4 + 1, none⟩ = some t0 ∧ (w.setCell ⟨c, 3, none⟩ (.int .i64 (hv + 1))).frozen? ⟨g, i * 4 + 1, none⟩ = false ∧
      ((w.setCell ⟨c, 3, none⟩ (.int .i64 (hv + 1))).setCell ⟨g, i * 4 + 1, none⟩ (.string t)).cell? ⟨c, 2, none⟩ = some (.slice (some ⟨g, 0, none⟩) N cap) ∧ ((w.setCell ⟨c, 3, none⟩ (.int .i64 (hv + 1))).setCell ⟨g, i * 4 + 1, none⟩ (.string t)).cell? ⟨g, i * 4 + 2, none⟩ = some (.bool d0) ∧ ((w.setCell ⟨c, 3, none⟩ (.int .i64 (hv + 1))).setCell ⟨g, i * 4 + 1, none⟩ (.string t)).frozen? ⟨g, i * 4 + 2, none⟩ = false ∧
      Hid (Calls Try.prog 59 #[.pointer (some ⟨c, 0, none⟩), .int .i64 (i : Int)] (((w.setCell ⟨c, 3, none⟩ (.int .i64 (hv + 1))).setCell ⟨g, i * 4 + 1, none⟩ (.string t)).setCell ⟨g, i * 4 + 2, none⟩ (.bool true)) fun e w' => e = .returned (.tuple #[]) ∧ ∃ xs x ys, C.L = xs ++ x :: ys ∧ (x.n : Int) = n ∧ RcTo H c q w w' { C with hits := C.hits + 1, L := xs ++ ys ++ [{ x with b := b, dirty := true }] })) := by
    refine (rfind_any H c q C lv n w h.rc hl).mono ?_
    rintro e w' ⟨k, rfl, hf, rfl⟩
    rcases hf with ⟨xs, x, ys, hL, hx, rfl⟩ | ⟨hf, _⟩
    · have hlt : xs.length < C.L.length := by rw [hL]; simp
      obtain ⟨g, cap, hlv, hcap, _, _⟩ := h.rc.sm hlt
      obtain ⟨a1, k1⟩ := h.rc.setHits
      rw [hlv] at a1
      have i1 := a1.item (i := xs.length) (k := 1) hlt (by decide) rfl
      obtain ⟨a2, k2⟩ := a1.setItem (xs := xs) (ys := ys) (x := x) (y := { x with b := b }) hL (k := 1) (by decide) (v := .string (strOf b)) rfl _ rfl
      have hN : C.L.length = (xs ++ { x with b := b } :: ys).length := by rw [hL]; simp
      have a2' := a2
      rw [hN] at a2'
      have i2 := a2'.item (i := xs.length) (k := 2) (by simp) (by decide) rfl
      obtain ⟨a3, k3⟩ := a2'.setItem (xs := xs) (ys := ys) (x := { x with b := b }) (y := { x with b := b, dirty := true }) rfl (k := 2) (by decide) (v := .bool true) rfl _ rfl
      have hN2 : (xs ++ { x with b := b } :: ys).length = (xs ++ { x with b := b, dirty := true } :: ys).length := by simp
      have c2' := a2.c2
      rw [← ht]
      refine ⟨xs.length, g, cap, C.L.length, (C.hits : Int), _, _, rfl, rfl, hlt, hl, rfl, a1.c2, i1, a1.gfr _, c2', i2, a2'.gfr _, ?_⟩
      have a3' := a3
      rw [show ({ C with hits := C.hits + 1, L := xs ++ { x with b := b } :: ys } : Ca).L.length = _ from hN2] at a3'
      refine (rlastu_any H c q _ g cap xs ys { x with b := b, dirty := true } _ a3' (by show (xs ++ { x with b := b, dirty := true } :: ys).length ≤ cap; rw [← hN2, ← hN]; exact hcap) rfl (by show (xs ++ { x with b := b, dirty := true } :: ys).length ≤ 1024; rw [← hN2, ← hN]; exact hl) _ rfl).mono ?_
      rintro e w2 ⟨rfl, ht⟩
      exact ⟨rfl, xs, x, ys, hL, hx, RcTo.trans (((k1.mono (fun b _ e => by rw [e]; exact h.rc.fc)).trans k2 (fun _ _ h => h)).trans k3 (fun _ _ h => h)) (fun b hb => .inl hb) ht⟩
    · exact absurd hxn (hf x0 hx0)
  have hu' : (C.hits : Int) < 1099511627776 := by omega
  have hu0 : (0 : Int) ≤ (C.hits : Int) := by omega
  have HP : Hid (strOf b = t) := ht
  rw [ht] at hl5 hl6
  rw [ht]
  clear h hn hd hu hl hxn hx0 hsz ht
  go_enter Try.func33, Try.ntmps33
  go_wp2_with fail
  refine (show Calls _ _ _ _ _ from HI.out).mono ?_
  rintro e w1 ⟨rfl, rfl⟩
  go_wp2_with fail
  refine (show Calls _ _ _ _ _ from HF.out).mono ?_
  rintro e w2 ⟨i, g, cap, N, hv, t0, d0, rfl, rfl, hi, hN, hh, z2, z1, z3, z4, z5, z6, HL⟩
  rw [hh] at c3 hu' hu0
  have hi' : (i : Int) < (N : Int) := by omega
  have hi0 : ¬ (i : Int) < 0 := by omega
  clear hh HF HI
  go_wp2_with fail
  refine (show Calls _ _ _ _ _ from HL.out).mono ?_
  rintro e w3 ⟨rfl, ht⟩
  have HT : Hid _ := ht
  clear ht HL z1 z2 z3 z4 z5 z6 c0 c3 f3
  go_wp2
  go_ret
  exact ⟨rfl, HT.out⟩

set_option maxHeartbeats 1600000 in
theorem rput_miss (G H : Nat → Prop) (c q : Nat) (S : St) (C : Ca) (lv : Value) (m : Nat) (b : List Int) (w : World) (h : RCk w G H c q S C lv) (hw : C.Wf S.nb) (hx : S.writes < 1099511627776) (hu : C.hits + C.misses < 1099511627776) (hev : C.evicted < 1099511627776) (hn : m < S.nb) (hb : b.length = 512) (hh : C.has m = false) (R : Res) (hR : R = if (miss S C m 0 (zeros 512)).e ≠ 0 then miss S C m 0 (zeros 512) else ⟨0, (miss S C m 0 (zeros 512)).S, (miss S C m 0 (zeros 512)).C.last fun i => { i with b := b, dirty := true }⟩) :
    Calls Try.prog 33 #[.pointer (some ⟨c, 0, none⟩), .int .i64 (m : Int), .string (strOf b)] w fun e w' => e = .returned (.int .i64 R.e) ∧ EvTo G H c q w w' R.S R.C := by
  have htop := hw.top
  have hfew := hw.few
  have c0 := h.rc.c0
  have hsz := strOf_size b
  have hl5 : ((strOf b).size : Int) = 512 := by rw [hsz]; omega
  have hl6 : (strOf b).size = 512 := by rw [hsz]; exact hb
  have HI : Hid (Calls Try.prog 58 #[.pointer (some ⟨q, 0, none⟩), .int .i64 (m : Int)] w fun e w' => e = .returned (.bool (decide (0 ≤ (m : Int) ∧ (m : Int) < S.nb))) ∧ w' = w) := ris_rk G q S m w h.rk
  have hd : decide (0 ≤ (m : Int) ∧ (m : Int) < S.nb) = true := by simpa using hn
  rw [hd] at HI
  have HF : Hid (Calls Try.prog 47 #[.pointer (some ⟨c, 0, none⟩), .int .i64 (m : Int)] w fun e w' => e = .returned (.int .i64 (-1)) ∧ w' = w) := by
    refine (rfind_any H c q C lv m w h.rc (by omega)).mono ?_
    rintro e w' ⟨k, rfl, hf, rfl⟩
    rcases hf with ⟨xs, x, ys, hL, hx, rfl⟩ | ⟨_, rfl⟩
    · have : C.has m = true := Ca.has_iff.2 ⟨x, by rw [hL]; simp, by omega⟩
      rw [hh] at this; cases this
    · exact ⟨rfl, rfl⟩
  have HW : Hid (Calls Try.prog 60 #[.pointer (some ⟨c, 0, none⟩)] w fun e w1 => ∃ k b1, e = .returned (.tuple #[.int .i64 k, .bool b1]) ∧ (b1 = false → Hid (R.e = 13 ∧ EvTo G H c q w w1 R.S R.C)) ∧
      (b1 = true → Hid (Calls Try.prog 62 #[.pointer (some ⟨c, 0, none⟩), .int .i64 k] w1 fun e w2 => ∃ E, e = .returned (.int .i64 E) ∧ R.e = E ∧ (E ≠ 0 → Hid (EvTo G H c q w w2 R.S R.C)) ∧ (E = 0 → AddF G H c q w w2 (m : Int) (strOf b) true R)))) := by
    refine (rwho_any H c q C lv w h.rc (by omega)).mono ?_
    rintro e w1 ⟨k, b1, rfl, hk, hc⟩
    have k1 := h.kept hc (fun _ _ h => h)
    refine ⟨k, b1, rfl, fun hb1 => ?_, fun hb1 => ?_⟩
    · subst hb1
      rw [miss_full (who_false hw hk), if_pos (by simp)] at hR
      rw [hR]
      exact ⟨rfl, EvTo.refl h hc⟩
    · subst hb1
      refine (revict_any G H c q S C lv k w1 k1 hw hev hx hk).mono ?_
      rintro e w2 ⟨E, S', C', rfl, hr, ht⟩
      have hm := miss_room m (zeros 512) hr
      by_cases he : E = 0
      · rw [if_neg (by simpa using he)] at hm
        rw [hm, if_neg (by simp)] at hR
        have hr2 := room_wf hr hw
        refine ⟨E, rfl, by rw [hR]; exact he.symm, fun h => absurd he h, fun _ => addF (EvTo.after hc ht) hr2.1 (by omega) ⟨m, b, true, 0⟩ rfl R ?_⟩
        rw [hR]
        show (⟨0, S', (C'.add m (zeros 512)).last _⟩ : Res) = _
        unfold Ca.last Ca.add
        simp only
        rw [modLast_snoc]
      · rw [if_pos he] at hm
        rw [hm, if_pos he] at hR
        exact ⟨E, rfl, by rw [hR], fun _ => by rw [hR]; exact EvTo.after hc ht, fun h => absurd h he⟩
  obtain ⟨t, ht⟩ : ∃ x, strOf b = x := ⟨_, rfl⟩
  rw [ht] at HW hl5 hl6
  rw [ht]
  clear h hw hR hd ht hh hn hsz
  generalize (m : Int) = mi at *
  go_enter Try.func33, Try.ntmps33
  go_wp2_with fail
  refine (show Calls _ _ _ _ _ from HI.out).mono ?_
  rintro e w1 ⟨rfl, rfl⟩
  go_wp2_with fail
  refine (show Calls _ _ _ _ _ from HF.out).mono ?_
  rintro e w2 ⟨rfl, rfl⟩
  go_wp2_with fail
  refine (show Calls _ _ _ _ _ from HW.out).mono ?_
  clear HI HF HW c0
  rintro e w3 ⟨k, b1, rfl, y1, y3⟩
  cases b1 with
  | false =>
    have HY := y1 rfl
    clear y1 y3
    go_wp2
    go_ret
    rw [HY.out.1]
    exact ⟨rfl, HY.out.2⟩
  | true =>
    have HE := y3 rfl
    clear y1 y3
    go_wp2_with fail
    refine (show Calls _ _ _ _ _ from HE.out).mono ?_
    clear HE
    rintro e w5 ⟨E, rfl, hRE, u1, u2⟩
    by_cases he : E = 0
    · obtain ⟨ms, lv, v1, w6, a2, n2, d2, w7, c4, f4, m0, m1, z2, ⟨la, ll, lp, rfl⟩, r1, r2, z3, z4, z5, HZ⟩ := u2 he
      subst he
      have HRE : Hid (R.e = 0) := hRE
      clear u1 u2 hRE
      go_wp2
      go_ret
      rw [HRE.out]
      exact ⟨rfl, HZ.out⟩
    · have HY := u1 he
      have he0 : (E == 0) = false := by simpa using he
      have HRE : Hid (R.e = E) := hRE
      clear u1 u2 hRE
      go_wp2
      go_ret
      rw [HRE.out]
      exact ⟨rfl, HY.out⟩

theorem rput_any (G H : Nat → Prop) (c q : Nat) (S : St) (C : Ca) (lv : Value) (n : Int) (b : List Int) (w : World) (h : RCk w G H c q S C lv) (hw : C.Wf S.nb) (hx : S.writes < 1099511627776) (hu : C.hits + C.misses < 1099511627776) (hev : C.evicted < 1099511627776) :
    Calls Try.prog 33 #[.pointer (some ⟨c, 0, none⟩), .int .i64 n, .string (strOf b)] w fun e w' => e = .returned (.int .i64 (put S C n b).e) ∧ EvTo G H c q w w' (put S C n b).S (put S C n b).C := by
  have hfew := hw.few
  have htop := hw.top
  by_cases hb : b.length = 512
  · have hp : put S C n b = if (use S C n 0 (zeros 512)).e ≠ 0 then use S C n 0 (zeros 512) else ⟨0, (use S C n 0 (zeros 512)).S, (use S C n 0 (zeros 512)).C.last fun i => { i with b := b, dirty := true }⟩ := by unfold put; rw [if_neg (by simpa using hb)]
    by_cases hn : 0 ≤ n ∧ n < S.nb
    · obtain ⟨m, rfl⟩ := Int.eq_ofNat_of_zero_le hn.1
      by_cases hh : C.has m = true
      · rw [use_held hn hh, if_neg (by simp)] at hp
        obtain ⟨x0, hx0, hxn⟩ := Ca.has_iff.1 hh
        refine (rput_hit G H c q S C lv m b w h (by omega) (by omega) hn hb hx0 (by omega)).mono ?_
        rintro e w' ⟨rfl, xs, x, ys, hL, hxm, ht⟩
        have hxm' : x.n = m := by omega
        have he := hit_eq hw hL
        rw [hxm'] at he
        have hm : (Int.ofNat m).toNat = m := rfl
        have hp2 : put S C (m : Int) b = ⟨0, S, { C with hits := C.hits + 1, L := xs ++ ys ++ [{ x with b := b, dirty := true }] }⟩ := by
          rw [hp]
          show (⟨0, S, (C.hit m).last _⟩ : Res) = _
          rw [he]
          unfold Ca.last
          simp only
          rw [modLast_snoc]
        rw [hp2]
        obtain ⟨H', lv', m1, m2, m3⟩ := h.cache ht
        exact ⟨rfl, G, H', lv', m1, m2.mono (fun _ _ h => .inr h), fun _ h => .inl h, m3⟩
      · have hh : C.has m = false := by simpa using hh
        rw [use_miss hn hh] at hp
        exact rput_miss G H c q S C lv m b w h hw hx hu hev (by omega) hb hh _ hp
    · rw [use_bad hn, if_pos (by simp)] at hp
      refine (rput_bad G H c q S C lv n b w h (.inl hn)).mono ?_
      rintro e w' ⟨rfl, rfl⟩
      rw [hp]
      exact ⟨rfl, EvTo.refl h (Chg.refl _ _)⟩
  · have hp : put S C n b = ⟨1, S, C⟩ := by unfold put; rw [if_pos hb]
    refine (rput_bad G H c q S C lv n b w h (.inr hb)).mono ?_
    rintro e w' ⟨rfl, rfl⟩
    rw [hp]
    exact ⟨rfl, EvTo.refl h (Chg.refl _ _)⟩
end Go.Proofs.Ytioloobeakjbeaa

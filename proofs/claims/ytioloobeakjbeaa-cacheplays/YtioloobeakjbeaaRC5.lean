/-
  The reference's cache: room is made, an item is added.
-/
import Derived.Test.YtioloobeakjbeaaRC4
namespace Go.Proofs.Ytioloobeakjbeaa
open Go.RowKit Go.Maps
attribute [local go_sem ↓] Go.wp_at_zero Go.wp_at_succ

theorem ris_rk (G : Nat → Prop) (q : Nat) (S : St) (n : Int) (w : World) (h : Rk w G q S) : Calls Try.prog 58 #[.pointer (some ⟨q, 0, none⟩), .int .i64 n] w fun e w' => e = .returned (.bool (decide (0 ≤ n ∧ n < S.nb))) ∧ w' = w := by
  obtain ⟨R, lb, lc, wv, pv, s, h⟩ := h
  have := ris_any G q R n w h
  rw [s.nb] at this
  exact this

/-- What making room leaves. -/
def Room (S : St) (C : Ca) (E : Int) (S' : St) (C' : Ca) : Prop := (C.L.length ≠ C.size ∧ E = 0 ∧ S' = S ∧ C' = C) ∨ (C.L.length = C.size ∧ ∃ g, C.goes = some g ∧ E = cleanE S g ∧ S' = cleanS S g ∧ C' = if E = 0 then C.out g.n else C)

theorem outC_eq {C : Ca} {nb : Nat} (h : C.Wf nb) {xs ys : List It} {x : It} (hL : C.L = xs ++ x :: ys) : outC C xs ys = C.out x.n := by
  unfold outC Ca.out
  rw [(Ca.filter_eq h.uniq hL).1]

theorem revict_any (G H : Nat → Prop) (c q : Nat) (S : St) (C : Ca) (lv : Value) (k : Int) (w : World) (h : RCk w G H c q S C lv) (hw : C.Wf S.nb) (hev : C.evicted < 1099511627776) (hx : S.writes < 1099511627776) (hk : Who C k true) :
    Calls Try.prog 62 #[.pointer (some ⟨c, 0, none⟩), .int .i64 k] w fun e w' => ∃ E S' C', e = .returned (.int .i64 E) ∧ Room S C E S' C' ∧ EvTo G H c q w w' S' C' := by
  have hfew := hw.few
  have htop := hw.top
  rcases hk with ⟨h1, rfl, _⟩ | ⟨h1, h2, h3⟩
  · refine (revict_none c w).mono ?_
    rintro e w' ⟨rfl, rfl⟩
    exact ⟨0, S, C, rfl, .inl ⟨by omega, rfl, rfl, rfl⟩, G, H, lv, h, Chg.refl _ _, fun _ h => .inl h, fun _ h => .inl h⟩
  · rcases h2 with ⟨xs, x, ys, hL, hg, rfl⟩ | ⟨_, rfl⟩
    · have hm : x ∈ C.L := by rw [hL]; simp
      by_cases hd : x.dirty = true
      · refine (revict_dirty G H c q S C lv xs ys x w h hL (by omega) hev (hw.len x hm) hd hx _ _ _ rfl rfl rfl).mono ?_
        rintro e w' ⟨rfl, ht⟩
        refine ⟨_, _, _, rfl, .inr ⟨by omega, x, hg, ?_, ?_, ?_⟩, ht⟩
        · unfold cleanE; rw [if_pos hd]
        · unfold cleanS; rw [if_pos hd]
        · rw [outC_eq hw hL]
      · have hd : x.dirty = false := by simpa using hd
        refine (revict_clean H c q C lv xs ys x w h.rc hL (by omega) hev hd).mono ?_
        rintro e w' ⟨rfl, ht⟩
        obtain ⟨H', lv', m1, m2, m3⟩ := h.cache ht
        refine ⟨_, S, outC C xs ys, rfl, .inr ⟨by omega, x, hg, ?_, ?_, ?_⟩, G, H', lv', m1, m2.mono (fun _ _ h => .inr h), fun _ h => .inl h, m3⟩
        · unfold cleanE; rw [if_neg (by rw [hd]; decide)]
        · unfold cleanS; rw [if_neg (by rw [hd]; decide)]
        · rw [if_pos rfl, outC_eq hw hL]
    · simp at h3

section
variable {w : World} {H : Nat → Prop} {c q : Nat} {C : Ca} {lv : Value}
theorem RcAt.setHits (h : RcAt w H c q C lv) : RcAt (w.setCell ⟨c, 3, none⟩ (.int .i64 ((C.hits : Int) + 1))) H c q { C with hits := C.hits + 1 } lv ∧ Chg (fun k => k = c) w (w.setCell ⟨c, 3, none⟩ (.int .i64 ((C.hits : Int) + 1))) := by
  have hb := heap_setCell_same w c 3 _ _ (.int .i64 ((C.hits : Int) + 1)) h.blk
  simp at hb
  have kc : Chg (fun k => k = c) w (w.setCell ⟨c, 3, none⟩ (.int .i64 ((C.hits : Int) + 1))) := Chg.setCell _ _ _ rfl
  exact ⟨h.restruct kc (by simpa using hb) (h.rsame kc) h.fl, kc⟩
theorem RcAt.setMisses (h : RcAt w H c q C lv) : RcAt (w.setCell ⟨c, 4, none⟩ (.int .i64 ((C.misses : Int) + 1))) H c q { C with misses := C.misses + 1 } lv ∧ Chg (fun k => k = c) w (w.setCell ⟨c, 4, none⟩ (.int .i64 ((C.misses : Int) + 1))) := by
  have hb := heap_setCell_same w c 4 _ _ (.int .i64 ((C.misses : Int) + 1)) h.blk
  simp at hb
  have kc : Chg (fun k => k = c) w (w.setCell ⟨c, 4, none⟩ (.int .i64 ((C.misses : Int) + 1))) := Chg.setCell _ _ _ rfl
  exact ⟨h.restruct kc (by simpa using hb) (h.rsame kc) h.fl, kc⟩
/-- An item is added. -/
theorem radd_facts (h : RcAt w H c q C lv) (hl : C.L.length ≤ 1024) (x : It) (C' : Ca) (hC' : C' = { C with L := C.L ++ [x] }) :
    ∃ v1 w1 a2 n2 d2 w2, (appG #[45, 45] 45 #[.slice (some ⟨w.heap.size, 0, none⟩) 0 0, lv]).run Try.prog (w.alloc (.cells #[] 92)) = .ok v1 w1 ∧
      (appG #[45, 45] 45 #[v1, .slice (some ⟨w1.heap.size, 0, none⟩) 1 1]).run Try.prog (w1.alloc (.cells #[.int .i64 (x.n : Int), .string (strOf x.b), .bool x.dirty, .int .i64 (x.pins : Int)] 92)) = .ok (.slice a2 n2 d2) w2 ∧
      (w.alloc (.cells #[] 92)).cell? ⟨c, 2, none⟩ = some lv ∧ w2.cell? ⟨c, 2, none⟩ = some lv ∧ w2.frozen? ⟨c, 2, none⟩ = false ∧
      Hid (RcTo H c q w (w2.setCell ⟨c, 2, none⟩ (.slice a2 n2 d2)) C') := by
  have hcl : c < w.heap.size := h.lt c h.fc
  have cb0 : Chg (fun k => w.heap.size ≤ k) w (w.alloc (.cells #[] 92)) := Chg.alloc _ _ _
  obtain ⟨v1, w1, r1, o1, k1, _⟩ := (Ow.lit w w.heap.size (Nat.le_refl _)).app cb0.size ((Js.ofOwns h.row).kept cb0 (fun k hk => by have := (h.row.lt k hk).2; show ¬ w.heap.size ≤ k; omega)) (by simp; omega)
  have e1 := cb0.trans k1 (fun _ _ h => h)
  have cc : Chg (fun k => w.heap.size ≤ k) w (w1.alloc (.cells #[.int .i64 (x.n : Int), .string (strOf x.b), .bool x.dirty, .int .i64 (x.pins : Int)] 92)) := e1.trans (Chg.alloc _ _ _) (fun _ _ h => h)
  have oc1 := o1.kept (Chg.alloc (fun _ => False) _ (.cells #[.int .i64 (x.n : Int), .string (strOf x.b), .bool x.dirty, .int .i64 (x.pins : Int)] 92)) (fun _ _ h => h)
  obtain ⟨v2, w2, r2, o2, k2, _⟩ := oc1.app cc.size (Js.lit w1 x) (by simp; omega)
  have e2 := cc.trans k2 (fun _ _ h => h)
  obtain ⟨a2, d2, rfl⟩ := own_form o2.1
  obtain ⟨f1, f2, f3, f4⟩ := h.store e2 o2
  refine ⟨v1, w1, a2, _, d2, w2, r1, r2, cb0.cell h.c2 (by show ¬ w.heap.size ≤ c; omega), f3, f4, _, _, by rw [hC']; exact f1, f2, fun b hb => ?_⟩
  rcases hb with e | e
  · exact .inl e
  · exact .inr e.1
end
/-- Items are changed in place: one cell of the item at i. -/
theorem RcAt.setItem {w : World} {H : Nat → Prop} {c q : Nat} {C : Ca} {g cap : Nat} (h : RcAt w H c q C (.slice (some ⟨g, 0, none⟩) C.L.length cap)) {xs ys : List It} {x y : It} (hL : C.L = xs ++ x :: ys) {k : Nat} (hk : k < 4) {v : Value} (hy : jcell y = (jcell x).set k v) (C' : Ca) (hC' : C' = { C with L := xs ++ y :: ys }) :
    RcAt (w.setCell ⟨g, xs.length * 4 + k, none⟩ v) H c q C' (.slice (some ⟨g, 0, none⟩) C.L.length cap) ∧ Chg H w (w.setCell ⟨g, xs.length * 4 + k, none⟩ v) := by
  have hlt : xs.length < C.L.length := by rw [hL]; simp
  have hg : H g := h.fl g rfl
  obtain ⟨g', cap', e, _, hgc, _⟩ := h.sm hlt
  simp at e
  obtain ⟨rfl, rfl⟩ := e
  have kc : Chg (fun b => b = g) w (w.setCell ⟨g, xs.length * 4 + k, none⟩ v) := Chg.setCell _ _ _ rfl
  have hlen : C'.L.length = C.L.length := by rw [hC', hL]; simp
  have hj : jcells C'.L = (jcells C.L).set (xs.length * 4 + k) v := by
    have e1 : (jcells xs).length = xs.length * 4 := jcells_len xs
    rw [hC', hL]
    show jcells (xs ++ y :: ys) = _
    rw [jcells_append, jcells_append, jcells_cons, jcells_cons, hy, List.set_append_right _ _ (by rw [e1]; omega), e1, List.set_append_left _ _ (by simp [jcell]; omega)]
    congr 3
    omega
  refine ⟨⟨?_, ?_, h.fc, h.fl, fun b hb => by simpa using h.lt b hb⟩, kc.mono (fun b _ e => by rw [e]; exact hg)⟩
  · rw [kc.block c (h.lt c h.fc) (fun e => hgc e.symm), h.blk, hC']
  · rw [hlen, hj]
    rcases h.row.2 with ⟨e, _⟩ | ⟨g2, cap2, cur, e, hb0, hb, h1, h2, h3, h4⟩
    · cases e
    · simp at e
      obtain ⟨rfl, rfl⟩ := e
      have hs := heap_setCell_same w g (xs.length * 4 + k) _ _ v hb
      refine ⟨by rw [List.length_set]; exact h.row.1, .inr ⟨g, cap, _, rfl, hb0, hs, h1, h2, by simpa using h3, ?_⟩⟩
      rw [← h4]
      simp [List.take_set]
end Go.Proofs.Ytioloobeakjbeaa

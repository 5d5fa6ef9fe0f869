/-
  The reference's cache: an item goes.
-/
import Derived.Test.YtioloobeakjbeaaRC3
namespace Go.Proofs.Ytioloobeakjbeaa
open Go.RowKit Go.Maps
attribute [local go_sem ↓] Go.wp_at_zero Go.wp_at_succ

/-- The disk and the cache over it. -/
structure RCk (w : World) (G H : Nat → Prop) (c q : Nat) (S : St) (C : Ca) (lv : Value) : Prop where
  rk : Rk w G q S
  rc : RcAt w H c q C lv
  no : ∀ b, G b → ¬ H b
def Rcc (w : World) (K : Nat → Prop) (c q : Nat) (S : St) (C : Ca) : Prop := ∃ G H lv, RCk w G H c q S C lv ∧ (∀ b, G b → K b) ∧ (∀ b, H b → K b)
/-- What a call leaves. -/
def RCT (K : Nat → Prop) (c q : Nat) (w w' : World) (S' : St) (C' : Ca) : Prop := ∃ K', Rcc w' K' c q S' C' ∧ Chg K w w' ∧ ∀ b, K' b → K b ∨ w.heap.size ≤ b
theorem RCk.kept {E : Nat → Prop} {w w' : World} {G H : Nat → Prop} {c q : Nat} {S : St} {C : Ca} {lv : Value} (h : RCk w G H c q S C lv) (hc : Chg E w w') (hE : ∀ b, G b ∨ H b → ¬ E b) : RCk w' G H c q S C lv :=
  ⟨h.rk.kept hc (fun b hb => hE b (.inl hb)), h.rc.kept hc (fun b hb => hE b (.inr hb)), h.no⟩
/-- The disk has changed. -/
theorem RCk.disk {w w' : World} {G H : Nat → Prop} {c q : Nat} {S S' : St} {C : Ca} {lv : Value} (h : RCk w G H c q S C lv) (ht : RTo G q w w' S') : ∃ G', RCk w' G' H c q S' C lv ∧ Chg G w w' ∧ ∀ b, G' b → G b ∨ w.heap.size ≤ b := by
  obtain ⟨G', h1, h2, h3⟩ := ht
  refine ⟨G', ⟨h1, h.rc.kept h2 (fun b hb hg => h.no b hg hb), fun b hb hH => ?_⟩, h2, h3⟩
  rcases h3 b hb with e | e
  · exact h.no b e hH
  · have := h.rc.lt b hH; omega
/-- The cache has changed. -/
theorem RCk.cache {w w' : World} {G H : Nat → Prop} {c q : Nat} {S : St} {C C' : Ca} {lv : Value} (h : RCk w G H c q S C lv) (ht : RcTo H c q w w' C') : ∃ H' lv', RCk w' G H' c q S C' lv' ∧ Chg H w w' ∧ ∀ b, H' b → H b ∨ w.heap.size ≤ b := by
  obtain ⟨H', v', h1, h2, h3⟩ := ht
  refine ⟨H', v', ⟨h.rk.kept h2 (fun b hb hH => h.no b hb hH), h1, fun b hb hH => ?_⟩, h2, h3⟩
  rcases h3 b hH with e | e
  · exact h.no b hb e
  · have := h.rk.lt b hb; omega
theorem RCT.refl {K : Nat → Prop} {c q : Nat} {w : World} {S : St} {C : Ca} (h : Rcc w K c q S C) : RCT K c q w w S C := ⟨K, h, Chg.refl _ _, fun _ h => .inl h⟩
theorem RCT.trans {K K1 : Nat → Prop} {c q : Nat} {w w1 w2 : World} {S2 : St} {C2 : Ca} (hc : Chg K w w1) (hK : ∀ b, K1 b → K b ∨ w.heap.size ≤ b) (h : RCT K1 c q w1 w2 S2 C2) : RCT K c q w w2 S2 C2 := by
  obtain ⟨K', h1, h2, h3⟩ := h
  refine ⟨K', h1, hc.trans h2 (fun k hk e => ?_), fun b hb => ?_⟩
  · rcases hK k e with e2 | e2
    · exact e2
    · omega
  · rcases h3 b hb with e | e
    · exact hK b e
    · exact .inr (Nat.le_trans hc.size e)
/-- The disk and the cache have changed, one behind the other, or one alone. -/
theorem RCk.to {w w' : World} {G H G' H' K : Nat → Prop} {c q : Nat} {S S' : St} {C C' : Ca} {lv lv' : Value} (_h : RCk w G H c q S C lv) (hG : ∀ b, G b → K b) (hH : ∀ b, H b → K b) (h' : RCk w' G' H' c q S' C' lv')
    (hc : Chg (fun b => G b ∨ H b) w w') (g' : ∀ b, G' b → G b ∨ w.heap.size ≤ b) (h2 : ∀ b, H' b → H b ∨ w.heap.size ≤ b) : RCT K c q w w' S' C' := by
  refine ⟨fun b => G' b ∨ H' b, ⟨G', H', lv', h', fun b h => .inl h, fun b h => .inr h⟩, hc.mono (fun b _ e => ?_), fun b hb => ?_⟩
  · rcases e with e | e
    · exact hG b e
    · exact hH b e
  · rcases hb with e | e
    · rcases g' b e with e | e
      · exact .inl (hG b e)
      · exact .inr e
    · rcases h2 b e with e | e
      · exact .inl (hH b e)
      · exact .inr e

theorem rcut_facts {w : World} {H : Nat → Prop} {c q : Nat} {C : Ca} {g cap : Nat} {xs ys : List It} {x : It} (h : RcAt w H c q C (.slice (some ⟨g, 0, none⟩) C.L.length cap)) (hcap : C.L.length ≤ cap) (hL : C.L = xs ++ x :: ys) (hl : C.L.length ≤ 1024) (C' : Ca) (hC' : C' = { C with L := xs ++ ys, evicted := C.evicted + 1 }) :
    ∃ v1 w1 a2 n2 d2 w2, (appG #[45, 45] 45 #[.slice (some ⟨w.heap.size, 0, none⟩) 0 0, .slice (some ⟨g, 0, none⟩) xs.length cap]).run Try.prog (w.alloc (.cells #[] 92)).drew = .ok v1 w1 ∧
      (appG #[45, 45] 45 #[v1, .slice (if cap = xs.length + 1 then some ⟨g, 0, none⟩ else some ⟨g, (xs.length + 1) * 4, none⟩) (C.L.length - (xs.length + 1)) (cap - (xs.length + 1))]).run Try.prog w1 = .ok (.slice a2 n2 d2) w2 ∧
      (w.alloc (.cells #[] 92)).cell? ⟨c, 2, none⟩ = some (.slice (some ⟨g, 0, none⟩) C.L.length cap) ∧ w1.cell? ⟨c, 2, none⟩ = some (.slice (some ⟨g, 0, none⟩) C.L.length cap) ∧ w2.cell? ⟨c, 2, none⟩ = some (.slice (some ⟨g, 0, none⟩) C.L.length cap) ∧ w2.frozen? ⟨c, 2, none⟩ = false ∧
      (w2.setCell ⟨c, 2, none⟩ (.slice a2 n2 d2)).cell? ⟨c, 5, none⟩ = some (.int .i64 (C.evicted : Int)) ∧ (w2.setCell ⟨c, 2, none⟩ (.slice a2 n2 d2)).frozen? ⟨c, 5, none⟩ = false ∧
      Hid (RcTo H c q w ((w2.setCell ⟨c, 2, none⟩ (.slice a2 n2 d2)).setCell ⟨c, 5, none⟩ (.int .i64 ((C.evicted : Int) + 1))) C') := by
  have hlt : xs.length < C.L.length := by rw [hL]; simp
  have hd : C.L.drop (xs.length + 1) = ys := by rw [hL]; simp
  have hll : C.L.length = xs.length + 1 + ys.length := by rw [hL]; simp; omega
  have hlen : C.L.length - (xs.length + 1) = ys.length := by omega
  have hRW := h.kept (Chg.drew (fun _ => False) w) (fun _ _ h => h)
  have hgl : g < w.drew.heap.size := hRW.lt g (h.fl g rfl)
  have hcl : c < w.drew.heap.size := hRW.lt c h.fc
  have jt : ∀ w', Chg (fun k => w.drew.heap.size ≤ k) w.drew w' → Js w' (.slice (some ⟨g, 0, none⟩) xs.length cap) xs := fun w' hc => (Js.first hRW.row hL rfl cap).kept hc (fun k hk => by cases hk; show ¬ w.drew.heap.size ≤ g; omega)
  have jf : ∀ w', Chg (fun k => w.drew.heap.size ≤ k) w.drew w' → Js w' (.slice (if cap = xs.length + 1 then some ⟨g, 0, none⟩ else some ⟨g, (xs.length + 1) * 4, none⟩) (C.L.length - (xs.length + 1)) (cap - (xs.length + 1))) ys := fun w' hc => by
    split
    · exact (Js.part (i := xs.length + 1) (o := 0) hRW.row hd.symm (fun e => by omega) hlen _).kept hc (fun k hk => by cases hk; show ¬ w.drew.heap.size ≤ g; omega)
    · exact (Js.part (i := xs.length + 1) hRW.row hd.symm (fun _ => rfl) hlen _).kept hc (fun k hk => by cases hk; show ¬ w.drew.heap.size ≤ g; omega)
  have cb0 : Chg (fun k => w.drew.heap.size ≤ k) w.drew (w.drew.alloc (.cells #[] 92)) := Chg.alloc _ _ _
  obtain ⟨v1, w1, r1, o1, k1, _⟩ := (Ow.lit w.drew w.drew.heap.size (Nat.le_refl _)).app cb0.size (jt _ cb0) (by simp; omega)
  have e1 := cb0.trans k1 (fun _ _ h => h)
  obtain ⟨v2, w2, r2, o2, k2, _⟩ := o1.app e1.size (jf _ e1) (by simp; omega)
  have e2 := e1.trans k2 (fun _ _ h => h)
  obtain ⟨a2, d2, rfl⟩ := own_form o2.1
  obtain ⟨f1, f2, f3, f4⟩ := hRW.store e2 o2
  refine ⟨v1, w1, a2, _, d2, w2, r1, r2, cb0.cell hRW.c2 (by show ¬ w.drew.heap.size ≤ c; omega), e1.cell hRW.c2 (by show ¬ w.drew.heap.size ≤ c; omega), f3, f4, f1.c5, f1.fr 5, ?_⟩
  have hb := heap_setCell_same _ c 5 _ _ (.int .i64 ((C.evicted : Int) + 1)) f1.blk
  simp at hb
  have kc : Chg (fun k => k = c) (w2.setCell ⟨c, 2, none⟩ (.slice a2 ([] ++ xs ++ ys).length d2)) ((w2.setCell ⟨c, 2, none⟩ (.slice a2 ([] ++ xs ++ ys).length d2)).setCell ⟨c, 5, none⟩ (.int .i64 ((C.evicted : Int) + 1))) := Chg.setCell _ _ _ rfl
  refine ⟨_, _, f1.restruct (C' := C') kc ?_ ?_ f1.fl, ((Chg.drew H w).trans f2 (fun _ _ h => h)).trans kc (fun k _ e => by rw [e]; exact h.fc), fun b hb => ?_⟩
  · rw [hC']; simpa using hb
  · rw [hC']; exact f1.rsame kc
  · rcases hb with e | e
    · exact .inl e
    · exact .inr e.1

/-- The item at k goes, or none does, where k is -1. -/
def outC (C : Ca) (xs ys : List It) : Ca := { C with L := xs ++ ys, evicted := C.evicted + 1 }
attribute [local go_sem ↓] appG_eq
set_option maxHeartbeats 1600000 in
set_option maxRecDepth 100000 in
theorem revict_clean (H : Nat → Prop) (c q : Nat) (C : Ca) (lv : Value) (xs ys : List It) (x : It) (w : World) (h : RcAt w H c q C lv) (hL : C.L = xs ++ x :: ys) (hl : C.L.length ≤ 1024) (hev : C.evicted < 1099511627776) (hx : x.dirty = false) :
    Calls Try.prog 62 #[.pointer (some ⟨c, 0, none⟩), .int .i64 (xs.length : Int)] w fun e w' => e = .returned (.int .i64 0) ∧ RcTo H c q w w' (outC C xs ys) := by
  have hlt : xs.length < C.L.length := by rw [hL]; simp
  obtain ⟨g, cap, rfl, hcap, _, _⟩ := h.sm hlt
  obtain ⟨v1, w1, a2, n2, d2, w2, r1, r2, z0, z1, z2, z3, z4, z5, HQ⟩ := rcut_facts h hcap hL hl (outC C xs ys) rfl
  have c2 := h.c2
  have hxx : C.L[xs.length] = x := by simp [hL]
  have i2 := h.item (k := 2) hlt (by decide) rfl
  rw [hxx] at i2
  rw [hx] at i2
  have hlt' : (xs.length : Int) < (C.L.length : Int) := by omega
  have hev' : (C.evicted : Int) < 1099511627776 := by omega
  have hev0 : (0 : Int) ≤ (C.evicted : Int) := by omega
  clear h hlt hL hxx
  generalize (C.evicted : Int) = ev at *
  generalize C.L.length = n at *
  generalize xs.length = i at *
  go_enter Try.func62, Try.ntmps62
  go_wp2_with fail
  go_region
  all_goals
    go_wp2
    all_goals
      go_ret
      exact ⟨rfl, HQ.out⟩

theorem revict_none (c : Nat) (w : World) : Calls Try.prog 62 #[.pointer (some ⟨c, 0, none⟩), .int .i64 (-1)] w fun e w' => e = .returned (.int .i64 0) ∧ w' = w := by
  go_enter Try.func62, Try.ntmps62
  go_wp2
  go_ret
  exact ⟨rfl, rfl⟩

/-- What a call leaves that may change both. -/
def EvTo (G H : Nat → Prop) (c q : Nat) (w w' : World) (S' : St) (C' : Ca) : Prop := ∃ G' H' lv', RCk w' G' H' c q S' C' lv' ∧ Chg (fun b => G b ∨ H b) w w' ∧ (∀ b, G' b → G b ∨ w.heap.size ≤ b) ∧ (∀ b, H' b → H b ∨ w.heap.size ≤ b)
theorem EvTo.rct {G H K : Nat → Prop} {c q : Nat} {w w' : World} {S' : St} {C' : Ca} (h : EvTo G H c q w w' S' C') (hG : ∀ b, G b → K b) (hH : ∀ b, H b → K b) : RCT K c q w w' S' C' := by
  obtain ⟨G', H', lv', h1, hc, g', h2⟩ := h
  refine ⟨fun b => G' b ∨ H' b, ⟨G', H', lv', h1, fun b h => .inl h, fun b h => .inr h⟩, hc.mono (fun b _ e => ?_), fun b hb => ?_⟩
  · rcases e with e | e
    · exact hG b e
    · exact hH b e
  · rcases hb with e | e
    · rcases g' b e with e | e
      · exact .inl (hG b e)
      · exact .inr e
    · rcases h2 b e with e | e
      · exact .inl (hH b e)
      · exact .inr e

set_option maxHeartbeats 1600000 in
set_option maxRecDepth 100000 in
theorem revict_dirty (G H : Nat → Prop) (c q : Nat) (S : St) (C : Ca) (lv : Value) (xs ys : List It) (x : It) (w : World) (h : RCk w G H c q S C lv) (hL : C.L = xs ++ x :: ys) (hl : C.L.length ≤ 1024) (hev : C.evicted < 1099511627776) (hxl : x.b.length = 512) (hx : x.dirty = true) (hw : S.writes < 1099511627776)
    (E : Int) (S' : St) (C' : Ca) (hE : E = S.writeE x.n x.b) (hS : S' = S.write x.n x.b) (hC : C' = if E = 0 then outC C xs ys else C) :
    Calls Try.prog 62 #[.pointer (some ⟨c, 0, none⟩), .int .i64 (xs.length : Int)] w fun e w' => e = .returned (.int .i64 E) ∧ EvTo G H c q w w' S' C' := by
  have hlt : xs.length < C.L.length := by rw [hL]; simp
  obtain ⟨g, cap, rfl, hcap, _, _⟩ := h.rc.sm hlt
  have hxx : C.L[xs.length] = x := by simp [hL]
  have c0 := h.rc.c0
  have c2 := h.rc.c2
  have i0 := h.rc.item (k := 0) hlt (by decide) rfl
  have i1 := h.rc.item (k := 1) hlt (by decide) rfl
  have i2 := h.rc.item (k := 2) hlt (by decide) rfl
  rw [hxx] at i0 i1 i2
  rw [hx] at i2
  rw [Nat.add_zero] at i0
  have hlt' : (xs.length : Int) < (C.L.length : Int) := by omega
  have hev' : (C.evicted : Int) < 1099511627776 := by omega
  have hev0 : (0 : Int) ≤ (C.evicted : Int) := by omega
  have cd := Chg.drew (fun _ => False) w
  have hd := h.kept cd (fun _ _ h => h)
  have W0 := rwrite_any G q S x.n x.b w.drew hd.rk hw (by omega)
  rw [← hE, ← hS] at W0
  obtain ⟨n, hn⟩ : ∃ n, C.L.length = n := ⟨_, rfl⟩
  obtain ⟨i, hi⟩ : ∃ n, xs.length = n := ⟨_, rfl⟩
  obtain ⟨xn, hxn⟩ : ∃ n, (x.n : Int) = n := ⟨_, rfl⟩
  obtain ⟨t, ht⟩ : ∃ n, strOf x.b = n := ⟨_, rfl⟩
  obtain ⟨ev, hee⟩ : ∃ n, (C.evicted : Int) = n := ⟨_, rfl⟩
  have WR : Hid (Calls Try.prog 63 #[.pointer (some ⟨q, 0, none⟩), .int .i64 xn, .string t] w.drew fun e w1 => e = .returned (.int .i64 E) ∧ w1.cell? ⟨c, 0, none⟩ = some (.pointer (some ⟨q, 0, none⟩)) ∧ w1.cell? ⟨c, 2, none⟩ = some (.slice (some ⟨g, 0, none⟩) n cap) ∧
      w1.cell? ⟨g, i * 4, none⟩ = some (.int .i64 xn) ∧ w1.cell? ⟨g, i * 4 + 1, none⟩ = some (.string t) ∧ Hid (∃ G1, RCk w1 G1 H c q S' C (.slice (some ⟨g, 0, none⟩) C.L.length cap) ∧ Chg G w w1 ∧ ∀ b, G1 b → G b ∨ w.heap.size ≤ b) ∧
      (E = 0 → ∃ v1 w3 a2 n2 d2 w2, (appG #[45, 45] 45 #[.slice (some ⟨w1.heap.size, 0, none⟩) 0 0, .slice (some ⟨g, 0, none⟩) i cap]).run Try.prog (w1.alloc (.cells #[] 92)).drew = .ok v1 w3 ∧
        (appG #[45, 45] 45 #[v1, .slice (if cap = i + 1 then some ⟨g, 0, none⟩ else some ⟨g, (i + 1) * 4, none⟩) (n - (i + 1)) (cap - (i + 1))]).run Try.prog w3 = .ok (.slice a2 n2 d2) w2 ∧
        (w1.alloc (.cells #[] 92)).cell? ⟨c, 2, none⟩ = some (.slice (some ⟨g, 0, none⟩) n cap) ∧ w3.cell? ⟨c, 2, none⟩ = some (.slice (some ⟨g, 0, none⟩) n cap) ∧ w2.cell? ⟨c, 2, none⟩ = some (.slice (some ⟨g, 0, none⟩) n cap) ∧ w2.frozen? ⟨c, 2, none⟩ = false ∧
        (w2.setCell ⟨c, 2, none⟩ (.slice a2 n2 d2)).cell? ⟨c, 5, none⟩ = some (.int .i64 ev) ∧ (w2.setCell ⟨c, 2, none⟩ (.slice a2 n2 d2)).frozen? ⟨c, 5, none⟩ = false ∧
        Hid (EvTo G H c q w ((w2.setCell ⟨c, 2, none⟩ (.slice a2 n2 d2)).setCell ⟨c, 5, none⟩ (.int .i64 (ev + 1))) S' C'))) := by
    rw [← hxn, ← ht]
    refine W0.mono ?_
    rintro e w1 ⟨rfl, ht1⟩
    obtain ⟨G1, k1, k2, k3⟩ := hd.disk ht1
    have j0 := k1.rc.item (k := 0) hlt (by decide) rfl
    have j1 := k1.rc.item (k := 1) hlt (by decide) rfl
    rw [hxx] at j0 j1
    have k2' : Chg G w w1 := (cd.mono (fun _ _ h => h.elim)).trans k2 (fun _ _ h => h)
    refine ⟨rfl, k1.rc.c0, by rw [← hn]; exact k1.rc.c2, by rw [← hi]; exact j0, by rw [← hi]; exact j1, ⟨G1, k1, k2', k3⟩, fun h0 => ?_⟩
    obtain ⟨v1, w3, a2, n2, d2, w2, r1, r2, z0, z1, z2, z3, z4, z5, HZ⟩ := rcut_facts k1.rc hcap hL hl (outC C xs ys) rfl
    simp only [hn, hi, hee] at r1 r2 z0 z1 z2 z3 z4 z5 HZ
    refine ⟨v1, w3, a2, n2, d2, w2, r1, r2, z0, z1, z2, z3, z4, z5, ?_⟩
    obtain ⟨H', lv', m1, m2, m3⟩ := k1.cache HZ.out
    rw [if_pos h0] at hC
    rw [hC]
    refine ⟨G1, H', lv', m1, (k2'.mono (fun _ _ h => .inl h)).trans m2 (fun _ _ h => .inr h), k3, fun b hb => ?_⟩
    rcases m3 b hb with e | e
    · exact .inl e
    · exact .inr (Nat.le_trans k2'.size e)
  rw [hn] at c2 hlt' hl hcap
  rw [hi] at i0 i1 i2 hlt'
  rw [ht] at i1
  rw [hee] at hev' hev0
  rw [hxn] at i0
  rw [hi]
  have HC : Hid (E ≠ 0 → C' = C) := (show E ≠ 0 → C' = C from fun h0 => by rw [hC, if_neg h0])
  clear h hd cd W0 hlt hL hxx hn hi hxn ht hee hE hS hC hx hev hw
  go_enter Try.func62, Try.ntmps62
  go_wp2_with fail
  go_region_held (fun w' => w'.cell? ⟨c, 0, none⟩ = some (.pointer (some ⟨q, 0, none⟩)) ∧ w'.cell? ⟨c, 2, none⟩ = some (.slice (some ⟨g, 0, none⟩) n cap) ∧ w'.cell? ⟨g, i * 4, none⟩ = some (.int .i64 xn) ∧ w'.cell? ⟨g, i * 4 + 1, none⟩ = some (.string t))
    (first | assumption | exact ⟨c0, c2, i0, i1⟩ | exact ⟨q0, q1, q2, q3⟩)
    (first | (go_at_call 63; refine WR.out.mono ?_; clear WR; rintro e w1 ⟨rfl, q0, q1, q2, q3, HK, hz⟩))
  all_goals
    clear c0 c2 i0 i1 i2 q0 q2 q3
    by_cases he : E = 0
    · subst he
      obtain ⟨v1, w3, a2, n2, d2, w2, r1, r2, z0, z1, z2, z3, z4, z5, HZ⟩ := hz rfl
      clear hz HK
      go_wp2_with fail
      go_region
      all_goals
        go_wp2
        all_goals
          go_ret
          exact ⟨rfl, HZ.out⟩
    · have he0 : (E == 0) = false := by simpa using he
      clear hz
      go_wp2
      go_ret
      obtain ⟨G1, k1, k2, k3⟩ := HK.out
      rw [HC.out he]
      exact ⟨rfl, G1, H, _, k1, k2.mono (fun _ _ h => .inl h), k3, fun _ h => .inl h⟩
end Go.Proofs.Ytioloobeakjbeaa

/-
  The reference's cache: an item is made the last.
-/
import Derived.Test.YtioloobeakjbeaaRC2
namespace Go.Proofs.Ytioloobeakjbeaa
open Go.RowKit Go.Maps
attribute [local go_sem ↓] Go.wp_at_zero Go.wp_at_succ

/-- A list that is being made, in blocks from B on. -/
def Ow (w : World) (B : Nat) (v : Value) (L : List It) : Prop := w.ownsRow 0 92 4 v L.length (jcells L) ∧ ∀ g, v.ownBlock = some g → B ≤ g
theorem Ow.kept {E : Nat → Prop} {w w' : World} {B : Nat} {v : Value} {L : List It} (h : Ow w B v L) (hc : Chg E w w') (hn : ∀ g, v.ownBlock = some g → ¬ E g) : Ow w' B v L :=
  ⟨own_same h.1 (fun g hg => hc.block g (h.1.lt g hg).2 (hn g hg)), h.2⟩
theorem Ow.app {w : World} {B : Nat} {v : Value} {L : List It} (h : Ow w B v L) (hB : B ≤ w.heap.size) {x : Value} {X : List It} (hx : Js w x X) (hl : L.length + X.length ≤ 1048576) :
    ∃ v' w', (appG #[45, 45] 45 #[v, x]).run Try.prog w = .ok v' w' ∧ Ow w' B v' (L ++ X) ∧ Chg (fun k => B ≤ k) w w' ∧ ∀ k, k < w.heap.size → ¬ v.ownBlock = some k → w'.heap[k]? = w.heap[k]? ∧ ¬ v'.ownBlock = some k := by
  obtain ⟨v', w', h1, h2, h3, h4⟩ := run_appJ w 45 v x L X h.1 hx hl
  refine ⟨v', w', h1, ⟨h2, fun g hg => ?_⟩, h3.mono (fun k _ e => h.2 k e), fun k hk hv => ⟨h3.block k hk hv, fun e => ?_⟩⟩
  · rcases h4 with e | e
    · exact h.2 g (by rw [← e]; exact hg)
    · rw [hg] at e; simp at e; omega
  · rcases h4 with e2 | e2
    · exact hv (by rw [← e2]; exact e)
    · rw [e] at e2; simp at e2; omega
theorem Ow.lit (w : World) (B : Nat) (hB : B ≤ w.heap.size) : Ow (w.alloc (.cells #[] 92)) B (.slice (some ⟨w.heap.size, 0, none⟩) 0 0) [] :=
  ⟨⟨rfl, .inr ⟨w.heap.size, 0, #[], rfl, Nat.zero_le _, heap_alloc_new w _, Nat.le_refl _, Nat.zero_le _, rfl, rfl⟩⟩, fun g hg => by cases hg; exact hB⟩
theorem Js.lit (w : World) (x : It) : Js (w.alloc (.cells #[.int .i64 (x.n : Int), .string (strOf x.b), .bool x.dirty, .int .i64 (x.pins : Int)] 92)) (.slice (some ⟨w.heap.size, 0, none⟩) 1 1) [x] :=
  .inr ⟨_, 1, rfl, fun j u hu => by
    rw [add_zero_off, cell_of_row _ w.heap.size j _ _ _ (heap_alloc_new w _)]
    simpa [jcells, jcell] using hu⟩

theorem Js.same {w w' : World} {v : Value} {X : List It} (h : Js w v X) (hb : ∀ g, v.ownBlock = some g → w'.heap[g]? = w.heap[g]?) : Js w' v X := by
  rcases h with h | ⟨a, c, rfl, hcell⟩
  · exact .inl h
  · refine .inr ⟨a, c, rfl, fun j u hu => ?_⟩
    have e : (a.add j).block = a.block := by unfold Addr.add; split <;> rfl
    exact (World.cell?_of_block (by rw [e]; exact hb _ rfl)).trans (hcell j u hu)
theorem Js.part {w : World} {g n cap o i : Nat} {L X : List It} (h : w.ownsRow 0 92 4 (.slice (some ⟨g, 0, none⟩) L.length cap) L.length (jcells L)) (hX : X = L.drop i) (ho : i < L.length → o = i * 4) (hn : n = X.length) (c : Nat) : Js w (.slice (some ⟨g, o, none⟩) n c) X := by
  subst hn
  refine .inr ⟨_, c, rfl, fun j u hu => ?_⟩
  have hj := (List.getElem?_eq_some_iff.1 hu).1
  rw [jcells_len] at hj
  have hi : i < L.length := by
    have : X.length = L.length - i := by rw [hX, List.length_drop]
    omega
  rw [ho hi]
  have e : (⟨g, i * 4, none⟩ : Addr).add j = (⟨g, 0, none⟩ : Addr).add (i * 4 + j) := by
    rw [add_zero_off]
    unfold Addr.add
    by_cases h0 : j = 0 <;> simp [h0]
  rw [e]
  refine h.cells (g := g) rfl _ _ ?_
  have : jcells L = jcells (L.take i) ++ jcells X := by rw [← jcells_append, hX, List.take_append_drop]
  rw [this, List.getElem?_append_right (by rw [jcells_len, List.length_take]; omega)]
  have e2 : i * 4 + j - (jcells (L.take i)).length = j := by rw [jcells_len, List.length_take, Nat.min_eq_left (by omega)]; omega
  rw [e2]; exact hu
theorem Js.first {w : World} {g n cap : Nat} {L X : List It} (h : w.ownsRow 0 92 4 (.slice (some ⟨g, 0, none⟩) L.length cap) L.length (jcells L)) {Y : List It} (hX : L = X ++ Y) (hn : n = X.length) (c : Nat) : Js w (.slice (some ⟨g, 0, none⟩) n c) X := by
  subst hn
  refine .inr ⟨_, c, rfl, fun j u hu => h.cells (g := g) rfl _ _ ?_⟩
  rw [hX, jcells_append, List.getElem?_append_left (List.getElem?_eq_some_iff.1 hu).1]; exact hu

section
variable {w : World} {H : Nat → Prop} {c q : Nat} {C : Ca} {g cap : Nat}
/-- The new list is stored. -/
theorem RcAt.store {lv v : Value} {w' : World} {L : List It} (h : RcAt w H c q C lv) (hc : Chg (fun k => w.heap.size ≤ k) w w') (ho : Ow w' w.heap.size v L) :
    RcAt (w'.setCell ⟨c, 2, none⟩ v) (fun b => H b ∨ (w.heap.size ≤ b ∧ b < w'.heap.size)) c q { C with L := L } v ∧ Chg H w (w'.setCell ⟨c, 2, none⟩ v) ∧ w'.cell? ⟨c, 2, none⟩ = some lv ∧ w'.frozen? ⟨c, 2, none⟩ = false := by
  have hl := h.lt c h.fc
  have hb : w'.heap[c]? = _ := (hc.block c hl (by omega)).trans h.blk
  have hs := heap_setCell_same w' c 2 _ _ v hb
  simp at hs
  have kc : Chg (fun k => k = c) w' (w'.setCell ⟨c, 2, none⟩ v) := Chg.setCell _ _ _ rfl
  refine ⟨⟨hs, own_same ho.1 (fun g hg => kc.block g (ho.1.lt g hg).2 (fun e => by have := ho.2 g hg; omega)), .inl h.fc, fun g hg => .inr ⟨ho.2 g hg, (ho.1.lt g hg).2⟩, fun b hb => ?_⟩, (hc.mono (fun k hk e => by omega)).trans kc (fun k _ e => by rw [e]; exact h.fc), ?_, ?_⟩
  · have : (w'.setCell ⟨c, 2, none⟩ v).heap.size = w'.heap.size := by simp
    rw [this]
    rcases hb with hb | hb
    · exact Nat.lt_of_lt_of_le (h.lt b hb) hc.size
    · exact hb.2
  · rw [cell_of_row w' c 2 _ _ _ hb]; rfl
  · simp [World.frozen?, hb]
end

/-- What a call leaves of the cache. -/
def RcTo (H : Nat → Prop) (c q : Nat) (w w' : World) (C' : Ca) : Prop := ∃ H' v', RcAt w' H' c q C' v' ∧ Chg H w w' ∧ ∀ b, H' b → H b ∨ w.heap.size ≤ b
theorem RcTo.trans {H : Nat → Prop} {c q : Nat} {w w1 w2 : World} {C2 : Ca} {H1 : Nat → Prop} (hc : Chg H w w1) (hH : ∀ b, H1 b → H b ∨ w.heap.size ≤ b) (h2 : RcTo H1 c q w1 w2 C2) : RcTo H c q w w2 C2 := by
  obtain ⟨H', v', h1, h3, h4⟩ := h2
  refine ⟨H', v', h1, hc.trans h3 (fun k hk e => ?_), fun b hb => ?_⟩
  · rcases hH k e with e2 | e2
    · exact e2
    · omega
  · rcases h4 b hb with e | e
    · exact hH b e
    · exact .inr (Nat.le_trans hc.size e)

attribute [local go_sem ↓] appG_eq
set_option maxHeartbeats 1600000 in
set_option maxRecDepth 100000 in
theorem rlastu_any (H : Nat → Prop) (c q : Nat) (C : Ca) (g cap : Nat) (xs ys : List It) (x : It) (w : World) (h : RcAt w H c q C (.slice (some ⟨g, 0, none⟩) C.L.length cap)) (hcap : C.L.length ≤ cap) (hL : C.L = xs ++ x :: ys) (hl : C.L.length ≤ 1024) (C' : Ca) (hC' : C' = { C with L := xs ++ ys ++ [x] }) :
    Calls Try.prog 59 #[.pointer (some ⟨c, 0, none⟩), .int .i64 (xs.length : Int)] w fun e w' => e = .returned (.tuple #[]) ∧ RcTo H c q w w' C' := by
  have hlt : xs.length < C.L.length := by rw [hL]; simp
  have hx : C.L[xs.length] = x := by simp [hL]
  have hd : C.L.drop (xs.length + 1) = ys := by rw [hL]; simp
  have hll : C.L.length = xs.length + 1 + ys.length := by rw [hL]; simp; omega
  have hlen : C.L.length - (xs.length + 1) = ys.length := by omega
  have hc0 := h.item (k := 0) hlt (by decide) rfl
  have hc1 := h.item (k := 1) hlt (by decide) rfl
  have hc2 := h.item (k := 2) hlt (by decide) rfl
  have hc3 := h.item (k := 3) hlt (by decide) rfl
  rw [hx] at hc0 hc1 hc2 hc3
  rw [Nat.add_zero] at hc0
  have hlt' : (xs.length : Int) < (C.L.length : Int) := by omega
  -- the world behind the box and the draw
  obtain ⟨W, hW⟩ : ∃ W, W = (w.alloc (.cells #[.int .i64 (x.n : Int), .string (strOf x.b), .bool x.dirty, .int .i64 (x.pins : Int)] 92)) := ⟨_, rfl⟩
  have cW : Chg (fun _ => False) w W := by rw [hW]; exact Chg.alloc _ _ _
  have hWb : W.heap[w.heap.size]? = some (.cells #[.int .i64 (x.n : Int), .string (strOf x.b), .bool x.dirty, .int .i64 (x.pins : Int)] 92 (0, 0)) := by rw [hW]; exact heap_alloc_new w _
  have hs1 : W.heap.size = w.heap.size + 1 := by rw [hW]; simp
  have hRW := h.kept (cW.trans (Chg.drew (fun _ => False) W) (fun _ _ h => h)) (fun _ _ h => h)
  have hgl : g < w.heap.size := h.lt g (h.fl g rfl)
  have hcl : c < w.heap.size := h.lt c h.fc
  -- what the loads read
  -- (cells)
  obtain ⟨B, hB⟩ : ∃ B, B = W.drew.heap.size := ⟨_, rfl⟩
  have hB' : B = W.heap.size := hB
  have HSS : ∀ w', Chg (fun k => B ≤ k) W.drew w' → w'.cell? ⟨c, 2, none⟩ = some (.slice (some ⟨g, 0, none⟩) C.L.length cap) ∧ w'.cell? ⟨w.heap.size, 0, none⟩ = some (.int .i64 (x.n : Int)) ∧ w'.cell? ⟨w.heap.size, 1, none⟩ = some (.string (strOf x.b)) ∧ w'.cell? ⟨w.heap.size, 2, none⟩ = some (.bool x.dirty) ∧ w'.cell? ⟨w.heap.size, 3, none⟩ = some (.int .i64 (x.pins : Int)) := fun w' hc => by
    have hb0 : w'.heap[w.heap.size]? = some (.cells #[.int .i64 (x.n : Int), .string (strOf x.b), .bool x.dirty, .int .i64 (x.pins : Int)] 92 (0, 0)) := (hc.block w.heap.size (by rw [← hB, hB', hs1]; omega) (by omega)).trans hWb
    refine ⟨hc.cell hRW.c2 (by show ¬ B ≤ c; omega), ?_, ?_, ?_, ?_⟩ <;> rw [cell_of_row w' _ _ _ _ _ hb0] <;> rfl
  have st := slice_to g C.L.length cap xs.length (by omega) hcap
  have jt : ∀ w', Chg (fun k => B ≤ k) W.drew w' → Js w' (.slice (some ⟨g, 0, none⟩) xs.length cap) xs := fun w' hc => (Js.first hRW.row hL rfl cap).kept hc (fun k hk => by cases hk; show ¬ B ≤ g; omega)
  have jf : ∀ w', Chg (fun k => B ≤ k) W.drew w' → Js w' (.slice (if cap = xs.length + 1 then some ⟨g, 0, none⟩ else some ⟨g, (xs.length + 1) * 4, none⟩) (C.L.length - (xs.length + 1)) (cap - (xs.length + 1))) ys := fun w' hc => by
    split
    · exact (Js.part (i := xs.length + 1) (o := 0) hRW.row hd.symm (fun e => by omega) hlen _).kept hc (fun k hk => by cases hk; show ¬ B ≤ g; omega)
    · exact (Js.part (i := xs.length + 1) hRW.row hd.symm (fun _ => rfl) hlen _).kept hc (fun k hk => by cases hk; show ¬ B ≤ g; omega)
  have c0 : Chg (fun k => B ≤ k) W.drew W.drew := Chg.refl _ _
  -- 30 first
  have ca0 : Chg (fun k => B ≤ k) W.drew (W.drew.alloc (.cells #[.int .i64 (x.n : Int), .string (strOf x.b), .bool x.dirty, .int .i64 (x.pins : Int)] 92)) := Chg.alloc _ _ _
  have ca : Chg (fun k => B ≤ k) W.drew ((W.drew.alloc (.cells #[.int .i64 (x.n : Int), .string (strOf x.b), .bool x.dirty, .int .i64 (x.pins : Int)] 92)).alloc (.cells #[] 92)) := ca0.trans (Chg.alloc _ _ _) (fun _ _ h => h)
  have la := Ow.lit (W.drew.alloc (.cells #[.int .i64 (x.n : Int), .string (strOf x.b), .bool x.dirty, .int .i64 (x.pins : Int)] 92)) B (by rw [hB]; exact ca0.size)
  have ja := (Js.lit W.drew x).kept (Chg.alloc (fun _ => False) _ (.cells #[] 92)) (fun _ _ h => h)
  obtain ⟨va1, wa1, ra1, oa1, ka1, na1⟩ := la.app (by rw [hB]; exact ca.size) (jt _ ca) (by simp; omega)
  have ea1 := ca.trans ka1 (fun _ _ h => h)
  obtain ⟨va2, wa2, ra2, oa2, ka2, na2⟩ := oa1.app (by rw [hB]; exact ea1.size) (jf _ ea1) (by simp; omega)
  have ea2 := ea1.trans ka2 (fun _ _ h => h)
  have na3 := na1 W.drew.heap.size (by simp; omega) (by simp [Value.ownBlock])
  have na4 := na2 W.drew.heap.size (Nat.lt_of_lt_of_le (by simp; omega) ka1.size) na3.2
  obtain ⟨va3, wa3, ra3, oa3, ka3, _⟩ := oa2.app (by rw [hB]; exact ea2.size) (ja.same (w' := wa2) (fun k hk => by cases hk; exact na4.1.trans na3.1)) (by simp; omega)
  have ea3 := ea2.trans ka3 (fun _ _ h => h)
  -- 30 second
  have cb0 : Chg (fun k => B ≤ k) W.drew (W.drew.alloc (.cells #[] 92)) := Chg.alloc _ _ _
  have cb : Chg (fun k => B ≤ k) W.drew ((W.drew.alloc (.cells #[] 92)).alloc (.cells #[.int .i64 (x.n : Int), .string (strOf x.b), .bool x.dirty, .int .i64 (x.pins : Int)] 92)) := cb0.trans (Chg.alloc _ _ _) (fun _ _ h => h)
  have lb0 := Ow.lit W.drew B (by rw [hB]; exact Nat.le_refl _)
  have lb := lb0.kept (Chg.alloc (fun _ => False) _ (.cells #[.int .i64 (x.n : Int), .string (strOf x.b), .bool x.dirty, .int .i64 (x.pins : Int)] 92)) (fun _ _ h => h)
  have jb := Js.lit (W.drew.alloc (.cells #[] 92)) x
  obtain ⟨vb1, wb1, rb1, ob1, kb1, nb1⟩ := lb.app (by rw [hB]; exact cb.size) (jt _ cb) (by simp; omega)
  have eb1 := cb.trans kb1 (fun _ _ h => h)
  obtain ⟨vb2, wb2, rb2, ob2, kb2, nb2⟩ := ob1.app (by rw [hB]; exact eb1.size) (jf _ eb1) (by simp; omega)
  have eb2 := eb1.trans kb2 (fun _ _ h => h)
  have nb3 := nb1 (W.drew.alloc (.cells #[] 92)).heap.size (by simp) (by simp [Value.ownBlock])
  have nb4 := nb2 (W.drew.alloc (.cells #[] 92)).heap.size (Nat.lt_of_lt_of_le (by simp) kb1.size) nb3.2
  obtain ⟨vb3, wb3, rb3, ob3, kb3, _⟩ := ob2.app (by rw [hB]; exact eb2.size) (jb.same (w' := wb2) (fun k hk => by cases hk; exact nb4.1.trans nb3.1)) (by simp; omega)
  have eb3 := eb2.trans kb3 (fun _ _ h => h)
  -- 30 third
  obtain ⟨vd1, wd1, rd1, od1, kd1, nd1⟩ := lb0.app (by rw [hB]; exact cb0.size) (jt _ cb0) (by simp; omega)
  have ed1 := cb0.trans kd1 (fun _ _ h => h)
  have cc : Chg (fun k => B ≤ k) W.drew (wd1.alloc (.cells #[.int .i64 (x.n : Int), .string (strOf x.b), .bool x.dirty, .int .i64 (x.pins : Int)] 92)) := ed1.trans (Chg.alloc _ _ _) (fun _ _ h => h)
  have oc1 := od1.kept (Chg.alloc (fun _ => False) _ (.cells #[.int .i64 (x.n : Int), .string (strOf x.b), .bool x.dirty, .int .i64 (x.pins : Int)] 92)) (fun _ _ h => h)
  have jc := Js.lit wd1 x
  obtain ⟨vc2, wc2, rc2, oc2, kc2, nc2⟩ := oc1.app (by rw [hB]; exact cc.size) (jf _ cc) (by simp; omega)
  have ec2 := cc.trans kc2 (fun _ _ h => h)
  have nc3 := nc2 wd1.heap.size (by simp) (fun e => by have := (od1.1.lt _ e).2; omega)
  obtain ⟨vc3, wc3, rc3, oc3, kc3, _⟩ := oc2.app (by rw [hB]; exact ec2.size) (jc.same (w' := wc2) (fun k hk => by cases hk; exact nc3.1)) (by simp; omega)
  have ec3 := ec2.trans kc3 (fun _ _ h => h)
  -- 30 last
  obtain ⟨vd2, wd2, rd2, od2, kd2, nd2⟩ := od1.app (by rw [hB]; exact ed1.size) (jf _ ed1) (by simp; omega)
  have ed2 := ed1.trans kd2 (fun _ _ h => h)
  have cd : Chg (fun k => B ≤ k) W.drew (wd2.alloc (.cells #[.int .i64 (x.n : Int), .string (strOf x.b), .bool x.dirty, .int .i64 (x.pins : Int)] 92)) := ed2.trans (Chg.alloc _ _ _) (fun _ _ h => h)
  have od2' := od2.kept (Chg.alloc (fun _ => False) _ (.cells #[.int .i64 (x.n : Int), .string (strOf x.b), .bool x.dirty, .int .i64 (x.pins : Int)] 92)) (fun _ _ h => h)
  obtain ⟨vd3, wd3, rd3, od3, kd3, _⟩ := od2'.app (by rw [hB]; exact cd.size) (Js.lit wd2 x) (by simp; omega)
  have ed3 := cd.trans kd3 (fun _ _ h => h)
  rw [hB] at ea3 eb3 ec3 ed3 oa3 ob3 oc3 od3
  obtain ⟨ia, ja', rfl⟩ := own_form oa3.1
  obtain ⟨ib, jb', rfl⟩ := own_form ob3.1
  obtain ⟨ic, jc', rfl⟩ := own_form oc3.1
  obtain ⟨id, jd', rfl⟩ := own_form od3.1
  obtain ⟨fa1, fa2, fa3, fa4⟩ := hRW.store ea3 oa3
  obtain ⟨fb1, fb2, fb3, fb4⟩ := hRW.store eb3 ob3
  obtain ⟨fc1, fc2, fc3, fc4⟩ := hRW.store ec3 oc3
  obtain ⟨fd1, fd2, fd3, fd4⟩ := hRW.store ed3 od3
  have HF : ∀ (wz : World) (vz : Value), RcAt (wz.setCell ⟨c, 2, none⟩ vz) (fun b => H b ∨ (W.drew.heap.size ≤ b ∧ b < wz.heap.size)) c q { C with L := xs ++ ys ++ [x] } vz → Chg H W.drew (wz.setCell ⟨c, 2, none⟩ vz) →
      RcTo H c q w (wz.setCell ⟨c, 2, none⟩ vz) C' := fun wz vz h1 h2 =>
    ⟨_, vz, by rw [hC']; exact h1, ((cW.trans (Chg.drew (fun _ => False) W) (fun _ _ h => h)).mono (fun _ _ h => h.elim)).trans h2 (fun _ _ h => h), fun b hb => by
      rcases hb with hb | hb
      · exact .inl hb
      · have h5 : W.heap.size ≤ b := hb.1
        exact .inr (by omega)⟩
  have FA : Hid _ := HF wa3 _ fa1 fa2
  have FB : Hid _ := HF wb3 _ fb1 fb2
  have FC : Hid _ := HF wc3 _ fc1 fc2
  have FD : Hid _ := HF wd3 _ fd1 fd2
  have s0 := HSS _ c0
  have c2w := h.c2
  have ra1' : (appG #[45, 45] 45 #[.slice (some ⟨W.heap.size + 1, 0, none⟩) 0 0, .slice (some ⟨g, 0, none⟩) xs.length cap]).run Try.prog ((W.alloc (.cells #[.int .i64 (x.n : Int), .string (strOf x.b), .bool x.dirty, .int .i64 (x.pins : Int)] 92)).alloc (.cells #[] 92)).drew = .ok va1 wa1 := by
    have e : (W.drew.alloc (.cells #[.int .i64 (x.n : Int), .string (strOf x.b), .bool x.dirty, .int .i64 (x.pins : Int)] 92)).heap.size = W.heap.size + 1 := by simp
    rw [e] at ra1
    exact ra1
  have rb1' : (appG #[45, 45] 45 #[.slice (some ⟨W.heap.size, 0, none⟩) 0 0, .slice (some ⟨g, 0, none⟩) xs.length cap]).run Try.prog ((W.alloc (.cells #[] 92)).alloc (.cells #[.int .i64 (x.n : Int), .string (strOf x.b), .bool x.dirty, .int .i64 (x.pins : Int)] 92)).drew = .ok vb1 wb1 := rb1
  have rd1' : (appG #[45, 45] 45 #[.slice (some ⟨W.heap.size, 0, none⟩) 0 0, .slice (some ⟨g, 0, none⟩) xs.length cap]).run Try.prog (W.alloc (.cells #[] 92)).drew = .ok vd1 wd1 := rd1
  have ra3' : (appG #[45, 45] 45 #[va2, .slice (some ⟨W.heap.size, 0, none⟩) 1 1]).run Try.prog wa2 = .ok _ wa3 := ra3
  have rb3' : (appG #[45, 45] 45 #[vb2, .slice (some ⟨W.heap.size + 1, 0, none⟩) 1 1]).run Try.prog wb2 = .ok (.slice ib ([] ++ xs ++ ys ++ [x]).length jb') wb3 := by
    have e : (W.drew.alloc (.cells #[] 92)).heap.size = W.heap.size + 1 := by simp
    rw [e] at rb3
    exact rb3
  obtain ⟨z00, z01, z02, z03, z04⟩ : W.cell? ⟨c, 2, none⟩ = some (.slice (some ⟨g, 0, none⟩) C.L.length cap) ∧ W.cell? ⟨w.heap.size, 0, none⟩ = some (.int .i64 (x.n : Int)) ∧ W.cell? ⟨w.heap.size, 1, none⟩ = some (.string (strOf x.b)) ∧ W.cell? ⟨w.heap.size, 2, none⟩ = some (.bool x.dirty) ∧ W.cell? ⟨w.heap.size, 3, none⟩ = some (.int .i64 (x.pins : Int)) := by have e := HSS _ c0; exact e
  obtain ⟨z10, z11, z12, z13, z14⟩ : (W.alloc (.cells #[.int .i64 (x.n : Int), .string (strOf x.b), .bool x.dirty, .int .i64 (x.pins : Int)] 92)).cell? ⟨c, 2, none⟩ = some (.slice (some ⟨g, 0, none⟩) C.L.length cap) ∧ (W.alloc (.cells #[.int .i64 (x.n : Int), .string (strOf x.b), .bool x.dirty, .int .i64 (x.pins : Int)] 92)).cell? ⟨w.heap.size, 0, none⟩ = some (.int .i64 (x.n : Int)) ∧ (W.alloc (.cells #[.int .i64 (x.n : Int), .string (strOf x.b), .bool x.dirty, .int .i64 (x.pins : Int)] 92)).cell? ⟨w.heap.size, 1, none⟩ = some (.string (strOf x.b)) ∧ (W.alloc (.cells #[.int .i64 (x.n : Int), .string (strOf x.b), .bool x.dirty, .int .i64 (x.pins : Int)] 92)).cell? ⟨w.heap.size, 2, none⟩ = some (.bool x.dirty) ∧ (W.alloc (.cells #[.int .i64 (x.n : Int), .string (strOf x.b), .bool x.dirty, .int .i64 (x.pins : Int)] 92)).cell? ⟨w.heap.size, 3, none⟩ = some (.int .i64 (x.pins : Int)) := by have e := HSS _ ca0; exact e
  obtain ⟨z20, z21, z22, z23, z24⟩ : (W.alloc (.cells #[] 92)).cell? ⟨c, 2, none⟩ = some (.slice (some ⟨g, 0, none⟩) C.L.length cap) ∧ (W.alloc (.cells #[] 92)).cell? ⟨w.heap.size, 0, none⟩ = some (.int .i64 (x.n : Int)) ∧ (W.alloc (.cells #[] 92)).cell? ⟨w.heap.size, 1, none⟩ = some (.string (strOf x.b)) ∧ (W.alloc (.cells #[] 92)).cell? ⟨w.heap.size, 2, none⟩ = some (.bool x.dirty) ∧ (W.alloc (.cells #[] 92)).cell? ⟨w.heap.size, 3, none⟩ = some (.int .i64 (x.pins : Int)) := by have e := HSS _ cb0; exact e
  obtain ⟨z30, z31, z32, z33, z34⟩ : ((W.alloc (.cells #[.int .i64 (x.n : Int), .string (strOf x.b), .bool x.dirty, .int .i64 (x.pins : Int)] 92)).alloc (.cells #[] 92)).cell? ⟨c, 2, none⟩ = some (.slice (some ⟨g, 0, none⟩) C.L.length cap) ∧ ((W.alloc (.cells #[.int .i64 (x.n : Int), .string (strOf x.b), .bool x.dirty, .int .i64 (x.pins : Int)] 92)).alloc (.cells #[] 92)).cell? ⟨w.heap.size, 0, none⟩ = some (.int .i64 (x.n : Int)) ∧ ((W.alloc (.cells #[.int .i64 (x.n : Int), .string (strOf x.b), .bool x.dirty, .int .i64 (x.pins : Int)] 92)).alloc (.cells #[] 92)).cell? ⟨w.heap.size, 1, none⟩ = some (.string (strOf x.b)) ∧ ((W.alloc (.cells #[.int .i64 (x.n : Int), .string (strOf x.b), .bool x.dirty, .int .i64 (x.pins : Int)] 92)).alloc (.cells #[] 92)).cell? ⟨w.heap.size, 2, none⟩ = some (.bool x.dirty) ∧ ((W.alloc (.cells #[.int .i64 (x.n : Int), .string (strOf x.b), .bool x.dirty, .int .i64 (x.pins : Int)] 92)).alloc (.cells #[] 92)).cell? ⟨w.heap.size, 3, none⟩ = some (.int .i64 (x.pins : Int)) := by have e := HSS _ ca; exact e
  obtain ⟨z40, z41, z42, z43, z44⟩ : ((W.alloc (.cells #[] 92)).alloc (.cells #[.int .i64 (x.n : Int), .string (strOf x.b), .bool x.dirty, .int .i64 (x.pins : Int)] 92)).cell? ⟨c, 2, none⟩ = some (.slice (some ⟨g, 0, none⟩) C.L.length cap) ∧ ((W.alloc (.cells #[] 92)).alloc (.cells #[.int .i64 (x.n : Int), .string (strOf x.b), .bool x.dirty, .int .i64 (x.pins : Int)] 92)).cell? ⟨w.heap.size, 0, none⟩ = some (.int .i64 (x.n : Int)) ∧ ((W.alloc (.cells #[] 92)).alloc (.cells #[.int .i64 (x.n : Int), .string (strOf x.b), .bool x.dirty, .int .i64 (x.pins : Int)] 92)).cell? ⟨w.heap.size, 1, none⟩ = some (.string (strOf x.b)) ∧ ((W.alloc (.cells #[] 92)).alloc (.cells #[.int .i64 (x.n : Int), .string (strOf x.b), .bool x.dirty, .int .i64 (x.pins : Int)] 92)).cell? ⟨w.heap.size, 2, none⟩ = some (.bool x.dirty) ∧ ((W.alloc (.cells #[] 92)).alloc (.cells #[.int .i64 (x.n : Int), .string (strOf x.b), .bool x.dirty, .int .i64 (x.pins : Int)] 92)).cell? ⟨w.heap.size, 3, none⟩ = some (.int .i64 (x.pins : Int)) := by have e := HSS _ cb; exact e
  obtain ⟨z50, z51, z52, z53, z54⟩ : wa1.cell? ⟨c, 2, none⟩ = some (.slice (some ⟨g, 0, none⟩) C.L.length cap) ∧ wa1.cell? ⟨w.heap.size, 0, none⟩ = some (.int .i64 (x.n : Int)) ∧ wa1.cell? ⟨w.heap.size, 1, none⟩ = some (.string (strOf x.b)) ∧ wa1.cell? ⟨w.heap.size, 2, none⟩ = some (.bool x.dirty) ∧ wa1.cell? ⟨w.heap.size, 3, none⟩ = some (.int .i64 (x.pins : Int)) := by have e := HSS _ ea1; exact e
  obtain ⟨z60, z61, z62, z63, z64⟩ : wb1.cell? ⟨c, 2, none⟩ = some (.slice (some ⟨g, 0, none⟩) C.L.length cap) ∧ wb1.cell? ⟨w.heap.size, 0, none⟩ = some (.int .i64 (x.n : Int)) ∧ wb1.cell? ⟨w.heap.size, 1, none⟩ = some (.string (strOf x.b)) ∧ wb1.cell? ⟨w.heap.size, 2, none⟩ = some (.bool x.dirty) ∧ wb1.cell? ⟨w.heap.size, 3, none⟩ = some (.int .i64 (x.pins : Int)) := by have e := HSS _ eb1; exact e
  obtain ⟨z70, z71, z72, z73, z74⟩ : wd1.cell? ⟨c, 2, none⟩ = some (.slice (some ⟨g, 0, none⟩) C.L.length cap) ∧ wd1.cell? ⟨w.heap.size, 0, none⟩ = some (.int .i64 (x.n : Int)) ∧ wd1.cell? ⟨w.heap.size, 1, none⟩ = some (.string (strOf x.b)) ∧ wd1.cell? ⟨w.heap.size, 2, none⟩ = some (.bool x.dirty) ∧ wd1.cell? ⟨w.heap.size, 3, none⟩ = some (.int .i64 (x.pins : Int)) := by have e := HSS _ ed1; exact e
  obtain ⟨z80, z81, z82, z83, z84⟩ : (wd1.alloc (.cells #[.int .i64 (x.n : Int), .string (strOf x.b), .bool x.dirty, .int .i64 (x.pins : Int)] 92)).cell? ⟨c, 2, none⟩ = some (.slice (some ⟨g, 0, none⟩) C.L.length cap) ∧ (wd1.alloc (.cells #[.int .i64 (x.n : Int), .string (strOf x.b), .bool x.dirty, .int .i64 (x.pins : Int)] 92)).cell? ⟨w.heap.size, 0, none⟩ = some (.int .i64 (x.n : Int)) ∧ (wd1.alloc (.cells #[.int .i64 (x.n : Int), .string (strOf x.b), .bool x.dirty, .int .i64 (x.pins : Int)] 92)).cell? ⟨w.heap.size, 1, none⟩ = some (.string (strOf x.b)) ∧ (wd1.alloc (.cells #[.int .i64 (x.n : Int), .string (strOf x.b), .bool x.dirty, .int .i64 (x.pins : Int)] 92)).cell? ⟨w.heap.size, 2, none⟩ = some (.bool x.dirty) ∧ (wd1.alloc (.cells #[.int .i64 (x.n : Int), .string (strOf x.b), .bool x.dirty, .int .i64 (x.pins : Int)] 92)).cell? ⟨w.heap.size, 3, none⟩ = some (.int .i64 (x.pins : Int)) := by have e := HSS _ cc; exact e
  obtain ⟨z90, z91, z92, z93, z94⟩ : wd2.cell? ⟨c, 2, none⟩ = some (.slice (some ⟨g, 0, none⟩) C.L.length cap) ∧ wd2.cell? ⟨w.heap.size, 0, none⟩ = some (.int .i64 (x.n : Int)) ∧ wd2.cell? ⟨w.heap.size, 1, none⟩ = some (.string (strOf x.b)) ∧ wd2.cell? ⟨w.heap.size, 2, none⟩ = some (.bool x.dirty) ∧ wd2.cell? ⟨w.heap.size, 3, none⟩ = some (.int .i64 (x.pins : Int)) := by have e := HSS _ ed2; exact e
  obtain ⟨z100, z101, z102, z103, z104⟩ : wa2.cell? ⟨c, 2, none⟩ = some (.slice (some ⟨g, 0, none⟩) C.L.length cap) ∧ wa2.cell? ⟨w.heap.size, 0, none⟩ = some (.int .i64 (x.n : Int)) ∧ wa2.cell? ⟨w.heap.size, 1, none⟩ = some (.string (strOf x.b)) ∧ wa2.cell? ⟨w.heap.size, 2, none⟩ = some (.bool x.dirty) ∧ wa2.cell? ⟨w.heap.size, 3, none⟩ = some (.int .i64 (x.pins : Int)) := by have e := HSS _ ea2; exact e
  obtain ⟨z110, z111, z112, z113, z114⟩ : wb2.cell? ⟨c, 2, none⟩ = some (.slice (some ⟨g, 0, none⟩) C.L.length cap) ∧ wb2.cell? ⟨w.heap.size, 0, none⟩ = some (.int .i64 (x.n : Int)) ∧ wb2.cell? ⟨w.heap.size, 1, none⟩ = some (.string (strOf x.b)) ∧ wb2.cell? ⟨w.heap.size, 2, none⟩ = some (.bool x.dirty) ∧ wb2.cell? ⟨w.heap.size, 3, none⟩ = some (.int .i64 (x.pins : Int)) := by have e := HSS _ eb2; exact e
  obtain ⟨z120, z121, z122, z123, z124⟩ : wc2.cell? ⟨c, 2, none⟩ = some (.slice (some ⟨g, 0, none⟩) C.L.length cap) ∧ wc2.cell? ⟨w.heap.size, 0, none⟩ = some (.int .i64 (x.n : Int)) ∧ wc2.cell? ⟨w.heap.size, 1, none⟩ = some (.string (strOf x.b)) ∧ wc2.cell? ⟨w.heap.size, 2, none⟩ = some (.bool x.dirty) ∧ wc2.cell? ⟨w.heap.size, 3, none⟩ = some (.int .i64 (x.pins : Int)) := by have e := HSS _ ec2; exact e
  rw [hs1] at ra1' rb1' rd1' ra3' rb3'
  clear ra1 rb1 rd1 ra3 rb3 s0 hC'
  clear h hx hd hll hlen cW hWb hRW hgl hcl HSS jt jf c0 ca0 ca la ja oa1 ka1 na1 ea1 oa2 ka2 na2 ea2 na3 na4 oa3 ka3 ea3 cb0 cb lb0 lb jb ob1 kb1 nb1 eb1 ob2 kb2 nb2 eb2 nb3 nb4 ob3 kb3 eb3 od1 kd1 nd1 ed1 cc oc1 jc oc2 kc2 nc2 ec2 nc3 oc3 kc3 ec3 od2 kd2 nd2 ed2 cd od2' od3 kd3 ed3 HF fa1 fa2 fb1 fb2 fc1 fc2 fd1 fd2
  generalize ([] ++ xs ++ ys ++ [x]).length = N at *
  generalize C.L.length = n at *
  generalize xs.length = i at *
  generalize ys.length = m at *
  generalize strOf x.b = t at *
  generalize (x.n : Int) = xn at *
  generalize (x.pins : Int) = xp at *
  generalize x.dirty = xd at *
  go_enter Try.func59, Try.ntmps59
  go_wp2
  rw [← hW]
  clear hW
  go_region
  all_goals
    go_wp2
    all_goals
      go_end0
      exact ⟨rfl, by first | exact FA.out | exact FB.out | exact FC.out | exact FD.out⟩
end Go.Proofs.Ytioloobeakjbeaa

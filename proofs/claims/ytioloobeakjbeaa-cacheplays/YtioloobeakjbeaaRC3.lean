/-
  The reference's cache: an item is made the last.
-/
import Derived.Test.YtioloobeakjbeaaRC
namespace Go.Proofs.Ytioloobeakjbeaa
open Go.RowKit Go.Maps
attribute [local go_sem ↓] Go.wp_at_zero Go.wp_at_succ

/-- A list that is being made, in blocks from B on. -/
def Ow (w : World) (B : Nat) (v : Value) (L : List It) : Prop := w.ownsRow 0 92 4 v L.length (jcells L) ∧ ∀ g, v.ownBlock = some g → B ≤ g
theorem Ow.kept {E : Nat → Prop} {w w' : World} {B : Nat} {v : Value} {L : List It} (h : Ow w B v L) (hc : Chg E w w') (hn : ∀ g, v.ownBlock = some g → ¬ E g) : Ow w' B v L :=
  ⟨own_same h.1 (fun g hg => hc.block g (h.1.lt g hg).2 (hn g hg)), h.2⟩
theorem Ow.app {w : World} {B : Nat} {v : Value} {L : List It} (h : Ow w B v L) (hB : B ≤ w.heap.size) {x : Value} {X : List It} (hx : Js w x X) (hl : L.length + X.length ≤ 1048576) :
    ∃ v' w', (appG #[45, 45] 45 #[v, x]).run Try.prog w = .ok v' w' ∧ Ow w' B v' (L ++ X) ∧ Chg (fun k => B ≤ k) w w' ∧ ∀ k, k < w.heap.size → ¬ v.ownBlock = some k → w'.heap[k]? = w.heap[k]? ∧ ¬ v'.ownBlock = some k := by
  obtain ⟨v', w', h1, h2, h3, h4⟩ := run_appJ w 45 v x L X h.1 hx hl
  refine ⟨v', w', h1, ⟨h2, fun g hg => ?_⟩, h3.mono (fun k _ e => h.2 k e), fun k hk hv => ⟨h3.block k hk hv, fun e => ?_⟩⟩
  · rcases h4 with e | e
    · exact h.2 g (by rw [← e]; exact hg)
    · rw [hg] at e; simp at e; omega
  · rcases h4 with e2 | e2
    · exact hv (by rw [← e2]; exact e)
    · rw [e] at e2; simp at e2; omega
theorem Ow.lit (w : World) (B : Nat) (hB : B ≤ w.heap.size) : Ow (w.alloc (.cells #[] 92)) B (.slice (some ⟨w.heap.size, 0, none⟩) 0 0) [] :=
  ⟨⟨rfl, .inr ⟨w.heap.size, 0, #[], rfl, Nat.zero_le _, heap_alloc_new w _, Nat.le_refl _, Nat.zero_le _, rfl, rfl⟩⟩, fun g hg => by cases hg; exact hB⟩
theorem Js.lit (w : World) (x : It) : Js (w.alloc (.cells #[.int .i64 (x.n : Int), .string (strOf x.b), .bool x.dirty, .int .i64 (x.pins : Int)] 92)) (.slice (some ⟨w.heap.size, 0, none⟩) 1 1) [x] :=
  .inr ⟨_, 1, rfl, fun j u hu => by
    rw [add_zero_off, cell_of_row _ w.heap.size j _ _ _ (heap_alloc_new w _)]
    simpa [jcells, jcell] using hu⟩

theorem Js.same {w w' : World} {v : Value} {X : List It} (h : Js w v X) (hb : ∀ g, v.ownBlock = some g → w'.heap[g]? = w.heap[g]?) : Js w' v X := by
  rcases h with h | ⟨a, c, rfl, hcell⟩
  · exact .inl h
  · refine .inr ⟨a, c, rfl, fun j u hu => ?_⟩
    have e : (a.add j).block = a.block := by unfold Addr.add; split <;> rfl
    exact (World.cell?_of_block (by rw [e]; exact hb _ rfl)).trans (hcell j u hu)
theorem Js.part {w : World} {g n cap o i : Nat} {L X : List It} (h : w.ownsRow 0 92 4 (.slice (some ⟨g, 0, none⟩) L.length cap) L.length (jcells L)) (hX : X = L.drop i) (ho : i < L.length → o = i * 4) (hn : n = X.length) (c : Nat) : Js w (.slice (some ⟨g, o, none⟩) n c) X := by
  subst hn
  refine .inr ⟨_, c, rfl, fun j u hu => ?_⟩
  have hj := (List.getElem?_eq_some_iff.1 hu).1
  rw [jcells_len] at hj
  have hi : i < L.length := by
    have : X.length = L.length - i := by rw [hX, List.length_drop]
    omega
  rw [ho hi]
  have e : (⟨g, i * 4, none⟩ : Addr).add j = (⟨g, 0, none⟩ : Addr).add (i * 4 + j) := by
    rw [add_zero_off]
    unfold Addr.add
    by_cases h0 : j = 0 <;> simp [h0]
  rw [e]
  refine h.cells (g := g) rfl _ _ ?_
  have : jcells L = jcells (L.take i) ++ jcells X := by rw [← jcells_append, hX, List.take_append_drop]
  rw [this, List.getElem?_append_right (by rw [jcells_len, List.length_take]; omega)]
  have e2 : i * 4 + j - (jcells (L.take i)).length = j := by rw [jcells_len, List.length_take, Nat.min_eq_left (by omega)]; omega
  rw [e2]; exact hu
theorem Js.first {w : World} {g n cap : Nat} {L X : List It} (h : w.ownsRow 0 92 4 (.slice (some ⟨g, 0, none⟩) L.length cap) L.length (jcells L)) {Y : List It} (hX : L = X ++ Y) (hn : n = X.length) (c : Nat) : Js w (.slice (some ⟨g, 0, none⟩) n c) X := by
  subst hn
  refine .inr ⟨_, c, rfl, fun j u hu => h.cells (g := g) rfl _ _ ?_⟩
  rw [hX, jcells_append, List.getElem?_append_left (List.getElem?_eq_some_iff.1 hu).1]; exact hu

section
variable {w : World} {H : Nat → Prop} {c q : Nat} {C : Ca} {g cap : Nat}
/-- The new list is stored. -/
theorem RcAt.store {lv v : Value} {w' : World} {L : List It} (h : RcAt w H c q C lv) (hc : Chg (fun k => w.heap.size ≤ k) w w') (ho : Ow w' w.heap.size v L) :
    RcAt (w'.setCell ⟨c, 2, none⟩ v) (fun b => H b ∨ (w.heap.size ≤ b ∧ b < w'.heap.size)) c q { C with L := L } v ∧ Chg H w (w'.setCell ⟨c, 2, none⟩ v) ∧ w'.cell? ⟨c, 2, none⟩ = some lv ∧ w'.frozen? ⟨c, 2, none⟩ = false := by
  have hl := h.lt c h.fc
  have hb : w'.heap[c]? = _ := (hc.block c hl (by omega)).trans h.blk
  have hs := heap_setCell_same w' c 2 _ _ v hb
  simp at hs
  have kc : Chg (fun k => k = c) w' (w'.setCell ⟨c, 2, none⟩ v) := Chg.setCell _ _ _ rfl
  refine ⟨⟨hs, own_same ho.1 (fun g hg => kc.block g (ho.1.lt g hg).2 (fun e => by have := ho.2 g hg; omega)), .inl h.fc, fun g hg => .inr ⟨ho.2 g hg, (ho.1.lt g hg).2⟩, fun b hb => ?_⟩, (hc.mono (fun k hk e => by omega)).trans kc (fun k _ e => by rw [e]; exact h.fc), ?_, ?_⟩
  · have : (w'.setCell ⟨c, 2, none⟩ v).heap.size = w'.heap.size := by simp
    rw [this]
    rcases hb with hb | hb
    · exact Nat.lt_of_lt_of_le (h.lt b hb) hc.size
    · exact hb.2
  · rw [cell_of_row w' c 2 _ _ _ hb]; rfl
  · simp [World.frozen?, hb]
end

/-- What a call leaves of the cache. -/
def RcTo (H : Nat → Prop) (c q : Nat) (w w' : World) (C' : Ca) : Prop := ∃ H' v', RcAt w' H' c q C' v' ∧ Chg H w w' ∧ ∀ b, H' b → H b ∨ w.heap.size ≤ b
theorem RcTo.trans {H : Nat → Prop} {c q : Nat} {w w1 w2 : World} {C2 : Ca} {H1 : Nat → Prop} (hc : Chg H w w1) (hH : ∀ b, H1 b → H b ∨ w.heap.size ≤ b) (h2 : RcTo H1 c q w1 w2 C2) : RcTo H c q w w2 C2 := by
  obtain ⟨H', v', h1, h3, h4⟩ := h2
  refine ⟨H', v', h1, hc.trans h3 (fun k hk e => ?_), fun b hb => ?_⟩
  · rcases hH k e with e2 | e2
    · exact e2
    · omega
  · rcases h4 b hb with e | e
    · exact hH b e
    · exact .inr (Nat.le_trans hc.size e)

attribute [local go_sem ↓] appG_eq
set_option maxHeartbeats 1600000 in
set_option maxRecDepth 100000 in
theorem rlastu_any (H : Nat → Prop) (c q : Nat) (C : Ca) (g cap : Nat) (xs ys : List It) (x : It) (w : World) (h : RcAt w H c q C (.slice (some ⟨g, 0, none⟩) C.L.length cap)) (hcap : C.L.length ≤ cap) (hL : C.L = xs ++ x :: ys) (hl : C.L.length ≤ 1024) (C' : Ca) (hC' : C' = { C with L := xs ++ ys ++ [x] }) :
    Calls Try.prog 59 #[.pointer (some ⟨c, 0, none⟩), .int .i64 (xs.length : Int)] w fun e w' => e = .returned (.tuple #[]) ∧ RcTo H c q w w' C' := by
  have hlt : xs.length < C.L.length := by rw [hL]; simp
  have hx : C.L[xs.length] = x := by simp [hL]
  have hd : C.L.drop (xs.length + 1) = ys := by rw [hL]; simp
  have hll : C.L.length = xs.length + 1 + ys.length := by rw [hL]; simp; omega
  have hlen : C.L.length - (xs.length + 1) = ys.length := by omega
  have hc0 := h.item (k := 0) hlt (by decide) rfl
  have hc1 := h.item (k := 1) hlt (by decide) rfl
  have hc2 := h.item (k := 2) hlt (by decide) rfl
  have hc3 := h.item (k := 3) hlt (by decide) rfl
  rw [hx] at hc0 hc1 hc2 hc3
  rw [Nat.add_zero] at hc0
  have hlt' : (xs.length : Int) < (C.L.length : Int) := by omega
  -- the world behind the box and the draw
  obtain ⟨W, hW⟩ : ∃ W, W = (w.alloc (.cells #[.int .i64 (x.n : Int), .string (strOf x.b), .bool x.dirty, .int .i64 (x.pins : Int)] 92)) := ⟨_, rfl⟩
  have cW : Chg (fun _ => False) w W := by rw [hW]; exact Chg.alloc _ _ _
  have hWb : W.heap[w.heap.size]? = some (.cells #[.int .i64 (x.n : Int), .string (strOf x.b), .bool x.dirty, .int .i64 (x.pins : Int)] 92 (0, 0)) := by rw [hW]; exact heap_alloc_new w _
  have hs1 : W.heap.size = w.heap.size + 1 := by rw [hW]; simp
  have hRW := h.kept (cW.trans (Chg.drew (fun _ => False) W) (fun _ _ h => h)) (fun _ _ h => h)
  have hgl : g < w.heap.size := h.lt g (h.fl g rfl)
  have hcl : c < w.heap.size := h.lt c h.fc
  -- what the loads read
  -- (cells)
  obtain ⟨B, hB⟩ : ∃ B, B = W.drew.heap.size := ⟨_, rfl⟩
  have hB' : B = W.heap.size := hB
  have HSS : ∀ w', Chg (fun k => B ≤ k) W.drew w' → w'.cell? ⟨c, 2, none⟩ = some (.slice (some ⟨g, 0, none⟩) C.L.length cap) ∧ w'.cell? ⟨w.heap.size, 0, none⟩ = some (.int .i64 (x.n : Int)) ∧ w'.cell? ⟨w.heap.size, 1, none⟩ = some (.string (strOf x.b)) ∧ w'.cell? ⟨w.heap.size, 2, none⟩ = some (.bool x.dirty) ∧ w'.cell? ⟨w.heap.size, 3, none⟩ = some (.int .i64 (x.pins : Int)) := fun w' hc => by
    have hb0 : w'.heap[w.heap.size]? = some (.cells #[.int .i64 (x.n : Int), .string (strOf x.b), .bool x.dirty, .int .i64 (x.pins : Int)] 92 (0, 0)) := (hc.block w.heap.size (by rw [← hB, hB', hs1]; omega) (by omega)).trans hWb
    refine ⟨hc.cell hRW.c2 (by show ¬ B ≤ c; omega), ?_, ?_, ?_, ?_⟩ <;> rw [cell_of_row w' _ _ _ _ _ hb0] <;> rfl
  have st := slice_to g C.L.length cap xs.length (by omega) hcap
  have jt : ∀ w', Chg (fun k => B ≤ k) W.drew w' → Js w' (.slice (some ⟨g, 0, none⟩) xs.length cap) xs := fun w' hc => (Js.first hRW.row hL rfl cap).kept hc (fun k hk => by cases hk; show ¬ B ≤ g; omega)
  have jf : ∀ w', Chg (fun k => B ≤ k) W.drew w' → Js w' (.slice (if cap = xs.length + 1 then some ⟨g, 0, none⟩ else some ⟨g, (xs.length + 1) * 4, none⟩) (C.L.length - (xs.length + 1)) (cap - (xs.length + 1))) ys := fun w' hc => by
    split
    · exact (Js.part (i := xs.length + 1) (o := 0) hRW.row hd.symm (fun e => by omega) hlen _).kept hc (fun k hk => by cases hk; show ¬ B ≤ g; omega)
    · exact (Js.part (i := xs.length + 1) hRW.row hd.symm (fun _ => rfl) hlen _).kept hc (fun k hk => by cases hk; show ¬ B ≤ g; omega)
  have c0 : Chg (fun k => B ≤ k) W.drew W.drew := Chg.refl _ _
  -- 30 first
  have ca0 : Chg (fun k => B ≤ k) W.drew (W.drew.alloc (.cells #[.int .i64 (x.n : Int), .string (strOf x.b), .bool x.dirty, .int .i64 (x.pins : Int)] 92)) := Chg.alloc _ _ _
  have ca : Chg (fun k => B ≤ k) W.drew ((W.drew.alloc (.cells #[.int .i64 (x.n : Int), .string (strOf x.b), .bool x.dirty, .int .i64 (x.pins : Int)] 92)).alloc (.cells #[] 92)) := ca0.trans (Chg.alloc _ _ _) (fun _ _ h => h)
  have la := Ow.lit (W.drew.alloc (.cells #[.int .i64 (x.n : Int), .string (strOf x.b), .bool x.dirty, .int .i64 (x.pins : Int)] 92)) B (by rw [hB]; exact ca0.size)
  have ja := (Js.lit W.drew x).kept (Chg.alloc (fun _ => False) _ (.cells #[] 92)) (fun _ _ h => h)
  obtain ⟨va1, wa1, ra1, oa1, ka1, na1⟩ := la.app (by rw [hB]; exact ca.size) (jt _ ca) (by simp; omega)
  have ea1 := ca.trans ka1 (fun _ _ h => h)
  obtain ⟨va2, wa2, ra2, oa2, ka2, na2⟩ := oa1.app (by rw [hB]; exact ea1.size) (jf _ ea1) (by simp; omega)
  have ea2 := ea1.trans ka2 (fun _ _ h => h)
  have na3 := na1 W.drew.heap.size (by simp; omega) (by simp [Value.ownBlock])
  have na4 := na2 W.drew.heap.size (Nat.lt_of_lt_of_le (by simp; omega) ka1.size) na3.2
  obtain ⟨va3, wa3, ra3, oa3, ka3, _⟩ := oa2.app (by rw [hB]; exact ea2.size) (ja.same (w' := wa2) (fun k hk => by cases hk; exact na4.1.trans na3.1)) (by simp; omega)
  have ea3 := ea2.trans ka3 (fun _ _ h => h)
  -- 30 second
  have cb0 : Chg (fun k => B ≤ k) W.drew (W.drew.alloc (.cells #[] 92)) := Chg.alloc _ _ _
  have cb : Chg (fun k => B ≤ k) W.drew ((W.drew.alloc (.cells #[] 92)).alloc (.cells #[.int .i64 (x.n : Int), .string (strOf x.b), .bool x.dirty, .int .i64 (x.pins : Int)] 92)) := cb0.trans (Chg.alloc _ _ _) (fun _ _ h => h)
  have lb0 := Ow.lit W.drew B (by rw [hB]; exact Nat.le_refl _)
  have lb := lb0.kept (Chg.alloc (fun _ => False) _ (.cells #[.int .i64 (x.n : Int), .string (strOf x.b), .bool x.dirty, .int .i64 (x.pins : Int)] 92)) (fun _ _ h => h)
  have jb := Js.lit (W.drew.alloc (.cells #[] 92)) x
  obtain ⟨vb1, wb1, rb1, ob1, kb1, nb1⟩ := lb.app (by rw [hB]; exact cb.size) (jt _ cb) (by simp; omega)
  have eb1 := cb.trans kb1 (fun _ _ h => h)
  obtain ⟨vb2, wb2, rb2, ob2, kb2, nb2⟩ := ob1.app (by rw [hB]; exact eb1.size) (jf _ eb1) (by simp; omega)
  have eb2 := eb1.trans kb2 (fun _ _ h => h)
  have nb3 := nb1 (W.drew.alloc (.cells #[] 92)).heap.size (by simp) (by simp [Value.ownBlock])
  have nb4 := nb2 (W.drew.alloc (.cells #[] 92)).heap.size (Nat.lt_of_lt_of_le (by simp) kb1.size) nb3.2
  obtain ⟨vb3, wb3, rb3, ob3, kb3, _⟩ := ob2.app (by rw [hB]; exact eb2.size) (jb.same (w' := wb2) (fun k hk => by cases hk; exact nb4.1.trans nb3.1)) (by simp; omega)
  have eb3 := eb2.trans kb3 (fun _ _ h => h)
  -- 30 third
  obtain ⟨vd1, wd1, rd1, od1, kd1, nd1⟩ := lb0.app (by rw [hB]; exact cb0.size) (jt _ cb0) (by simp; omega)
  have ed1 := cb0.trans kd1 (fun _ _ h => h)
  have cc : Chg (fun k => B ≤ k) W.drew (wd1.alloc (.cells #[.int .i64 (x.n : Int), .string (strOf x.b), .bool x.dirty, .int .i64 (x.pins : Int)] 92)) := ed1.trans (Chg.alloc _ _ _) (fun _ _ h => h)
  have oc1 := od1.kept (Chg.alloc (fun _ => False) _ (.cells #[.int .i64 (x.n : Int), .string (strOf x.b), .bool x.dirty, .int .i64 (x.pins : Int)] 92)) (fun _ _ h => h)
  have jc := Js.lit wd1 x
  obtain ⟨vc2, wc2, rc2, oc2, kc2, nc2⟩ := oc1.app (by rw [hB]; exact cc.size) (jf _ cc) (by simp; omega)
  have ec2 := cc.trans kc2 (fun _ _ h => h)
  have nc3 := nc2 wd1.heap.size (by simp) (fun e => by have := (od1.1.lt _ e).2; omega)
  obtain ⟨vc3, wc3, rc3, oc3, kc3, _⟩ := oc2.app (by rw [hB]; exact ec2.size) (jc.same (w' := wc2) (fun k hk => by cases hk; exact nc3.1)) (by simp; omega)
  have ec3 := ec2.trans kc3 (fun _ _ h => h)
  -- 30 last
  obtain ⟨vd2, wd2, rd2, od2, kd2, nd2⟩ := od1.app (by rw [hB]; exact ed1.size) (jf _ ed1) (by simp; omega)
  have ed2 := ed1.trans kd2 (fun _ _ h => h)
  have cd : Chg (fun k => B ≤ k) W.drew (wd2.alloc (.cells #[.int .i64 (x.n : Int), .string (strOf x.b), .bool x.dirty, .int .i64 (x.pins : Int)] 92)) := ed2.trans (Chg.alloc _ _ _) (fun _ _ h => h)
  have od2' := od2.kept (Chg.alloc (fun _ => False) _ (.cells #[.int .i64 (x.n : Int), .string (strOf x.b), .bool x.dirty, .int .i64 (x.pins : Int)] 92)) (fun _ _ h => h)
  obtain ⟨vd3, wd3, rd3, od3, kd3, _⟩ := od2'.app (by rw [hB]; exact cd.size) (Js.lit wd2 x) (by simp; omega)
  have ed3 := cd.trans kd3 (fun _ _ h => h)
  rw [hB] at ea3 eb3 ec3 ed3 oa3 ob3 oc3 od3
  obtain ⟨ia, ja', rfl⟩ := own_form oa3.1
  obtain ⟨ib, jb', rfl⟩ := own_form ob3.1
  obtain ⟨ic, jc', rfl⟩ := own_form oc3.1
  obtain ⟨id, jd', rfl⟩ := own_form od3.1
  obtain ⟨fa1, fa2, fa3, fa4⟩ := hRW.store ea3 oa3
  obtain ⟨fb1, fb2, fb3, fb4⟩ := hRW.store eb3 ob3
  obtain ⟨fc1, fc2, fc3, fc4⟩ := hRW.store ec3 oc3
  obtain ⟨fd1, fd2, fd3, fd4⟩ := hRW.store ed3 od3
  have HF : ∀ (wz : World) (vz : Value), RcAt (wz.setCell ⟨c, 2, none⟩ vz) (fun b => H b ∨ (W.drew.heap.size ≤ b ∧ b < wz.heap.size)) c q { C with L := xs ++ ys ++ [x] } vz → Chg H W.drew (wz.setCell ⟨c, 2, none⟩ vz) →
      RcTo H c q w (wz.setCell ⟨c, 2, none⟩ vz) C' := fun wz vz h1 h2 =>
    ⟨_, vz, by rw [hC']; exact h1, ((cW.trans (Chg.drew (fun _ => False) W) (fun _ _ h => h)).mono (fun _ _ h => h.elim)).trans h2 (fun _ _ h => h), fun b hb => by
      rcases hb with hb | hb
      · exact .inl hb
      · have h5 : W.heap.size ≤ b := hb.1
        exact .inr (by omega)⟩
  have FA : Hid _ := HF wa3 _ fa1 fa2
  have FB : Hid _ := HF wb3 _ fb1 fb2
  have FC : Hid _ := HF wc3 _ fc1 fc2
  have FD : Hid _ := HF wd3 _ fd1 fd2
  have s0 := HSS _ c0
  have c2w := h.c2
  have ra1' : (appG #[45, 45] 45 #[.slice (some ⟨W.heap.size + 1, 0, none⟩) 0 0, .slice (some ⟨g, 0, none⟩) xs.length cap]).run Try.prog ((W.alloc (.cells #[.int .i64 (x.n : Int), .string (strOf x.b), .bool x.dirty, .int .i64 (x.pins : Int)] 92)).alloc (.cells #[] 92)).drew = .ok va1 wa1 := by
    have e : (W.drew.alloc (.cells #[.int .i64 (x.n : Int), .string (strOf x.b), .bool x.dirty, .int .i64 (x.pins : Int)] 92)).heap.size = W.heap.size + 1 := by simp
    rw [e] at ra1
    exact ra1
  have rb1' : (appG #[45, 45] 45 #[.slice (some ⟨W.heap.size, 0, none⟩) 0 0, .slice (some ⟨g, 0, none⟩) xs.length cap]).run Try.prog ((W.alloc (.cells #[] 92)).alloc (.cells #[.int .i64 (x.n : Int), .string (strOf x.b), .bool x.dirty, .int .i64 (x.pins : Int)] 92)).drew = .ok vb1 wb1 := rb1
  have rd1' : (appG #[45, 45] 45 #[.slice (some ⟨W.heap.size, 0, none⟩) 0 0, .slice (some ⟨g, 0, none⟩) xs.length cap]).run Try.prog (W.alloc (.cells #[] 92)).drew = .ok vd1 wd1 := rd1
  have ra3' : (appG #[45, 45] 45 #[va2, .slice (some ⟨W.heap.size, 0, none⟩) 1 1]).run Try.prog wa2 = .ok _ wa3 := ra3
  have rb3' : (appG #[45, 45] 45 #[vb2, .slice (some ⟨W.heap.size + 1, 0, none⟩) 1 1]).run Try.prog wb2 = .ok (.slice ib ([] ++ xs ++ ys ++ [x]).length jb') wb3 := by
    have e : (W.drew.alloc (.cells #[] 92)).heap.size = W.heap.size + 1 := by simp
    rw [e] at rb3
    exact rb3
  obtain ⟨z00, z01, z02, z03, z04⟩ : W.cell? ⟨c, 2, none⟩ = some (.slice (some ⟨g, 0, none⟩) C.L.length cap) ∧ W.cell? ⟨w.heap.size, 0, none⟩ = some (.int .i64 (x.n : Int)) ∧ W.cell? ⟨w.heap.size, 1, none⟩ = some (.string (strOf x.b)) ∧ W.cell? ⟨w.heap.size, 2, none⟩ = some (.bool x.dirty) ∧ W.cell? ⟨w.heap.size, 3, none⟩ = some (.int .i64 (x.pins : Int)) := by have e := HSS _ c0; exact e
  obtain ⟨z10, z11, z12, z13, z14⟩ : (W.alloc (.cells #[.int .i64 (x.n : Int), .string (strOf x.b), .bool x.dirty, .int .i64 (x.pins : Int)] 92)).cell? ⟨c, 2, none⟩ = some (.slice (some ⟨g, 0, none⟩) C.L.length cap) ∧ (W.alloc (.cells #[.int .i64 (x.n : Int), .string (strOf x.b), .bool x.dirty, .int .i64 (x.pins : Int)] 92)).cell? ⟨w.heap.size, 0, none⟩ = some (.int .i64 (x.n : Int)) ∧ (W.alloc (.cells #[.int .i64 (x.n : Int), .string (strOf x.b), .bool x.dirty, .int .i64 (x.pins : Int)] 92)).cell? ⟨w.heap.size, 1, none⟩ = some (.string (strOf x.b)) ∧ (W.alloc (.cells #[.int .i64 (x.n : Int), .string (strOf x.b), .bool x.dirty, .int .i64 (x.pins : Int)] 92)).cell? ⟨w.heap.size, 2, none⟩ = some (.bool x.dirty) ∧ (W.alloc (.cells #[.int .i64 (x.n : Int), .string (strOf x.b), .bool x.dirty, .int .i64 (x.pins : Int)] 92)).cell? ⟨w.heap.size, 3, none⟩ = some (.int .i64 (x.pins : Int)) := by have e := HSS _ ca0; exact e
  obtain ⟨z20, z21, z22, z23, z24⟩ : (W.alloc (.cells #[] 92)).cell? ⟨c, 2, none⟩ = some (.slice (some ⟨g, 0, none⟩) C.L.length cap) ∧ (W.alloc (.cells #[] 92)).cell? ⟨w.heap.size, 0, none⟩ = some (.int .i64 (x.n : Int)) ∧ (W.alloc (.cells #[] 92)).cell? ⟨w.heap.size, 1, none⟩ = some (.string (strOf x.b)) ∧ (W.alloc (.cells #[] 92)).cell? ⟨w.heap.size, 2, none⟩ = some (.bool x.dirty) ∧ (W.alloc (.cells #[] 92)).cell? ⟨w.heap.size, 3, none⟩ = some (.int .i64 (x.pins : Int)) := by have e := HSS _ cb0; exact e
  obtain ⟨z30, z31, z32, z33, z34⟩ : ((W.alloc (.cells #[.int .i64 (x.n : Int), .string (strOf x.b), .bool x.dirty, .int .i64 (x.pins : Int)] 92)).alloc (.cells #[] 92)).cell? ⟨c, 2, none⟩ = some (.slice (some ⟨g, 0, none⟩) C.L.length cap) ∧ ((W.alloc (.cells #[.int .i64 (x.n : Int), .string (strOf x.b), .bool x.dirty, .int .i64 (x.pins : Int)] 92)).alloc (.cells #[] 92)).cell? ⟨w.heap.size, 0, none⟩ = some (.int .i64 (x.n : Int)) ∧ ((W.alloc (.cells #[.int .i64 (x.n : Int), .string (strOf x.b), .bool x.dirty, .int .i64 (x.pins : Int)] 92)).alloc (.cells #[] 92)).cell? ⟨w.heap.size, 1, none⟩ = some (.string (strOf x.b)) ∧ ((W.alloc (.cells #[.int .i64 (x.n : Int), .string (strOf x.b), .bool x.dirty, .int .i64 (x.pins : Int)] 92)).alloc (.cells #[] 92)).cell? ⟨w.heap.size, 2, none⟩ = some (.bool x.dirty) ∧ ((W.alloc (.cells #[.int .i64 (x.n : Int), .string (strOf x.b), .bool x.dirty, .int .i64 (x.pins : Int)] 92)).alloc (.cells #[] 92)).cell? ⟨w.heap.size, 3, none⟩ = some (.int .i64 (x.pins : Int)) := by have e := HSS _ ca; exact e
  obtain ⟨z40, z41, z42, z43, z44⟩ : ((W.alloc (.cells #[] 92)).alloc (.cells #[.int .i64 (x.n : Int), .string (strOf x.b), .bool x.dirty, .int .i64 (x.pins : Int)] 92)).cell? ⟨c, 2, none⟩ = some (.slice (some ⟨g, 0, none⟩) C.L.length cap) ∧ ((W.alloc (.cells #[] 92)).alloc (.cells #[.int .i64 (x.n : Int), .string (strOf x.b), .bool x.dirty, .int .i64 (x.pins : Int)] 92)).cell? ⟨w.heap.size, 0, none⟩ = some (.int .i64 (x.n : Int)) ∧ ((W.alloc (.cells #[] 92)).alloc (.cells #[.int .i64 (x.n : Int), .string (strOf x.b), .bool x.dirty, .int .i64 (x.pins : Int)] 92)).cell? ⟨w.heap.size, 1, none⟩ = some (.string (strOf x.b)) ∧ ((W.alloc (.cells #[] 92)).alloc (.cells #[.int .i64 (x.n : Int), .string (strOf x.b), .bool x.dirty, .int .i64 (x.pins : Int)] 92)).cell? ⟨w.heap.size, 2, none⟩ = some (.bool x.dirty) ∧ ((W.alloc (.cells #[] 92)).alloc (.cells #[.int .i64 (x.n : Int), .string (strOf x.b), .bool x.dirty, .int .i64 (x.pins : Int)] 92)).cell? ⟨w.heap.size, 3, none⟩ = some (.int .i64 (x.pins : Int)) := by have e := HSS _ cb; exact e
  obtain ⟨z50, z51, z52, z53, z54⟩ : wa1.cell? ⟨c, 2, none⟩ = some (.slice (some ⟨g, 0, none⟩) C.L.length cap) ∧ wa1.cell? ⟨w.heap.size, 0, none⟩ = some (.int .i64 (x.n : Int)) ∧ wa1.cell? ⟨w.heap.size, 1, none⟩ = some (.string (strOf x.b)) ∧ wa1.cell? ⟨w.heap.size, 2, none⟩ = some (.bool x.dirty) ∧ wa1.cell? ⟨w.heap.size, 3, none⟩ = some (.int .i64 (x.pins : Int)) := by have e := HSS _ ea1; exact e
  obtain ⟨z60, z61, z62, z63, z64⟩ : wb1.cell? ⟨c, 2, none⟩ = some (.slice (some ⟨g, 0, none⟩) C.L.length cap) ∧ wb1.cell? ⟨w.heap.size, 0, none⟩ = some (.int .i64 (x.n : Int)) ∧ wb1.cell? ⟨w.heap.size, 1, none⟩ = some (.string (strOf x.b)) ∧ wb1.cell? ⟨w.heap.size, 2, none⟩ = some (.bool x.dirty) ∧ wb1.cell? ⟨w.heap.size, 3, none⟩ = some (.int .i64 (x.pins : Int)) := by have e := HSS _ eb1; exact e
  obtain ⟨z70, z71, z72, z73, z74⟩ : wd1.cell? ⟨c, 2, none⟩ = some (.slice (some ⟨g, 0, none⟩) C.L.length cap) ∧ wd1.cell? ⟨w.heap.size, 0, none⟩ = some (.int .i64 (x.n : Int)) ∧ wd1.cell? ⟨w.heap.size, 1, none⟩ = some (.string (strOf x.b)) ∧ wd1.cell? ⟨w.heap.size, 2, none⟩ = some (.bool x.dirty) ∧ wd1.cell? ⟨w.heap.size, 3, none⟩ = some (.int .i64 (x.pins : Int)) := by have e := HSS _ ed1; exact e
  obtain ⟨z80, z81, z82, z83, z84⟩ : (wd1.alloc (.cells #[.int .i64 (x.n : Int), .string (strOf x.b), .bool x.dirty, .int .i64 (x.pins : Int)] 92)).cell? ⟨c, 2, none⟩ = some (.slice (some ⟨g, 0, none⟩) C.L.length cap) ∧ (wd1.alloc (.cells #[.int .i64 (x.n : Int), .string (strOf x.b), .bool x.dirty, .int .i64 (x.pins : Int)] 92)).cell? ⟨w.heap.size, 0, none⟩ = some (.int .i64 (x.n : Int)) ∧ (wd1.alloc (.cells #[.int .i64 (x.n : Int), .string (strOf x.b), .bool x.dirty, .int .i64 (x.pins : Int)] 92)).cell? ⟨w.heap.size, 1, none⟩ = some (.string (strOf x.b)) ∧ (wd1.alloc (.cells #[.int .i64 (x.n : Int), .string (strOf x.b), .bool x.dirty, .int .i64 (x.pins : Int)] 92)).cell? ⟨w.heap.size, 2, none⟩ = some (.bool x.dirty) ∧ (wd1.alloc (.cells #[.int .i64 (x.n : Int), .string (strOf x.b), .bool x.dirty, .int .i64 (x.pins : Int)] 92)).cell? ⟨w.heap.size, 3, none⟩ = some (.int .i64 (x.pins : Int)) := by have e := HSS _ cc; exact e
  obtain ⟨z90, z91, z92, z93, z94⟩ : wd2.cell? ⟨c, 2, none⟩ = some (.slice (some ⟨g, 0, none⟩) C.L.length cap) ∧ wd2.cell? ⟨w.heap.size, 0, none⟩ = some (.int .i64 (x.n : Int)) ∧ wd2.cell? ⟨w.heap.size, 1, none⟩ = some (.string (strOf x.b)) ∧ wd2.cell? ⟨w.heap.size, 2, none⟩ = some (.bool x.dirty) ∧ wd2.cell? ⟨w.heap.size, 3, none⟩ = some (.int .i64 (x.pins : Int)) := by have e := HSS _ ed2; exact e
  obtain ⟨z100, z101, z102, z103, z104⟩ : wa2.cell? ⟨c, 2, none⟩ = some (.slice (some ⟨g, 0, none⟩) C.L.length cap) ∧ wa2.cell? ⟨w.heap.size, 0, none⟩ = some (.int .i64 (x.n : Int)) ∧ wa2.cell? ⟨w.heap.size, 1, none⟩ = some (.string (strOf x.b)) ∧ wa2.cell? ⟨w.heap.size, 2, none⟩ = some (.bool x.dirty) ∧ wa2.cell? ⟨w.heap.size, 3, none⟩ = some (.int .i64 (x.pins : Int)) := by have e := HSS _ ea2; exact e
  obtain ⟨z110, z111, z112, z113, z114⟩ : wb2.cell? ⟨c, 2, none⟩ = some (.slice (some ⟨g, 0, none⟩) C.L.length cap) ∧ wb2.cell? ⟨w.heap.size, 0, none⟩ = some (.int .i64 (x.n : Int)) ∧ wb2.cell? ⟨w.heap.size, 1, none⟩ = some (.string (strOf x.b)) ∧ wb2.cell? ⟨w.heap.size, 2, none⟩ = some (.bool x.dirty) ∧ wb2.cell? ⟨w.heap.size, 3, none⟩ = some (.int .i64 (x.pins : Int)) := by have e := HSS _ eb2; exact e
  obtain ⟨z120, z121, z122, z123, z124⟩ : wc2.cell? ⟨c, 2, none⟩ = some (.slice (some ⟨g, 0, none⟩) C.L.length cap) ∧ wc2.cell? ⟨w.heap.size, 0, none⟩ = some (.int .i64 (x.n : Int)) ∧ wc2.cell? ⟨w.heap.size, 1, none⟩ = some (.string (strOf x.b)) ∧ wc2.cell? ⟨w.heap.size, 2, none⟩ = some (.bool x.dirty) ∧ wc2.cell? ⟨w.heap.size, 3, none⟩ = some (.int .i64 (x.pins : Int)) := by have e := HSS _ ec2; exact e
  rw [hs1] at ra1' rb1' rd1' ra3' rb3'
  clear ra1 rb1 rd1 ra3 rb3 s0 hC'
  clear h hx hd hll hlen cW hWb hRW hgl hcl HSS jt jf c0 ca0 ca la ja oa1 ka1 na1 ea1 oa2 ka2 na2 ea2 na3 na4 oa3 ka3 ea3 cb0 cb lb0 lb jb ob1 kb1 nb1 eb1 ob2 kb2 nb2 eb2 nb3 nb4 ob3 kb3 eb3 od1 kd1 nd1 ed1 cc oc1 jc oc2 kc2 nc2 ec2 nc3 oc3 kc3 ec3 od2 kd2 nd2 ed2 cd od2' od3 kd3 ed3 HF fa1 fa2 fb1 fb2 fc1 fc2 fd1 fd2
  generalize ([] ++ xs ++ ys ++ [x]).length = N at *
  generalize C.L.length = n at *
  generalize xs.length = i at *
  generalize ys.length = m at *
  generalize strOf x.b = t at *
  generalize (x.n : Int) = xn at *
  generalize (x.pins : Int) = xp at *
  generalize x.dirty = xd at *
  go_enter Try.func59, Try.ntmps59
  go_wp2
  rw [← hW]
  clear hW
  go_region
  all_goals
    go_wp2
    all_goals
      go_end0
      exact ⟨rfl, by first | exact FA.out | exact FB.out | exact FC.out | exact FD.out⟩
end Go.Proofs.Ytioloobeakjbeaa

namespace Go.Proofs.Ytioloobeakjbeaa
open Go.RowKit Go.Maps
attribute [local go_sem ↓] Go.wp_at_zero Go.wp_at_succ

/-- The disk and the cache over it. -/
structure RCk (w : World) (G H : Nat → Prop) (c q : Nat) (S : St) (C : Ca) (lv : Value) : Prop where
  rk : Rk w G q S
  rc : RcAt w H c q C lv
  no : ∀ b, G b → ¬ H b
def Rcc (w : World) (K : Nat → Prop) (c q : Nat) (S : St) (C : Ca) : Prop := ∃ G H lv, RCk w G H c q S C lv ∧ (∀ b, G b → K b) ∧ (∀ b, H b → K b)
/-- What a call leaves. -/
def RCT (K : Nat → Prop) (c q : Nat) (w w' : World) (S' : St) (C' : Ca) : Prop := ∃ K', Rcc w' K' c q S' C' ∧ Chg K w w' ∧ ∀ b, K' b → K b ∨ w.heap.size ≤ b
theorem RCk.kept {E : Nat → Prop} {w w' : World} {G H : Nat → Prop} {c q : Nat} {S : St} {C : Ca} {lv : Value} (h : RCk w G H c q S C lv) (hc : Chg E w w') (hE : ∀ b, G b ∨ H b → ¬ E b) : RCk w' G H c q S C lv :=
  ⟨h.rk.kept hc (fun b hb => hE b (.inl hb)), h.rc.kept hc (fun b hb => hE b (.inr hb)), h.no⟩
/-- The disk has changed. -/
theorem RCk.disk {w w' : World} {G H : Nat → Prop} {c q : Nat} {S S' : St} {C : Ca} {lv : Value} (h : RCk w G H c q S C lv) (ht : RTo G q w w' S') : ∃ G', RCk w' G' H c q S' C lv ∧ Chg G w w' ∧ ∀ b, G' b → G b ∨ w.heap.size ≤ b := by
  obtain ⟨G', h1, h2, h3⟩ := ht
  refine ⟨G', ⟨h1, h.rc.kept h2 (fun b hb hg => h.no b hg hb), fun b hb hH => ?_⟩, h2, h3⟩
  rcases h3 b hb with e | e
  · exact h.no b e hH
  · have := h.rc.lt b hH; omega
/-- The cache has changed. -/
theorem RCk.cache {w w' : World} {G H : Nat → Prop} {c q : Nat} {S : St} {C C' : Ca} {lv : Value} (h : RCk w G H c q S C lv) (ht : RcTo H c q w w' C') : ∃ H' lv', RCk w' G H' c q S C' lv' ∧ Chg H w w' ∧ ∀ b, H' b → H b ∨ w.heap.size ≤ b := by
  obtain ⟨H', v', h1, h2, h3⟩ := ht
  refine ⟨H', v', ⟨h.rk.kept h2 (fun b hb hH => h.no b hb hH), h1, fun b hb hH => ?_⟩, h2, h3⟩
  rcases h3 b hH with e | e
  · exact h.no b hb e
  · have := h.rk.lt b hb; omega
theorem RCT.refl {K : Nat → Prop} {c q : Nat} {w : World} {S : St} {C : Ca} (h : Rcc w K c q S C) : RCT K c q w w S C := ⟨K, h, Chg.refl _ _, fun _ h => .inl h⟩
theorem RCT.trans {K K1 : Nat → Prop} {c q : Nat} {w w1 w2 : World} {S2 : St} {C2 : Ca} (hc : Chg K w w1) (hK : ∀ b, K1 b → K b ∨ w.heap.size ≤ b) (h : RCT K1 c q w1 w2 S2 C2) : RCT K c q w w2 S2 C2 := by
  obtain ⟨K', h1, h2, h3⟩ := h
  refine ⟨K', h1, hc.trans h2 (fun k hk e => ?_), fun b hb => ?_⟩
  · rcases hK k e with e2 | e2
    · exact e2
    · omega
  · rcases h3 b hb with e | e
    · exact hK b e
    · exact .inr (Nat.le_trans hc.size e)
/-- The disk and the cache have changed, one behind the other, or one alone. -/
theorem RCk.to {w w' : World} {G H G' H' K : Nat → Prop} {c q : Nat} {S S' : St} {C C' : Ca} {lv lv' : Value} (_h : RCk w G H c q S C lv) (hG : ∀ b, G b → K b) (hH : ∀ b, H b → K b) (h' : RCk w' G' H' c q S' C' lv')
    (hc : Chg (fun b => G b ∨ H b) w w') (g' : ∀ b, G' b → G b ∨ w.heap.size ≤ b) (h2 : ∀ b, H' b → H b ∨ w.heap.size ≤ b) : RCT K c q w w' S' C' := by
  refine ⟨fun b => G' b ∨ H' b, ⟨G', H', lv', h', fun b h => .inl h, fun b h => .inr h⟩, hc.mono (fun b _ e => ?_), fun b hb => ?_⟩
  · rcases e with e | e
    · exact hG b e
    · exact hH b e
  · rcases hb with e | e
    · rcases g' b e with e | e
      · exact .inl (hG b e)
      · exact .inr e
    · rcases h2 b e with e | e
      · exact .inl (hH b e)
      · exact .inr e

theorem rcut_facts {w : World} {H : Nat → Prop} {c q : Nat} {C : Ca} {g cap : Nat} {xs ys : List It} {x : It} (h : RcAt w H c q C (.slice (some ⟨g, 0, none⟩) C.L.length cap)) (hcap : C.L.length ≤ cap) (hL : C.L = xs ++ x :: ys) (hl : C.L.length ≤ 1024) (C' : Ca) (hC' : C' = { C with L := xs ++ ys, evicted := C.evicted + 1 }) :
    ∃ v1 w1 a2 n2 d2 w2, (appG #[45, 45] 45 #[.slice (some ⟨w.heap.size, 0, none⟩) 0 0, .slice (some ⟨g, 0, none⟩) xs.length cap]).run Try.prog (w.alloc (.cells #[] 92)).drew = .ok v1 w1 ∧
      (appG #[45, 45] 45 #[v1, .slice (if cap = xs.length + 1 then some ⟨g, 0, none⟩ else some ⟨g, (xs.length + 1) * 4, none⟩) (C.L.length - (xs.length + 1)) (cap - (xs.length + 1))]).run Try.prog w1 = .ok (.slice a2 n2 d2) w2 ∧
      (w.alloc (.cells #[] 92)).cell? ⟨c, 2, none⟩ = some (.slice (some ⟨g, 0, none⟩) C.L.length cap) ∧ w1.cell? ⟨c, 2, none⟩ = some (.slice (some ⟨g, 0, none⟩) C.L.length cap) ∧ w2.cell? ⟨c, 2, none⟩ = some (.slice (some ⟨g, 0, none⟩) C.L.length cap) ∧ w2.frozen? ⟨c, 2, none⟩ = false ∧
      (w2.setCell ⟨c, 2, none⟩ (.slice a2 n2 d2)).cell? ⟨c, 5, none⟩ = some (.int .i64 (C.evicted : Int)) ∧ (w2.setCell ⟨c, 2, none⟩ (.slice a2 n2 d2)).frozen? ⟨c, 5, none⟩ = false ∧
      Hid (RcTo H c q w ((w2.setCell ⟨c, 2, none⟩ (.slice a2 n2 d2)).setCell ⟨c, 5, none⟩ (.int .i64 ((C.evicted : Int) + 1))) C') := by
  have hlt : xs.length < C.L.length := by rw [hL]; simp
  have hd : C.L.drop (xs.length + 1) = ys := by rw [hL]; simp
  have hll : C.L.length = xs.length + 1 + ys.length := by rw [hL]; simp; omega
  have hlen : C.L.length - (xs.length + 1) = ys.length := by omega
  have hRW := h.kept (Chg.drew (fun _ => False) w) (fun _ _ h => h)
  have hgl : g < w.drew.heap.size := hRW.lt g (h.fl g rfl)
  have hcl : c < w.drew.heap.size := hRW.lt c h.fc
  have jt : ∀ w', Chg (fun k => w.drew.heap.size ≤ k) w.drew w' → Js w' (.slice (some ⟨g, 0, none⟩) xs.length cap) xs := fun w' hc => (Js.first hRW.row hL rfl cap).kept hc (fun k hk => by cases hk; show ¬ w.drew.heap.size ≤ g; omega)
  have jf : ∀ w', Chg (fun k => w.drew.heap.size ≤ k) w.drew w' → Js w' (.slice (if cap = xs.length + 1 then some ⟨g, 0, none⟩ else some ⟨g, (xs.length + 1) * 4, none⟩) (C.L.length - (xs.length + 1)) (cap - (xs.length + 1))) ys := fun w' hc => by
    split
    · exact (Js.part (i := xs.length + 1) (o := 0) hRW.row hd.symm (fun e => by omega) hlen _).kept hc (fun k hk => by cases hk; show ¬ w.drew.heap.size ≤ g; omega)
    · exact (Js.part (i := xs.length + 1) hRW.row hd.symm (fun _ => rfl) hlen _).kept hc (fun k hk => by cases hk; show ¬ w.drew.heap.size ≤ g; omega)
  have cb0 : Chg (fun k => w.drew.heap.size ≤ k) w.drew (w.drew.alloc (.cells #[] 92)) := Chg.alloc _ _ _
  obtain ⟨v1, w1, r1, o1, k1, _⟩ := (Ow.lit w.drew w.drew.heap.size (Nat.le_refl _)).app cb0.size (jt _ cb0) (by simp; omega)
  have e1 := cb0.trans k1 (fun _ _ h => h)
  obtain ⟨v2, w2, r2, o2, k2, _⟩ := o1.app e1.size (jf _ e1) (by simp; omega)
  have e2 := e1.trans k2 (fun _ _ h => h)
  obtain ⟨a2, d2, rfl⟩ := own_form o2.1
  obtain ⟨f1, f2, f3, f4⟩ := hRW.store e2 o2
  refine ⟨v1, w1, a2, _, d2, w2, r1, r2, cb0.cell hRW.c2 (by show ¬ w.drew.heap.size ≤ c; omega), e1.cell hRW.c2 (by show ¬ w.drew.heap.size ≤ c; omega), f3, f4, f1.c5, f1.fr 5, ?_⟩
  have hb := heap_setCell_same _ c 5 _ _ (.int .i64 ((C.evicted : Int) + 1)) f1.blk
  simp at hb
  have kc : Chg (fun k => k = c) (w2.setCell ⟨c, 2, none⟩ (.slice a2 ([] ++ xs ++ ys).length d2)) ((w2.setCell ⟨c, 2, none⟩ (.slice a2 ([] ++ xs ++ ys).length d2)).setCell ⟨c, 5, none⟩ (.int .i64 ((C.evicted : Int) + 1))) := Chg.setCell _ _ _ rfl
  refine ⟨_, _, f1.restruct (C' := C') kc ?_ ?_ f1.fl, ((Chg.drew H w).trans f2 (fun _ _ h => h)).trans kc (fun k _ e => by rw [e]; exact h.fc), fun b hb => ?_⟩
  · rw [hC']; simpa using hb
  · rw [hC']; exact f1.rsame kc
  · rcases hb with e | e
    · exact .inl e
    · exact .inr e.1

/-- The item at k goes, or none does, where k is -1. -/
def outC (C : Ca) (xs ys : List It) : Ca := { C with L := xs ++ ys, evicted := C.evicted + 1 }
attribute [local go_sem ↓] appG_eq
set_option maxHeartbeats 1600000 in
set_option maxRecDepth 100000 in
theorem revict_clean (H : Nat → Prop) (c q : Nat) (C : Ca) (lv : Value) (xs ys : List It) (x : It) (w : World) (h : RcAt w H c q C lv) (hL : C.L = xs ++ x :: ys) (hl : C.L.length ≤ 1024) (hev : C.evicted < 1099511627776) (hx : x.dirty = false) :
    Calls Try.prog 62 #[.pointer (some ⟨c, 0, none⟩), .int .i64 (xs.length : Int)] w fun e w' => e = .returned (.int .i64 0) ∧ RcTo H c q w w' (outC C xs ys) := by
  have hlt : xs.length < C.L.length := by rw [hL]; simp
  obtain ⟨g, cap, rfl, hcap, _, _⟩ := h.sm hlt
  obtain ⟨v1, w1, a2, n2, d2, w2, r1, r2, z0, z1, z2, z3, z4, z5, HQ⟩ := rcut_facts h hcap hL hl (outC C xs ys) rfl
  have c2 := h.c2
  have hxx : C.L[xs.length] = x := by simp [hL]
  have i2 := h.item (k := 2) hlt (by decide) rfl
  rw [hxx] at i2
  rw [hx] at i2
  have hlt' : (xs.length : Int) < (C.L.length : Int) := by omega
  have hev' : (C.evicted : Int) < 1099511627776 := by omega
  have hev0 : (0 : Int) ≤ (C.evicted : Int) := by omega
  clear h hlt hL hxx
  generalize (C.evicted : Int) = ev at *
  generalize C.L.length = n at *
  generalize xs.length = i at *
  go_enter Try.func62, Try.ntmps62
  go_wp2_with fail
  go_region
  all_goals
    go_wp2
    all_goals
      go_ret
      exact ⟨rfl, HQ.out⟩

theorem revict_none (c : Nat) (w : World) : Calls Try.prog 62 #[.pointer (some ⟨c, 0, none⟩), .int .i64 (-1)] w fun e w' => e = .returned (.int .i64 0) ∧ w' = w := by
  go_enter Try.func62, Try.ntmps62
  go_wp2
  go_ret
  exact ⟨rfl, rfl⟩

/-- What a call leaves that may change both. -/
def EvTo (G H : Nat → Prop) (c q : Nat) (w w' : World) (S' : St) (C' : Ca) : Prop := ∃ G' H' lv', RCk w' G' H' c q S' C' lv' ∧ Chg (fun b => G b ∨ H b) w w' ∧ (∀ b, G' b → G b ∨ w.heap.size ≤ b) ∧ (∀ b, H' b → H b ∨ w.heap.size ≤ b)
theorem EvTo.rct {G H K : Nat → Prop} {c q : Nat} {w w' : World} {S' : St} {C' : Ca} (h : EvTo G H c q w w' S' C') (hG : ∀ b, G b → K b) (hH : ∀ b, H b → K b) : RCT K c q w w' S' C' := by
  obtain ⟨G', H', lv', h1, hc, g', h2⟩ := h
  refine ⟨fun b => G' b ∨ H' b, ⟨G', H', lv', h1, fun b h => .inl h, fun b h => .inr h⟩, hc.mono (fun b _ e => ?_), fun b hb => ?_⟩
  · rcases e with e | e
    · exact hG b e
    · exact hH b e
  · rcases hb with e | e
    · rcases g' b e with e | e
      · exact .inl (hG b e)
      · exact .inr e
    · rcases h2 b e with e | e
      · exact .inl (hH b e)
      · exact .inr e

set_option maxHeartbeats 1600000 in
set_option maxRecDepth 100000 in
theorem revict_dirty (G H : Nat → Prop) (c q : Nat) (S : St) (C : Ca) (lv : Value) (xs ys : List It) (x : It) (w : World) (h : RCk w G H c q S C lv) (hL : C.L = xs ++ x :: ys) (hl : C.L.length ≤ 1024) (hev : C.evicted < 1099511627776) (hxl : x.b.length = 512) (hx : x.dirty = true) (hw : S.writes < 1099511627776)
    (E : Int) (S' : St) (C' : Ca) (hE : E = S.writeE x.n x.b) (hS : S' = S.write x.n x.b) (hC : C' = if E = 0 then outC C xs ys else C) :
    Calls Try.prog 62 #[.pointer (some ⟨c, 0, none⟩), .int .i64 (xs.length : Int)] w fun e w' => e = .returned (.int .i64 E) ∧ EvTo G H c q w w' S' C' := by
  have hlt : xs.length < C.L.length := by rw [hL]; simp
  obtain ⟨g, cap, rfl, hcap, _, _⟩ := h.rc.sm hlt
  have hxx : C.L[xs.length] = x := by simp [hL]
  have c0 := h.rc.c0
  have c2 := h.rc.c2
  have i0 := h.rc.item (k := 0) hlt (by decide) rfl
  have i1 := h.rc.item (k := 1) hlt (by decide) rfl
  have i2 := h.rc.item (k := 2) hlt (by decide) rfl
  rw [hxx] at i0 i1 i2
  rw [hx] at i2
  rw [Nat.add_zero] at i0
  have hlt' : (xs.length : Int) < (C.L.length : Int) := by omega
  have hev' : (C.evicted : Int) < 1099511627776 := by omega
  have hev0 : (0 : Int) ≤ (C.evicted : Int) := by omega
  have cd := Chg.drew (fun _ => False) w
  have hd := h.kept cd (fun _ _ h => h)
  have W0 := rwrite_any G q S x.n x.b w.drew hd.rk hw (by omega)
  rw [← hE, ← hS] at W0
  obtain ⟨n, hn⟩ : ∃ n, C.L.length = n := ⟨_, rfl⟩
  obtain ⟨i, hi⟩ : ∃ n, xs.length = n := ⟨_, rfl⟩
  obtain ⟨xn, hxn⟩ : ∃ n, (x.n : Int) = n := ⟨_, rfl⟩
  obtain ⟨t, ht⟩ : ∃ n, strOf x.b = n := ⟨_, rfl⟩
  obtain ⟨ev, hee⟩ : ∃ n, (C.evicted : Int) = n := ⟨_, rfl⟩
  have WR : Hid (Calls Try.prog 63 #[.pointer (some ⟨q, 0, none⟩), .int .i64 xn, .string t] w.drew fun e w1 => e = .returned (.int .i64 E) ∧ w1.cell? ⟨c, 0, none⟩ = some (.pointer (some ⟨q, 0, none⟩)) ∧ w1.cell? ⟨c, 2, none⟩ = some (.slice (some ⟨g, 0, none⟩) n cap) ∧
      w1.cell? ⟨g, i * 4, none⟩ = some (.int .i64 xn) ∧ w1.cell? ⟨g, i * 4 + 1, none⟩ = some (.string t) ∧ Hid (∃ G1, RCk w1 G1 H c q S' C (.slice (some ⟨g, 0, none⟩) C.L.length cap) ∧ Chg G w w1 ∧ ∀ b, G1 b → G b ∨ w.heap.size ≤ b) ∧
      (E = 0 → ∃ v1 w3 a2 n2 d2 w2, (appG #[45, 45] 45 #[.slice (some ⟨w1.heap.size, 0, none⟩) 0 0, .slice (some ⟨g, 0, none⟩) i cap]).run Try.prog (w1.alloc (.cells #[] 92)).drew = .ok v1 w3 ∧
        (appG #[45, 45] 45 #[v1, .slice (if cap = i + 1 then some ⟨g, 0, none⟩ else some ⟨g, (i + 1) * 4, none⟩) (n - (i + 1)) (cap - (i + 1))]).run Try.prog w3 = .ok (.slice a2 n2 d2) w2 ∧
        (w1.alloc (.cells #[] 92)).cell? ⟨c, 2, none⟩ = some (.slice (some ⟨g, 0, none⟩) n cap) ∧ w3.cell? ⟨c, 2, none⟩ = some (.slice (some ⟨g, 0, none⟩) n cap) ∧ w2.cell? ⟨c, 2, none⟩ = some (.slice (some ⟨g, 0, none⟩) n cap) ∧ w2.frozen? ⟨c, 2, none⟩ = false ∧
        (w2.setCell ⟨c, 2, none⟩ (.slice a2 n2 d2)).cell? ⟨c, 5, none⟩ = some (.int .i64 ev) ∧ (w2.setCell ⟨c, 2, none⟩ (.slice a2 n2 d2)).frozen? ⟨c, 5, none⟩ = false ∧
        Hid (EvTo G H c q w ((w2.setCell ⟨c, 2, none⟩ (.slice a2 n2 d2)).setCell ⟨c, 5, none⟩ (.int .i64 (ev + 1))) S' C'))) := by
    rw [← hxn, ← ht]
    refine W0.mono ?_
    rintro e w1 ⟨rfl, ht1⟩
    obtain ⟨G1, k1, k2, k3⟩ := hd.disk ht1
    have j0 := k1.rc.item (k := 0) hlt (by decide) rfl
    have j1 := k1.rc.item (k := 1) hlt (by decide) rfl
    rw [hxx] at j0 j1
    have k2' : Chg G w w1 := (cd.mono (fun _ _ h => h.elim)).trans k2 (fun _ _ h => h)
    refine ⟨rfl, k1.rc.c0, by rw [← hn]; exact k1.rc.c2, by rw [← hi]; exact j0, by rw [← hi]; exact j1, ⟨G1, k1, k2', k3⟩, fun h0 => ?_⟩
    obtain ⟨v1, w3, a2, n2, d2, w2, r1, r2, z0, z1, z2, z3, z4, z5, HZ⟩ := rcut_facts k1.rc hcap hL hl (outC C xs ys) rfl
    simp only [hn, hi, hee] at r1 r2 z0 z1 z2 z3 z4 z5 HZ
    refine ⟨v1, w3, a2, n2, d2, w2, r1, r2, z0, z1, z2, z3, z4, z5, ?_⟩
    obtain ⟨H', lv', m1, m2, m3⟩ := k1.cache HZ.out
    rw [if_pos h0] at hC
    rw [hC]
    refine ⟨G1, H', lv', m1, (k2'.mono (fun _ _ h => .inl h)).trans m2 (fun _ _ h => .inr h), k3, fun b hb => ?_⟩
    rcases m3 b hb with e | e
    · exact .inl e
    · exact .inr (Nat.le_trans k2'.size e)
  rw [hn] at c2 hlt' hl hcap
  rw [hi] at i0 i1 i2 hlt'
  rw [ht] at i1
  rw [hee] at hev' hev0
  rw [hxn] at i0
  rw [hi]
  have HC : Hid (E ≠ 0 → C' = C) := (show E ≠ 0 → C' = C from fun h0 => by rw [hC, if_neg h0])
  clear h hd cd W0 hlt hL hxx hn hi hxn ht hee hE hS hC hx hev hw
  go_enter Try.func62, Try.ntmps62
  go_wp2_with fail
  go_region_held (fun w' => w'.cell? ⟨c, 0, none⟩ = some (.pointer (some ⟨q, 0, none⟩)) ∧ w'.cell? ⟨c, 2, none⟩ = some (.slice (some ⟨g, 0, none⟩) n cap) ∧ w'.cell? ⟨g, i * 4, none⟩ = some (.int .i64 xn) ∧ w'.cell? ⟨g, i * 4 + 1, none⟩ = some (.string t))
    (first | assumption | exact ⟨c0, c2, i0, i1⟩ | exact ⟨q0, q1, q2, q3⟩)
    (first | (go_at_call 63; refine WR.out.mono ?_; clear WR; rintro e w1 ⟨rfl, q0, q1, q2, q3, HK, hz⟩))
  all_goals
    clear c0 c2 i0 i1 i2 q0 q2 q3
    by_cases he : E = 0
    · subst he
      obtain ⟨v1, w3, a2, n2, d2, w2, r1, r2, z0, z1, z2, z3, z4, z5, HZ⟩ := hz rfl
      clear hz HK
      go_wp2_with fail
      go_region
      all_goals
        go_wp2
        all_goals
          go_ret
          exact ⟨rfl, HZ.out⟩
    · have he0 : (E == 0) = false := by simpa using he
      clear hz
      go_wp2
      go_ret
      obtain ⟨G1, k1, k2, k3⟩ := HK.out
      rw [HC.out he]
      exact ⟨rfl, G1, H, _, k1, k2.mono (fun _ _ h => .inl h), k3, fun _ h => .inl h⟩
end Go.Proofs.Ytioloobeakjbeaa

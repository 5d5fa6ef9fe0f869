/-
  A node is taken into the ring and the map of the cache; a node of the ring is used again: what comes of it.
-/
import Derived.Test.YtioloobeakjbeaaClean
namespace Go.Proofs.Ytioloobeakjbeaa
open Go.RowKit Go.Maps

/-- The nodes, and a new one. -/
def addN (nd : Nat → Node) (a n : Nat) (u : Value) (fb : List Int) (x y : Nat) : Nat → Node := fun b => if b = a then ⟨n, u, fb, false, 0, x, y⟩ else nd b
theorem addN_same (nd : Nat → Node) (a n : Nat) (u : Value) (fb : List Int) (x y : Nat) : addN nd a n u fb x y a = ⟨n, u, fb, false, 0, x, y⟩ := by simp [addN]
theorem addN_other (nd : Nat → Node) {a b : Nat} (n : Nat) (u : Value) (fb : List Int) (x y : Nat) (h : b ≠ a) : addN nd a n u fb x y b = nd b := by simp [addN, h]

theorem NewN.same {w w' : World} {a n : Nat} {u : Value} (h : NewN w a n u) (hb : w'.heap[a]? = w.heap[a]?) : NewN w' a n u := hb.trans h
theorem NewN.lt {w : World} {a n : Nat} {u : Value} (h : NewN w a n u) : a < w.heap.size := (Array.getElem?_eq_some_iff.1 h).1

theorem miss_cell (C : Ca) (n : Nat) (b : List Int) : (C.add n b) = { C with L := C.L ++ [⟨n, b, false, 0⟩], misses := C.misses + 1 } := rfl

set_option maxHeartbeats 800000 in
/-- The new node comes to the map and to the ring. -/
theorem add_ready {w : World} {G : Nat → Prop} {c p nb : Nat} {C : Ca} {m r : Nat} {ls : List Nat} {nd : Nat → Node} {a n : Nat} {u : Value} {fb : List Int} (h : CaAt w G c p nb C m r ls nd) (hN : NewN w a n u) (ho : w.ownsRow 0 5 1 u 512 (bcells fb)) (hwf : (C.add n fb).Wf nb)
    (hn : n < nb) (hno : ∀ b ∈ ls, (nd b).n ≠ n) (ha : ¬ G a) (hg : ∀ g, u.ownBlock = some g → ¬ G g) :
    ∃ w3, (Instr.mapUpdate 74 (.map (some m)) (.int .i64 (n : Int)) (.pointer (some ⟨a, 0, none⟩))).run Try.prog (w.setCell ⟨c, 5, none⟩ (.int .i64 ((C.misses : Int) + 1))) = .ok () w3 ∧ w3.cell? ⟨c, 3, none⟩ = some (.pointer (some ⟨r, 0, none⟩)) ∧
      Calls Try.prog 77 #[.pointer (some ⟨a, 0, none⟩), .pointer (some ⟨r, 0, none⟩)] w3 fun e w4 => e = .returned (.tuple #[]) ∧ (∃ nd', CaAt w4 (fun b => G b ∨ b = a ∨ u.ownBlock = some b) c p nb (C.add n fb) m r (ls ++ [a]) nd') ∧ Chg (fun b => G b ∨ b = a) w w4 := by
  obtain ⟨w2, hw2⟩ : ∃ w2, w.setCell ⟨c, 5, none⟩ (.int .i64 ((C.misses : Int) + 1)) = w2 := ⟨_, rfl⟩
  rw [hw2]
  have cg2 : Chg (fun b => b = c) w w2 := by rw [← hw2]; exact Chg.setCell _ _ _ rfl
  have hb5 := heap_setCell_same w c 5 _ _ (.int .i64 ((C.misses : Int) + 1)) h.blk
  rw [hw2] at hb5
  simp at hb5
  have hac : a ≠ c := fun e => ha (e ▸ h.fc)
  have ham : a ≠ m := fun e => ha (e ▸ h.fm)
  have hal : a ∉ r :: ls := fun e => ha (h.fn a e)
  have hcm := h.c_ne.1
  have N2 : NewN w2 a n u := hN.same (cg2.block a hN.lt hac)
  have hnl : ∀ b ∈ r :: ls, b ≠ a := fun b hb e => hal (e ▸ hb)
  -- the map
  have mp2 : Mp w2 m nb ls (addN nd a n u fb r (nd r).y) := (h.map.kept (cg2.block m h.map.lt (fun e => hcm e.symm))).congr (fun _ => Iff.rfl) (fun b hb => by rw [addN_other _ _ _ _ _ _ (hnl b (List.mem_cons_of_mem _ hb))])
  obtain ⟨w3, hrun, mp3, g3, s3⟩ := mp2.store h.nbt (a := a) hn (fun b hb => by rw [addN_other _ _ _ _ _ _ (hnl b (List.mem_cons_of_mem _ hb))]; exact hno b hb) (by rw [addN_same])
  have cg3 : Chg (fun b => b = m) w2 w3 := (Chg.ofGrown g3).mono (fun b _ e => (Option.some.inj e).symm)
  have blk3 := (cg3.block c (Array.getElem?_eq_some_iff.1 hb5).1 hcm).trans hb5
  have N3 : NewN w3 a n u := N2.same (cg3.block a N2.lt ham)
  have nds3 : Nds w3 (r :: ls) nd := (h.nodes.kept cg2 (fun b hb e => (h.node_ne hb).1 e)).kept cg3 (fun b hb e => (h.node_ne hb).2.1 e)
  have hr3 := nds3 r (by simp)
  have hoM : (nd r).y ∈ r :: ls := chain_y_mem h.chain
  have ho3 := nds3 _ hoM
  refine ⟨w3, hrun, by rw [cell_of_row w3 c 3 _ _ _ blk3]; rfl, ?_⟩
  have N3' : w3.heap[a]? = some (.cells #[.int .i64 (n : Int), u, .bool false, .int .i64 0, .pointer none, .pointer none] 95 (0, 0)) := N3
  refine (enter_any w3 a r (nd r).y hr3.c5 ⟨.pointer none, by rw [cell_of_row w3 a 5 _ _ _ N3']; rfl⟩ ⟨.pointer none, by rw [cell_of_row w3 a 4 _ _ _ N3']; rfl⟩ ⟨_, ho3.c4⟩ (by simp [World.frozen?, N3']) (by simp [World.frozen?, N3']) (ho3.fr 4) (hr3.fr 5) (hnl r (by simp)) (hnl _ hoM)).mono ?_
  rintro e w4 ⟨rfl, q, rfl⟩
  -- the ring
  obtain ⟨nd2, hnd2⟩ : ∃ nd2, addN nd a n u fb r (nd r).y = nd2 := ⟨_, rfl⟩
  have hnd2r : nd2 r = nd r := by rw [← hnd2]; exact addN_other _ _ _ _ _ _ (hnl r (by simp))
  have hnd2a : nd2 a = ⟨n, u, fb, false, 0, r, (nd r).y⟩ := by rw [← hnd2]; exact addN_same _ _ _ _ _ _ _
  have hnd2o : ∀ b ∈ r :: ls, nd2 b = nd b := fun b hb => by rw [← hnd2]; exact addN_other _ _ _ _ _ _ (hnl b hb)
  have hN1 := heap_setCell_same w3 a 5 _ _ (.pointer (some ⟨(nd r).y, 0, none⟩)) N3'
  have hN2 := heap_setCell_same _ a 4 _ _ (.pointer (some ⟨r, 0, none⟩)) hN1
  simp at hN2
  have nds' : Nds ((w3.setCell ⟨a, 5, none⟩ (.pointer (some ⟨(nd r).y, 0, none⟩))).setCell ⟨a, 4, none⟩ (.pointer (some ⟨r, 0, none⟩))) (r :: (ls ++ [a])) nd2 := by
    intro b hb
    by_cases e : b = a
    · subst e
      rw [hnd2a]; exact hN2
    · have hbm : b ∈ r :: ls := by
        rcases List.mem_cons.1 hb with h | h
        · subst h; simp
        · rcases List.mem_append.1 h with h | h
          · exact List.mem_cons_of_mem _ h
          · simp at h; exact absurd h e
      rw [hnd2o b hbm]
      exact ((nds3 b hbm).same (Below.heap_setCell w3 _ _ b e)).same (Below.heap_setCell _ _ _ b e)
  have hmemr : r ∈ r :: (ls ++ [a]) := by simp
  have hmemo : (nd r).y ∈ r :: (ls ++ [a]) := by
    rcases List.mem_cons.1 hoM with h | h
    · rw [h]; simp
    · exact List.mem_cons_of_mem _ (List.mem_append_left _ h)
  have nds4 := (nds'.setX hmemo a).setY hmemr a
  have inner : setX (setY nd2 a (nd r).y) a r = nd2 := by
    funext b
    unfold _root_.Go.Proofs.Ytioloobeakjbeaa.setX _root_.Go.Proofs.Ytioloobeakjbeaa.setY
    by_cases e : b = a
    · rw [if_pos e, if_pos e, e, hnd2a]
    · rw [if_neg e, if_neg e]
  have ent : setY (setX nd2 (nd r).y a) r a = entered nd2 r a := by
    unfold entered
    rw [hnd2r, inner]
  rw [ent] at nds4
  have ch2 : Chain nd2 r ls r := chain_congr h.chain (fun b hb => by rw [hnd2o b hb]) (fun b hb => by
    rcases List.mem_append.1 hb with h | h
    · rw [hnd2o b (List.mem_cons_of_mem _ h)]
    · simp at h; rw [h, hnd2r])
  have ch4 := chain_enter h.nodup hal ch2
  have W4 : enterW w3 a r (nd r).y = (((w3.setCell ⟨a, 5, none⟩ (.pointer (some ⟨(nd r).y, 0, none⟩))).setCell ⟨a, 4, none⟩ (.pointer (some ⟨r, 0, none⟩))).setCell ⟨(nd r).y, 4, none⟩ (.pointer (some ⟨a, 0, none⟩))).setCell ⟨r, 5, none⟩ (.pointer (some ⟨a, 0, none⟩)) := rfl
  have nds5 : Nds ((enterW w3 a r (nd r).y).drewN q) (r :: (ls ++ [a])) (entered nd2 r a) := nds4
  have cg4 : Chg (fun b => b ∈ r :: (ls ++ [a])) w3 ((enterW w3 a r (nd r).y).drewN q) := (chg_enter w3 (by simp) hmemr hmemo).trans (Chg.drewN _ _ _) (fun _ _ h => h)
  obtain ⟨w5, hw5⟩ : ∃ w5, (enterW w3 a r (nd r).y).drewN q = w5 := ⟨_, rfl⟩
  rw [hw5] at nds5 cg4 ⊢
  clear nds4 nds' W4 hw5
  have hl4 : w.heap.size ≤ w5.heap.size := Nat.le_trans cg2.size (Nat.le_trans cg3.size cg4.size)
  have hmem : ∀ b, b ∈ r :: (ls ++ [a]) → b ∈ r :: ls ∨ b = a := fun b hb => by
    rcases List.mem_cons.1 hb with h | h
    · subst h; exact .inl (by simp)
    · rcases List.mem_append.1 h with h | h
      · exact .inl (List.mem_cons_of_mem _ h)
      · simp at h; exact .inr h
  have hother : ∀ b, b < w.heap.size → b ≠ c → b ≠ m → b ∉ r :: ls → b ≠ a → w5.heap[b]? = w.heap[b]? := fun b hb h1 h2 h3 h4 => by
    have e1 := cg2.block b hb h1
    have e2 := cg3.block b (Nat.lt_of_lt_of_le hb cg2.size) h2
    have e3 := cg4.block b (Nat.lt_of_lt_of_le hb (Nat.le_trans cg2.size cg3.size)) (fun e => by
      rcases hmem b e with e | e
      · exact h3 e
      · exact h4 e)
    exact e3.trans (e2.trans e1)
  have hgrow : Chg (fun b => G b ∨ b = a) w w5 :=
    (cg2.mono (S' := fun b => G b ∨ b = a) (fun b _ e => .inl (by rw [e]; exact h.fc))).trans ((cg3.mono (S' := fun b => G b ∨ b = a) (fun b _ e => .inl (by rw [e]; exact h.fm))).trans (cg4.mono (S' := fun b => G b ∨ b = a) (fun b _ e => by
      rcases hmem b e with e | e
      · exact .inl (h.fn b e)
      · exact .inr e)) (fun _ _ h => h)) (fun _ _ h => h)
  have it5 : ∀ b, (entered nd2 r a b).it = (nd2 b).it ∧ (entered nd2 r a b).v = (nd2 b).v := fun b => entered_it nd2 r a b
  have hcr : c ∉ r :: (ls ++ [a]) := fun e => by
    rcases hmem c e with e | e
    · exact (h.node_ne e).1 rfl
    · exact hac e.symm
  have hmr : m ∉ r :: (ls ++ [a]) := fun e => by
    rcases hmem m e with e | e
    · exact (h.node_ne e).2.1 rfl
    · exact ham e.symm
  have hlsm : ∀ b ∈ ls ++ [a], b ∈ ls ∨ b = a := fun b hb => by
    rcases List.mem_append.1 hb with h | h
    · exact .inl h
    · simp at h; exact .inr h
  refine ⟨rfl, ⟨entered nd2 r a, hwf, h.nbt, ?_, ?_, nds5, ?_, ch4, ?_, fun b hb => ?_, fun b hb b2 hb2 hne g hgb => ?_, .inl h.fc, .inl h.fm, fun b hb => ?_, fun b hb g hgb => ?_, fun b hb => ?_⟩, hgrow⟩
  · exact (cg4.block c (Array.getElem?_eq_some_iff.1 blk3).1 hcr).trans blk3
  · rw [hnd2] at mp3
    exact (mp3.kept (cg4.block m mp3.lt hmr)).congr (fun _ => Iff.rfl) (fun b _ => congrArg It.n (it5 b).1)
  · refine List.nodup_cons.2 ⟨fun e => ?_, ?_⟩
    · rcases hlsm r e with e | e
      · exact (List.nodup_cons.1 h.nodup).1 e
      · exact hnl r (by simp) e
    · refine List.nodup_append.2 ⟨(List.nodup_cons.1 h.nodup).2, by simp, fun x hx y hy e => ?_⟩
      simp at hy
      exact hnl x (List.mem_cons_of_mem _ hx) (e.trans hy)
  · show C.L ++ [⟨n, fb, false, 0⟩] = _
    have e1 : (ls.map fun b => (entered nd2 r a b).it) = ls.map fun b => (nd b).it := List.map_congr_left (fun b hb => by rw [(it5 b).1, hnd2o b (List.mem_cons_of_mem _ hb)])
    have e2 : (entered nd2 r a a).it = ⟨n, fb, false, 0⟩ := by rw [(it5 a).1, hnd2a]; rfl
    rw [List.map_append, e1, h.items, List.map_cons, List.map_nil, e2]
  · rw [(it5 b).2, show (entered nd2 r a b).b = (nd2 b).b from congrArg It.b (it5 b).1]
    rcases hlsm b hb with hb | hb
    · rw [hnd2o b (List.mem_cons_of_mem _ hb)]
      refine own_same (h.own b hb) (fun g hg2 => ?_)
      have hG := h.fb b hb g hg2
      exact hother g (h.lt g hG) (fun e => h.c_ne.2 b hb g hg2 e.symm) (fun e => h.m_ne b hb g hg2 e.symm) (fun e => (h.node_ne e).2.2 b hb g hg2 rfl) (fun e => ha (e ▸ hG))
    · subst hb
      rw [hnd2a]
      refine own_same ho (fun g hg2 => ?_)
      have hG := hg g hg2
      refine hother g (ho.lt g hg2).2 (fun e => hG (e ▸ h.fc)) (fun e => hG (e ▸ h.fm)) (fun e => hG (h.fn g e)) (fun e => ?_)
      obtain ⟨cur, hcur⟩ := own_obj ho hg2
      rw [e] at hcur
      have : w.heap[b]? = some (.cells _ 95 (0, 0)) := hN
      rw [hcur] at this; cases this
  · rw [(it5 b).2] at hgb
    rw [(it5 b2).2]
    rcases hlsm b hb with hb | hb <;> rcases hlsm b2 hb2 with hb2 | hb2
    · rw [hnd2o b (List.mem_cons_of_mem _ hb)] at hgb
      rw [hnd2o b2 (List.mem_cons_of_mem _ hb2)]
      exact h.apart b hb b2 hb2 hne g hgb
    · rw [hnd2o b (List.mem_cons_of_mem _ hb)] at hgb
      rw [hb2, hnd2a]
      exact fun e => hg g e (h.fb b hb g hgb)
    · rw [hb, hnd2a] at hgb
      rw [hnd2o b2 (List.mem_cons_of_mem _ hb2)]
      exact fun e => hg g hgb (h.fb b2 hb2 g e)
    · exact absurd (hb.trans hb2.symm) hne
  · rcases hmem b hb with e | e
    · exact .inl (h.fn b e)
    · exact .inr (.inl e)
  · rw [(it5 b).2] at hgb
    rcases hlsm b hb with hb | hb
    · rw [hnd2o b (List.mem_cons_of_mem _ hb)] at hgb
      exact .inl (h.fb b hb g hgb)
    · rw [hb, hnd2a] at hgb
      exact .inr (.inr hgb)
  · have := hl4
    rcases hb with e | e | e
    · have := h.lt b e; omega
    · have := hN.lt; omega
    · have := (ho.lt b e).2; omega

theorem mem_last {xs ys : List Nat} {a b : Nat} : b ∈ (xs ++ ys) ++ [a] ↔ b ∈ xs ++ a :: ys := by
  simp only [List.mem_append, List.mem_cons, List.not_mem_nil, or_false]
  constructor
  · rintro ((h | h) | h)
    · exact .inl h
    · exact .inr (.inr h)
    · exact .inr (.inl h)
  · rintro (h | h | h)
    · exact .inl (.inl h)
    · exact .inr h
    · exact .inl (.inr h)
/-- A node of the ring is used again. -/
theorem hit_ready {w : World} {G : Nat → Prop} {c p nb : Nat} {C : Ca} {m r : Nat} {xs ys : List Nat} {a : Nat} {nd : Nat → Node} (h : CaAt w G c p nb C m r (xs ++ a :: ys) nd) :
    Calls Try.prog 76 #[.pointer (some ⟨a, 0, none⟩)] (w.setCell ⟨c, 4, none⟩ (.int .i64 ((C.hits : Int) + 1))) fun e w2 => e = .returned (.tuple #[]) ∧ w2.cell? ⟨c, 3, none⟩ = some (.pointer (some ⟨r, 0, none⟩)) ∧
      Hid (Calls Try.prog 77 #[.pointer (some ⟨a, 0, none⟩), .pointer (some ⟨r, 0, none⟩)] w2 fun e w3 => e = .returned (.tuple #[]) ∧ ∃ nd', CaAt w3 G c p nb (C.hit (nd a).n) m r ((xs ++ ys) ++ [a]) nd' ∧ Chg G w w3) := by
  obtain ⟨w1, hw1⟩ : ∃ w1, w.setCell ⟨c, 4, none⟩ (.int .i64 ((C.hits : Int) + 1)) = w1 := ⟨_, rfl⟩
  rw [hw1]
  have cg1 : Chg (fun b => b = c) w w1 := by rw [← hw1]; exact Chg.setCell _ _ _ rfl
  have hb4 := heap_setCell_same w c 4 _ _ (.int .i64 ((C.hits : Int) + 1)) h.blk
  rw [hw1] at hb4
  simp at hb4
  have h1 : CaAt w1 G c p nb { C with hits := C.hits + 1 } m r (xs ++ a :: ys) nd := h.restruct cg1 hb4 (h.wf.perm (List.Perm.refl _) (Nat.le_succ _)) rfl
  refine (leave_at h1.nodes h1.nodup h1.chain).mono ?_
  rintro e w2 ⟨rfl, n2, ch2, cg2⟩
  have hc2 := cg2.block c h1.clt (fun e => (h1.node_ne e).1 rfl)
  have hsub : ∀ b ∈ r :: (xs ++ ys), b ∈ r :: (xs ++ a :: ys) := fun b hb => mem_mid hb
  have hd2 : (r :: (xs ++ ys)).Nodup := h1.nodup.sublist (List.Sublist.cons_cons _ (List.Sublist.append_left (List.sublist_cons_self _ _) _))
  have hna : a ∉ r :: (xs ++ ys) := by
    have hd := h1.nodup
    simp only [List.nodup_cons, List.mem_append, List.mem_cons, not_or, List.nodup_append] at hd
    obtain ⟨⟨d1, d2, d3⟩, d4, ⟨d5, d6⟩, d7⟩ := hd
    simp only [List.mem_cons, List.mem_append, not_or]
    exact ⟨fun e => d2 e.symm, fun e => d7 a e a (.inl rfl) rfl, d5⟩
  refine ⟨rfl, ?_, ?_⟩
  · have blk2 := hc2.trans h1.blk
    rw [cell_of_row w2 c 3 _ _ _ blk2]; rfl
  · show Calls _ _ _ _ _
    refine (enter_at n2 hsub (by simp) hna hd2 ch2).mono ?_
    rintro e w3 ⟨rfl, n3, ch3, cg3⟩
    have cg23 : Chg (fun b => b ∈ r :: (xs ++ a :: ys)) w1 w3 := cg2.trans cg3 (fun _ _ h => h)
    have hit : ∀ b, (entered (left nd a) r a b).it = (nd b).it ∧ (entered (left nd a) r a b).v = (nd b).v := fun b => ⟨(entered_it _ _ _ _).1.trans (left_it nd a b).1, (entered_it _ _ _ _).2.trans (left_it nd a b).2⟩
    have hmm : ∀ b, b ∈ (xs ++ ys) ++ [a] ↔ b ∈ xs ++ a :: ys := fun b => mem_last
    refine ⟨rfl, _, h1.ring (C' := C.hit (nd a).n) cg23 n3 hit hmm ?_ ch3 (Ca.hit_wf h.wf _) ?_ rfl rfl rfl rfl, ?_⟩
    · refine List.nodup_append.2 ⟨(List.nodup_cons.1 hd2).2, by simp, fun x hx y hy e => ?_⟩
      simp at hy
      exact hna (List.mem_cons_of_mem _ (by rw [← hy, ← e]; exact hx))
    · show (C.L.filter fun i => i.n != (nd a).n) ++ (C.L.filter fun i => i.n == (nd a).n) = _
      have := (Ca.filter_eq h.wf.uniq (i := (nd a).it) (xs := xs.map fun b => (nd b).it) (ys := ys.map fun b => (nd b).it) (by rw [h.items]; simp)).2
      rw [filter_mid h.wf.uniq h.items, show (nd a).n = (nd a).it.n from rfl, this]
      simp
    · exact (cg1.mono (S' := G) (fun b _ e => by rw [e]; exact h.fc)).trans (cg23.mono (S' := G) (fun b _ e => h.fn b e)) (fun _ _ h => h)
end Go.Proofs.Ytioloobeakjbeaa

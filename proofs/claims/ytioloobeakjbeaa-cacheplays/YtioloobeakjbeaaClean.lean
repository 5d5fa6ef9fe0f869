/-
  The contracts of clean and evict of package cache.
-/
import Derived.Test.YtioloobeakjbeaaCMem
import Derived.Test.YtioloobeakjbeaaHelp
namespace Go.Proofs.Ytioloobeakjbeaa
open Go.RowKit Go.Maps

section
variable {w : World} {G : Nat → Prop} {c p nb : Nat} {C : Ca} {m r : Nat} {ls : List Nat} {nd : Nat → Node}
/-- Only nodes of the ring have changed: what is dirty, or pinned. -/
theorem CaAt.node {w' : World} {C' : Ca} {nd' : Nat → Node} (h : CaAt w G c p nb C m r ls nd) (hc : Chg (fun k => k ∈ r :: ls) w w') (hn : Nds w' (r :: ls) nd') (hi : ∀ a, (nd' a).n = (nd a).n ∧ (nd' a).v = (nd a).v ∧ (nd' a).b = (nd a).b ∧ (nd' a).x = (nd a).x ∧ (nd' a).y = (nd a).y)
    (hwf : C'.Wf nb) (hL : C'.L = ls.map fun a => (nd' a).it) (hs : C'.size = C.size) (h1 : C'.hits = C.hits) (h2 : C'.misses = C.misses) (h3 : C'.evicted = C.evicted) : CaAt w' G c p nb C' m r ls nd' := by
  have hb' : ∀ b, G b → b ∉ r :: ls → w'.heap[b]? = w.heap[b]? := fun b hf hne => hc.block b (h.lt b hf) hne
  refine ⟨hwf, h.nbt, ?_, ?_, hn, h.nodup, chain_congr h.chain (fun b _ => (hi b).2.2.2.1) (fun b _ => (hi b).2.2.2.2), hL, fun a ha => ?_, fun a ha b hb hab g hg => ?_, h.fc, h.fm, h.fn, fun a ha g hg => ?_, fun b hf => Nat.lt_of_lt_of_le (h.lt b hf) hc.size⟩
  · rw [hs, h1, h2, h3]
    exact (hb' c h.fc (fun e => (h.node_ne e).1 rfl)).trans h.blk
  · exact (h.map.kept (hb' m h.fm (fun e => (h.node_ne e).2.1 rfl))).congr (fun _ => Iff.rfl) (fun a _ => (hi a).1)
  · rw [(hi a).2.1, (hi a).2.2.1]
    exact own_same (h.own a ha) (fun g hg => hb' g (h.fb a ha g hg) (fun e => (h.node_ne e).2.2 a ha g hg rfl))
  · rw [(hi a).2.1] at hg
    rw [(hi b).2.1]
    exact h.apart a ha b hb hab g hg
  · rw [(hi a).2.1] at hg
    exact h.fb a ha g hg
theorem CaAt.mod_items (h : CaAt w G c p nb C m r ls nd) {a : Nat} (ha : a ∈ ls) (f : It → It) : (C.mod (nd a).n f).L = ls.map fun b => if b = a then f (nd b).it else (nd b).it := by
  show C.L.map _ = _
  rw [h.items, List.map_map]
  refine List.map_congr_left (fun b hb => ?_)
  show (if (nd b).n = (nd a).n then f (nd b).it else (nd b).it) = _
  by_cases e : b = a
  · subst e; simp
  · rw [if_neg e, if_neg (fun e2 => e (h.inj hb ha e2))]
theorem setD_same (nd : Nat → Node) (a : Nat) (d : Bool) (b : Nat) : (setD nd a d b).n = (nd b).n ∧ (setD nd a d b).v = (nd b).v ∧ (setD nd a d b).b = (nd b).b ∧ (setD nd a d b).x = (nd b).x ∧ (setD nd a d b).y = (nd b).y := by
  unfold _root_.Go.Proofs.Ytioloobeakjbeaa.setD; split <;> exact ⟨rfl, rfl, rfl, rfl, rfl⟩
theorem setD_it (nd : Nat → Node) (a : Nat) (d : Bool) (b : Nat) : (setD nd a d b).it = if b = a then { (nd b).it with dirty := d } else (nd b).it := by
  unfold _root_.Go.Proofs.Ytioloobeakjbeaa.setD; split <;> rfl
theorem setK_same (nd : Nat → Node) (a k b : Nat) : (setK nd a k b).n = (nd b).n ∧ (setK nd a k b).v = (nd b).v ∧ (setK nd a k b).b = (nd b).b ∧ (setK nd a k b).x = (nd b).x ∧ (setK nd a k b).y = (nd b).y := by
  unfold _root_.Go.Proofs.Ytioloobeakjbeaa.setK; split <;> exact ⟨rfl, rfl, rfl, rfl, rfl⟩
theorem setK_it (nd : Nat → Node) (a k b : Nat) : (setK nd a k b).it = if b = a then { (nd b).it with pins := k } else (nd b).it := by
  unfold _root_.Go.Proofs.Ytioloobeakjbeaa.setK; split <;> rfl
theorem CaAt.dirt (h : CaAt w G c p nb C m r ls nd) {a : Nat} (ha : a ∈ ls) (d : Bool) :
    CaAt (w.setCell ⟨a, 2, none⟩ (.bool d)) G c p nb (C.mod (nd a).n fun i => { i with dirty := d }) m r ls (setD nd a d) := by
  refine h.node (Chg.setCell _ _ _ (List.mem_cons_of_mem _ ha)) (h.nodes.setD (List.mem_cons_of_mem _ ha) d) (setD_same nd a d) (Ca.mod_wf h.wf _ _ (fun _ => rfl) (fun _ => rfl) (fun _ => Nat.le_refl _)) ?_ rfl rfl rfl rfl
  rw [h.mod_items ha]
  exact List.map_congr_left (fun b _ => (setD_it nd a d b).symm)
theorem mod_id {C : Ca} {n : Nat} {f : It → It} (h : ∀ i ∈ C.L, i.n = n → f i = i) : C.mod n f = C := by
  have : C.L.map (fun i => if i.n = n then f i else i) = C.L := by
    conv => rhs; rw [← List.map_id C.L]
    refine List.map_congr_left (fun i hi => ?_)
    split
    · rename_i e; exact h i hi e
    · rfl
  unfold Ca.mod
  rw [this]
theorem CaAt.same_item (h : CaAt w G c p nb C m r ls nd) {a : Nat} (ha : a ∈ ls) {i : It} (hi : i ∈ C.L) (e : i.n = (nd a).n) : i = (nd a).it := by
  rw [h.items] at hi
  obtain ⟨b, hb, rfl⟩ := List.mem_map.1 hi
  have := h.inj hb ha e
  rw [this]
end

/-- The cache behind clean of an item. -/
def cleanC (S : St) (C : Ca) (i : It) : Ca := if cleanE S i = 0 then C.mod i.n fun j => { j with dirty := false } else C

/-- The disk and the cache, apart. -/
structure Ck (w : World) (F G : Nat → Prop) (c p : Nat) (S : St) (C : Ca) (m r : Nat) (ls : List Nat) (nd : Nat → Node) : Prop where
  dk : Dk w F p S
  ca : CaAt w G c p S.nb C m r ls nd
  no : ∀ b, F b → ¬ G b
/-- What was there stays, but for F and G; new ones are of new memory. -/
structure Gr (F G : Nat → Prop) (w w' : World) (F' G' : Nat → Prop) : Prop where
  chg : Chg (fun b => F b ∨ G b) w w'
  f : ∀ b, F' b → F b ∨ w.heap.size ≤ b
  g : ∀ b, G' b → G b ∨ w.heap.size ≤ b
theorem Gr.refl (F G : Nat → Prop) (w : World) : Gr F G w w F G := ⟨Chg.refl _ _, fun _ h => .inl h, fun _ h => .inl h⟩
theorem Gr.trans {F G F' G' F'' G'' : Nat → Prop} {w w' w'' : World} (h : Gr F G w w' F' G') (k : Gr F' G' w' w'' F'' G'') : Gr F G w w'' F'' G'' := by
  have hs := h.chg.size
  refine ⟨h.chg.trans k.chg (fun i hi e => ?_), fun b hb => ?_, fun b hb => ?_⟩
  · rcases e with e | e
    · rcases h.f i e with e | e
      · exact .inl e
      · omega
    · rcases h.g i e with e | e
      · exact .inr e
      · omega
  · rcases k.f b hb with e | e
    · exact h.f b e
    · exact .inr (by omega)
  · rcases k.g b hb with e | e
    · exact h.g b e
    · exact .inr (by omega)
theorem Gr.new {F G : Nat → Prop} {w w' : World} (h : Chg (fun _ => False) w w') : Gr F G w w' F G := ⟨h.mono (fun _ _ h => h.elim), fun _ h => .inl h, fun _ h => .inl h⟩
theorem Gr.chgG {F G : Nat → Prop} {w w' : World} (h : Chg G w w') : Gr F G w w' F G := ⟨h.mono (fun _ _ h => .inr h), fun _ h => .inl h, fun _ h => .inl h⟩
theorem Gr.ofTo {F G F' : Nat → Prop} {w w' : World} (hc : Chg F w w') (hf : ∀ b, F' b → F b ∨ w.heap.size ≤ b) : Gr F G w w' F' G := ⟨hc.mono (fun _ _ h => .inl h), hf, fun _ h => .inl h⟩

set_option maxHeartbeats 1600000 in
set_option maxRecDepth 100000 in
theorem clean_any (F G : Nat → Prop) (c p : Nat) (S : St) (C : Ca) (m r : Nat) (ls : List Nat) (nd : Nat → Node) (a : Nat) (w : World) (h : Ck w F G c p S C m r ls nd) (ha : a ∈ ls) (hx : S.writes < 1099511627776) :
    Calls Try.prog 55 #[.pointer (some ⟨c, 0, none⟩), .pointer (some ⟨a, 0, none⟩)] w fun e w' => e = .returned (.int .i64 (cleanE S (nd a).it)) ∧ ∃ F' d, Ck w' F' G c p (cleanS S (nd a).it) (cleanC S C (nd a).it) m r ls (setD nd a d) ∧ Gr F G w w' F' G := by
  have hN := h.ca.nodes a (List.mem_cons_of_mem _ ha)
  have a2 := hN.c2
  have f2 := hN.fr 2
  by_cases hd : (nd a).d = true
  · obtain ⟨g, cap, hv, hgG⟩ := h.ca.slice ha
    have e1 : cleanE S (nd a).it = S.writeE (nd a).n (nd a).b := by unfold cleanE; rw [if_pos (show (nd a).it.dirty = true from hd)]; rfl
    have e2 : cleanS S (nd a).it = S.write (nd a).n (nd a).b := by unfold cleanS; rw [if_pos (show (nd a).it.dirty = true from hd)]; rfl
    have c0 := h.ca.c0
    have a0 := hN.c0
    have a1 := hN.c1
    have hbs := h.ca.bs ha
    have hC : cleanC S C (nd a).it = C.mod (nd a).n fun j => { j with dirty := decide (S.writeE (nd a).n (nd a).b ≠ 0) } := by
      unfold cleanC
      rw [e1]
      by_cases he : S.writeE (nd a).n (nd a).b = 0
      · rw [if_pos he]; simp [he]; rfl
      · rw [if_neg he]
        symm
        refine mod_id (fun i hi hin => ?_)
        have := h.ca.same_item ha hi hin
        have hdd : i.dirty = true := by rw [this]; exact hd
        cases i
        simp_all
    rw [e1, e2, hC]
    rw [hv] at a1 hbs
    rw [hd] at a2
    have WR : Hid (Calls Try.prog 79 #[.pointer (some ⟨p, 0, none⟩), .int .i64 ((nd a).n : Int), .slice (some ⟨g, 0, none⟩) 512 cap] w.drew fun e w1 => ∃ E, E = S.writeE (nd a).n (nd a).b ∧ e = .returned (.int .i64 E) ∧ w1.cell? ⟨c, 0, none⟩ = some (.pointer (some ⟨p, 0, none⟩)) ∧ w1.cell? ⟨a, 0, none⟩ = some (.int .i64 ((nd a).n : Int)) ∧ w1.cell? ⟨a, 1, none⟩ = some (.slice (some ⟨g, 0, none⟩) 512 cap) ∧
        w1.cell? ⟨a, 2, none⟩ = some (.bool true) ∧ w1.frozen? ⟨a, 2, none⟩ = false ∧
        Hid (CaAt w1 G c p S.nb C m r ls nd ∧ ∃ F', Dk w1 F' p (S.write (nd a).n (nd a).b) ∧ Chg F w w1 ∧ (∀ b, F' b → F b ∨ w.heap.size ≤ b))) := by
      have cd := Chg.drew (fun _ => False) w
      refine (write_any F p S (nd a).n (.slice (some ⟨g, 0, none⟩) 512 cap) (nd a).b w.drew (h.dk.kept cd (fun _ _ h => h)) (hbs.kept cd (fun _ _ _ _ _ h => h)) (fun g' hg' hf => by cases hg'; exact h.no _ hf hgG) hx).mono ?_
      rintro e w1 ⟨rfl, F', d1, c1, f1⟩
      have c1' : Chg F w w1 := (cd.mono (fun _ _ h => h.elim)).trans c1 (fun _ _ h => h)
      have ca1 := h.ca.kept c1' (fun b hg hf => h.no b hf hg)
      have hN1 := ca1.nodes a (List.mem_cons_of_mem _ ha)
      refine ⟨_, rfl, rfl, ca1.c0, hN1.c0, by rw [← hv]; exact hN1.c1, by have := hN1.c2; rw [hd] at this; exact this, hN1.fr 2, ca1, F', d1, c1', f1⟩
    have HN : Hid (∀ b, F b → ¬ G b) := h.no
    have HS : Hid (Ck w F G c p S C m r ls nd) := h
    have HA : Hid (a ∈ ls) := ha
    generalize (((nd a).n : Nat) : Int) = nn at *
    clear h hN hbs hC e1 e2 ha hd hv
    go_enter Try.func55, Try.ntmps55
    go_wp2_with fail
    go_region_held (fun w' => w'.cell? ⟨c, 0, none⟩ = some (.pointer (some ⟨p, 0, none⟩)) ∧ w'.cell? ⟨a, 0, none⟩ = some (.int .i64 nn) ∧ w'.cell? ⟨a, 1, none⟩ = some (.slice (some ⟨g, 0, none⟩) 512 cap))
      (first | assumption | exact ⟨c0, a0, a1⟩ | exact ⟨q0, q1, q2⟩)
      (first | (go_at_call 79; refine WR.out.mono ?_; clear WR; rintro e w1 ⟨E, hE, rfl, q0, q1, q2, q3, q4, HQ⟩))
    all_goals
      clear c0 a0 a1 a2 f2
      have HE : Hid (E = S.writeE nn (nd a).b) := hE
      clear hE
      go_wp2
      go_ret
      obtain ⟨ca1, F', d1, c1, f1⟩ := HQ.out
      have hno : ∀ b, F' b → ¬ G b := fun b hb hg => by
        rcases f1 b hb with e | e
        · exact HN.out b e hg
        · have := HS.out.ca.lt b hg; omega
      have hfn : ∀ b ∈ r :: ls, G b := ca1.fn
      have hcs : Chg (fun b => b ∈ r :: ls) w1 (w1.setCell ⟨a, 2, none⟩ (.bool (S.writeE nn (nd a).b != 0))) := Chg.setCell _ _ _ (List.mem_cons_of_mem _ HA.out)
      refine ⟨rfl, F', (S.writeE nn (nd a).b != 0), ⟨d1.kept hcs (fun b hf hm => hno b hf (hfn b hm)), ?_, hno⟩, (Gr.ofTo c1 f1).trans (Gr.chgG (hcs.mono (fun b _ hm => hfn b hm)))⟩
      rw [St.write_nb]
      have hb : decide (S.writeE nn (nd a).b ≠ 0) = (S.writeE nn (nd a).b != 0) := by rw [Bool.eq_iff_iff]; simp
      rw [hb]
      exact ca1.dirt HA.out _
  · have hd : (nd a).d = false := by simpa using hd
    have e1 : cleanE S (nd a).it = 0 := by unfold cleanE; rw [if_neg (by rw [show (nd a).it.dirty = false from hd]; decide)]
    have e2 : cleanS S (nd a).it = S := by unfold cleanS; rw [if_neg (by rw [show (nd a).it.dirty = false from hd]; decide)]
    have hC : cleanC S C (nd a).it = C := by
      unfold cleanC
      rw [if_pos e1]
      refine mod_id (fun i hi hin => ?_)
      have := h.ca.same_item ha hi hin
      have hdd : i.dirty = false := by rw [this]; exact hd
      cases i
      simp_all
    have hD : setD nd a false = nd := by
      funext b
      unfold _root_.Go.Proofs.Ytioloobeakjbeaa.setD
      split
      · rename_i e
        rw [e]
        cases hh : nd a
        rw [hh] at hd
        simp_all
      · rfl
    rw [e1, e2, hC]
    rw [hd] at a2
    have HS : Hid (Ck w F G c p S C m r ls (setD nd a false)) := by rw [hD]; exact h
    clear h hN e1 e2 hC hD
    go_enter Try.func55, Try.ntmps55
    go_wp2
    go_ret
    exact ⟨rfl, F, false, HS.out, Gr.refl _ _ _⟩

section
variable {w : World} {G : Nat → Prop} {c p nb : Nat} {C : Ca} {m r : Nat} {xs ys : List Nat} {a : Nat} {nd : Nat → Node}
theorem mem_mid {r : Nat} {xs ys : List Nat} {a b : Nat} (h : b ∈ r :: (xs ++ ys)) : b ∈ r :: (xs ++ a :: ys) := by
  rcases List.mem_cons.1 h with e | e
  · subst e; simp
  · rcases List.mem_append.1 e with e | e
    · exact List.mem_cons_of_mem _ (List.mem_append_left _ e)
    · exact List.mem_cons_of_mem _ (List.mem_append_right _ (List.mem_cons_of_mem _ e))
theorem chain_mem {nd : Nat → Node} {r a : Nat} {xs ys : List Nat} (h : Chain nd r (xs ++ a :: ys) r) : (nd a).x ∈ r :: (xs ++ a :: ys) ∧ (nd a).y ∈ r :: (xs ++ a :: ys) := by
  obtain ⟨c1, c2⟩ := chain_split.1 h
  refine ⟨?_, ?_⟩
  · have := chain_x_mem c2
    rcases List.mem_append.1 this with e | e
    · exact List.mem_cons_of_mem _ (List.mem_append_right _ (List.mem_cons_of_mem _ e))
    · simp at e; rw [e]; simp
  · have := chain_y_mem c1
    rcases List.mem_cons.1 this with e | e
    · rw [e]; simp
    · exact List.mem_cons_of_mem _ (List.mem_append_left _ e)
theorem chain_ne {nd : Nat → Node} {r a : Nat} {xs ys : List Nat} (hd : (r :: (xs ++ a :: ys)).Nodup) (h : Chain nd r (xs ++ a :: ys) r) : (nd a).x ≠ a ∧ (nd a).y ≠ a := by
  obtain ⟨c1, c2⟩ := chain_split.1 h
  simp only [List.nodup_cons, List.mem_append, List.mem_cons, not_or, List.nodup_append] at hd
  obtain ⟨⟨h1, h2, h3⟩, h4, ⟨h5, h6⟩, h7⟩ := hd
  refine ⟨fun e => ?_, fun e => ?_⟩
  · have := chain_x_mem c2
    rw [e] at this
    rcases List.mem_append.1 this with e | e
    · exact h5 e
    · simp at e; exact h2 e.symm
  · have := chain_y_mem c1
    rw [e] at this
    rcases List.mem_cons.1 this with e | e
    · exact h2 e.symm
    · exact h7 a e a (.inl rfl) rfl
/-- leave at a node of the ring. -/
theorem leave_at {w : World} {r a : Nat} {xs ys : List Nat} {nd : Nat → Node} (hn : Nds w (r :: (xs ++ a :: ys)) nd) (hd : (r :: (xs ++ a :: ys)).Nodup) (hc : Chain nd r (xs ++ a :: ys) r) :
    Calls Try.prog 76 #[.pointer (some ⟨a, 0, none⟩)] w fun e w' => e = .returned (.tuple #[]) ∧ Nds w' (r :: (xs ++ a :: ys)) (left nd a) ∧ Chain (left nd a) r (xs ++ ys) r ∧ Chg (fun b => b ∈ r :: (xs ++ a :: ys)) w w' := by
  have ha : a ∈ r :: (xs ++ a :: ys) := by simp
  obtain ⟨hx, hy⟩ := chain_mem hc
  obtain ⟨nx, ny⟩ := chain_ne hd hc
  refine (leave_any w a (nd a).x (nd a).y (hn a ha).c4 (hn a ha).c5 ⟨_, (hn _ hx).c5⟩ ⟨_, (hn _ hy).c4⟩ ((hn _ hx).fr 5) ((hn _ hy).fr 4) nx ny).mono ?_
  rintro e w' ⟨rfl, q, rfl⟩
  exact ⟨rfl, hn.left hx hy, chain_leave hd hc, (chg_left w hx hy).trans (Chg.drewN _ _ _) (fun _ _ h => h)⟩
/-- enter at a node that is there, and not of the ring. -/
theorem enter_at {w : World} {r a : Nat} {ls M : List Nat} {nd : Nat → Node} (hn : Nds w M nd) (hM : ∀ b ∈ r :: ls, b ∈ M) (haM : a ∈ M) (ha : a ∉ r :: ls) (hd : (r :: ls).Nodup) (hc : Chain nd r ls r) :
    Calls Try.prog 77 #[.pointer (some ⟨a, 0, none⟩), .pointer (some ⟨r, 0, none⟩)] w fun e w' => e = .returned (.tuple #[]) ∧ Nds w' M (entered nd r a) ∧ Chain (entered nd r a) r (ls ++ [a]) r ∧ Chg (fun b => b ∈ M) w w' := by
  have hrM : r ∈ M := hM r (by simp)
  have ho := chain_y_mem hc
  have hoM : (nd r).y ∈ M := hM _ ho
  refine (enter_any w a r (nd r).y (hn r hrM).c5 ⟨_, (hn a haM).c5⟩ ⟨_, (hn a haM).c4⟩ ⟨_, (hn _ hoM).c4⟩ ((hn a haM).fr 5) ((hn a haM).fr 4) ((hn _ hoM).fr 4) ((hn r hrM).fr 5) (fun e => ha (by rw [← e]; simp)) (fun e => ha (by rw [← e]; exact ho))).mono ?_
  rintro e w' ⟨rfl, q, rfl⟩
  exact ⟨rfl, hn.enter haM hrM hoM, chain_enter hd ha hc, (chg_enter w haM hrM hoM).trans (Chg.drewN _ _ _) (fun _ _ h => h)⟩

theorem filter_mid {nd : Nat → Node} {C : Ca} (hu : (C.L.map It.n).Nodup) (hi : C.L = (xs ++ a :: ys).map fun b => (nd b).it) : (C.L.filter fun i => i.n != (nd a).n) = (xs ++ ys).map fun b => (nd b).it := by
  have := (Ca.filter_eq hu (i := (nd a).it) (xs := xs.map fun b => (nd b).it) (ys := ys.map fun b => (nd b).it) (by rw [hi]; simp)).1
  rw [show (nd a).n = (nd a).it.n from rfl, this]
  simp

theorem step_delete_eq {P : Program} {w : World} {ops : Array Oper} {o : Oper} {a : Act} {K : Act → World → Prop} {Q : Exit → Act → World → Prop} {E : Prop} (hgd : o.guard = none) (d s : Operand) (t t' : TypeId)
    (ho : o.op = .call { callee := .builtin .delete, args := #[d, s], argTypes := #[t, t'] }) (vd vs : Value) (hd : a.eval d = vd) (hs : a.eval s = vs)
    (w' : World) (hr : (Builtin.delete_ #[t, t'] o.type #[vd, vs]).run P w = .ok (.tuple #[]) w') (h : K (a.put o.dst (.tuple #[])) w') : if Region.wanted o (yielded ops a.tmps) = true then Oper.wp P o a w K Q else E := by
  have hw : Region.wanted o (yielded ops a.tmps) = true := by simp [Region.wanted, hgd]
  rw [if_pos hw]
  unfold Oper.wp
  simp [execOp, ho, resolve, invoke, builtin, hd, hs, hr, Result.andThen]
  exact h

set_option maxHeartbeats 1600000 in
set_option maxRecDepth 100000 in
theorem evict_any (G : Nat → Prop) (c p nb : Nat) (C : Ca) (m r : Nat) (xs ys : List Nat) (a : Nat) (nd : Nat → Node) (w : World) (h : CaAt w G c p nb C m r (xs ++ a :: ys) nd) (hev : C.evicted < 1099511627776) :
    Calls Try.prog 86 #[.pointer (some ⟨c, 0, none⟩), .pointer (some ⟨a, 0, none⟩)] w fun e w' => e = .returned (.tuple #[]) ∧ ∃ nd', CaAt w' G c p nb (C.out (nd a).n) m r (xs ++ ys) nd' ∧ Chg G w w' := by
  have hal : a ∈ xs ++ a :: ys := by simp
  have hno : ∀ b ∈ xs ++ ys, (nd b).n ≠ (nd a).n := fun b hb e => by
    have hb2 : b ∈ xs ++ a :: ys := by
      have := mem_mid (r := r) (a := a) (List.mem_cons_of_mem _ hb)
      rcases List.mem_append.1 hb with e | e
      · exact List.mem_append_left _ e
      · exact List.mem_append_right _ (List.mem_cons_of_mem _ e)
    have := h.inj hb2 hal e
    subst this
    have hd := (List.nodup_cons.1 h.nodup).2
    simp only [List.nodup_append, List.nodup_cons] at hd
    rcases List.mem_append.1 hb with e | e
    · exact hd.2.2 b e b (by simp) rfl
    · exact hd.2.1.1 e
  have HN : Hid (∀ b ∈ xs ++ ys, (nd b).n ≠ (nd a).n) := hno
  have HH : Hid (CaAt w G c p nb C m r (xs ++ a :: ys) nd) := h
  have LV : Hid (Calls Try.prog 76 #[.pointer (some ⟨a, 0, none⟩)] w fun e w' => e = .returned (.tuple #[]) ∧ Nds w' (r :: (xs ++ a :: ys)) (left nd a) ∧ Chain (left nd a) r (xs ++ ys) r ∧ Chg (fun b => b ∈ r :: (xs ++ a :: ys)) w w') := leave_at h.nodes h.nodup h.chain
  clear h hno hal
  go_enter Try.func86, Try.ntmps86
  go_wp2_with fail
  refine LV.out.mono ?_
  rintro e w1 ⟨rfl, n1, ch1, cg1⟩
  have hb1 : ∀ b, G b → b ∉ r :: (xs ++ a :: ys) → w1.heap[b]? = w.heap[b]? := fun b hf hne => cg1.block b (HH.out.lt b hf) hne
  have hc1 : w1.heap[c]? = w.heap[c]? := hb1 c HH.out.fc (fun e => (HH.out.node_ne e).1 rfl)
  have blk1 := hc1.trans HH.out.blk
  have c2 : w1.cell? ⟨c, 2, none⟩ = some (.map (some m)) := by rw [cell_of_row w1 c 2 _ _ _ blk1]; rfl
  have m1 : Mp w1 m nb (xs ++ a :: ys) (left nd a) := (HH.out.map.kept (hb1 m HH.out.fm (fun e => (HH.out.node_ne e).2.1 rfl))).congr (fun _ => Iff.rfl) (fun b _ => congrArg It.n (left_it nd a b).1)
  have hln : ∀ b, (left nd a b).n = (nd b).n := fun b => congrArg It.n (left_it nd a b).1
  have a0 := (n1 a (by simp)).c0
  have MD := (m1.kept (w' := w1.drew) rfl).delete HH.out.nbt (by rw [hln]; exact HH.out.nlt (by simp)) (fun b hb => by rw [hln, hln]; exact HN.out b hb) 0
  obtain ⟨w3, hr, m3, g3, s3⟩ := MD
  have cg3 : Chg (fun b => b = m) w1 w3 := ((Chg.drew (fun b => b = m) w1).trans ((Chg.ofGrown g3).mono (fun b _ e => (Option.some.inj e).symm)) (fun _ _ h => h))
  have hmc : ¬ c = m := HH.out.c_ne.1
  have blk3 := (cg3.block c (Array.getElem?_eq_some_iff.1 blk1).1 hmc).trans blk1
  have n3 : Nds w3 (r :: (xs ++ a :: ys)) (left nd a) := n1.kept cg3 (fun b hb e => (HH.out.node_ne hb).2.1 e)
  have k2 : w3.cell? ⟨c, 2, none⟩ = some (.map (some m)) := by rw [cell_of_row w3 c 2 _ _ _ blk3]; rfl
  have k6 : w3.cell? ⟨c, 6, none⟩ = some (.int .i64 (C.evicted : Int)) := by rw [cell_of_row w3 c 6 _ _ _ blk3]; rfl
  have kf : w3.frozen? ⟨c, 6, none⟩ = false := by simp [World.frozen?, blk3]
  have k0 := (n3 a (by simp)).c0
  have HQ : Hid (CaAt (w3.setCell ⟨c, 6, none⟩ (.int .i64 ((C.evicted : Int) + 1))) G c p nb (C.out (nd a).n) m r (xs ++ ys) (left nd a) ∧ Chg G w (w3.setCell ⟨c, 6, none⟩ (.int .i64 ((C.evicted : Int) + 1)))) := by
    have cg4 : Chg (fun b => b = c) w3 (w3.setCell ⟨c, 6, none⟩ (.int .i64 ((C.evicted : Int) + 1))) := Chg.setCell _ _ _ rfl
    have hb6 := heap_setCell_same w3 c 6 _ _ (.int .i64 ((C.evicted : Int) + 1)) blk3
    simp at hb6
    have hchg : Chg G w (w3.setCell ⟨c, 6, none⟩ (.int .i64 ((C.evicted : Int) + 1))) :=
      (cg1.mono (fun b _ hb => HH.out.fn b hb)).trans ((cg3.mono (S' := G) (fun b _ e => by rw [e]; exact HH.out.fm)).trans (cg4.mono (S' := G) (fun b _ e => by rw [e]; exact HH.out.fc)) (fun _ _ h => h)) (fun _ _ h => h)
    have hmm : ∀ b ∈ xs ++ ys, b ∈ xs ++ a :: ys := fun b hb => by
      rcases List.mem_append.1 hb with e | e
      · exact List.mem_append_left _ e
      · exact List.mem_append_right _ (List.mem_cons_of_mem _ e)
    refine ⟨⟨Ca.out_wf HH.out.wf _, HH.out.nbt, hb6, m3.kept (cg4.block m m3.lt (fun e => hmc e.symm)), ?_, ?_, ch1, ?_, fun b hb => ?_, fun b hb b2 hb2 hne g hg => ?_, HH.out.fc, HH.out.fm, fun b hb => HH.out.fn b (mem_mid hb), fun b hb g hg => ?_, fun b hb => Nat.lt_of_lt_of_le (HH.out.lt b hb) hchg.size⟩, hchg⟩
    · intro b hb
      have hb2 := mem_mid (a := a) hb
      exact (n3 b hb2).same (cg4.block b (n3 b hb2).lt (HH.out.node_ne hb2).1)
    · have hd := HH.out.nodup
      refine List.Nodup.sublist ?_ hd
      exact List.Sublist.cons_cons _ (List.Sublist.append_left (List.sublist_cons_self _ _) _)
    · show C.L.filter _ = _
      rw [filter_mid HH.out.wf.uniq HH.out.items]
      exact List.map_congr_left (fun b _ => (left_it nd a b).1.symm)
    · rw [(left_it nd a b).2, show (left nd a b).b = (nd b).b from congrArg It.b (left_it nd a b).1]
      have hb2 := hmm b hb
      refine own_same (HH.out.own b hb2) (fun g hg => ?_)
      have hG := HH.out.fb b hb2 g hg
      have hl := HH.out.lt g hG
      have e1 := hb1 g hG (fun e => (HH.out.node_ne e).2.2 b hb2 g hg rfl)
      have e2 := cg3.block g (Nat.lt_of_lt_of_le hl cg1.size) (fun e => HH.out.m_ne b hb2 g hg e.symm)
      have e3 := cg4.block g (Nat.lt_of_lt_of_le hl (Nat.le_trans cg1.size cg3.size)) (fun e => HH.out.c_ne.2 b hb2 g hg e.symm)
      exact e3.trans (e2.trans e1)
    · rw [(left_it nd a b).2] at hg
      rw [(left_it nd a b2).2]
      exact HH.out.apart b (hmm b hb) b2 (hmm b2 hb2) hne g hg
    · rw [(left_it nd a b).2] at hg
      exact HH.out.fb b (hmm b hb) g hg
  clear LV m1 n1 ch1 cg1 hb1 hc1 m3 g3 s3 cg3 n3 blk3 blk1 HN hln
  generalize (((left nd a a).n : Nat) : Int) = nn at *
  go_wp2_with fail
  go_region_held_law (fun w' => w'.cell? ⟨c, 2, none⟩ = some (.map (some m)) ∧ w'.cell? ⟨a, 0, none⟩ = some (.int .i64 nn))
    (first | assumption | exact ⟨c2, a0⟩ | exact ⟨k2, k0⟩)
    (refine step_delete_eq (by rfl) _ _ _ _ (by rfl) _ _ (by rfl) (by rfl) _ hr ?_)
  all_goals
    clear c2 a0 hr k2 k0
    go_wp2
    go_end0
    exact ⟨rfl, _, HQ.out⟩
end
end Go.Proofs.Ytioloobeakjbeaa

namespace Go.Proofs.Ytioloobeakjbeaa
open Go.RowKit Go.Maps

theorem Mp.len {w : World} {m nb : Nat} {ls : List Nat} {nd : Nat → Node} (h : Mp w m nb ls nd) (_hnb : nb ≤ 16384) (hu : (ls.map fun a => (nd a).n).Nodup) (hl : ∀ a ∈ ls, (nd a).n < nb) (ty : TypeId) :
    (Builtin.len_ #[74] ty #[.map (some m)]).run Try.prog w = .ok (.int .i64 (ls.length : Int)) w := by
  obtain ⟨f, ⟨c, D, ho, hD⟩, hr⟩ := h
  rw [ho.len Try.underlying74 ty]
  have e : Maps.size D = ls.length := by
    obtain ⟨es, rfl, hp, hk⟩ := ho.entries law3
    have h1 : (es.map Prod.fst).Nodup := List.pairwise_map.2 hp
    have h2 : (ls.map fun a => kn (nd a).n).Nodup := by
      have : (ls.map fun a => kn (nd a).n) = (ls.map fun a => (nd a).n).map kn := by simp
      rw [this]
      exact hu.map kn (fun a b hab e => hab (kn_inj e))
    have hperm : (es.map Prod.fst).Perm (ls.map fun a => kn (nd a).n) := by
      refine (List.perm_ext_iff_of_nodup h1 h2).2 (fun k => ⟨fun hk1 => ?_, fun hk1 => ?_⟩)
      · obtain ⟨q, hq, rfl⟩ := List.mem_map.1 hk1
        have hh : Maps.has (.map es) q.1 = true := List.any_eq_true.2 ⟨q, hq, WideAt.sameKey_self (hk q hq)⟩
        obtain ⟨n, hn, e⟩ := hD.keys _ hh
        have h3 := hD.has n hn
        rw [← e, hh] at h3
        obtain ⟨u, hu2⟩ := Option.isSome_iff_exists.1 h3.symm
        obtain ⟨a, ha, e2, _⟩ := (hr n u hn).1 hu2
        exact List.mem_map.2 ⟨a, ha, by rw [e2, e]⟩
      · obtain ⟨a, ha, rfl⟩ := List.mem_map.1 hk1
        have h3 := hD.has _ (hl a ha)
        rw [(hr _ _ (hl a ha)).2 ⟨a, ha, rfl, rfl⟩] at h3
        have h4 : Maps.has (.map es) (kn (nd a).n) = true := h3
        obtain ⟨q, hq, hs⟩ := List.any_eq_true.1 h4
        by_cases e : q.1 = kn (nd a).n
        · exact List.mem_map.2 ⟨q, hq, e⟩
        · rw [sameKey_ne e] at hs; cases hs
    have := hperm.length_eq
    simp at this
    simpa [Maps.size] using this
  rw [e]

section
variable {w : World} {G : Nat → Prop} {c p nb : Nat} {C : Ca} {m r : Nat} {ls : List Nat} {nd : Nat → Node}
theorem CaAt.len (h : CaAt w G c p nb C m r ls nd) (ty : TypeId) : (Builtin.len_ #[74] ty #[.map (some m)]).run Try.prog w = .ok (.int .i64 (C.L.length : Int)) w := by
  have hu := h.wf.uniq
  rw [h.items, List.map_map] at hu
  rw [h.map.len h.nbt hu (fun a ha => h.nlt ha) ty, h.items, List.length_map]
end

set_option maxHeartbeats 800000 in
set_option maxRecDepth 100000 in
theorem blank_any (n : Int) (w : World) : Calls Try.prog 54 #[.int .i64 n] w fun e w' => ∃ u, e = .returned (.tuple #[u, .int .i64 0]) ∧ Fresh w w' u (zeros 512) := by
  obtain ⟨i0, hi, hz0, hz1, hz2⟩ := info_parts info5
  go_enter Try.func54, Try.ntmps54
  go_wp2_with (refine wpList_make_full _ rfl _ _ 39 rfl w.heap.size 5 i0 (.int .u8 0) 1 Try.underlying39 hi hz0 hz1 .i64 .i64 _ _ 512 rfl rfl rfl rfl (by rw [hz2]; omega) (by unfold maxLen; omega) (Nat.le_refl _) ?_; intro w1 own1 grow1)
  rw [made_bytes] at own1
  have hc1 := Chg.of_none grow1
  have HF : Hid (Fresh w w1 (.slice (some ⟨w.heap.size, 0, none⟩) 512 512) (zeros 512)) := ⟨by rw [zeros_len]; exact own1, hc1⟩
  clear own1 grow1 hc1
  go_wp2
  go_ret2
  exact ⟨_, rfl, HF.out⟩

/-- The cache ahead of what is held anew. -/
def midC (C : Ca) : Ca := if C.L.length = C.size then (match C.goes with | none => C | some g => C.out g.n) else C
/-- A node that was just made. -/
def NewN (w : World) (a n : Nat) (u : Value) : Prop := w.heap[a]? = some (.cells #[.int .i64 (n : Int), u, .bool false, .int .i64 0, .pointer none, .pointer none] 95 (0, 0))
/-- What miss leaves. -/
def MissP (F G : Nat → Prop) (c p m r : Nat) (ls : List Nat) (C : Ca) (n : Nat) (fb : List Int) (R : Res) (w : World) (e : Ending) (w' : World) : Prop :=
  ∃ F', Gr F G w w' F' G ∧
    ((R.e ≠ 0 ∧ e = .returned (.tuple #[.pointer none, .int .i64 R.e]) ∧ ∃ nd', Ck w' F' G c p R.S C m r ls nd') ∨
     (R.e = 0 ∧ ∃ a u ls' nd', e = .returned (.tuple #[.pointer (some ⟨a, 0, none⟩), .int .i64 0]) ∧ Ck w' F' G c p R.S (midC C) m r ls' nd' ∧ NewN w' a n u ∧ w'.ownsRow 0 5 1 u 512 (bcells fb) ∧
       w.heap.size ≤ a ∧ (∀ g, u.ownBlock = some g → w.heap.size ≤ g) ∧ ¬ F' a ∧ ∀ g, u.ownBlock = some g → ¬ F' g))

theorem goes_split {w : World} {G : Nat → Prop} {c p nb : Nat} {C : Ca} {m r : Nat} {ls : List Nat} {nd : Nat → Node} (h : CaAt w G c p nb C m r ls nd) {xs ys : List Nat} {a : Nat} (hs : ls = xs ++ a :: ys) (hx : ∀ b ∈ xs, (nd b).k ≠ 0) (ha : (nd a).k = 0) : C.goes = some (nd a).it := by
  unfold Ca.goes
  rw [h.items, hs, List.map_append, List.map_cons, List.find?_append, List.find?_eq_none.2, List.find?_cons_of_pos]
  · rfl
  · show ((nd a).k == 0) = true
    rw [ha]; rfl
  · intro i hi
    obtain ⟨b, hb, rfl⟩ := List.mem_map.1 hi
    have := hx b hb
    simpa [Node.it] using this
theorem goes_none {w : World} {G : Nat → Prop} {c p nb : Nat} {C : Ca} {m r : Nat} {ls : List Nat} {nd : Nat → Node} (h : CaAt w G c p nb C m r ls nd) (hx : ∀ b ∈ ls, (nd b).k ≠ 0) : C.goes = none := by
  unfold Ca.goes
  rw [h.items, List.find?_eq_none]
  intro i hi
  obtain ⟨b, hb, rfl⟩ := List.mem_map.1 hi
  have := hx b hb
  simpa [Node.it] using this
/-- The new node, behind what was there. -/
theorem new_node {w0 w1 w2 : World} {F F' G : Nat → Prop} {c p m r n : Nat} {S' : St} {C' : Ca} {ls' : List Nat} {nd' : Nat → Node} {u : Value} {fb : List Int} (fr : Fresh w0 w1 u fb) (hlen : fb.length = 512) (hF : ∀ b, F b → b < w0.heap.size) (g2 : Gr F G w1 w2 F' G) (hG : ∀ b, G b → b < w0.heap.size) (k2 : Ck w2 F' G c p S' C' m r ls' nd') :
    Ck (w2.alloc (.cells #[.int .i64 (n : Int), u, .bool false, .int .i64 0, .pointer none, .pointer none] 95)) F' G c p S' C' m r ls' nd' ∧ NewN (w2.alloc (.cells #[.int .i64 (n : Int), u, .bool false, .int .i64 0, .pointer none, .pointer none] 95)) w2.heap.size n u ∧
    (w2.alloc (.cells #[.int .i64 (n : Int), u, .bool false, .int .i64 0, .pointer none, .pointer none] 95)).ownsRow 0 5 1 u 512 (bcells fb) ∧ w0.heap.size ≤ w2.heap.size ∧ (∀ g, u.ownBlock = some g → w0.heap.size ≤ g) ∧ ¬ F' w2.heap.size ∧ ∀ g, u.ownBlock = some g → ¬ F' g := by
  have ca := Chg.alloc (fun _ => False) w2 (.cells #[.int .i64 (n : Int), u, .bool false, .int .i64 0, .pointer none, .pointer none] 95)
  have hu := fr.new
  have s1 := fr.chg.size
  have s2 := g2.chg.size
  have hul : ∀ g, u.ownBlock = some g → g < w1.heap.size := fun g hg => (fr.own.lt g hg).2
  have hnF : ∀ g, u.ownBlock = some g → ¬ F' g := fun g hg hf => by
    have h1 := hu g hg
    have h2 := hul g hg
    rcases g2.f g hf with e | e
    · have := hF g e; omega
    · omega
  have own2 : w2.ownsRow 0 5 1 u 512 (bcells fb) := by
    have h0 := own_mono fr.own (Nat.zero_le _)
    rw [hlen] at h0
    refine own_same h0 (fun g hg => g2.chg.block g (hul g hg) (fun e => ?_))
    have h1 := hu g hg
    rcases e with e | e
    · have := hF g e; omega
    · have := hG g e; omega
  refine ⟨⟨k2.dk.kept ca (fun _ _ h => h), k2.ca.kept ca (fun _ _ h => h), k2.no⟩, heap_alloc_new w2 _, own2.alloc _, by omega, hu, fun hf => ?_, hnF⟩
  have := k2.dk.lt _ hf
  omega
end Go.Proofs.Ytioloobeakjbeaa

namespace Go.Proofs.Ytioloobeakjbeaa
open Go.RowKit Go.Maps

set_option maxHeartbeats 3200000 in
set_option maxRecDepth 100000 in
theorem missB_any (F G : Nat → Prop) (c p : Nat) (S : St) (C : Ca) (m r : Nat) (ls : List Nat) (nd : Nat → Node) (n : Nat) (w : World) (h : Ck w F G c p S C m r ls nd) (_hn : n < S.nb) (hx : S.writes < 1099511627776) (hev : C.evicted < 1099511627776) :
    Calls Try.prog 78 #[.pointer (some ⟨c, 0, none⟩), .int .i64 (n : Int), .func (.func 54) #[] #[]] w (MissP F G c p m r ls C n (zeros 512) (miss S C n 0 (zeros 512)) w) := by
  have hmf : ∀ (fn : Fn) (first cap : Array Value) (w : World), (Instr.makeFunc fn first cap).run Try.prog w = .ok (.func fn first cap) w := fun _ _ _ _ => rfl
  obtain ⟨fe, hfe⟩ : ∃ fe, (0 : Int) = fe := ⟨_, rfl⟩
  obtain ⟨fb, hfb⟩ : ∃ fb, ((zeros 512) : List Int) = fb := ⟨_, rfl⟩
  have HL : Hid (fe = 0 → fb.length = 512) := by rw [← hfe, ← hfb]; exact fun _ => zeros_len 512
  have FL : Hid (∀ w1, Dk w1 F p S → Calls Try.prog 54 #[.int .i64 (n : Int)] w1 fun e w2 => ∃ u, e = .returned (.tuple #[u, .int .i64 fe]) ∧ Fresh w1 w2 u fb) := by
    intro w1 d1
    rw [← hfe, ← hfb]
    exact blank_any n w1
  rw [hfe, hfb]
  clear hfe hfb
  have c1 := h.ca.c1
  have c2 := h.ca.c2
  have hl : ∀ q ty, (Builtin.len_ #[74] ty #[.map (some m)]).run Try.prog (w.drewN q) = .ok (.int .i64 (C.L.length : Int)) (w.drewN q) := fun q ty => (h.ca.kept (Chg.drewN (fun _ => False) w q) (fun _ _ h => h)).len ty
  have HK : Hid (Ck w F G c p S C m r ls nd) := h
  have HFd : Hid (∀ b, F b → b < w.heap.size) := h.dk.lt
  have HGd : Hid (∀ b, G b → b < w.heap.size) := h.ca.lt
  clear h
  by_cases hfull : C.L.length = C.size
  · rw [← hfull] at c1
    have HU : Hid (C.L.length = C.size) := hfull
    clear hfull
    go_enter Try.func78, Try.ntmps78
    go_wp2_with fail
    go_quiet (fail)
    have KW : Hid (Ck (w.drewN nq) F G c p S C m r ls nd) := ⟨HK.out.dk.kept (Chg.drewN (fun _ => False) w nq) (fun _ _ h => h), HK.out.ca.kept (Chg.drewN (fun _ => False) w nq) (fun _ _ h => h), HK.out.no⟩
    have GW : Hid (Gr F G w (w.drewN nq) F G) := Gr.new (Chg.drewN _ _ _)
    have SW : Hid ((w.drewN nq).heap.size = w.heap.size) := rfl
    generalize w.drewN nq = W at *
    clear c1 c2 hl
    go_wp2_with fail
    refine (eldest_any G c p S.nb C m r ls nd W KW.out.ca).mono ?_
    rintro e w1 ⟨hw1, hcase⟩
    subst hw1
    rcases hcase with ⟨xs, a, ys, hs, hxs, hak, rfl⟩ | ⟨hall, rfl⟩
    · have HG : Hid (C.goes = some (nd a).it) := goes_split KW.out.ca hs hxs hak
      have HS : Hid (ls = xs ++ a :: ys) := hs
      clear hs hxs hak
      have hq := eq75_nil ⟨a, 0, none⟩
      have hq2 := neq75_nil ⟨a, 0, none⟩
      go_wp2_with fail
      refine (FL.out w1 KW.out.dk).mono ?_
      rintro e w2 ⟨u, rfl, fr⟩
      obtain ⟨ua, uc, hu, _⟩ := fr.bs.form
      subst hu
      have FR : Hid (Fresh w1 w2 (.slice ua fb.length uc) fb) := fr
      have K2 : Hid (Ck w2 F G c p S C m r ls nd) := ⟨KW.out.dk.kept fr.chg (fun _ _ h => h), KW.out.ca.kept fr.chg (fun _ _ h => h), KW.out.no⟩
      have G2 : Hid (Gr F G w w2 F G) := GW.out.trans (Gr.new fr.chg)
      clear fr
      by_cases he : fe = 0
      · have H5 : Hid (fb.length = 512) := HL.out he
        subst he
        clear HL
        go_wp2_with fail
        refine (clean_any F G c p S C m r ls nd a w2 K2.out (by rw [HS.out]; simp) hx).mono ?_
        rintro e w3 ⟨rfl, F3, d, k3, g3⟩
        have K3 : Hid (Ck w3 F3 G c p (cleanS S (nd a).it) (cleanC S C (nd a).it) m r ls (setD nd a d)) := k3
        have G3 : Hid (Gr F G w2 w3 F3 G) := g3
        clear k3 g3
        obtain ⟨ce, hce⟩ : ∃ ce, cleanE S (nd a).it = ce := ⟨_, rfl⟩
        rw [hce]
        by_cases hc0 : ce = 0
        · have HCE : Hid (cleanE S (nd a).it = 0) := by rw [hce]; exact hc0
          subst hc0
          clear hce
          go_wp2_with fail
          have hCC : cleanC S C (nd a).it = C.mod (nd a).n fun j => { j with dirty := false } := by unfold cleanC; rw [if_pos HCE.out]; rfl
          have k3 := K3.out.ca
          rw [hCC, HS.out] at k3
          have HE3 : (C.mod (nd a).n fun j => { j with dirty := false }).evicted < 1099511627776 := hev
          refine (evict_any G c p _ _ m r xs ys a (setD nd a d) w3 k3 HE3).mono ?_
          rintro e w4 ⟨rfl, nd4, k4, g4⟩
          have hcn : (setD nd a d a).n = (nd a).n := (setD_same nd a d a).1
          have hout : ((C.mod (nd a).n fun j => { j with dirty := false }).out (setD nd a d a).n) = C.out (nd a).n := by
            rw [hcn]
            unfold Ca.out Ca.mod
            simp only [Ca.mk.injEq, and_true, true_and]
            rw [List.filter_map]
            have e1 : C.L.filter ((fun i : It => i.n != (nd a).n) ∘ fun i => if i.n = (nd a).n then { i with dirty := false } else i) = C.L.filter fun i => i.n != (nd a).n := by
              refine List.filter_congr (fun i _ => ?_)
              simp only [Function.comp]
              split <;> rfl
            rw [e1]
            conv => rhs; rw [← List.map_id (C.L.filter fun i => i.n != (nd a).n)]
            refine List.map_congr_left (fun i hi => ?_)
            rw [if_neg (by have := (List.mem_filter.1 hi).2; simpa using this)]; rfl
          rw [hout] at k4
          have hmid : midC C = C.out (nd a).n := by unfold midC; rw [if_pos HU.out, HG.out]; rfl
          rw [← hmid] at k4
          have g24 : Gr F G w2 w4 F3 G := G3.out.trans (Gr.chgG g4)
          have K4 : Ck w4 F3 G c p (cleanS S (nd a).it) (midC C) m r (xs ++ ys) nd4 := ⟨K3.out.dk.kept g4 (fun b hf hg => K3.out.no b hf hg), k4, K3.out.no⟩
          have NN := new_node (n := n) FR.out H5.out (fun b hb => by rw [SW.out]; exact HFd.out b hb) g24 (fun b hb => by rw [SW.out]; exact HGd.out b hb) K4
          have hM : miss S C n 0 fb = ⟨0, cleanS S (nd a).it, (C.out (nd a).n).add n fb⟩ := by
            unfold miss
            rw [if_pos HU.out, HG.out]
            simp only []
            rw [if_neg (by decide), if_neg (by rw [HCE.out]; decide)]
            rfl
          have HM : Hid _ := hM
          have HNN : Hid _ := NN
          clear hM
          have G24 : Hid (Gr F G w2 w4 F3 G) := g24
          clear NN K4 g24 k4 g4 hmid hout hcn k3 hCC HE3
          go_wp2
          go_ret2
          obtain ⟨n1, n2, n3, n4, n5, n6, n7⟩ := HNN.out
          rw [HM.out]
          refine ⟨F3, (G2.out.trans G24.out).trans (Gr.new (Chg.alloc _ _ _)), .inr ⟨rfl, _, _, _, _, rfl, n1, n2, n3, ?_, ?_, n6, n7⟩⟩
          · have := SW.out; omega
          · intro g hg; have := n5 g hg; have := SW.out; omega
        · have hce0 : (ce == 0) = false := by simpa using hc0
          have hcne : ¬ ce = 0 := hc0
          have HCE : Hid (cleanE S (nd a).it = ce) := hce
          clear hce
          go_wp2
          go_ret2
          have hCC : cleanC S C (nd a).it = C := by unfold cleanC; rw [if_neg (by rw [HCE.out]; exact hc0)]
          have k3 := K3.out
          rw [hCC] at k3
          have HM : miss S C n 0 fb = ⟨ce, cleanS S (nd a).it, C⟩ := by
            unfold miss
            rw [if_pos HU.out, HG.out]
            simp only []
            rw [if_neg (by decide), HCE.out, if_pos hc0]
          rw [HM]
          exact ⟨F3, G2.out.trans G3.out, .inl ⟨hc0, rfl, _, k3⟩⟩
      · have he0 : (fe == 0) = false := by simpa using he
        go_wp2
        go_ret2
        have HM : miss S C n fe fb = ⟨fe, S, C⟩ := by
          unfold miss
          rw [if_pos HU.out, HG.out]
          simp only []
          rw [if_pos he]
        rw [HM]
        exact ⟨F, G2.out, .inl ⟨he, rfl, _, K2.out⟩⟩
    · have HG : Hid (C.goes = none) := goes_none KW.out.ca hall
      clear hall
      have hq := eq75_none
      go_wp2
      go_ret2
      have HM : miss S C n fe fb = ⟨13, S, C⟩ := by
        unfold miss
        rw [if_pos HU.out, HG.out]
      rw [HM]
      exact ⟨F, GW.out, .inl ⟨show (13 : Int) ≠ 0 by decide, rfl, _, KW.out⟩⟩
  · have hf0 : ((C.L.length : Int) == (C.size : Int)) = false := by simp; omega
    have hq2 := neq75_none
    go_enter Try.func78, Try.ntmps78
    go_wp2_with fail
    go_quiet (fail)
    have KW : Hid (Ck (w.drewN nq) F G c p S C m r ls nd) := ⟨HK.out.dk.kept (Chg.drewN (fun _ => False) w nq) (fun _ _ h => h), HK.out.ca.kept (Chg.drewN (fun _ => False) w nq) (fun _ _ h => h), HK.out.no⟩
    have GW : Hid (Gr F G w (w.drewN nq) F G) := Gr.new (Chg.drewN _ _ _)
    have SW : Hid ((w.drewN nq).heap.size = w.heap.size) := rfl
    generalize w.drewN nq = W at *
    clear c1 c2 hl
    go_wp2_with fail
    refine (FL.out W KW.out.dk).mono ?_
    rintro e w2 ⟨u, rfl, fr⟩
    obtain ⟨ua, uc, hu, _⟩ := fr.bs.form
    subst hu
    have FR : Hid (Fresh W w2 (.slice ua fb.length uc) fb) := fr
    have K2 : Hid (Ck w2 F G c p S C m r ls nd) := ⟨KW.out.dk.kept fr.chg (fun _ _ h => h), KW.out.ca.kept fr.chg (fun _ _ h => h), KW.out.no⟩
    have G2 : Hid (Gr F G w w2 F G) := GW.out.trans (Gr.new fr.chg)
    clear fr
    by_cases he : fe = 0
    · have H5 : Hid (fb.length = 512) := HL.out he
      subst he
      clear HL
      have hmid : midC C = C := by unfold midC; rw [if_neg hfull]
      have K2' : Ck w2 F G c p S (midC C) m r ls nd := by rw [hmid]; exact K2.out
      have NN := new_node (n := n) FR.out H5.out (fun b hb => by rw [SW.out]; exact HFd.out b hb) (Gr.refl F G w2) (fun b hb => by rw [SW.out]; exact HGd.out b hb) K2'
      have HNN : Hid _ := NN
      have hM : miss S C n 0 fb = ⟨0, S, C.add n fb⟩ := by
        unfold miss
        rw [if_neg hfull, if_neg (by decide)]
      have HM : Hid _ := hM
      clear hM
      clear NN K2' hmid
      go_wp2
      go_ret2
      obtain ⟨n1, n2, n3, n4, n5, n6, n7⟩ := HNN.out
      rw [HM.out]
      refine ⟨F, G2.out.trans (Gr.new (Chg.alloc _ _ _)), .inr ⟨rfl, _, _, _, _, rfl, n1, n2, n3, ?_, ?_, n6, n7⟩⟩
      · have := SW.out; omega
      · intro g hg; have := n5 g hg; have := SW.out; omega
    · have he0 : (fe == 0) = false := by simpa using he
      go_wp2
      go_ret2
      have HM : miss S C n fe fb = ⟨fe, S, C⟩ := by
        unfold miss
        rw [if_neg hfull, if_pos he]
      rw [HM]
      exact ⟨F, G2.out, .inl ⟨he, rfl, _, K2.out⟩⟩
end Go.Proofs.Ytioloobeakjbeaa

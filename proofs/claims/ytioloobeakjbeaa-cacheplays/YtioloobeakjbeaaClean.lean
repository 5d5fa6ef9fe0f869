/-
  The contracts of clean and evict of package cache.
-/
import Derived.Test.YtioloobeakjbeaaCMem
import Derived.Test.YtioloobeakjbeaaHelp
namespace Go.Proofs.Ytioloobeakjbeaa
open Go.RowKit Go.Maps

section
variable {w : World} {G : Nat → Prop} {c p nb : Nat} {C : Ca} {m r : Nat} {ls : List Nat} {nd : Nat → Node}
/-- Only nodes of the ring have changed: what is dirty, or pinned. -/
theorem CaAt.node {w' : World} {C' : Ca} {nd' : Nat → Node} (h : CaAt w G c p nb C m r ls nd) (hc : Chg (fun k => k ∈ r :: ls) w w') (hn : Nds w' (r :: ls) nd') (hi : ∀ a, (nd' a).n = (nd a).n ∧ (nd' a).v = (nd a).v ∧ (nd' a).b = (nd a).b ∧ (nd' a).x = (nd a).x ∧ (nd' a).y = (nd a).y)
    (hwf : C'.Wf nb) (hL : C'.L = ls.map fun a => (nd' a).it) (hs : C'.size = C.size) (h1 : C'.hits = C.hits) (h2 : C'.misses = C.misses) (h3 : C'.evicted = C.evicted) : CaAt w' G c p nb C' m r ls nd' := by
  have hb' : ∀ b, G b → b ∉ r :: ls → w'.heap[b]? = w.heap[b]? := fun b hf hne => hc.block b (h.lt b hf) hne
  refine ⟨hwf, h.nbt, ?_, ?_, hn, h.nodup, chain_congr h.chain (fun b _ => (hi b).2.2.2.1) (fun b _ => (hi b).2.2.2.2), hL, fun a ha => ?_, fun a ha b hb hab g hg => ?_, h.fc, h.fm, h.fn, fun a ha g hg => ?_, fun b hf => Nat.lt_of_lt_of_le (h.lt b hf) hc.size⟩
  · rw [hs, h1, h2, h3]
    exact (hb' c h.fc (fun e => (h.node_ne e).1 rfl)).trans h.blk
  · exact (h.map.kept (hb' m h.fm (fun e => (h.node_ne e).2.1 rfl))).congr (fun _ => Iff.rfl) (fun a _ => (hi a).1)
  · rw [(hi a).2.1, (hi a).2.2.1]
    exact own_same (h.own a ha) (fun g hg => hb' g (h.fb a ha g hg) (fun e => (h.node_ne e).2.2 a ha g hg rfl))
  · rw [(hi a).2.1] at hg
    rw [(hi b).2.1]
    exact h.apart a ha b hb hab g hg
  · rw [(hi a).2.1] at hg
    exact h.fb a ha g hg
theorem CaAt.mod_items (h : CaAt w G c p nb C m r ls nd) {a : Nat} (ha : a ∈ ls) (f : It → It) : (C.mod (nd a).n f).L = ls.map fun b => if b = a then f (nd b).it else (nd b).it := by
  show C.L.map _ = _
  rw [h.items, List.map_map]
  refine List.map_congr_left (fun b hb => ?_)
  show (if (nd b).n = (nd a).n then f (nd b).it else (nd b).it) = _
  by_cases e : b = a
  · subst e; simp
  · rw [if_neg e, if_neg (fun e2 => e (h.inj hb ha e2))]
theorem setD_same (nd : Nat → Node) (a : Nat) (d : Bool) (b : Nat) : (setD nd a d b).n = (nd b).n ∧ (setD nd a d b).v = (nd b).v ∧ (setD nd a d b).b = (nd b).b ∧ (setD nd a d b).x = (nd b).x ∧ (setD nd a d b).y = (nd b).y := by
  unfold _root_.Go.Proofs.Ytioloobeakjbeaa.setD; split <;> exact ⟨rfl, rfl, rfl, rfl, rfl⟩
theorem setD_it (nd : Nat → Node) (a : Nat) (d : Bool) (b : Nat) : (setD nd a d b).it = if b = a then { (nd b).it with dirty := d } else (nd b).it := by
  unfold _root_.Go.Proofs.Ytioloobeakjbeaa.setD; split <;> rfl
theorem setK_same (nd : Nat → Node) (a k b : Nat) : (setK nd a k b).n = (nd b).n ∧ (setK nd a k b).v = (nd b).v ∧ (setK nd a k b).b = (nd b).b ∧ (setK nd a k b).x = (nd b).x ∧ (setK nd a k b).y = (nd b).y := by
  unfold _root_.Go.Proofs.Ytioloobeakjbeaa.setK; split <;> exact ⟨rfl, rfl, rfl, rfl, rfl⟩
theorem setK_it (nd : Nat → Node) (a k b : Nat) : (setK nd a k b).it = if b = a then { (nd b).it with pins := k } else (nd b).it := by
  unfold _root_.Go.Proofs.Ytioloobeakjbeaa.setK; split <;> rfl
theorem CaAt.dirt (h : CaAt w G c p nb C m r ls nd) {a : Nat} (ha : a ∈ ls) (d : Bool) :
    CaAt (w.setCell ⟨a, 2, none⟩ (.bool d)) G c p nb (C.mod (nd a).n fun i => { i with dirty := d }) m r ls (setD nd a d) := by
  refine h.node (Chg.setCell _ _ _ (List.mem_cons_of_mem _ ha)) (h.nodes.setD (List.mem_cons_of_mem _ ha) d) (setD_same nd a d) (Ca.mod_wf h.wf _ _ (fun _ => rfl) (fun _ => rfl) (fun _ => Nat.le_refl _)) ?_ rfl rfl rfl rfl
  rw [h.mod_items ha]
  exact List.map_congr_left (fun b _ => (setD_it nd a d b).symm)
theorem mod_id {C : Ca} {n : Nat} {f : It → It} (h : ∀ i ∈ C.L, i.n = n → f i = i) : C.mod n f = C := by
  have : C.L.map (fun i => if i.n = n then f i else i) = C.L := by
    conv => rhs; rw [← List.map_id C.L]
    refine List.map_congr_left (fun i hi => ?_)
    split
    · rename_i e; exact h i hi e
    · rfl
  unfold Ca.mod
  rw [this]
theorem CaAt.same_item (h : CaAt w G c p nb C m r ls nd) {a : Nat} (ha : a ∈ ls) {i : It} (hi : i ∈ C.L) (e : i.n = (nd a).n) : i = (nd a).it := by
  rw [h.items] at hi
  obtain ⟨b, hb, rfl⟩ := List.mem_map.1 hi
  have := h.inj hb ha e
  rw [this]
end

/-- The cache behind clean of an item. -/
def cleanC (S : St) (C : Ca) (i : It) : Ca := if cleanE S i = 0 then C.mod i.n fun j => { j with dirty := false } else C

/-- The disk and the cache, apart. -/
structure Ck (w : World) (F G : Nat → Prop) (c p : Nat) (S : St) (C : Ca) (m r : Nat) (ls : List Nat) (nd : Nat → Node) : Prop where
  dk : Dk w F p S
  ca : CaAt w G c p S.nb C m r ls nd
  no : ∀ b, F b → ¬ G b
/-- What was there stays, but for F and G; new ones are of new memory. -/
structure Gr (F G : Nat → Prop) (w w' : World) (F' G' : Nat → Prop) : Prop where
  chg : Chg (fun b => F b ∨ G b) w w'
  f : ∀ b, F' b → F b ∨ w.heap.size ≤ b
  g : ∀ b, G' b → G b ∨ w.heap.size ≤ b
theorem Gr.refl (F G : Nat → Prop) (w : World) : Gr F G w w F G := ⟨Chg.refl _ _, fun _ h => .inl h, fun _ h => .inl h⟩
theorem Gr.trans {F G F' G' F'' G'' : Nat → Prop} {w w' w'' : World} (h : Gr F G w w' F' G') (k : Gr F' G' w' w'' F'' G'') : Gr F G w w'' F'' G'' := by
  have hs := h.chg.size
  refine ⟨h.chg.trans k.chg (fun i hi e => ?_), fun b hb => ?_, fun b hb => ?_⟩
  · rcases e with e | e
    · rcases h.f i e with e | e
      · exact .inl e
      · omega
    · rcases h.g i e with e | e
      · exact .inr e
      · omega
  · rcases k.f b hb with e | e
    · exact h.f b e
    · exact .inr (by omega)
  · rcases k.g b hb with e | e
    · exact h.g b e
    · exact .inr (by omega)
theorem Gr.new {F G : Nat → Prop} {w w' : World} (h : Chg (fun _ => False) w w') : Gr F G w w' F G := ⟨h.mono (fun _ _ h => h.elim), fun _ h => .inl h, fun _ h => .inl h⟩
theorem Gr.chgG {F G : Nat → Prop} {w w' : World} (h : Chg G w w') : Gr F G w w' F G := ⟨h.mono (fun _ _ h => .inr h), fun _ h => .inl h, fun _ h => .inl h⟩
theorem Gr.ofTo {F G F' : Nat → Prop} {w w' : World} (hc : Chg F w w') (hf : ∀ b, F' b → F b ∨ w.heap.size ≤ b) : Gr F G w w' F' G := ⟨hc.mono (fun _ _ h => .inl h), hf, fun _ h => .inl h⟩

set_option maxHeartbeats 1600000 in
set_option maxRecDepth 100000 in
theorem clean_any (F G : Nat → Prop) (c p : Nat) (S : St) (C : Ca) (m r : Nat) (ls : List Nat) (nd : Nat → Node) (a : Nat) (w : World) (h : Ck w F G c p S C m r ls nd) (ha : a ∈ ls) (hx : S.writes < 1099511627776) :
    Calls Try.prog 55 #[.pointer (some ⟨c, 0, none⟩), .pointer (some ⟨a, 0, none⟩)] w fun e w' => e = .returned (.int .i64 (cleanE S (nd a).it)) ∧ ∃ F' d, Ck w' F' G c p (cleanS S (nd a).it) (cleanC S C (nd a).it) m r ls (setD nd a d) ∧ Gr F G w w' F' G := by
  have hN := h.ca.nodes a (List.mem_cons_of_mem _ ha)
  have a2 := hN.c2
  have f2 := hN.fr 2
  by_cases hd : (nd a).d = true
  · obtain ⟨g, cap, hv, hgG⟩ := h.ca.slice ha
    have e1 : cleanE S (nd a).it = S.writeE (nd a).n (nd a).b := by unfold cleanE; rw [if_pos (show (nd a).it.dirty = true from hd)]; rfl
    have e2 : cleanS S (nd a).it = S.write (nd a).n (nd a).b := by unfold cleanS; rw [if_pos (show (nd a).it.dirty = true from hd)]; rfl
    have c0 := h.ca.c0
    have a0 := hN.c0
    have a1 := hN.c1
    have hbs := h.ca.bs ha
    have hC : cleanC S C (nd a).it = C.mod (nd a).n fun j => { j with dirty := decide (S.writeE (nd a).n (nd a).b ≠ 0) } := by
      unfold cleanC
      rw [e1]
      by_cases he : S.writeE (nd a).n (nd a).b = 0
      · rw [if_pos he]; simp [he]; rfl
      · rw [if_neg he]
        symm
        refine mod_id (fun i hi hin => ?_)
        have := h.ca.same_item ha hi hin
        have hdd : i.dirty = true := by rw [this]; exact hd
        cases i
        simp_all
    rw [e1, e2, hC]
    rw [hv] at a1 hbs
    rw [hd] at a2
    have WR : Hid (Calls Try.prog 79 #[.pointer (some ⟨p, 0, none⟩), .int .i64 ((nd a).n : Int), .slice (some ⟨g, 0, none⟩) 512 cap] w.drew fun e w1 => ∃ E, E = S.writeE (nd a).n (nd a).b ∧ e = .returned (.int .i64 E) ∧ w1.cell? ⟨c, 0, none⟩ = some (.pointer (some ⟨p, 0, none⟩)) ∧ w1.cell? ⟨a, 0, none⟩ = some (.int .i64 ((nd a).n : Int)) ∧ w1.cell? ⟨a, 1, none⟩ = some (.slice (some ⟨g, 0, none⟩) 512 cap) ∧
        w1.cell? ⟨a, 2, none⟩ = some (.bool true) ∧ w1.frozen? ⟨a, 2, none⟩ = false ∧
        Hid (CaAt w1 G c p S.nb C m r ls nd ∧ ∃ F', Dk w1 F' p (S.write (nd a).n (nd a).b) ∧ Chg F w w1 ∧ (∀ b, F' b → F b ∨ w.heap.size ≤ b))) := by
      have cd := Chg.drew (fun _ => False) w
      refine (write_any F p S (nd a).n (.slice (some ⟨g, 0, none⟩) 512 cap) (nd a).b w.drew (h.dk.kept cd (fun _ _ h => h)) (hbs.kept cd (fun _ _ _ _ _ h => h)) (fun g' hg' hf => by cases hg'; exact h.no _ hf hgG) hx).mono ?_
      rintro e w1 ⟨rfl, F', d1, c1, f1⟩
      have c1' : Chg F w w1 := (cd.mono (fun _ _ h => h.elim)).trans c1 (fun _ _ h => h)
      have ca1 := h.ca.kept c1' (fun b hg hf => h.no b hf hg)
      have hN1 := ca1.nodes a (List.mem_cons_of_mem _ ha)
      refine ⟨_, rfl, rfl, ca1.c0, hN1.c0, by rw [← hv]; exact hN1.c1, by have := hN1.c2; rw [hd] at this; exact this, hN1.fr 2, ca1, F', d1, c1', f1⟩
    have HN : Hid (∀ b, F b → ¬ G b) := h.no
    have HS : Hid (Ck w F G c p S C m r ls nd) := h
    have HA : Hid (a ∈ ls) := ha
    generalize (((nd a).n : Nat) : Int) = nn at *
    clear h hN hbs hC e1 e2 ha hd hv
    go_enter Try.func55, Try.ntmps55
    go_wp2_with fail
    go_region_held (fun w' => w'.cell? ⟨c, 0, none⟩ = some (.pointer (some ⟨p, 0, none⟩)) ∧ w'.cell? ⟨a, 0, none⟩ = some (.int .i64 nn) ∧ w'.cell? ⟨a, 1, none⟩ = some (.slice (some ⟨g, 0, none⟩) 512 cap))
      (first | assumption | exact ⟨c0, a0, a1⟩ | exact ⟨q0, q1, q2⟩)
      (first | (go_at_call 79; refine WR.out.mono ?_; clear WR; rintro e w1 ⟨E, hE, rfl, q0, q1, q2, q3, q4, HQ⟩))
    all_goals
      clear c0 a0 a1 a2 f2
      have HE : Hid (E = S.writeE nn (nd a).b) := hE
      clear hE
      go_wp2
      go_ret
      obtain ⟨ca1, F', d1, c1, f1⟩ := HQ.out
      have hno : ∀ b, F' b → ¬ G b := fun b hb hg => by
        rcases f1 b hb with e | e
        · exact HN.out b e hg
        · have := HS.out.ca.lt b hg; omega
      have hfn : ∀ b ∈ r :: ls, G b := ca1.fn
      have hcs : Chg (fun b => b ∈ r :: ls) w1 (w1.setCell ⟨a, 2, none⟩ (.bool (S.writeE nn (nd a).b != 0))) := Chg.setCell _ _ _ (List.mem_cons_of_mem _ HA.out)
      refine ⟨rfl, F', (S.writeE nn (nd a).b != 0), ⟨d1.kept hcs (fun b hf hm => hno b hf (hfn b hm)), ?_, hno⟩, (Gr.ofTo c1 f1).trans (Gr.chgG (hcs.mono (fun b _ hm => hfn b hm)))⟩
      rw [St.write_nb]
      have hb : decide (S.writeE nn (nd a).b ≠ 0) = (S.writeE nn (nd a).b != 0) := by rw [Bool.eq_iff_iff]; simp
      rw [hb]
      exact ca1.dirt HA.out _
  · have hd : (nd a).d = false := by simpa using hd
    have e1 : cleanE S (nd a).it = 0 := by unfold cleanE; rw [if_neg (by rw [show (nd a).it.dirty = false from hd]; decide)]
    have e2 : cleanS S (nd a).it = S := by unfold cleanS; rw [if_neg (by rw [show (nd a).it.dirty = false from hd]; decide)]
    have hC : cleanC S C (nd a).it = C := by
      unfold cleanC
      rw [if_pos e1]
      refine mod_id (fun i hi hin => ?_)
      have := h.ca.same_item ha hi hin
      have hdd : i.dirty = false := by rw [this]; exact hd
      cases i
      simp_all
    have hD : setD nd a false = nd := by
      funext b
      unfold _root_.Go.Proofs.Ytioloobeakjbeaa.setD
      split
      · rename_i e
        rw [e]
        cases hh : nd a
        rw [hh] at hd
        simp_all
      · rfl
    rw [e1, e2, hC]
    rw [hd] at a2
    have HS : Hid (Ck w F G c p S C m r ls (setD nd a false)) := by rw [hD]; exact h
    clear h hN e1 e2 hC hD
    go_enter Try.func55, Try.ntmps55
    go_wp2
    go_ret
    exact ⟨rfl, F, false, HS.out, Gr.refl _ _ _⟩

section
variable {w : World} {G : Nat → Prop} {c p nb : Nat} {C : Ca} {m r : Nat} {xs ys : List Nat} {a : Nat} {nd : Nat → Node}
theorem mem_mid {r : Nat} {xs ys : List Nat} {a b : Nat} (h : b ∈ r :: (xs ++ ys)) : b ∈ r :: (xs ++ a :: ys) := by
  rcases List.mem_cons.1 h with e | e
  · subst e; simp
  · rcases List.mem_append.1 e with e | e
    · exact List.mem_cons_of_mem _ (List.mem_append_left _ e)
    · exact List.mem_cons_of_mem _ (List.mem_append_right _ (List.mem_cons_of_mem _ e))
theorem chain_mem {nd : Nat → Node} {r a : Nat} {xs ys : List Nat} (h : Chain nd r (xs ++ a :: ys) r) : (nd a).x ∈ r :: (xs ++ a :: ys) ∧ (nd a).y ∈ r :: (xs ++ a :: ys) := by
  obtain ⟨c1, c2⟩ := chain_split.1 h
  refine ⟨?_, ?_⟩
  · have := chain_x_mem c2
    rcases List.mem_append.1 this with e | e
    · exact List.mem_cons_of_mem _ (List.mem_append_right _ (List.mem_cons_of_mem _ e))
    · simp at e; rw [e]; simp
  · have := chain_y_mem c1
    rcases List.mem_cons.1 this with e | e
    · rw [e]; simp
    · exact List.mem_cons_of_mem _ (List.mem_append_left _ e)
theorem chain_ne {nd : Nat → Node} {r a : Nat} {xs ys : List Nat} (hd : (r :: (xs ++ a :: ys)).Nodup) (h : Chain nd r (xs ++ a :: ys) r) : (nd a).x ≠ a ∧ (nd a).y ≠ a := by
  obtain ⟨c1, c2⟩ := chain_split.1 h
  simp only [List.nodup_cons, List.mem_append, List.mem_cons, not_or, List.nodup_append] at hd
  obtain ⟨⟨h1, h2, h3⟩, h4, ⟨h5, h6⟩, h7⟩ := hd
  refine ⟨fun e => ?_, fun e => ?_⟩
  · have := chain_x_mem c2
    rw [e] at this
    rcases List.mem_append.1 this with e | e
    · exact h5 e
    · simp at e; exact h2 e.symm
  · have := chain_y_mem c1
    rw [e] at this
    rcases List.mem_cons.1 this with e | e
    · exact h2 e.symm
    · exact h7 a e a (.inl rfl) rfl
/-- leave at a node of the ring. -/
theorem leave_at {w : World} {r a : Nat} {xs ys : List Nat} {nd : Nat → Node} (hn : Nds w (r :: (xs ++ a :: ys)) nd) (hd : (r :: (xs ++ a :: ys)).Nodup) (hc : Chain nd r (xs ++ a :: ys) r) :
    Calls Try.prog 76 #[.pointer (some ⟨a, 0, none⟩)] w fun e w' => e = .returned (.tuple #[]) ∧ Nds w' (r :: (xs ++ a :: ys)) (left nd a) ∧ Chain (left nd a) r (xs ++ ys) r ∧ Chg (fun b => b ∈ r :: (xs ++ a :: ys)) w w' := by
  have ha : a ∈ r :: (xs ++ a :: ys) := by simp
  obtain ⟨hx, hy⟩ := chain_mem hc
  obtain ⟨nx, ny⟩ := chain_ne hd hc
  refine (leave_any w a (nd a).x (nd a).y (hn a ha).c4 (hn a ha).c5 ⟨_, (hn _ hx).c5⟩ ⟨_, (hn _ hy).c4⟩ ((hn _ hx).fr 5) ((hn _ hy).fr 4) nx ny).mono ?_
  rintro e w' ⟨rfl, q, rfl⟩
  exact ⟨rfl, hn.left hx hy, chain_leave hd hc, (chg_left w hx hy).trans (Chg.drewN _ _ _) (fun _ _ h => h)⟩
/-- enter at a node that is there, and not of the ring. -/
theorem enter_at {w : World} {r a : Nat} {ls M : List Nat} {nd : Nat → Node} (hn : Nds w M nd) (hM : ∀ b ∈ r :: ls, b ∈ M) (haM : a ∈ M) (ha : a ∉ r :: ls) (hd : (r :: ls).Nodup) (hc : Chain nd r ls r) :
    Calls Try.prog 77 #[.pointer (some ⟨a, 0, none⟩), .pointer (some ⟨r, 0, none⟩)] w fun e w' => e = .returned (.tuple #[]) ∧ Nds w' M (entered nd r a) ∧ Chain (entered nd r a) r (ls ++ [a]) r ∧ Chg (fun b => b ∈ M) w w' := by
  have hrM : r ∈ M := hM r (by simp)
  have ho := chain_y_mem hc
  have hoM : (nd r).y ∈ M := hM _ ho
  refine (enter_any w a r (nd r).y (hn r hrM).c5 ⟨_, (hn a haM).c5⟩ ⟨_, (hn a haM).c4⟩ ⟨_, (hn _ hoM).c4⟩ ((hn a haM).fr 5) ((hn a haM).fr 4) ((hn _ hoM).fr 4) ((hn r hrM).fr 5) (fun e => ha (by rw [← e]; simp)) (fun e => ha (by rw [← e]; exact ho))).mono ?_
  rintro e w' ⟨rfl, q, rfl⟩
  exact ⟨rfl, hn.enter haM hrM hoM, chain_enter hd ha hc, (chg_enter w haM hrM hoM).trans (Chg.drewN _ _ _) (fun _ _ h => h)⟩

theorem filter_mid {nd : Nat → Node} {C : Ca} (hu : (C.L.map It.n).Nodup) (hi : C.L = (xs ++ a :: ys).map fun b => (nd b).it) : (C.L.filter fun i => i.n != (nd a).n) = (xs ++ ys).map fun b => (nd b).it := by
  have := (Ca.filter_eq hu (i := (nd a).it) (xs := xs.map fun b => (nd b).it) (ys := ys.map fun b => (nd b).it) (by rw [hi]; simp)).1
  rw [show (nd a).n = (nd a).it.n from rfl, this]
  simp

theorem step_delete_eq {P : Program} {w : World} {ops : Array Oper} {o : Oper} {a : Act} {K : Act → World → Prop} {Q : Exit → Act → World → Prop} {E : Prop} (hgd : o.guard = none) (d s : Operand) (t t' : TypeId)
    (ho : o.op = .call { callee := .builtin .delete, args := #[d, s], argTypes := #[t, t'] }) (vd vs : Value) (hd : a.eval d = vd) (hs : a.eval s = vs)
    (w' : World) (hr : (Builtin.delete_ #[t, t'] o.type #[vd, vs]).run P w = .ok (.tuple #[]) w') (h : K (a.put o.dst (.tuple #[])) w') : if Region.wanted o (yielded ops a.tmps) = true then Oper.wp P o a w K Q else E := by
  have hw : Region.wanted o (yielded ops a.tmps) = true := by simp [Region.wanted, hgd]
  rw [if_pos hw]
  unfold Oper.wp
  simp [execOp, ho, resolve, invoke, builtin, hd, hs, hr, Result.andThen]
  exact h

set_option maxHeartbeats 1600000 in
set_option maxRecDepth 100000 in
theorem evict_any (G : Nat → Prop) (c p nb : Nat) (C : Ca) (m r : Nat) (xs ys : List Nat) (a : Nat) (nd : Nat → Node) (w : World) (h : CaAt w G c p nb C m r (xs ++ a :: ys) nd) (hev : C.evicted < 1099511627776) :
    Calls Try.prog 86 #[.pointer (some ⟨c, 0, none⟩), .pointer (some ⟨a, 0, none⟩)] w fun e w' => e = .returned (.tuple #[]) ∧ ∃ nd', CaAt w' G c p nb (C.out (nd a).n) m r (xs ++ ys) nd' ∧ Chg G w w' := by
  have hal : a ∈ xs ++ a :: ys := by simp
  have hno : ∀ b ∈ xs ++ ys, (nd b).n ≠ (nd a).n := fun b hb e => by
    have hb2 : b ∈ xs ++ a :: ys := by
      have := mem_mid (r := r) (a := a) (List.mem_cons_of_mem _ hb)
      rcases List.mem_append.1 hb with e | e
      · exact List.mem_append_left _ e
      · exact List.mem_append_right _ (List.mem_cons_of_mem _ e)
    have := h.inj hb2 hal e
    subst this
    have hd := (List.nodup_cons.1 h.nodup).2
    simp only [List.nodup_append, List.nodup_cons] at hd
    rcases List.mem_append.1 hb with e | e
    · exact hd.2.2 b e b (by simp) rfl
    · exact hd.2.1.1 e
  have HN : Hid (∀ b ∈ xs ++ ys, (nd b).n ≠ (nd a).n) := hno
  have HH : Hid (CaAt w G c p nb C m r (xs ++ a :: ys) nd) := h
  have LV : Hid (Calls Try.prog 76 #[.pointer (some ⟨a, 0, none⟩)] w fun e w' => e = .returned (.tuple #[]) ∧ Nds w' (r :: (xs ++ a :: ys)) (left nd a) ∧ Chain (left nd a) r (xs ++ ys) r ∧ Chg (fun b => b ∈ r :: (xs ++ a :: ys)) w w') := leave_at h.nodes h.nodup h.chain
  clear h hno hal
  go_enter Try.func86, Try.ntmps86
  go_wp2_with fail
  refine LV.out.mono ?_
  rintro e w1 ⟨rfl, n1, ch1, cg1⟩
  have hb1 : ∀ b, G b → b ∉ r :: (xs ++ a :: ys) → w1.heap[b]? = w.heap[b]? := fun b hf hne => cg1.block b (HH.out.lt b hf) hne
  have hc1 : w1.heap[c]? = w.heap[c]? := hb1 c HH.out.fc (fun e => (HH.out.node_ne e).1 rfl)
  have blk1 := hc1.trans HH.out.blk
  have c2 : w1.cell? ⟨c, 2, none⟩ = some (.map (some m)) := by rw [cell_of_row w1 c 2 _ _ _ blk1]; rfl
  have m1 : Mp w1 m nb (xs ++ a :: ys) (left nd a) := (HH.out.map.kept (hb1 m HH.out.fm (fun e => (HH.out.node_ne e).2.1 rfl))).congr (fun _ => Iff.rfl) (fun b _ => congrArg It.n (left_it nd a b).1)
  have hln : ∀ b, (left nd a b).n = (nd b).n := fun b => congrArg It.n (left_it nd a b).1
  have a0 := (n1 a (by simp)).c0
  have MD := (m1.kept (w' := w1.drew) rfl).delete HH.out.nbt (by rw [hln]; exact HH.out.nlt (by simp)) (fun b hb => by rw [hln, hln]; exact HN.out b hb) 0
  obtain ⟨w3, hr, m3, g3, s3⟩ := MD
  have cg3 : Chg (fun b => b = m) w1 w3 := ((Chg.drew (fun b => b = m) w1).trans ((Chg.ofGrown g3).mono (fun b _ e => (Option.some.inj e).symm)) (fun _ _ h => h))
  have hmc : ¬ c = m := HH.out.c_ne.1
  have blk3 := (cg3.block c (Array.getElem?_eq_some_iff.1 blk1).1 hmc).trans blk1
  have n3 : Nds w3 (r :: (xs ++ a :: ys)) (left nd a) := n1.kept cg3 (fun b hb e => (HH.out.node_ne hb).2.1 e)
  have k2 : w3.cell? ⟨c, 2, none⟩ = some (.map (some m)) := by rw [cell_of_row w3 c 2 _ _ _ blk3]; rfl
  have k6 : w3.cell? ⟨c, 6, none⟩ = some (.int .i64 (C.evicted : Int)) := by rw [cell_of_row w3 c 6 _ _ _ blk3]; rfl
  have kf : w3.frozen? ⟨c, 6, none⟩ = false := by simp [World.frozen?, blk3]
  have k0 := (n3 a (by simp)).c0
  have HQ : Hid (CaAt (w3.setCell ⟨c, 6, none⟩ (.int .i64 ((C.evicted : Int) + 1))) G c p nb (C.out (nd a).n) m r (xs ++ ys) (left nd a) ∧ Chg G w (w3.setCell ⟨c, 6, none⟩ (.int .i64 ((C.evicted : Int) + 1)))) := by
    have cg4 : Chg (fun b => b = c) w3 (w3.setCell ⟨c, 6, none⟩ (.int .i64 ((C.evicted : Int) + 1))) := Chg.setCell _ _ _ rfl
    have hb6 := heap_setCell_same w3 c 6 _ _ (.int .i64 ((C.evicted : Int) + 1)) blk3
    simp at hb6
    have hchg : Chg G w (w3.setCell ⟨c, 6, none⟩ (.int .i64 ((C.evicted : Int) + 1))) :=
      (cg1.mono (fun b _ hb => HH.out.fn b hb)).trans ((cg3.mono (S' := G) (fun b _ e => by rw [e]; exact HH.out.fm)).trans (cg4.mono (S' := G) (fun b _ e => by rw [e]; exact HH.out.fc)) (fun _ _ h => h)) (fun _ _ h => h)
    have hmm : ∀ b ∈ xs ++ ys, b ∈ xs ++ a :: ys := fun b hb => by
      rcases List.mem_append.1 hb with e | e
      · exact List.mem_append_left _ e
      · exact List.mem_append_right _ (List.mem_cons_of_mem _ e)
    refine ⟨⟨Ca.out_wf HH.out.wf _, HH.out.nbt, hb6, m3.kept (cg4.block m m3.lt (fun e => hmc e.symm)), ?_, ?_, ch1, ?_, fun b hb => ?_, fun b hb b2 hb2 hne g hg => ?_, HH.out.fc, HH.out.fm, fun b hb => HH.out.fn b (mem_mid hb), fun b hb g hg => ?_, fun b hb => Nat.lt_of_lt_of_le (HH.out.lt b hb) hchg.size⟩, hchg⟩
    · intro b hb
      have hb2 := mem_mid (a := a) hb
      exact (n3 b hb2).same (cg4.block b (n3 b hb2).lt (HH.out.node_ne hb2).1)
    · have hd := HH.out.nodup
      refine List.Nodup.sublist ?_ hd
      exact List.Sublist.cons_cons _ (List.Sublist.append_left (List.sublist_cons_self _ _) _)
    · show C.L.filter _ = _
      rw [filter_mid HH.out.wf.uniq HH.out.items]
      exact List.map_congr_left (fun b _ => (left_it nd a b).1.symm)
    · rw [(left_it nd a b).2, show (left nd a b).b = (nd b).b from congrArg It.b (left_it nd a b).1]
      have hb2 := hmm b hb
      refine own_same (HH.out.own b hb2) (fun g hg => ?_)
      have hG := HH.out.fb b hb2 g hg
      have hl := HH.out.lt g hG
      have e1 := hb1 g hG (fun e => (HH.out.node_ne e).2.2 b hb2 g hg rfl)
      have e2 := cg3.block g (Nat.lt_of_lt_of_le hl cg1.size) (fun e => HH.out.m_ne b hb2 g hg e.symm)
      have e3 := cg4.block g (Nat.lt_of_lt_of_le hl (Nat.le_trans cg1.size cg3.size)) (fun e => HH.out.c_ne.2 b hb2 g hg e.symm)
      exact e3.trans (e2.trans e1)
    · rw [(left_it nd a b).2] at hg
      rw [(left_it nd a b2).2]
      exact HH.out.apart b (hmm b hb) b2 (hmm b2 hb2) hne g hg
    · rw [(left_it nd a b).2] at hg
      exact HH.out.fb b (hmm b hb) g hg
  clear LV m1 n1 ch1 cg1 hb1 hc1 m3 g3 s3 cg3 n3 blk3 blk1 HN hln
  generalize (((left nd a a).n : Nat) : Int) = nn at *
  go_wp2_with fail
  go_region_held_law (fun w' => w'.cell? ⟨c, 2, none⟩ = some (.map (some m)) ∧ w'.cell? ⟨a, 0, none⟩ = some (.int .i64 nn))
    (first | assumption | exact ⟨c2, a0⟩ | exact ⟨k2, k0⟩)
    (refine step_delete_eq (by rfl) _ _ _ _ (by rfl) _ _ (by rfl) (by rfl) _ hr ?_)
  all_goals
    clear c2 a0 hr k2 k0
    go_wp2
    go_end0
    exact ⟨rfl, _, HQ.out⟩
end
end Go.Proofs.Ytioloobeakjbeaa

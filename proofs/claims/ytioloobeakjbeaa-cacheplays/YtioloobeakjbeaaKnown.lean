/-
  known answers true; nothing that was there has changed.
-/
import Derived.Test.YtioloobeakjbeaaDirty
import Derived.Test.YtioloobeakjbeaaCMem
namespace Go.Proofs.Ytioloobeakjbeaa
open Go.RowKit Go.Maps

theorem eq32_nil' (w : World) : (binOp .eql 32 (.pointer none) (.pointer none)).run Try.prog w = .ok (.bool true) w := by kernel_rfl
theorem eq32_some' (a : Addr) (w : World) : (binOp .eql 32 (.pointer (some a)) (.pointer none)).run Try.prog w = .ok (.bool false) w := by kernel_rfl

/-- Behind a call: all that changed is new. -/
structure Nw (F G : Nat → Prop) (w w' : World) : Prop where
  chg : Chg (fun _ => False) w w'
  f : ∀ b, F b ∨ G b → w.heap.size ≤ b
theorem Nw.to {F G F' G' : Nat → Prop} {w w1 w2 : World} (h : Nw F G w w1) (k : Gr F G w1 w2 F' G') : Nw F' G' w w2 := by
  have hs := h.chg.size
  refine ⟨h.chg.trans k.chg (fun i hi e => ?_), fun b hb => ?_⟩
  · have := h.f i e; omega
  · rcases hb with e | e
    · rcases k.f b e with e | e
      · exact h.f b (.inl e)
      · omega
    · rcases k.g b e with e | e
      · exact h.f b (.inr e)
      · omega
theorem Nw.more {F G : Nat → Prop} {w w1 w2 : World} (h : Nw F G w w1) (k : Chg (fun _ => False) w1 w2) : Nw F G w w2 := ⟨h.chg.trans k (fun _ _ h => h), h.f⟩
/-- A new disk and a new cache. -/
theorem Cc.start {w w1 w2 : World} {F G : Nat → Prop} {p c nb size m r : Nat} {nd : Nat → Node} (d : Dk w1 F p (St.new nb)) (cd : Chg (fun _ => False) w w1) (hF : ∀ b, F b → w.heap.size ≤ b) (ca : CaAt w2 G c p nb (Ca.new size) m r [] nd) (cc : Chg (fun _ => False) w1 w2) (hG : ∀ b, G b → w1.heap.size ≤ b) :
    Cc w2 F G c p (St.new nb) (Ca.new size) ∧ Nw F G w w2 := by
  have hs := cd.size
  refine ⟨⟨m, r, [], nd, d.kept cc (fun _ _ h => h), ca, fun b hf hg => ?_⟩, cd.trans cc (fun _ _ h => h), fun b hb => ?_⟩
  · have := d.lt b hf; have := hG b hg; omega
  · rcases hb with e | e
    · exact hF b e
    · have := hG b e; omega
/-- Full of something, ahead of a Put. -/
theorem Cc.full {w1 w2 : World} {F G : Nat → Prop} {p c : Nat} {S : St} {C : Ca} {u : Value} {xs : List Int} {w0 : World} (h : Cc w1 F G c p S C) (ca : Chg (fun _ => False) w1 w0) (fr : Fresh w0 w2 u xs) : Cc w2 F G c p S C ∧ Bs w2 u xs ∧ (∀ g, u.ownBlock = some g → ¬ F g ∧ ¬ G g) ∧ Chg (fun _ => False) w1 w2 := by
  have c1 : Chg (fun _ => False) w1 w2 := ca.trans fr.chg (fun _ _ h => h)
  refine ⟨h.kept c1 (fun _ _ h => h), fr.bs, fun g hg => ?_, c1⟩
  have h1 := fr.new g hg
  have h2 := ca.size
  exact ⟨fun e => by have := h.lt g (.inl e); omega, fun e => by have := h.lt g (.inr e); omega⟩

def k1 (A : List Int) : Ca := ⟨2, [⟨1, A, true, 0⟩], 0, 1, 0⟩
def k2 (A : List Int) : Ca := ⟨2, [⟨1, A, true, 0⟩, ⟨2, zeros 512, false, 0⟩], 0, 2, 0⟩
def k3 (A : List Int) : Ca := ⟨2, [⟨2, zeros 512, false, 0⟩, ⟨1, A, true, 0⟩], 1, 2, 0⟩
def k4 (A : List Int) : Ca := ⟨2, [⟨1, A, true, 0⟩, ⟨3, zeros 512, false, 0⟩], 1, 3, 1⟩
theorem kput {A : List Int} (hA : A.length = 512) : put (St.new 5) (Ca.new 2) 1 A = ⟨0, St.new 5, k1 A⟩ := by
  unfold put
  rw [if_neg (by simpa using hA)]
  rfl
theorem kread (n : Int) (h0 : 0 ≤ n) (h : n < 5) : (St.new 5).readE n = 0 ∧ (St.new 5).readV n = zeros 512 := by
  have e : (St.new 5).readE n = 0 := by
    unfold St.readE
    rw [if_neg (by decide), if_pos ⟨h0, by show n < (5 : Nat); omega⟩]
  refine ⟨e, ?_⟩
  unfold St.readV
  rw [if_pos e]
  rfl
theorem kget2 (A : List Int) : get (St.new 5) (k1 A) 2 = ⟨0, St.new 5, k2 A⟩ := by
  unfold get
  rw [(kread 2 (by decide) (by decide)).1, (kread 2 (by decide) (by decide)).2]
  rfl
theorem kget1 (A : List Int) : get (St.new 5) (k2 A) 1 = ⟨0, St.new 5, k3 A⟩ := by
  unfold get
  rw [(kread 1 (by decide) (by decide)).1, (kread 1 (by decide) (by decide)).2]
  rfl
theorem kget3 (A : List Int) : get (St.new 5) (k3 A) 3 = ⟨0, St.new 5, k4 A⟩ := by
  unfold get
  rw [(kread 3 (by decide) (by decide)).1, (kread 3 (by decide) (by decide)).2]
  rfl
theorem kheld (A : List Int) : (k4 A).held 5 = [1, 3] := rfl
theorem kdirty (A : List Int) : (k4 A).dirties 5 = [1] := rfl

set_option maxHeartbeats 3200000 in
set_option maxRecDepth 100000 in
theorem known_any (w : World) : Calls Try.prog 9 #[] w fun e w' => e = .returned (.bool true) ∧ Chg (fun _ => False) w w' := by
  have kc := fun (w : World) (C : Array Value) (n c : Nat) => Lib.run_convert_bytes_const (P := Try.prog) w 39 5 C n c Try.underlying39 Try.underlying5
  obtain ⟨A, hA⟩ : ∃ A, full [97] = A := ⟨_, rfl⟩
  have HA : Hid (full [97] = A) := hA
  have HL : Hid (A.length = 512) := (show A.length = 512 by rw [← hA]; exact full_len _)
  clear hA
  go_enter Try.func9, Try.ntmps9
  go_wp2_with fail
  refine (new_ok 5 w (by decide) (by decide)).mono ?_
  rintro e w1 ⟨F, p, rfl, h1, hc1, hF⟩
  have H1 : Hid (Dk w1 F p (St.new 5) ∧ Chg (fun _ => False) w w1 ∧ ∀ b, F b → w.heap.size ≤ b) := ⟨h1, hc1, hF⟩
  clear h1 hc1 hF
  go_wp2_with fail
  refine (cnew_ok p 2 5 w1 (by decide) (by decide) (by decide)).mono ?_
  rintro e w2 ⟨c, G, m, r, nd, rfl, h2, hc2, hG⟩
  have H2 : Hid (Cc w2 F G c p (St.new 5) (Ca.new 2) ∧ Nw F G w w2) := Cc.start H1.out.1 H1.out.2.1 H1.out.2.2 h2 hc2 hG
  have hq := eq32_some' ⟨c, 0, none⟩
  clear h2 hc2 hG H1
  go_wp2_with fail
  -- Put(1, Full("a"))
  refine (full_any _ [97] _ (Bs.oneF w2 97 _) (by decide)).mono ?_
  rintro e w3 ⟨u, rfl, fr⟩
  obtain ⟨ua, uc, rfl, hu⟩ := fr.form
  rw [HA.out] at fr
  have N3 := H2.out.1.full (Chg.alloc (fun _ => False) w2 _) fr
  have H3 : Hid (Cc w3 F G c p (St.new 5) (Ca.new 2) ∧ Bs w3 (.slice ua 512 uc) A ∧ (∀ g, (Value.slice ua 512 uc).ownBlock = some g → ¬ F g ∧ ¬ G g) ∧ Nw F G w w3) := ⟨N3.1, N3.2.1, N3.2.2.1, H2.out.2.more N3.2.2.2⟩
  clear fr H2 N3
  go_wp2_with fail
  refine (put_any F G c p (St.new 5) (Ca.new 2) 1 _ A w3 H3.out.1 H3.out.2.1 H3.out.2.2.1 (by decide) (by decide) (by decide)).mono ?_
  rintro e w4 ⟨rfl, F4, G4, h4, g4⟩
  rw [kput HL.out] at h4 ⊢
  have H4 : Hid (Cc w4 F4 G4 c p (St.new 5) (k1 A) ∧ Nw F4 G4 w w4) := ⟨h4, H3.out.2.2.2.to g4⟩
  clear H3 h4 g4 hu
  go_wp2_with fail
  refine (get_any F4 G4 c p (St.new 5) (k1 A) 2 w4 H4.out.1 (by decide) (show 0 + 1 < 1099511627776 by decide) (show 0 < 1099511627776 by decide)).mono ?_
  rintro e w5 ⟨u5, F5, G5, rfl, h5, g5, _, _⟩
  rw [kget2] at h5 ⊢
  have H5 : Hid (Cc w5 F5 G5 c p (St.new 5) (k2 A) ∧ Nw F5 G5 w w5) := ⟨h5, H4.out.2.to g5⟩
  clear H4 h5 g5
  go_wp2_with fail
  refine (get_any F5 G5 c p (St.new 5) (k2 A) 1 w5 H5.out.1 (by decide) (show 0 + 2 < 1099511627776 by decide) (show 0 < 1099511627776 by decide)).mono ?_
  rintro e w6 ⟨u6, F6, G6, rfl, h6, g6, _, _⟩
  rw [kget1] at h6 ⊢
  have H6 : Hid (Cc w6 F6 G6 c p (St.new 5) (k3 A) ∧ Nw F6 G6 w w6) := ⟨h6, H5.out.2.to g6⟩
  clear H5 h6 g6
  go_wp2_with fail
  refine (get_any F6 G6 c p (St.new 5) (k3 A) 3 w6 H6.out.1 (by decide) (show 1 + 2 < 1099511627776 by decide) (show 0 < 1099511627776 by decide)).mono ?_
  rintro e w7 ⟨u7, F7, G7, rfl, h7, g7, _, _⟩
  rw [kget3] at h7 ⊢
  obtain ⟨m7, r7, ls7, nd7, h7⟩ := h7
  have H7 : Hid (CaAt w7 G7 c p 5 (k4 A) m7 r7 ls7 nd7 ∧ Nw F7 G7 w w7) := ⟨h7.ca, H6.out.2.to g7⟩
  clear H6 h7 g7
  go_wp2_with fail
  refine (stats_any G7 c p 5 (k4 A) m7 r7 ls7 nd7 w7 H7.out.1).mono ?_
  rintro e w8 ⟨rfl, q, hw8⟩
  have c8 : Chg (fun _ => False) w7 w8 := by rw [hw8]; exact Chg.drewN _ _ _
  have H8 : Hid (CaAt w8 G7 c p 5 (k4 A) m7 r7 ls7 nd7 ∧ Nw F7 G7 w w8) := ⟨H7.out.1.kept c8 (fun _ _ h => h), H7.out.2.more c8⟩
  rw [show (((k4 A).hits : Nat) : Int) = 1 from rfl, show (((k4 A).misses : Nat) : Int) = 3 from rfl, show (((k4 A).evicted : Nat) : Int) = 1 from rfl]
  clear H7 hw8 c8
  go_wp2_with fail
  refine (held_any G7 c p 5 (k4 A) m7 r7 ls7 nd7 w8 H8.out.1).mono ?_
  rintro e w9 ⟨v, rfl, ho, hc⟩
  rw [kheld] at ho
  rcases ho.2 with ⟨_, h0⟩ | ⟨g, cap, cur, hv, _, _, hcap, _⟩
  · simp at h0
  have hvv : v = .slice (some ⟨g, 0, none⟩) 2 cap := hv
  rw [hvv] at ho
  subst hvv
  have l0 : w9.cell? ⟨g, 0, none⟩ = some (.int .i64 1) := own_cells (X := [1, 3]) ho 0 (by decide)
  have l1 : w9.cell? ⟨g, 1, none⟩ = some (.int .i64 3) := own_cells (X := [1, 3]) ho 1 (by decide)
  have H9 : Hid (CaAt w9 G7 c p 5 (k4 A) m7 r7 ls7 nd7 ∧ Nw F7 G7 w w9) := ⟨H8.out.1.kept hc (fun _ _ h => h), H8.out.2.more hc⟩
  have hcap2 : 2 ≤ cap := hcap
  clear ho hc H8 hv hcap
  go_wp2_with fail
  refine (dirty_any G7 c p 5 (k4 A) m7 r7 ls7 nd7 w9 H9.out.1).mono ?_
  rintro e w10 ⟨v, rfl, ho, hc⟩
  rw [kdirty] at ho
  rcases ho.2 with ⟨_, h0⟩ | ⟨g2, cap2, cur2, hv, _⟩
  · simp at h0
  have hvv : v = .slice (some ⟨g2, 0, none⟩) 1 cap2 := hv
  have H10 : Hid (Chg (fun _ => False) w w10) := (H9.out.2.more hc).chg
  subst hvv
  clear ho hc H9 hv l0 l1
  go_wp2
  go_ret
  exact ⟨rfl, H10.out⟩
end Go.Proofs.Ytioloobeakjbeaa

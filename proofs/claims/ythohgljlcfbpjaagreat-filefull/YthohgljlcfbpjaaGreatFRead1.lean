/-
  The closure of Read of package file.
-/
import Derived.Test.YthohgljlcfbpjaaGreatFGrow2
import Derived.BigRegion
namespace Go.Proofs.YthohgljlcfbpjaaGreat
open Go.RowKit Go.Maps

/-- append, under a name that the walk leaves shut. -/
def appG (ats : Array TypeId) (ty : TypeId) (args : Array Value) : Sem Value := Builtin.append_ ats ty args
theorem appG_eq (ats : Array TypeId) (ty : TypeId) (args : Array Value) : Builtin.append_ ats ty args = appG ats ty args := rfl
attribute [local go_sem ↓] appG_eq

section
variable {L : List Nat} {X X' : Nat → Prop} {w0 w w' w1 : World} {pd pl q K : Nat} {f : Nat → List Int} {com : Nat → Option (List Int)} {pend N : Nat} {V : Nat → List Int} {live : Bool} {own : Nat → Option (List Int)} {wrote : Nat} {S : Nat → Prop}
theorem Nw.puts {F G : Nat → Prop} (h : Nw X w0 w F G) (hr : ∀ b, S b → b < w.heap.size → X b ∧ w0.heap.size ≤ b) (hc : Chg S w w') : Nw X w0 w' F G :=
  ⟨h.chg.trans hc (fun i hi e => by have := (hr i e (by have := h.chg.size; omega)).2; omega), h.f, h.g, fun b hb => ⟨by have := (h.x b hb).1; have := hc.size; omega, (h.x b hb).2⟩⟩
theorem TxUp.puts (h : TxUp X w0 w pd pl q K f com pend live own wrote N) (hr : ∀ b, S b → b < w.heap.size → X b ∧ w0.heap.size ≤ b) (hlt : ∀ b, S b → b < w.heap.size) (hc : Chg S w w') : TxUp X w0 w' pd pl q K f com pend live own wrote N := by
  obtain ⟨F, G, S', m, V, mt, Vt, h1, h2, h3, h4, h5, h6, h7, h8⟩ := h
  exact ⟨F, G, S', m, V, mt, Vt, h1.keptE hc (fun b hb e => (h7.x b (hr b e (hlt b e)).1).2.1 hb) (fun b hb e => (h7.x b (hr b e (hlt b e)).1).2.2 hb), h2, h3, h4, h5, h6, h7.puts hr hc, h8⟩
/-- Stores into memory that is not the log's. -/
theorem Tv.puts (h : Tv L X w0 w pd pl q K f com pend N V) (hr : ∀ b, S b → b < w.heap.size → X b ∧ w0.heap.size ≤ b) (hlt : ∀ b, S b → b < w.heap.size) (hc : Chg S w w') : Tv L X w0 w' pd pl q K f com pend N V := by
  obtain ⟨own, wrote, h1, h2⟩ := h
  exact ⟨own, wrote, h1.puts hr hlt hc, h2⟩
end
theorem Fs.puts {c : Cx} {X S : Nat → Prop} {w w' : World} {V : Nat → List Int} {T : Nat → Bool} (h : Fs c X w V T) (hr : ∀ b, S b → X b ∧ c.w0.heap.size ≤ b) (hc : Chg S w w') : Fs c X w' V T :=
  ⟨h.tv.puts (fun b hb _ => hr b hb) (fun b hb => h.tv.xlt b (hr b hb).1) hc, h.bt, h.by'⟩

/-- Bytes that are being collected, in a box. -/
structure GotAt (w : World) (N gb : Nat) (v : Value) (xs : List Int) : Prop where
  box : w.heap[gb]? = some (.cells #[v] 33 (0, 0))
  own : w.ownsRow N 5 1 v xs.length (bcells xs)
theorem GotAt.kept {S : Nat → Prop} {w w' : World} {N gb : Nat} {v : Value} {xs : List Int} (h : GotAt w N gb v xs) (hc : Chg S w w') (h1 : ¬ S gb) (h2 : ∀ g, v.ownBlock = some g → ¬ S g) : GotAt w' N gb v xs := by
  refine ⟨(hc.block gb (lt_of_block h.box) h1).trans h.box, h.own.1, ?_⟩
  rcases h.own.2 with e | ⟨g, cap, cur, e, hb, hg, r⟩
  · exact .inl e
  · refine .inr ⟨g, cap, cur, e, hb, ?_, r⟩
    rw [hc.block g (lt_of_block hg) (h2 g (by rw [e]; rfl))]; exact hg
theorem GotAt.ne {w : World} {N gb : Nat} {v : Value} {xs : List Int} (h : GotAt w N gb v xs) : v.ownBlock ≠ some gb := by
  intro e
  rcases h.own.2 with ⟨e2, _⟩ | ⟨g, cap, cur, e2, _, hg, _⟩
  · rw [e2] at e; cases e
  · rw [e2] at e
    have : g = gb := by simpa [Value.ownBlock] using e
    subst this
    have := h.box
    rw [hg] at this
    cases this
section
variable {c : Cx} {X : Nat → Prop} {w : World} {V : Nat → List Int} {T : Nat → Bool}
set_option maxHeartbeats 1600000 in
set_option maxRecDepth 100000 in
theorem read1_any (x fr tq tb gb N : Nat) (v : Value) (xs : List Int) (hs : Fs c X w V T) (hx : x < c.K) (hft : fr < tq) (ht : tq ≤ 512) (htb : w.cell? ⟨tb, 0, none⟩ = some (tI c.q)) (hg : GotAt w N gb v xs) (hl : xs.length ≤ 10000000) (hN : N ≤ w.heap.size) :
    Calls Tryz.prog 51 #[.int .i64 (x : Int), .int .i64 (fr : Int), .int .i64 (tq : Int), .pointer (some ⟨tb, 0, none⟩), .pointer (some ⟨gb, 0, none⟩)] w fun e w' => e = .returned (.int .i64 0) ∧
      ∃ v', GotAt w' N gb v' (xs ++ ((V x).drop fr).take (tq - fr)) ∧ Chg (fun b => b = gb ∨ v.ownBlock = some b) w w' ∧ (v'.ownBlock = v.ownBlock ∨ ∃ g, v'.ownBlock = some g ∧ w.heap.size ≤ g) := by
  obtain ⟨i0, hi, hz0, hz1, hz2⟩ := info5_parts
  have hVl := hs.tv.len hx
  have LD : Hid (Calls Tryz.prog 52 #[tI c.q, .int .i64 (x : Int)] w fun e w1 => ∃ g cp, e = .returned (.tuple #[.slice (some ⟨g, 0, none⟩) 512 cp, .int .i64 0]) ∧ 512 ≤ cp ∧ w1.cell? ⟨gb, 0, none⟩ = some v ∧ w1.frozen? ⟨gb, 0, none⟩ = false ∧
      ∃ v' w2, (appG #[33, 33] 33 #[v, .slice (some ⟨g, fr, none⟩) (tq - fr) (cp - fr)]).run Tryz.prog w1.drew = .ok v' w2 ∧ w2.cell? ⟨gb, 0, none⟩ = some v ∧ w2.frozen? ⟨gb, 0, none⟩ = false ∧ (∃ g' cp', v' = .slice (some ⟨g', 0, none⟩) (xs.length + (tq - fr)) cp') ∧
      Hid (GotAt (w2.setCell ⟨gb, 0, none⟩ v') N gb v' (xs ++ ((V x).drop fr).take (tq - fr)) ∧ Chg (fun b => b = gb ∨ v.ownBlock = some b) w (w2.setCell ⟨gb, 0, none⟩ v') ∧ (v'.ownBlock = v.ownBlock ∨ ∃ g, v'.ownBlock = some g ∧ w.heap.size ≤ g))) := by
    refine (load_any x hs.tv hx).mono ?_
    rintro e w1 ⟨u, g, rfl, hu⟩
    obtain ⟨cp, rfl⟩ := hu.form
    have hcp : 512 ≤ cp ∧ cp ≤ maxLen := by
      rcases hu.mp with ⟨e, _⟩ | ⟨c2, _, _, e, _, h2, h3, _⟩
      · cases e
      · injection e with _ _ e3
        subst e3
        exact ⟨by omega, h3⟩
    have hg1 := hg.kept hu.chg (fun h => h) (fun _ _ h => h)
    have hgd := hg1.kept (Chg.drew (fun _ => False) w1) (fun h => h) (fun _ _ h => h)
    have hlen : (((V x).drop fr).take (tq - fr)).length = tq - fr := by rw [List.length_take, List.length_drop]; omega
    have hpart : Bs w1.drew (.slice (some ⟨g, fr, none⟩) (tq - fr) (cp - fr)) (((V x).drop fr).take (tq - fr)) := by
      refine .inr ⟨⟨g, fr, none⟩, cp - fr, by rw [hlen], by rw [hlen]; omega, ?_, fun j hj => ?_⟩
      · have := hcp.2; omega
      · rw [hlen] at hj
        have := (hu.mp.kept (Chg.drew (fun _ => False) w1) (fun h => h)).cellAt (j := fr + j) (by omega)
        have e1 : (⟨g, fr, none⟩ : Addr).add j = ⟨g, fr + j, none⟩ := by simp [Addr.add_lit]
        rw [e1, this]
        simp [List.getD, List.getElem?_take_of_lt hj, List.getElem?_drop]
    obtain ⟨v', w2, hr, ho, hgr, hat⟩ := run_app (P := Tryz.prog) w1.drew N 33 33 i0 Tryz.underlying33 hi hz0 hz1 hz2 v _ _ xs _ hgd.own hpart (by rw [hlen]; omega) (by have := hu.chg.size; show N ≤ w1.heap.size; omega)
    have hc2 : Chg (fun k => v.ownBlock = some k) w1 w2 := (Chg.drew _ w1).trans (Chg.ofGrown hgr) (fun _ _ h => h)
    have hb2 : w2.heap[gb]? = some (.cells #[v] 33 (0, 0)) := (hc2.block gb (lt_of_block hg1.box) hg1.ne).trans hg1.box
    have hsz := hu.chg.size
    have hnew : ∀ g', v'.ownBlock = some g' → v.ownBlock = some g' ∨ w.heap.size ≤ g' := fun g' hg' => by
      rcases hat with e | e
      · exact .inl (e ▸ hg')
      · rw [hg'] at e
        right
        have : g' = w1.heap.size := by simpa using e
        omega
    have hf := own_form ho (by rw [hlen]; omega)
    refine ⟨g, cp, rfl, hcp.1, cell_of_one hg1.box, frozen_of_row _ _ _ _ _ hg1.box, v', w2, hr, cell_of_one hb2, frozen_of_row _ _ _ _ _ hb2, by rw [hlen] at hf; exact hf, ⟨?_, ?_⟩, ?_, ?_⟩
    · have := heap_setCell_same w2 gb 0 _ _ v' hb2
      exact this
    · have hne : v'.ownBlock ≠ some gb := fun e => by
        rcases hat with e2 | e2
        · exact hg1.ne (e2 ▸ e)
        · rw [e] at e2
          have : gb = w1.heap.size := by simpa using e2
          have := lt_of_block hg1.box
          omega
      rw [List.length_append]
      refine ⟨ho.1, ?_⟩
      rcases ho.2 with e | ⟨g', cap, cur, e, b1, b2, r⟩
      · exact .inl e
      · refine .inr ⟨g', cap, cur, e, b1, ?_, r⟩
        rw [Below.heap_setCell w2 ⟨gb, 0, none⟩ v' g' (fun e3 => hne (by rw [e]; simpa [Value.ownBlock] using e3))]
        exact b2
    · exact ((hu.chg.mono (fun _ _ h => h.elim)).trans (hc2.mono (fun _ _ h => .inr h)) (fun _ _ h => h)).trans (Chg.setCell (S := fun b => b = gb ∨ v.ownBlock = some b) w2 ⟨gb, 0, none⟩ v' (.inl rfl)) (fun _ _ h => h)
    · cases hv' : v'.ownBlock with
      | none =>
        rcases hat with e | e
        · exact .inl (by rw [← e, hv'])
        · rw [hv'] at e; cases e
      | some g' =>
        rcases hnew g' hv' with e | e
        · exact .inl e.symm
        · exact .inr ⟨g', rfl, e⟩
  clear hs hg hVl
  have k1 : (fr : Int) ≤ (tq : Int) := by omega
  have k2 : ((tq - fr : Nat) : Int) = (tq : Int) - (fr : Int) := by omega
  go_enter Tryz.func51, Tryz.ntmps51
  go_wp2_with fail
  refine LD.out.mono ?_
  clear LD
  rintro e w1 ⟨g, cp, rfl, hcp, c1, f1, v', w2, hr, c2, f2, ⟨g', cp', rfl⟩, HZ⟩
  have htc : tq ≤ cp := by omega
  clear k2
  go_wp2_with fail
  go_region
  all_goals
    go_wp2
    go_ret
    exact ⟨rfl, _, HZ.out⟩
end
end Go.Proofs.YthohgljlcfbpjaaGreat

/-
  The closure of Read of package file.
-/
import Derived.Test.YtnnaemlipahamaaGreatFGrow
import Derived.BigRegion
import Derived.BigQuiet
namespace Go.Proofs.YtnnaemlipahamaaGreat
open Go.RowKit Go.Maps

/-- append, under a name that the walk leaves shut. -/
def appG (ats : Array TypeId) (ty : TypeId) (args : Array Value) : Sem Value := Builtin.append_ ats ty args
theorem appG_eq (ats : Array TypeId) (ty : TypeId) (args : Array Value) : Builtin.append_ ats ty args = appG ats ty args := rfl
attribute [local go_sem ↓] appG_eq

section
variable {L : List Nat} {X X' : Nat → Prop} {w0 w w' w1 : World} {pd pl q K : Nat} {f : Nat → List Int} {com : Nat → Option (List Int)} {pend N : Nat} {V : Nat → List Int} {live : Bool} {own : Nat → Option (List Int)} {wrote : Nat} {S : Nat → Prop}
theorem Nw.puts {F G : Nat → Prop} (h : Nw X w0 w F G) (hr : ∀ b, S b → b < w.heap.size → X b ∧ w0.heap.size ≤ b) (hc : Chg S w w') : Nw X w0 w' F G :=
  ⟨h.chg.trans hc (fun i hi e => by have := (hr i e (by have := h.chg.size; omega)).2; omega), h.f, h.g, fun b hb => ⟨by have := (h.x b hb).1; have := hc.size; omega, (h.x b hb).2⟩⟩
theorem TxUp.puts (h : TxUp X w0 w pd pl q K f com pend live own wrote N) (hr : ∀ b, S b → b < w.heap.size → X b ∧ w0.heap.size ≤ b) (hlt : ∀ b, S b → b < w.heap.size) (hc : Chg S w w') : TxUp X w0 w' pd pl q K f com pend live own wrote N := by
  obtain ⟨F, G, S', m, V, mt, Vt, h1, h2, h3, h4, h5, h6, h7, h8⟩ := h
  exact ⟨F, G, S', m, V, mt, Vt, h1.keptE hc (fun b hb e => (h7.x b (hr b e (hlt b e)).1).2.1 hb) (fun b hb e => (h7.x b (hr b e (hlt b e)).1).2.2 hb), h2, h3, h4, h5, h6, h7.puts hr hc, h8⟩
/-- Stores into memory that is not the log's. -/
theorem Tv.puts (h : Tv L X w0 w pd pl q K f com pend N V) (hr : ∀ b, S b → b < w.heap.size → X b ∧ w0.heap.size ≤ b) (hlt : ∀ b, S b → b < w.heap.size) (hc : Chg S w w') : Tv L X w0 w' pd pl q K f com pend N V := by
  obtain ⟨own, wrote, h1, h2⟩ := h
  exact ⟨own, wrote, h1.puts hr hlt hc, h2⟩
end
theorem Fs.puts {c : Cx} {X S : Nat → Prop} {w w' : World} {V : Nat → List Int} {T : Nat → Bool} (h : Fs c X w V T) (hr : ∀ b, S b → X b ∧ c.w0.heap.size ≤ b) (hc : Chg S w w') : Fs c X w' V T :=
  ⟨h.tv.puts (fun b hb _ => hr b hb) (fun b hb => h.tv.xlt b (hr b hb).1) hc, h.bt, h.by'⟩

/-- Bytes that are being collected, in a box. -/
structure GotAt (w : World) (N gb : Nat) (v : Value) (xs : List Int) : Prop where
  box : w.heap[gb]? = some (.cells #[v] 33 (0, 0))
  own : w.ownsRow N 5 1 v xs.length (bcells xs)
theorem GotAt.kept {S : Nat → Prop} {w w' : World} {N gb : Nat} {v : Value} {xs : List Int} (h : GotAt w N gb v xs) (hc : Chg S w w') (h1 : ¬ S gb) (h2 : ∀ g, v.ownBlock = some g → ¬ S g) : GotAt w' N gb v xs := by
  refine ⟨(hc.block gb (lt_of_block h.box) h1).trans h.box, h.own.1, ?_⟩
  rcases h.own.2 with e | ⟨g, cap, cur, e, hb, hg, r⟩
  · exact .inl e
  · refine .inr ⟨g, cap, cur, e, hb, ?_, r⟩
    rw [hc.block g (lt_of_block hg) (h2 g (by rw [e]; rfl))]; exact hg
theorem GotAt.ne {w : World} {N gb : Nat} {v : Value} {xs : List Int} (h : GotAt w N gb v xs) : v.ownBlock ≠ some gb := by
  intro e
  rcases h.own.2 with ⟨e2, _⟩ | ⟨g, cap, cur, e2, _, hg, _⟩
  · rw [e2] at e; cases e
  · rw [e2] at e
    have : g = gb := by simpa [Value.ownBlock] using e
    subst this
    have := h.box
    rw [hg] at this
    cases this
section
variable {c : Cx} {X : Nat → Prop} {w : World} {V : Nat → List Int} {T : Nat → Bool}
set_option maxHeartbeats 1600000 in
set_option maxRecDepth 100000 in
theorem read1_any (x fr tq tb gb N : Nat) (v : Value) (xs : List Int) (hs : Fs c X w V T) (hx : x < c.K) (hft : fr < tq) (ht : tq ≤ 512) (htb : w.cell? ⟨tb, 0, none⟩ = some (tI c.q)) (hg : GotAt w N gb v xs) (hl : xs.length ≤ 10000000) (hN : N ≤ w.heap.size) :
    Calls Tryz.prog 48 #[.int .i64 (x : Int), .int .i64 (fr : Int), .int .i64 (tq : Int), .pointer (some ⟨tb, 0, none⟩), .pointer (some ⟨gb, 0, none⟩)] w fun e w' => e = .returned (.int .i64 0) ∧
      ∃ v', GotAt w' N gb v' (xs ++ ((V x).drop fr).take (tq - fr)) ∧ Chg (fun b => b = gb ∨ v.ownBlock = some b) w w' ∧ (v'.ownBlock = v.ownBlock ∨ ∃ g, v'.ownBlock = some g ∧ w.heap.size ≤ g) := by
  obtain ⟨i0, hi, hz0, hz1, hz2⟩ := info5_parts
  have hVl := hs.tv.len hx
  have LD : Hid (Calls Tryz.prog 49 #[tI c.q, .int .i64 (x : Int)] w fun e w1 => ∃ g cp, e = .returned (.tuple #[.slice (some ⟨g, 0, none⟩) 512 cp, .int .i64 0]) ∧ 512 ≤ cp ∧ w1.cell? ⟨gb, 0, none⟩ = some v ∧ w1.frozen? ⟨gb, 0, none⟩ = false ∧
      ∃ v' w2, (appG #[33, 33] 33 #[v, .slice (some ⟨g, fr, none⟩) (tq - fr) (cp - fr)]).run Tryz.prog w1.drew = .ok v' w2 ∧ w2.cell? ⟨gb, 0, none⟩ = some v ∧ w2.frozen? ⟨gb, 0, none⟩ = false ∧ (∃ g' cp', v' = .slice (some ⟨g', 0, none⟩) (xs.length + (tq - fr)) cp') ∧
      Hid (GotAt (w2.setCell ⟨gb, 0, none⟩ v') N gb v' (xs ++ ((V x).drop fr).take (tq - fr)) ∧ Chg (fun b => b = gb ∨ v.ownBlock = some b) w (w2.setCell ⟨gb, 0, none⟩ v') ∧ (v'.ownBlock = v.ownBlock ∨ ∃ g, v'.ownBlock = some g ∧ w.heap.size ≤ g))) := by
    refine (load_any x hs.tv hx).mono ?_
    rintro e w1 ⟨u, g, rfl, hu⟩
    obtain ⟨cp, rfl⟩ := hu.form
    have hcp : 512 ≤ cp ∧ cp ≤ maxLen := by
      rcases hu.mp with ⟨e, _⟩ | ⟨c2, _, _, e, _, h2, h3, _⟩
      · cases e
      · injection e with _ _ e3
        subst e3
        exact ⟨by omega, h3⟩
    have hg1 := hg.kept hu.chg (fun h => h) (fun _ _ h => h)
    have hgd := hg1.kept (Chg.drew (fun _ => False) w1) (fun h => h) (fun _ _ h => h)
    have hlen : (((V x).drop fr).take (tq - fr)).length = tq - fr := by rw [List.length_take, List.length_drop]; omega
    have hpart : Bs w1.drew (.slice (some ⟨g, fr, none⟩) (tq - fr) (cp - fr)) (((V x).drop fr).take (tq - fr)) := by
      refine .inr ⟨⟨g, fr, none⟩, cp - fr, by rw [hlen], by rw [hlen]; omega, ?_, fun j hj => ?_⟩
      · have := hcp.2; omega
      · rw [hlen] at hj
        have := (hu.mp.kept (Chg.drew (fun _ => False) w1) (fun h => h)).cellAt (j := fr + j) (by omega)
        have e1 : (⟨g, fr, none⟩ : Addr).add j = ⟨g, fr + j, none⟩ := by simp [Addr.add_lit]
        rw [e1, this]
        simp [List.getD, List.getElem?_take_of_lt hj, List.getElem?_drop]
    obtain ⟨v', w2, hr, ho, hgr, hat⟩ := run_app (P := Tryz.prog) w1.drew N 33 33 i0 Tryz.underlying33 hi hz0 hz1 hz2 v _ _ xs _ hgd.own hpart (by rw [hlen]; omega) (by have := hu.chg.size; show N ≤ w1.heap.size; omega)
    have hc2 : Chg (fun k => v.ownBlock = some k) w1 w2 := (Chg.drew _ w1).trans (Chg.ofGrown hgr) (fun _ _ h => h)
    have hb2 : w2.heap[gb]? = some (.cells #[v] 33 (0, 0)) := (hc2.block gb (lt_of_block hg1.box) hg1.ne).trans hg1.box
    have hsz := hu.chg.size
    have hnew : ∀ g', v'.ownBlock = some g' → v.ownBlock = some g' ∨ w.heap.size ≤ g' := fun g' hg' => by
      rcases hat with e | e
      · exact .inl (e ▸ hg')
      · rw [hg'] at e
        right
        have : g' = w1.heap.size := by simpa using e
        omega
    have hf := own_form ho (by rw [hlen]; omega)
    refine ⟨g, cp, rfl, hcp.1, cell_of_one hg1.box, frozen_of_row _ _ _ _ _ hg1.box, v', w2, hr, cell_of_one hb2, frozen_of_row _ _ _ _ _ hb2, by rw [hlen] at hf; exact hf, ⟨?_, ?_⟩, ?_, ?_⟩
    · have := heap_setCell_same w2 gb 0 _ _ v' hb2
      exact this
    · have hne : v'.ownBlock ≠ some gb := fun e => by
        rcases hat with e2 | e2
        · exact hg1.ne (e2 ▸ e)
        · rw [e] at e2
          have : gb = w1.heap.size := by simpa using e2
          have := lt_of_block hg1.box
          omega
      rw [List.length_append]
      refine ⟨ho.1, ?_⟩
      rcases ho.2 with e | ⟨g', cap, cur, e, b1, b2, r⟩
      · exact .inl e
      · refine .inr ⟨g', cap, cur, e, b1, ?_, r⟩
        rw [Below.heap_setCell w2 ⟨gb, 0, none⟩ v' g' (fun e3 => hne (by rw [e]; simpa [Value.ownBlock] using e3))]
        exact b2
    · exact ((hu.chg.mono (fun _ _ h => h.elim)).trans (hc2.mono (fun _ _ h => .inr h)) (fun _ _ h => h)).trans (Chg.setCell (S := fun b => b = gb ∨ v.ownBlock = some b) w2 ⟨gb, 0, none⟩ v' (.inl rfl)) (fun _ _ h => h)
    · cases hv' : v'.ownBlock with
      | none =>
        rcases hat with e | e
        · exact .inl (by rw [← e, hv'])
        · rw [hv'] at e; cases e
      | some g' =>
        rcases hnew g' hv' with e | e
        · exact .inl e.symm
        · exact .inr ⟨g', rfl, e⟩
  clear hs hg hVl
  have k1 : (fr : Int) ≤ (tq : Int) := by omega
  have k2 : ((tq - fr : Nat) : Int) = (tq : Int) - (fr : Int) := by omega
  go_enter Tryz.func48, Tryz.ntmps48
  go_wp2_with fail
  refine LD.out.mono ?_
  clear LD
  rintro e w1 ⟨g, cp, rfl, hcp, c1, f1, v', w2, hr, c2, f2, ⟨g', cp', rfl⟩, HZ⟩
  have htc : tq ≤ cp := by omega
  clear k2
  go_wp2_with fail
  go_region
  all_goals
    go_wp2
    go_ret
    exact ⟨rfl, _, HZ.out⟩
end
end Go.Proofs.YtnnaemlipahamaaGreat

namespace Go.Proofs.YtnnaemlipahamaaGreat
open Go.RowKit Go.Maps

section
variable {L : List Nat} {X : Nat → Prop} {w0 w w' : World} {pd pl q K : Nat} {f : Nat → List Int} {com own : Nat → Option (List Int)} {pend wrote N : Nat} {live : Bool} {V : Nat → List Int}
theorem Nw.ref {F G E : Nat → Prop} (h : Nw X w0 w F G) (hc : Chg E w w') (hE : ∀ b, b < w.heap.size → E b → X b ∧ w0.heap.size ≤ b) (hF : ∀ b, F b → b < w.heap.size) (hG : ∀ b, G b → b < w.heap.size) : Nw (addX X w.heap.size w'.heap.size) w0 w' F G := by
  have hz := h.chg.size
  have hz2 := hc.size
  refine ⟨h.chg.trans hc (fun i hi e => ?_), h.f, h.g, fun b hb => ?_⟩
  · have := (hE i (by omega) e).2; omega
  · rcases hb with e | e
    · exact ⟨by have := (h.x b e).1; omega, (h.x b e).2⟩
    · exact ⟨e.2, fun hf => by have := hF b hf; omega, fun hg => by have := hG b hg; omega⟩
theorem TxUp.ref {E : Nat → Prop} (h : TxUp X w0 w pd pl q K f com pend live own wrote N) (hc : Chg E w w') (hE : ∀ b, b < w.heap.size → E b → X b ∧ w0.heap.size ≤ b) : TxUp (addX X w.heap.size w'.heap.size) w0 w' pd pl q K f com pend live own wrote N := by
  obtain ⟨F, G, S, m, V, mt, Vt, h1, h2, h3, h4, h5, h6, h7, h8⟩ := h
  have hn : ∀ b, (F b ∨ G b) → ¬ E b := fun b hb e => by
    have hl : b < w.heap.size := by
      rcases hb with hb | hb
      · exact h1.lk.dk.lt b hb
      · exact h1.lk.lg.lt b hb
    have := h7.x b (hE b hl e).1
    rcases hb with hb | hb
    · exact this.2.1 hb
    · exact this.2.2 hb
  exact ⟨F, G, S, m, V, mt, Vt, h1.keptE hc (fun b hb => hn b (.inl hb)) (fun b hb => hn b (.inr hb)), h2, h3, h4, h5, h6, h7.ref hc hE h1.lk.dk.lt h1.lk.lg.lt, h8⟩
theorem Tv.ref {E : Nat → Prop} (h : Tv L X w0 w pd pl q K f com pend N V) (hc : Chg E w w') (hE : ∀ b, b < w.heap.size → E b → X b ∧ w0.heap.size ≤ b) : Tv L (addX X w.heap.size w'.heap.size) w0 w' pd pl q K f com pend N V := by
  obtain ⟨own, wrote, h1, h2⟩ := h
  exact ⟨own, wrote, h1.ref hc hE, h2⟩
end
theorem Fs.ref {c : Cx} {X E : Nat → Prop} {w w' : World} {V : Nat → List Int} {T : Nat → Bool} (h : Fs c X w V T) (hc : Chg E w w') (hE : ∀ b, b < w.heap.size → E b → X b ∧ c.w0.heap.size ≤ b) : Fs c (addX X w.heap.size w'.heap.size) w' V T :=
  ⟨h.tv.ref hc hE, h.bt, h.by'⟩
/-- The bytes of a file of m blocks: cs. -/
structure Ct (m : Nat) (V : Nat → List Int) (B : Nat → Nat) (cs : List Int) : Prop where
  len : cs.length = 512 * m
  blk : ∀ i, i < m → V (B (2 * i)) = blkOf cs i
set_option maxHeartbeats 800000 in
theorem maybe_any (nd : Nd) (w : World) (h0 : 0 ≤ nd.sz) (h1 : nd.sz ≤ 8458240) :
    Calls Tryz.prog 46 #[nd.v] w fun e w' => e = .returned (.bool true) ∧ Chg (fun _ => False) w w' := by
  have k0 : decide (0 ≤ nd.sz) = true := by simpa using h0
  have k1 : decide (nd.sz ≤ 8458240) = true := by simpa using h1
  have MS : Hid (∀ w : World, Calls Tryz.prog 41 #[] w fun e w' => e = .returned (.int .i64 8458240) ∧ w' = w) := fun w => most_any w
  go_enter Tryz.func46, Tryz.ntmps46
  go_wp2_with fail
  go_region_with (first | (go_at_call 41; refine (MS.out _).mono ?_; rintro e w3 ⟨rfl, rfl⟩))
  all_goals
    go_wp2
    go_ret
    exact ⟨rfl, (Chg.alloc (fun _ => False) _ _).dr⟩
section
variable {c : Cx} {X : Nat → Prop} {w : World} {V : Nat → List Int} {T : Nat → Bool} {nd : Nd} {B : Nat → Nat} {m sz : Nat} {cs : List Int}
/-- Bytes of one's own, new since w. -/
structure Own (w w' : World) (u : Value) (xs : List Int) : Prop where
  own : w'.ownsRow w.heap.size 5 1 u xs.length (bcells xs)
  chg : Chg (fun _ => False) w w'
theorem madeRow (w : World) (N n : Nat) (hN : N ≤ w.heap.size) (hn : n ≤ maxLen) : (w.alloc (.cells (madeCells (Value.int .u8 0).cells (n * 1)) 5)).ownsRow N 5 1 (.slice (some ⟨w.heap.size, 0, none⟩) 0 n) 0 (bcells []) :=
  ⟨rfl, .inr ⟨w.heap.size, n, _, rfl, hN, heap_alloc_new w _, Nat.zero_le _, hn, by simp [madeCells, Value.cells], by simp [bcells]⟩⟩
theorem addX_addX {X : Nat → Prop} {a b d : Nat} (h1 : a ≤ b) (h2 : b ≤ d) : addX (addX X a b) b d = addX X a d := by
  funext k
  unfold addX
  refine propext ⟨fun h => ?_, fun h => ?_⟩
  · rcases h with (h | h) | h
    · exact .inl h
    · exact .inr ⟨h.1, by omega⟩
    · exact .inr ⟨by omega, h.2⟩
  · rcases h with h | h
    · exact .inl (.inl h)
    · by_cases e : k < b
      · exact .inl (.inr ⟨h.1, e⟩)
      · exact .inr ⟨by omega, h.2⟩
theorem GotAt.blk {w : World} {N gb g : Nat} {v : Value} {xs : List Int} (h : GotAt w N gb v xs) (e : v.ownBlock = some g) : N ≤ g ∧ ∃ cur, w.heap[g]? = some (.cells cur 5 (0, 0)) := by
  rcases h.own.2 with ⟨e2, _⟩ | ⟨g', cap, cur, e2, hN, hg, _⟩
  · rw [e2] at e; cases e
  · rw [e2] at e
    have : g' = g := by simpa [Value.ownBlock] using e
    subst this
    exact ⟨hN, cur, hg⟩
/-- What Read finds between two pieces. -/
structure RdI (c : Cx) (X : Nat → Prop) (V : Nat → List Int) (T : Nat → Bool) (nd : Nd) (w : World) (tb gb nb : Nat) (xs : List Int) (wa : World) : Prop where
  nd : NdB 29 wa nb nd
  t : wa.heap[tb]? = some (.cells #[tI c.q] 99 (0, 0))
  got : ∃ v, GotAt wa w.heap.size gb v xs
  fs : Fs c (addX X w.heap.size wa.heap.size) wa V T
  chg : Chg (fun _ => False) w wa
  lo : w.heap.size ≤ gb
  w0 : c.w0.heap.size ≤ w.heap.size
theorem RdI.more {tb gb nb : Nat} {xs : List Int} {wa wb : World} (h : RdI c X V T nd w tb gb nb xs wa) (hc : Chg (fun _ => False) wa wb) : RdI c X V T nd w tb gb nb xs wb := by
  obtain ⟨v, hg⟩ := h.got
  have := h.fs.add hc
  rw [addX_addX h.chg.size hc.size] at this
  exact ⟨h.nd.kept hc (fun h => h), (hc.block tb (lt_of_block h.t) (fun h => h)).trans h.t, ⟨v, hg.kept hc (fun h => h) (fun _ _ h => h)⟩, this, h.chg.trans hc (fun _ _ h => h), h.lo, h.w0⟩
theorem RdI.step {tb gb nb x fr tq : Nat} {xs : List Int} {wa : World} (h : RdI c X V T nd w tb gb nb xs wa) (hx : x < c.K) (hft : fr < tq) (ht : tq ≤ 512) (hl : xs.length ≤ 10000000) :
    Calls Tryz.prog 48 #[.int .i64 (x : Int), .int .i64 (fr : Int), .int .i64 (tq : Int), .pointer (some ⟨tb, 0, none⟩), .pointer (some ⟨gb, 0, none⟩)] wa fun e w' => e = .returned (.int .i64 0) ∧ RdI c X V T nd w tb gb nb (xs ++ ((V x).drop fr).take (tq - fr)) w' := by
  obtain ⟨v, hg⟩ := h.got
  refine (read1_any x fr tq tb gb w.heap.size v xs h.fs hx hft ht (cell_of_one h.t) hg hl h.chg.size).mono ?_
  rintro e w' ⟨rfl, v', hg', hc, _⟩
  have hsz := h.chg.size
  have hne : ∀ b o ty, wa.heap[b]? = some (.cells o ty (0, 0)) → ty ≠ 5 → ty ≠ 33 → ¬ (b = gb ∨ v.ownBlock = some b) := fun b o ty hb h5 h33 e => by
    rcases e with e | e
    · subst e
      rw [hg.box] at hb
      cases hb
      exact h33 rfl
    · obtain ⟨_, cur, hcur⟩ := hg.blk e
      rw [hcur] at hb
      cases hb
      exact h5 rfl
  have hf := h.fs.ref hc (fun b hb e => by
    have : w.heap.size ≤ b := by
      rcases e with e | e
      · rw [e]; exact h.lo
      · exact (hg.blk e).1
    exact ⟨.inr ⟨this, hb⟩, by have := h.w0; omega⟩)
  rw [addX_addX hsz hc.size] at hf
  exact ⟨rfl, h.nd.kept hc (hne _ _ _ h.nd (by decide) (by decide)), (hc.block tb (lt_of_block h.t) (hne _ _ _ h.t (by decide) (by decide))).trans h.t, ⟨v', hg'⟩, hf, h.chg.trans hc (fun b hb e => by
    rcases e with e | e
    · have := h.lo; omega
    · have := (hg.blk e).1; omega), h.lo, h.w0⟩
theorem pieces_zero (g : Nat) (off : Int) (p1 p2 : Value) (w : World) :
    Calls Tryz.prog 47 #[tI c.q, nd.v, .int .i64 off, .int .i64 0, .func (.func g) #[] #[p1, p2]] w fun e w' => e = .returned (.int .i64 0) ∧ Chg (fun _ => False) w w' := by
  go_enter Tryz.func47, Tryz.ntmps47
  go_wp2_with fail
  go_loopw [2, 3] (fun s2 s3 wr => s2 = .int .i64 off ∧ s3 = .int .i64 0 ∧ wr = w.alloc (nd.o 29)) (fun _ _ _ => 0)
  case atStart => exact ⟨rfl, rfl, rfl⟩
  case round =>
    obtain ⟨rfl, rfl, rfl⟩ := hrel
    go_wp2
    go_ret
    exact ⟨rfl, Chg.alloc (fun _ => False) _ _⟩
theorem Ct.part (h : Ct m V B cs) {d off : Nat} (hi : (off + d) / 512 < m) {tq : Nat} (h1 : (off + d) % 512 < tq) (h2 : tq ≤ 512) :
    (cs.drop off).take d ++ ((V (B (2 * ((off + d) / 512)))).drop ((off + d) % 512)).take (tq - (off + d) % 512) = (cs.drop off).take (d + (tq - (off + d) % 512)) := by
  rw [h.blk _ hi, blkOf_part (by omega), List.take_add, List.drop_drop]
/-- The call of pieces that Read makes. -/
theorem read_pieces (off cnt R : Nat) (T0 : Obj) (w1 : World) (hs : Fs c X w V T) (hf : Fl c (live m) V nd B T) (ho : c.Ok) (hct : Ct m V B cs) (hszm : sz ≤ 512 * m) (_hm : m ≤ 16520) (hszM : sz ≤ 8458240) (hR : min cnt (sz - off) = R) (hT0 : T0 = .cells #[tI c.q] 99) (hc1 : Chg (fun _ => False) w w1) (hT1 : w1.heap[w.heap.size]? = some T0) :
    Calls Tryz.prog 47 #[tI c.q, nd.v, .int .i64 (off : Int), .int .i64 (R : Int), .func (.func 48) #[] #[.pointer (some ⟨w.heap.size, 0, none⟩), .pointer (some ⟨w1.heap.size + 1, 0, none⟩)]] ((w1.alloc (.cells (madeCells (Value.int .u8 0).cells (R * 1)) 5)).alloc (.cells #[.slice (some ⟨w1.heap.size, 0, none⟩) 0 R] 33)) fun e w' => e = .returned (.int .i64 0) ∧ ∃ v, w'.cell? ⟨w1.heap.size + 1, 0, none⟩ = some v ∧ Hid (Own w w' v ((cs.drop off).take R)) := by
  have hw0 := hs.tv.chg.size
  generalize hW : (w1.alloc (.cells (madeCells (Value.int .u8 0).cells (R * 1)) 5)).alloc (.cells #[.slice (some ⟨w1.heap.size, 0, none⟩) 0 R] 33) = W
  have hcW : Chg (fun _ => False) w1 W := hW ▸ (Chg.alloc (fun _ => False) w1 _).al _
  have hcw : Chg (fun _ => False) w W := hc1.trans hcW (fun _ _ h => h)
  have hg0 : GotAt W w.heap.size (w1.heap.size + 1) (.slice (some ⟨w1.heap.size, 0, none⟩) 0 R) [] := by
    refine ⟨hW ▸ heap_new' (by simp), ?_⟩
    have := madeRow w1 w.heap.size R hc1.size (by unfold maxLen; omega)
    rw [← hW]
    refine ⟨this.1, ?_⟩
    rcases this.2 with e | ⟨g, cap, cur, e, b1, b2, r⟩
    · exact .inl e
    · exact .inr ⟨g, cap, cur, e, b1, (Below.heap_alloc _ _ _ (lt_of_block b2)).trans b2, r⟩
  have hRd : RdI c X V T nd w w.heap.size (w1.heap.size + 1) W.heap.size [] (W.alloc (nd.o 29)) := by
    have hca := hcw.al (nd.o 29)
    refine ⟨heap_alloc_new _ _, ?_, ⟨_, hg0.kept (Chg.alloc (fun _ => False) W _) (fun h => h) (fun _ _ h => h)⟩, hs.add hca, hca, by have := hc1.size; omega, hw0⟩
    have hh := (hcW.al (nd.o 29)).block w.heap.size (lt_of_block hT1) (fun h => h)
    rw [hh, hT1, hT0]
  by_cases hR0 : R = 0
  · subst hR0
    refine (pieces_zero (c := c) (nd := nd) _ (off : Int) _ _ W).mono ?_
    rintro e w' ⟨rfl, hc⟩
    have hg' := hg0.kept hc (fun h => h) (fun _ _ h => h)
    refine ⟨rfl, _, cell_of_one hg'.box, ?_, hcw.trans hc (fun _ _ h => h)⟩
    rw [List.take_zero]
    exact hg'.own
  · have hlt : off + R ≤ sz := by omega
    refine (pieces_any (c := c) (T := T) (Lv := live m) (B := B) (nd := nd) (w := W) 48 off R _ _ (fun d wa => d ≤ R ∧ RdI c X V T nd w w.heap.size (w1.heap.size + 1) W.heap.size ((cs.drop off).take d) wa) ho (by omega) (fun _ _ _ _ => by kernel_rfl) (fun i hi => by unfold live; omega) (fun k hk => by have := hf.own k hk; have := ho.pr.f; have := ho.pr.top; omega) ⟨by omega, by rw [List.take_zero]; exact hRd⟩ (fun d wa h => ⟨h.2.nd.at, _, V, h.2.fs, hf⟩) (fun d wa wb h hc => ⟨h.1, h.2.more hc⟩) ?_).mono ?_
    · intro d wa x fr tq hd hx hfr htq h
      subst hx hfr
      have hlv : live m (2 * ((off + d) / 512)) := by unfold live; omega
      have hll : ((cs.drop off).take d).length ≤ 10000000 := by rw [List.length_take]; omega
      refine (h.2.step (hf.lt ho hlv) (by omega) (by omega) hll).mono ?_
      rintro e w' ⟨rfl, h'⟩
      rw [hct.part (by omega) (by omega) (by omega)] at h'
      exact ⟨rfl, by omega, h'⟩
    · rintro e w' ⟨rfl, _, h'⟩
      obtain ⟨v, hv⟩ := h'.got
      exact ⟨rfl, v, cell_of_one hv.box, hv.own, h'.chg⟩
end
end Go.Proofs.YtnnaemlipahamaaGreat

namespace Go.Proofs.YtnnaemlipahamaaGreat
open Go.RowKit Go.Maps

section
variable {c : Cx} {X : Nat → Prop} {w : World} {V : Nat → List Int} {T : Nat → Bool} {nd : Nd} {B : Nat → Nat} {m sz : Nat} {cs : List Int}
set_option maxHeartbeats 1600000 in
set_option maxRecDepth 100000 in
theorem fread_any (off cnt R : Nat) (hs : Fs c X w V T) (hf : Fl c (live m) V nd B T) (ho : c.Ok) (hct : Ct m V B cs) (hsz : nd.sz = (sz : Int)) (hszm : sz ≤ 512 * m) (hm : m ≤ 16520) (hszM : sz ≤ 8458240) (hcb : cnt < 9223372036854775808) (hob : off < 9223372036854775808) (hR : min cnt (sz - off) = R) :
    Calls Tryz.prog 16 #[tI c.q, nd.v, .int .i64 (off : Int), .int .i64 (cnt : Int)] w fun e w' => ∃ u, e = .returned (.tuple #[u, .int .i64 0]) ∧ Own w w' u ((cs.drop off).take R) := by
  obtain ⟨kd, lk, zz, e0, e1, e2, e3, e4, e5, e6, e7, on, tw⟩ := nd
  obtain rfl : zz = (sz : Int) := hsz
  obtain ⟨i0, hi, hz0, hz1, hz2⟩ := info5_parts
  have hmf : ∀ (fn : Fn) (first cap : Array Value) (w : World), (Instr.makeFunc fn first cap).run Tryz.prog w = .ok (.func fn first cap) w := fun _ _ _ _ => rfl
  have hmk : ∀ w : World, (Instr.makeSlice 33 (.int .i64 0) (.int .i64 (R : Int))).run Tryz.prog w = .ok (.slice (some ⟨w.heap.size, 0, none⟩) 0 R) (w.alloc (.cells (madeCells (Value.int .u8 0).cells (R * 1)) 5)) := fun w => by
    have := run_make (P := Tryz.prog) w 33 5 i0 (.int .u8 0) Tryz.underlying33 hi hz0 .i64 .i64 0 (R : Int) (by omega) (by omega) (by rw [hz2]; omega) (by omega)
    rw [hz1, Int.toNat_natCast, show (0 : Int).toNat = 0 from rfl] at this
    exact this
  obtain ⟨T0, hT0⟩ : ∃ T0 : Obj, T0 = .cells #[tI c.q] 99 := ⟨_, rfl⟩
  have hw0 := hs.tv.chg.size
  have MB : Hid (Calls Tryz.prog 46 #[(⟨kd, lk, (sz : Int), e0, e1, e2, e3, e4, e5, e6, e7, on, tw⟩ : Nd).v] ((w.alloc T0).alloc ((⟨kd, lk, (sz : Int), e0, e1, e2, e3, e4, e5, e6, e7, on, tw⟩ : Nd).o 29)) fun e w1 => e = .returned (.bool true) ∧ Chg (fun _ => False) w w1 ∧ w1.heap[w.heap.size]? = some T0 ∧ NdB 29 w1 (w.heap.size + 1) ⟨kd, lk, (sz : Int), e0, e1, e2, e3, e4, e5, e6, e7, on, tw⟩) := by
    refine (maybe_any _ _ (by simp) (by simp; omega)).mono ?_
    rintro e w1 ⟨rfl, hc⟩
    have h1 : ((w.alloc T0).alloc ((⟨kd, lk, (sz : Int), e0, e1, e2, e3, e4, e5, e6, e7, on, tw⟩ : Nd).o 29)).heap[w.heap.size]? = some T0 := (Below.heap_alloc _ _ _ (by simp)).trans (heap_alloc_new w T0)
    exact ⟨rfl, ((Chg.alloc (fun _ => False) w T0).al _).trans hc (fun _ _ h => h), (hc.block _ (by simp; omega) (fun h => h)).trans h1, (show NdB 29 _ (w.heap.size + 1) ⟨kd, lk, (sz : Int), e0, e1, e2, e3, e4, e5, e6, e7, on, tw⟩ from heap_new' (by simp)).kept hc (fun h => h)⟩
  have PC : Hid (∀ w1, Chg (fun _ => False) w w1 → w1.heap[w.heap.size]? = some T0 →
      Calls Tryz.prog 47 #[tI c.q, (⟨kd, lk, (sz : Int), e0, e1, e2, e3, e4, e5, e6, e7, on, tw⟩ : Nd).v, .int .i64 (off : Int), .int .i64 (R : Int), .func (.func 48) #[] #[.pointer (some ⟨w.heap.size, 0, none⟩), .pointer (some ⟨w1.heap.size + 1, 0, none⟩)]] ((w1.alloc (.cells (madeCells (Value.int .u8 0).cells (R * 1)) 5)).alloc (.cells #[.slice (some ⟨w1.heap.size, 0, none⟩) 0 R] 33)) fun e w' => e = .returned (.int .i64 0) ∧ ∃ v, w'.cell? ⟨w1.heap.size + 1, 0, none⟩ = some v ∧ Hid (Own w w' v ((cs.drop off).take R))) := fun w1 h1 h2 => read_pieces off cnt R T0 w1 hs hf ho hct hszm hm hszM hR hT0 h1 h2
  obtain ⟨ms, hms⟩ : ∃ ms : Nat → Obj, ms = fun R => .cells (madeCells (Value.int .u8 0).cells (R * 1)) 5 := ⟨_, rfl⟩
  have hms' : ∀ R, .cells (madeCells (Value.int .u8 0).cells (R * 1)) 5 = ms R := fun R => by rw [hms]
  rw [hms'] at PC
  simp only [hms'] at hmk
  clear hs hf ho hct hi hz0 hz1 hz2 hms hms'
  have k1 : decide ((off : Int) < 0) = false := by simp
  have k2 : decide ((cnt : Int) < 0) = false := by simp
  have HT0 : Hid (T0 = .cells #[tI c.q] 99) := hT0
  rw [hT0] at MB
  clear hT0
  have hRb : R ≤ 8458240 := by omega
  have HRR : Hid (min cnt (sz - off) = R) := hR
  clear hR
  go_enter Tryz.func16, Tryz.ntmps16
  go_wp2_with fail
  refine MB.out.mono ?_
  clear MB
  rintro e w1 ⟨rfl, hc1, hb1, hn1⟩
  have PC1 : Hid _ := PC.out w1 hc1 (by rw [HT0.out]; exact hb1)
  have ca : ∀ (o o' : Obj), Chg (fun _ => False) w1 ((w1.alloc o).alloc o') := fun o o' => (Chg.alloc (fun _ => False) w1 o).al o'
  have m0 := fun o o' => (hn1.at.kept (ca o o') (fun h => h)).c0
  have m1 := fun o o' => (hn1.at.kept (ca o o') (fun h => h)).c1
  have m2 := fun o o' => (hn1.at.kept (ca o o') (fun h => h)).c2
  have m3 := fun o o' => (hn1.at.kept (ca o o') (fun h => h)).c3
  have m4 := fun o o' => (hn1.at.kept (ca o o') (fun h => h)).c4
  have m5 := fun o o' => (hn1.at.kept (ca o o') (fun h => h)).c5
  have m6 := fun o o' => (hn1.at.kept (ca o o') (fun h => h)).c6
  have m7 := fun o o' => (hn1.at.kept (ca o o') (fun h => h)).c7
  have m8 := fun o o' => (hn1.at.kept (ca o o') (fun h => h)).c8
  have m9 := fun o o' => (hn1.at.kept (ca o o') (fun h => h)).c9
  have m10 := fun o o' => (hn1.at.kept (ca o o') (fun h => h)).c10
  have m11 := fun o o' => (hn1.at.kept (ca o o') (fun h => h)).c11
  have m12 := fun o o' => (hn1.at.kept (ca o o') (fun h => h)).c12
  have d2 := hn1.at
  obtain ⟨n0, n1, n2, n3, n4, n5, n6, n7, n8, n9, n10, n11, n12⟩ := d2
  have ct := fun o o' => (ca o o').cell (cell_of_one hb1) (fun h => h)
  clear PC hb1 hn1 hc1 ca
  simp only at n0 n1 n2 n3 n4 n5 n6 n7 n8 n9 n10 n11 n12 m0 m1 m2 m3 m4 m5 m6 m7 m8 m9 m10 m11 m12
  by_cases hle : off ≤ sz
  · obtain ⟨D, hD⟩ : ∃ D, sz - off = D := ⟨_, rfl⟩
    have q1 : (sz : Int) - (off : Int) = (D : Int) := by omega
    have q2 : min (cnt : Int) (D : Int) = (R : Int) := by have := HRR.out; omega
    clear hD
    go_wp2_with fail
    refine (show Calls _ _ _ _ _ from PC1.out).mono ?_
    clear PC1
    rintro e w4 ⟨rfl, v, hv, HO⟩
    clear m0 m1 m2 m3 m4 m5 m6 m7 m8 m9 m10 m11 m12 n0 n1 n2 n3 n4 n5 n6 n7 n8 n9 n10 n11 n12 ct
    go_wp2
    go_ret2
    exact ⟨_, rfl, HO.out⟩
  · have q1 : max ((sz : Int) - (off : Int)) 0 = 0 := by omega
    have q3 : (sz : Int) - (off : Int) < 0 := by omega
    have q2 : min (cnt : Int) 0 = (R : Int) := by have := HRR.out; omega
    have q4 : IntKind.i64.wrap ((sz : Int) - (off : Int)) = (sz : Int) - (off : Int) := by rw [IntKind.wrap_i64]; omega
    obtain rfl : R = 0 := by have := HRR.out; omega
    rw [show ((0 : Nat) : Int) = 0 from rfl] at PC1
    have hmk0 : ∀ w : World, (Instr.makeSlice 33 (.int .i64 0) (.int .i64 0)).run Tryz.prog w = .ok (.slice (some ⟨w.heap.size, 0, none⟩) 0 0) (w.alloc (ms 0)) := hmk
    go_wp2_with fail
    refine (show Calls _ _ _ _ _ from PC1.out).mono ?_
    clear PC1
    rintro e w4 ⟨rfl, v, hv, HO⟩
    clear m0 m1 m2 m3 m4 m5 m6 m7 m8 m9 m10 m11 m12 n0 n1 n2 n3 n4 n5 n6 n7 n8 n9 n10 n11 n12 ct
    go_wp2
    go_ret2
    exact ⟨_, rfl, HO.out⟩
set_option maxHeartbeats 800000 in
theorem fread_neg (off cnt : Int) (w : World) (h : off < 0 ∨ cnt < 0) :
    Calls Tryz.prog 16 #[tI c.q, nd.v, .int .i64 off, .int .i64 cnt] w fun e w' => e = .returned (.tuple #[.slice none 0 0, .int .i64 1]) ∧ Chg (fun _ => False) w w' := by
  by_cases h1 : off < 0
  · have k1 : decide (off < 0) = true := by simpa using h1
    clear h
    go_enter Tryz.func16, Tryz.ntmps16
    go_wp2
    go_ret2
    exact ⟨rfl, (Chg.alloc (fun _ => False) _ _).al _⟩
  · have k1 : decide (off < 0) = false := by simpa using h1
    have h2 : cnt < 0 := h.resolve_left h1
    have k2 : decide (cnt < 0) = true := by simpa using h2
    clear h
    go_enter Tryz.func16, Tryz.ntmps16
    go_wp2
    go_ret2
    exact ⟨rfl, (Chg.alloc (fun _ => False) _ _).al _⟩
end
end Go.Proofs.YtnnaemlipahamaaGreat

namespace Go.Proofs.YtnnaemlipahamaaGreat
open Go.RowKit Go.Maps
attribute [local go_sem ↓] copyG_eq

/-- A slice of bytes in a box. -/
structure BxAt (w : World) (bb : Nat) (u : Value) (ys : List Int) : Prop where
  box : w.heap[bb]? = some (.cells #[u] 33 (0, 0))
  bs : Bs w u ys
/-- The slice from n on. -/
theorem bs_tail {w : World} {a : Addr} {n k c : Nat} {ys : List Int} (h : Bs w (.slice (some a) n c) ys) (hk : k ≤ ys.length) : ∀ a', (k < ys.length → a' = a.add k) → Bs w (.slice (some a') (n - k) (c - k)) (ys.drop k) := by
  intro a' ha
  rcases h with ⟨e, _⟩ | ⟨x, c', e, hl, hm, hcell⟩
  · cases e
  · cases e
    refine .inr ⟨a', c - k, by rw [List.length_drop], by rw [List.length_drop]; omega, by omega, fun j hj => ?_⟩
    rw [List.length_drop] at hj
    rw [ha (by omega)]
    have := hcell (k + j) (by omega)
    have e2 : (a.add k).add j = a.add (k + j) := by
      unfold Addr.add
      split <;> rename_i h1 <;> (try split) <;> (try split) <;> simp_all <;> omega
    rw [e2, this]
    simp [List.getD]
section
variable {c : Cx} {X : Nat → Prop} {w : World} {V : Nat → List Int} {T : Nat → Bool}
set_option maxHeartbeats 1600000 in
set_option maxRecDepth 100000 in
theorem lay1_any (x fr tq tb bb : Nat) (u : Value) (ys : List Int) (hs : Fs c X w V T) (ho : c.Ok) (h1 : c.F ≤ x) (h2 : x < c.F + c.n) (hL : x ∈ c.L) (hft : fr < tq) (ht : tq ≤ 512) (hlen : tq - fr ≤ ys.length) (hby : IsBy ys)
    (htb : w.cell? ⟨tb, 0, none⟩ = some (tI c.q)) (hx : BxAt w bb u ys) (hX : X bb ∧ X tb ∧ tb ≠ bb) (hr : c.w0.heap.size ≤ bb) (hu : ∀ g, u.ownBlock = some g → X g ∧ g ≠ bb) (hyl : ys.length ≤ 10000000) :
    Calls Tryz.prog 78 #[.int .i64 (x : Int), .int .i64 (fr : Int), .int .i64 (tq : Int), .pointer (some ⟨tb, 0, none⟩), .pointer (some ⟨bb, 0, none⟩)] w fun e w' => e = .returned (.int .i64 0) ∧
      Fs c X w' (upd V x (splice (V x) fr (ys.take (tq - fr)))) T ∧ (∃ u', BxAt w' bb u' (ys.drop (tq - fr)) ∧ u'.ownBlock = u.ownBlock) ∧ ∀ k, X k → k ≠ bb → w'.heap[k]? = w.heap[k]? := by
  have htop := ho.top
  have hVl := hs.tv.len (n := x) (by omega)
  have hVb := hs.by' x (by omega)
  obtain ⟨K, hK⟩ : ∃ K, tq - fr = K := ⟨_, rfl⟩
  obtain ⟨a, cu, rfl, hcu⟩ : ∃ a cu, u = .slice (some a) ys.length cu ∧ ys.length ≤ cu := by
    rcases hx.bs with ⟨_, rfl⟩ | ⟨a, cu, rfl, h, _⟩
    · simp at hlen; omega
    · exact ⟨a, cu, rfl, h⟩
  obtain ⟨ab, ao, hao⟩ : ∃ ab ao, a = ⟨ab, ao, none⟩ := by
    obtain ⟨b', off', e, _⟩ := hx.bs.atC (k := 0) (by omega)
    exact ⟨b', off', by cases e; rfl⟩
  subst hao
  have hlt := hs.tv.xlt
  have LD : Hid (Calls Tryz.prog 49 #[tI c.q, .int .i64 (x : Int)] w fun e w1 => ∃ g cp, e = .returned (.tuple #[.slice (some ⟨g, 0, none⟩) 512 cp, .int .i64 0]) ∧ 512 ≤ cp ∧ w1.cell? ⟨bb, 0, none⟩ = some (.slice (some ⟨ab, ao, none⟩) ys.length cu) ∧ w1.frozen? ⟨bb, 0, none⟩ = false ∧
      ∃ w2, (copyG #[33, 33] 3 #[.slice (some ⟨g, fr, none⟩) K (cp - fr), .slice (some ⟨ab, ao, none⟩) ys.length cu]).run Tryz.prog w1.drew = .ok (.int .i64 (K : Int)) w2 ∧ w2.cell? ⟨bb, 0, none⟩ = some (.slice (some ⟨ab, ao, none⟩) ys.length cu) ∧ w2.frozen? ⟨bb, 0, none⟩ = false ∧
      ∀ a', (K < ys.length → a' = (⟨ab, ao + K, none⟩ : Addr)) → a'.block = ab →
        (w2.setCell ⟨bb, 0, none⟩ (.slice (some a') (ys.length - K) (cu - K))).cell? ⟨tb, 0, none⟩ = some (tI c.q) ∧
        Hid (Calls Tryz.prog 77 #[.pointer (some ⟨c.q, 0, none⟩), .int .i64 (x : Int), .slice (some ⟨g, 0, none⟩) 512 cp] (w2.setCell ⟨bb, 0, none⟩ (.slice (some a') (ys.length - K) (cu - K))) fun e w' => e = .returned (.int .i64 0) ∧
          Hid (Fs c X w' (upd V x (splice (V x) fr (ys.take K))) T ∧ (∃ u', BxAt w' bb u' (ys.drop K) ∧ u'.ownBlock = some ab) ∧ ∀ k, X k → k ≠ bb → w'.heap[k]? = w.heap[k]?))) := by
    refine (load_any x hs.tv (by omega)).mono ?_
    rintro e w1 ⟨u1, g, rfl, hu1⟩
    obtain ⟨cp, rfl⟩ := hu1.form
    have hcp : 512 ≤ cp ∧ cp ≤ maxLen := by
      rcases hu1.mp with ⟨e, _⟩ | ⟨c2, _, _, e, _, h2, h3, _⟩
      · cases e
      · injection e with _ _ e3
        subst e3
        exact ⟨by omega, h3⟩
    have hbx1 : w1.heap[bb]? = some (.cells #[.slice (some ⟨ab, ao, none⟩) ys.length cu] 33 (0, 0)) := (hu1.chg.block bb (hlt bb hX.1) (fun h => h)).trans hx.box
    have hbs1 : Bs w1.drew (.slice (some ⟨ab, ao, none⟩) ys.length cu) ys := hx.bs.kept (hu1.chg.dr) (fun _ _ _ _ _ h => h)
    obtain ⟨w2, hrun, hm2, hc2⟩ := run_copyM (dl := K) (dc := cp - fr) (o := fr) 3 (hu1.mp.kept (Chg.drew (fun _ => False) w1) (fun h => h)) hbs1 (by rw [hVl]; omega)
    rw [Nat.min_eq_right (by omega)] at hrun
    have hc12 : Chg (fun b => b = g) w w2 := (hu1.chg.dr.mono (fun _ _ h => h.elim)).trans hc2 (fun _ _ h => h)
    have hgn : w.heap.size ≤ g := hu1.new
    have hne : ∀ k, X k → k ≠ g := fun k hk e => by have := hlt k hk; omega
    have hbx2 : w2.heap[bb]? = some (.cells #[.slice (some ⟨ab, ao, none⟩) ys.length cu] 33 (0, 0)) := (hc12.block bb (hlt bb hX.1) (hne bb hX.1)).trans hx.box
    refine ⟨g, cp, rfl, hcp.1, cell_of_one hbx1, frozen_of_row _ _ _ _ _ hbx1, w2, hrun, cell_of_one hbx2, frozen_of_row _ _ _ _ _ hbx2, fun a' ha1 ha2 => ?_⟩
    obtain ⟨v, hv⟩ : ∃ v, Value.slice (some a') (ys.length - K) (cu - K) = v := ⟨_, rfl⟩
    have hbxV := heap_setCell_same w bb 0 _ _ v hx.box
    have hbxW := heap_setCell_same w2 bb 0 _ _ v hbx2
    have hcV : Chg (fun b => b = bb) w (w.setCell ⟨bb, 0, none⟩ v) := Chg.setCell (S := fun b => b = bb) _ _ _ rfl
    have hfsV : Fs c X (w.setCell ⟨bb, 0, none⟩ v) V T := hs.put hX.1 hr hcV
    have hcVW : Chg (fun _ => False) (w.setCell ⟨bb, 0, none⟩ v) (w2.setCell ⟨bb, 0, none⟩ v) := by
      refine ⟨hc12.os, hc12.tape, hc12.output, by simp; exact hc12.size, fun k hk _ => ?_⟩
      have hk' : k < w.heap.size := by simpa using hk
      by_cases e : k = bb
      · rw [e, hbxV, hbxW]
      · rw [Below.heap_setCell _ ⟨bb, 0, none⟩ _ k e, Below.heap_setCell _ ⟨bb, 0, none⟩ _ k e]
        exact hc12.block k hk' (by omega)
    have hmW : Mp (w2.setCell ⟨bb, 0, none⟩ v) g (.slice (some ⟨g, 0, none⟩) 512 cp) (splice (V x) fr (ys.take K)) := hm2.kept (Chg.setCell (S := fun b => b = bb) w2 ⟨bb, 0, none⟩ v rfl) (fun e => by have := hlt bb hX.1; omega)
    have hsl : (splice (V x) fr (ys.take K)).length = 512 := by rw [splice_len (by rw [List.length_take]; omega)]; exact hVl
    have hNM : NewM (w.setCell ⟨bb, 0, none⟩ v) (w2.setCell ⟨bb, 0, none⟩ v) (.slice (some ⟨g, 0, none⟩) 512 cp) g (splice (V x) fr (ys.take K)) := ⟨hmW, hcVW, by simpa using hgn, hsl, cp, rfl⟩
    rw [hv]
    have hXW : ∀ k, X k → k ≠ bb → (w2.setCell ⟨bb, 0, none⟩ v).heap[k]? = w.heap[k]? := fun k hk e => by
      rw [Below.heap_setCell _ ⟨bb, 0, none⟩ _ k e]
      exact hc12.block k (hlt k hk) (hne k hk)
    have hibs : IsBy (splice (V x) fr (ys.take K)) := by
      intro y hy
      unfold splice at hy
      rw [List.mem_append, List.mem_append] at hy
      rcases hy with (hy | hy) | hy
      · exact hVb y (List.mem_of_mem_take hy)
      · exact hby y (List.mem_of_mem_take hy)
      · exact hVb y (List.mem_of_mem_drop hy)
    refine ⟨(World.cell?_of_block (hXW tb hX.2.1 hX.2.2)).trans htb, (fs_write x _ _ g hfsV ho hNM hibs h1 h2 hL).mono ?_⟩
    rintro e w' ⟨rfl, hf', hsm⟩
    have hall : ∀ k, X k → k ≠ bb → w'.heap[k]? = w.heap[k]? := fun k hk e => (hsm k hk).trans (Below.heap_setCell w ⟨bb, 0, none⟩ v k e)
    refine ⟨rfl, hf', ⟨v, ⟨(hsm bb hX.1).trans (by rw [hbxV]; rfl), ?_⟩, by rw [← hv]; simp [Value.ownBlock, ha2]⟩, hall⟩
    have hub := hu ab rfl
    have hbs0 : Bs w' (.slice (some ⟨ab, ao, none⟩) ys.length cu) ys := by
      rcases hx.bs with ⟨e, _⟩ | ⟨a2, c2, e, b1, b2, b3⟩
      · cases e
      · cases e
        refine .inr ⟨_, _, rfl, b1, b2, fun j hj => ?_⟩
        rw [← b3 j hj]
        refine World.cell?_of_block ?_
        have : ((⟨ab, ao, none⟩ : Addr).add j).block = ab := by simp [Addr.add_lit]
        rw [this]
        exact hall ab hub.1 hub.2
    rw [← hv]
    exact bs_tail hbs0 (by omega) a' (fun h => by rw [ha1 h]; simp [Addr.add_lit])
  clear hs hx hVl hVb hlt hby
  rw [hK]
  have k1 : (fr : Int) ≤ (tq : Int) := by omega
  have hKle : K ≤ ys.length := by omega
  obtain ⟨Y, hY⟩ : ∃ Y, ys.length = Y := ⟨_, rfl⟩
  rw [hY] at LD hKle hcu
  have HOB : Hid ((Value.slice (some ⟨ab, ao, none⟩) ys.length cu).ownBlock = some ab) := rfl
  rw [hY] at HOB
  rw [hY]
  have k3 : (K : Int) ≤ (Y : Int) := by omega
  go_enter Tryz.func78, Tryz.ntmps78
  go_wp2_with fail
  refine LD.out.mono ?_
  clear LD
  rintro e w1 ⟨g, cp, rfl, hcp, c1, f1, w2, hr2, c2, f2, hW⟩
  have htc : tq ≤ cp := by omega
  have HW : Hid _ := hW
  clear hW hY hlen
  have hcf : ¬ cp = fr := by omega
  go_wp2_with fail
  go_region
  all_goals
    obtain ⟨a', e1, e2, e3⟩ : ∃ a' : Addr, (if cu = K then some (⟨ab, ao, none⟩ : Addr) else some ⟨ab, ao + K, none⟩) = some a' ∧ (K < Y → a' = ⟨ab, ao + K, none⟩) ∧ a'.block = ab := by
      by_cases e : cu = K
      · exact ⟨_, if_pos e, fun h => by omega, rfl⟩
      · exact ⟨_, if_neg e, fun _ => rfl, rfl⟩
    rw [e1]
    obtain ⟨ct, WR⟩ := (show ∀ a' : Addr, _ from HW.out) a' e2 e3
    clear HW hr2 c1 f1 c2 f2 e1 e2 e3
    go_wp2_with fail
    refine WR.out.mono ?_
    clear WR
    rintro e w3 ⟨rfl, HZ⟩
    go_wp2
    go_ret
    exact ⟨rfl, HZ.out⟩
end
end Go.Proofs.YtnnaemlipahamaaGreat

namespace Go.Proofs.YtnnaemlipahamaaGreat
open Go.RowKit Go.Maps

theorem par_odd {k : Nat} (_hf : ¬ fld k) : par k % 2 = 1 := by
  unfold par
  split
  · omega
  · split <;> omega
theorem Sh.congrP {Lv : Nat → Prop} {V V' : Nat → List Int} {nd : Nd} {B : Nat → Nat} (h : Sh Lv V nd B) (e : ∀ k, Lv k → k % 2 = 1 → V' (B k) = V (B k)) : Sh Lv V' nd B := by
  refine ⟨fun k hk => ?_, h.none, h.par, h.inj⟩
  rw [← h.slot k hk]
  by_cases hf : fld k
  · rw [slotV_fld hf, slotV_fld hf]
  · rw [slotV_num hf, slotV_num hf, e _ (h.par k hk hf) (par_odd hf)]
section
variable {c : Cx} {X : Nat → Prop} {w : World} {V : Nat → List Int} {T : Nat → Bool} {nd : Nd} {B : Nat → Nat} {m : Nat} {cs : List Int}
theorem Fl.data (h : Fl c (live m) V nd B T) {i : Nat} (hi : i < m) (bs : List Int) : Fl c (live m) (upd V (B (2 * i)) bs) nd B T := by
  have hl : live m (2 * i) := by unfold live; omega
  exact ⟨h.sh.congrP (fun k hk ho => upd_other _ _ (fun e => by have := h.sh.inj _ _ hk hl e; omega)), h.own, h.idx⟩
theorem Ct.put (h : Ct m V B cs) (hf : Fl c (live m) V nd B T) {off : Nat} {b : List Int} (hin : off % 512 + b.length ≤ 512) (ho : off / 512 < m) : Ct m (upd V (B (2 * (off / 512))) (splice (V (B (2 * (off / 512)))) (off % 512) b)) B (splice cs off b) := by
  have hle : off + b.length ≤ cs.length := by have := h.len; omega
  refine ⟨by rw [splice_len hle]; exact h.len, fun i hi => ?_⟩
  rw [blkOf_splice h.len hin ho i hi]
  by_cases e : i = off / 512
  · rw [if_pos e, e, upd_same, h.blk _ ho]
  · rw [if_neg e, upd_other _ _ (fun e2 => e ?_), h.blk i hi]
    have l1 : live m (2 * i) := by unfold live; omega
    have l2 : live m (2 * (off / 512)) := by unfold live; omega
    have := hf.sh.inj _ _ l1 l2 e2
    omega
/-- What lay finds between two pieces: d bytes of bs were laid. -/
structure LyI (c : Cx) (X : Nat → Prop) (V : Nat → List Int) (T : Nat → Bool) (nd : Nd) (B : Nat → Nat) (m : Nat) (cs : List Int) (off : Nat) (bs : List Int) (w : World) (tb bb nb : Nat) (ob : Option Nat) (d : Nat) (wa : World) : Prop where
  node : NdB 29 wa nb nd
  t : wa.cell? ⟨tb, 0, none⟩ = some (tI c.q)
  bx : ∃ u, BxAt wa bb u (bs.drop d) ∧ u.ownBlock = ob
  st : ∃ V', Fs c X wa V' T ∧ Fl c (live m) V' nd B T ∧ Ct m V' B (splice cs off (bs.take d)) ∧ ∀ n, (∀ i, i < m → B (2 * i) ≠ n) → V' n = V n
  sm : ∀ k, X k → k ≠ bb → wa.heap[k]? = w.heap[k]?
theorem LyI.more {off d tb bb nb : Nat} {bs : List Int} {ob : Option Nat} {wa wb : World} (h : LyI c X V T nd B m cs off bs w tb bb nb ob d wa) (hc : Chg (fun _ => False) wa wb) : LyI c X V T nd B m cs off bs w tb bb nb ob d wb := by
  obtain ⟨u, hb, ho⟩ := h.bx
  obtain ⟨V', h1, h2, h3, h4⟩ := h.st
  exact ⟨h.node.kept hc (fun h => h), hc.cell h.t (fun h => h), ⟨u, ⟨(hc.block bb (lt_of_block hb.box) (fun h => h)).trans hb.box, hb.bs.kept hc (fun _ _ _ _ _ h => h)⟩, ho⟩, ⟨V', h1.more hc, h2, h3, h4⟩, fun k hk hne => (hc.block k (h1.tv.xlt k hk) (fun h => h)).trans (h.sm k hk hne)⟩
theorem LyI.step {off d tb bb nb fr tq : Nat} {bs : List Int} {ob : Option Nat} {wa : World} (h : LyI c X V T nd B m cs off bs w tb bb nb ob d wa) (ho : c.Ok) (hd : d < bs.length) (hcl : cs.length = 512 * m) (hob : off + bs.length ≤ 512 * m) (hfr : fr = (off + d) % 512) (htq : tq = min (fr + (bs.length - d)) 512) (hL : B (2 * ((off + d) / 512)) ∈ c.L) (hby : IsBy bs)
    (hX : X bb ∧ X tb ∧ X nb ∧ tb ≠ bb ∧ nb ≠ bb) (hr : c.w0.heap.size ≤ bb) (hu : ∀ g, ob = some g → X g ∧ g ≠ bb) (hbl : bs.length ≤ 10000000) :
    Calls Tryz.prog 78 #[.int .i64 (B (2 * ((off + d) / 512)) : Int), .int .i64 (fr : Int), .int .i64 (tq : Int), .pointer (some ⟨tb, 0, none⟩), .pointer (some ⟨bb, 0, none⟩)] wa fun e w' => e = .returned (.int .i64 0) ∧ LyI c X V T nd B m cs off bs w tb bb nb ob (d + (tq - fr)) w' := by
  obtain ⟨u, hb, hob'⟩ := h.bx
  obtain ⟨V', h1, h2, h3, h4⟩ := h.st
  have hi : (off + d) / 512 < m := by omega
  have hl : live m (2 * ((off + d) / 512)) := by unfold live; omega
  have hown := h2.own _ hl
  have htk : ((bs.drop d).take (tq - fr)).length = tq - fr := by rw [List.length_take, List.length_drop]; omega
  have hbt : (bs.take d).length = d := by rw [List.length_take]; omega
  refine (lay1_any _ fr tq tb bb u (bs.drop d) h1 ho hown.1 hown.2.1 hL (by omega) (by omega) (by rw [List.length_drop]; omega) (fun y hy => hby y (List.mem_of_mem_drop hy)) h.t hb ⟨hX.1, hX.2.1, hX.2.2.2.1⟩ hr (fun g hg => hu g (by rw [← hob']; exact hg)) (by rw [List.length_drop]; omega)).mono ?_
  rintro e w' ⟨rfl, f1, ⟨u', b1, b2⟩, s1⟩
  refine ⟨rfl, (s1 nb hX.2.2.1 hX.2.2.2.2).trans h.node, (World.cell?_of_block (s1 tb hX.2.1 hX.2.2.2.1)).trans h.t, ⟨u', by rw [List.drop_drop] at b1; exact b1, b2.trans hob'⟩, ⟨_, f1, h2.data hi _, ?_, fun n hn => ?_⟩, fun k hk hne => (s1 k hk hne).trans (h.sm k hk hne)⟩
  · have e1 : splice cs off (bs.take (d + (tq - fr))) = splice (splice cs off (bs.take d)) (off + d) ((bs.drop d).take (tq - fr)) := by
      have := splice_splice (cs := cs) (off := off) (b := bs.take d) (c := (bs.drop d).take (tq - fr)) (by rw [hbt, htk]; omega)
      rw [hbt] at this
      rw [this, List.take_add]
    rw [e1, hfr]
    rw [hfr] at htk
    exact h3.put h2 (by rw [htk]; omega) hi
  · rw [upd_other _ _ (fun e => hn _ hi e.symm)]
    exact h4 n hn
set_option maxHeartbeats 800000 in
theorem lay_any (off : Nat) (u : Value) (bs : List Int) (hs : Fs c X w V T) (hf : Fl c (live m) V nd B T) (ho : c.Ok) (hct : Ct m V B cs) (hb : Bs w u bs) (hub : ∀ g, u.ownBlock = some g → 0 < bs.length → X g) (hob : off + bs.length ≤ 512 * m) (hm : m ≤ 16520) (hby : IsBy bs) (hL : ∀ i, off / 512 ≤ i → 512 * i < off + bs.length → B (2 * i) ∈ c.L) :
    Calls Tryz.prog 45 #[tI c.q, nd.v, .int .i64 (off : Int), u] w fun e w' => e = .returned (.int .i64 0) ∧
      ∃ V', Fs c X w' V' T ∧ Fl c (live m) V' nd B T ∧ Ct m V' B (splice cs off bs) ∧ (∀ n, (∀ i, i < m → B (2 * i) ≠ n) → V' n = V n) ∧ Sm X w w' := by
  have hmf : ∀ (fn : Fn) (first cap : Array Value) (w : World), (Instr.makeFunc fn first cap).run Tryz.prog w = .ok (.func fn first cap) w := fun _ _ _ _ => rfl
  have hlt := hs.tv.xlt
  have hw0 := hs.tv.chg.size
  obtain ⟨a, cu, rfl, hcu⟩ := hb.formB
  have PC : Hid (Calls Tryz.prog 47 #[tI c.q, nd.v, .int .i64 (off : Int), .int .i64 (bs.length : Int), .func (.func 78) #[] #[.pointer (some ⟨w.heap.size, 0, none⟩), .pointer (some ⟨w.heap.size + 2, 0, none⟩)]] (((w.alloc (.cells #[tI c.q] 99)).alloc (nd.o 29)).alloc (.cells #[.slice a bs.length cu] 33)) fun e w' => e = .returned (.int .i64 0) ∧
      Hid (∃ V', Fs c X w' V' T ∧ Fl c (live m) V' nd B T ∧ Ct m V' B (splice cs off bs) ∧ (∀ n, (∀ i, i < m → B (2 * i) ≠ n) → V' n = V n) ∧ Sm X w w')) := by
    generalize hW : ((w.alloc (.cells #[tI c.q] 99)).alloc (nd.o 29)).alloc (.cells #[.slice a bs.length cu] 33) = W
    have hcW : Chg (fun _ => False) w W := hW ▸ ((Chg.alloc (fun _ => False) w _).al _).al _
    have hWs : W.heap.size = w.heap.size + 3 := by rw [← hW]; simp
    have hca := hcW.al (nd.o 29)
    have has : (W.alloc (nd.o 29)).heap.size = w.heap.size + 4 := by simp [hWs]
    have hfa := hs.add hca
    rw [has] at hfa
    have hbb : (W.alloc (nd.o 29)).heap[w.heap.size + 2]? = some (.cells #[.slice a bs.length cu] 33 (0, 0)) := by
      rw [Below.heap_alloc _ _ _ (by omega), ← hW]
      exact heap_new' (by simp)
    have htb : (W.alloc (nd.o 29)).cell? ⟨w.heap.size, 0, none⟩ = some (tI c.q) := by
      rw [World.cell?_alloc_lt _ _ _ (by rw [hWs]; simp), ← hW, World.cell?_alloc_lt _ _ _ (by simp <;> omega), World.cell?_alloc_lt _ _ _ (by simp), World.cell?_alloc_at _ _ _ _ rfl]; rfl
    have h0 : LyI c (addX X w.heap.size (w.heap.size + 4)) V T nd B m cs off bs (W.alloc (nd.o 29)) w.heap.size (w.heap.size + 2) W.heap.size (Value.slice a bs.length cu).ownBlock 0 (W.alloc (nd.o 29)) := by
      refine ⟨heap_alloc_new _ _, htb, ⟨_, ⟨hbb, by rw [List.drop_zero]; exact hb.kept hca (fun _ _ _ _ _ h => h)⟩, rfl⟩, ⟨V, hfa, hf, by rw [List.take_zero, splice_nil]; exact hct, fun _ _ => rfl⟩, fun _ _ _ => rfl⟩
    refine (pieces_any (c := c) (T := T) (Lv := live m) (B := B) (nd := nd) (w := W) 78 off bs.length _ _ (fun d wa => d ≤ bs.length ∧ LyI c (addX X w.heap.size (w.heap.size + 4)) V T nd B m cs off bs (W.alloc (nd.o 29)) w.heap.size (w.heap.size + 2) W.heap.size (Value.slice a bs.length cu).ownBlock d wa) ho (by omega) (fun _ _ _ _ => by kernel_rfl) (fun i hi => by unfold live; omega) (fun k hk => by have := hf.own k hk; have := ho.pr.f; have := ho.pr.top; omega) ⟨by omega, h0⟩ (fun d wa h => by obtain ⟨V', h1, h2, _⟩ := h.2.st; exact ⟨h.2.node.at, _, V', h1, h2⟩) (fun d wa wb h hc => ⟨h.1, h.2.more hc⟩) ?_).mono ?_
    · intro d wa x fr tq hd hx hfr htq h
      subst hx
      refine (h.2.step ho hd hct.len hob hfr htq (hL _ (by omega) (by omega)) hby ⟨.inr ⟨by omega, by omega⟩, .inr ⟨by omega, by omega⟩, .inr ⟨by omega, by omega⟩, by omega, by omega⟩ (by omega) (fun g hg => ⟨.inl (hub g hg (by omega)), by have := hlt g (hub g hg (by omega)); omega⟩) (by omega)).mono ?_
      rintro e w' ⟨rfl, h'⟩
      exact ⟨rfl, by omega, h'⟩
    · rintro e w' ⟨rfl, _, h'⟩
      obtain ⟨V', h1, h2, h3, h4⟩ := h'.st
      rw [List.take_length] at h3
      refine ⟨rfl, V', h1.less (fun k hk => .inl hk), h2, h3, h4, fun k hk => ?_⟩
      have := hlt k hk
      exact (h'.sm k (.inl hk) (by omega)).trans (hca.block k this (fun h => h))
  clear hs hf ho hct hb hub hL hlt
  go_enter Tryz.func45, Tryz.ntmps45
  go_wp2_with fail
  refine PC.out.mono ?_
  clear PC
  rintro e w1 ⟨rfl, HZ⟩
  go_wp2
  go_ret
  exact ⟨rfl, HZ.out⟩
end
end Go.Proofs.YtnnaemlipahamaaGreat

namespace Go.Proofs.YtnnaemlipahamaaGreat
open Go.RowKit Go.Maps

/-- How many blocks so many bytes have; the bytes with what fills their last block. -/
def blkC (s : Nat) : Nat := (s + 511) / 512
def pad (bs : List Int) : List Int := bs ++ zeros (512 * blkC bs.length - bs.length)
theorem pad_len (bs : List Int) : (pad bs).length = 512 * blkC bs.length := by
  unfold pad
  rw [List.length_append, zeros_len]
  unfold blkC; omega
theorem pad_take (bs : List Int) : (pad bs).take bs.length = bs := by
  unfold pad
  rw [List.take_left]
/-- How many blocks of both kinds m blocks of bytes need. -/
def innM (m : Nat) : Nat := if m ≤ 8 then 0 else if m ≤ 136 then 1 else 2 + (m - 9) / 128
def allM (m : Nat) : Nat := m + innM m
theorem begunK_len (i : Nat) : allM i + (begunK i).length = allM (i + 1) := by
  unfold allM innM begunK
  repeat' split
  all_goals simp only [List.length_cons, List.length_nil]
  all_goals omega
theorem allN_blk {s : Nat} (h : s ≤ 8458240) : allN (s : Int) = (allM (blkC s) : Int) ∧ blkN (s : Int) = (blkC s : Int) := by
  have e : blkN (s : Int) = (blkC s : Int) := by
    unfold blkN blkC
    rw [if_pos (by omega)]; omega
  refine ⟨?_, e⟩
  unfold allN innN allM innM
  rw [e]
  by_cases h1 : blkC s ≤ 8
  · rw [if_pos (by omega), if_pos h1]; omega
  · by_cases h2 : blkC s ≤ 136
    · rw [if_neg (by omega), if_pos (by omega), if_neg h1, if_pos h2]; omega
    · rw [if_neg (by omega), if_neg (by omega), if_neg h1, if_neg h2]; omega
/-- The keys of j blocks from m on. -/
def keysTo (m : Nat) : Nat → List Nat
  | 0 => []
  | j + 1 => keysTo m j ++ begunK (m + j)
theorem keysTo_len (m : Nat) : ∀ j, allM m + (keysTo m j).length = allM (m + j)
  | 0 => rfl
  | j + 1 => by rw [keysTo, List.length_append, ← Nat.add_assoc, keysTo_len m j, begunK_len]; rfl
theorem begunK_fst {i k : Nat} (h : k ∈ begunK i) : fst k = i := by
  have h1 : ¬ fst k < i := fun e => begunK_new h (live_fst.2 e)
  have h2 : fst k < i + 1 := live_fst.1 ((live_succ i k).2 (.inr h))
  omega
theorem keysTo_fst (m : Nat) : ∀ {j k : Nat}, k ∈ keysTo m j → m ≤ fst k ∧ fst k < m + j
  | 0, _, h => by cases h
  | j + 1, k, h => by
    rw [keysTo, List.mem_append] at h
    rcases h with h | h
    · have := keysTo_fst m h; omega
    · have := begunK_fst h; omega
theorem keysTo_app (m a : Nat) : ∀ b, keysTo m (a + b) = keysTo m a ++ keysTo (m + a) b
  | 0 => by simp [keysTo]
  | b + 1 => by rw [← Nat.add_assoc, keysTo, keysTo_app m a b, keysTo, List.append_assoc, Nat.add_assoc]
/-- A file of the bytes bs. -/
structure File (c : Cx) (V : Nat → List Int) (nd : Nd) (B : Nat → Nat) (T : Nat → Bool) (bs : List Int) : Prop where
  fl : Fl c (live (blkC bs.length)) V nd B T
  ct : Ct (blkC bs.length) V B (pad bs)
  sz : nd.sz = (bs.length : Int)
  lim : bs.length ≤ 8458240
  by' : IsBy bs
/-- A file on its way to more blocks: j were added. -/
structure Gm (c : Cx) (m : Nat) (V : Nat → List Int) (nd : Nd) (B : Nat → Nat) (T : Nat → Bool) (cs : List Int) (j : Nat) (V' : Nat → List Int) (nd' : Nd) : Prop where
  fl : Fl c (live (m + j)) V' nd' (grw c.F c.n (T, B) (keysTo m j)).2 (grw c.F c.n (T, B) (keysTo m j)).1
  ct : Ct (m + j) V' (grw c.F c.n (T, B) (keysTo m j)).2 (cs ++ zeros (512 * j))
  same : nd'.kd = nd.kd ∧ nd'.lk = nd.lk ∧ nd'.sz = nd.sz
  fr : ∀ x, c.F ≤ x → x < c.F + c.n → T (x - c.F) = true → (∀ k, live m k → B k ≠ x) → V' x = V x
  nw : ∀ k, live (m + j) k → ¬ live m k → T ((grw c.F c.n (T, B) (keysTo m j)).2 k - c.F) = false
section
variable {c : Cx} {V V' V'' : Nat → List Int} {nd nd' nd'' : Nd} {B : Nat → Nat} {T : Nat → Bool} {m j : Nat} {cs : List Int}
theorem live_mono {m n k : Nat} (h : live m k) (hn : m ≤ n) : live n k := by rw [live_fst] at *; omega
theorem Gm.start (hf : Fl c (live m) V nd B T) (hc : Ct m V B cs) : Gm c m V nd B T cs 0 V nd :=
  ⟨hf, by rw [Nat.mul_zero, show zeros 0 = [] from rfl, List.append_nil]; exact hc, ⟨rfl, rfl, rfl⟩, fun _ _ _ _ _ => rfl, fun k h1 h2 => absurd h1 h2⟩
/-- Keys that were there keep their blocks. -/
theorem keep_old {k : Nat} (h : live m k) : (grw c.F c.n (T, B) (keysTo m j)).2 k = B k :=
  grw_other _ _ _ _ _ (fun e => by have := keysTo_fst m e; rw [live_fst] at h; omega)
theorem Gm.step (h : Gm c m V nd B T cs j V' nd') (hg : Gr c (live (m + j)) (begunK (m + j)) V' nd' (grw c.F c.n (T, B) (keysTo m j)).2 (grw c.F c.n (T, B) (keysTo m j)).1 (begunK (m + j)).length V'' nd'') : Gm c m V nd B T cs (j + 1) V'' nd'' := by
  obtain ⟨s, hs⟩ : ∃ s, grw c.F c.n (T, B) (keysTo m j) = s := ⟨_, rfl⟩
  rw [hs] at hg
  have hk : grw c.F c.n (T, B) (keysTo m (j + 1)) = grw c.F c.n (s.1, s.2) (begunK (m + j)) := by rw [keysTo, grw_app, hs]
  have h1 := h.fl; have h2 := h.ct; have h3 := h.nw
  rw [hs] at h1 h2 h3
  obtain ⟨g1, g2, g3, g4, g5⟩ := hg
  rw [List.take_length] at g1 g4 g5
  have hlv : ∀ k, (live (m + j) k ∨ k ∈ begunK (m + j)) ↔ live (m + (j + 1)) k := fun k => (live_succ (m + j) k).symm
  have hold : ∀ k, live (m + j) k → (grw c.F c.n (s.1, s.2) (begunK (m + j))).2 k = s.2 k := fun k hk' => grw_other _ _ _ _ _ (fun e => begunK_new e hk')
  have hmono : ∀ x, T x = true → s.1 x = true := fun x hx => by rw [← hs]; exact grw_mono _ _ _ _ _ hx
  refine ⟨?_, ?_, ⟨g2.1.trans h.same.1, g2.2.1.trans h.same.2.1, g2.2.2.trans h.same.2.2⟩, fun x x1 x2 x3 x4 => ?_, fun k k1 k2 => ?_⟩
  · rw [hk]
    exact ⟨g1.sh.iff hlv, fun k hk' => g1.own k ((hlv k).2 hk'), fun k hk' => g1.idx k ((hlv k).2 hk')⟩
  · rw [hk]
    have hl2 := h2.len
    have e : cs ++ zeros (512 * (j + 1)) = (cs ++ zeros (512 * j)) ++ zeros 512 := by
      rw [List.append_assoc]
      congr 1
      unfold zeros
      rw [List.replicate_append_replicate]
      congr 1
    rw [e]
    refine ⟨by rw [List.length_append, zeros_len, hl2]; omega, fun i hi => ?_⟩
    rw [blkOf_app hl2 (by omega)]
    by_cases ei : i = m + j
    · rw [if_pos ei, ei]
      refine g4 (2 * (m + j)) ?_ (by omega)
      have := (live_succ (m + j) (2 * (m + j))).1 (by unfold live; omega)
      exact this.resolve_left (by unfold live; omega)
    · rw [if_neg ei]
      have hl : live (m + j) (2 * i) := by unfold live; omega
      rw [hold _ hl, ← h2.blk i (by omega)]
      have ho := h1.own _ hl
      refine g3 _ ho.1 ho.2.1 ho.2.2 (fun l l1 l2 e => ?_)
      have := h1.sh.inj _ _ l2 hl e
      omega
  · rw [g3 x x1 x2 (hmono _ x3) (fun l l1 l2 e => ?_)]
    · exact h.fr x x1 x2 x3 x4
    · by_cases hm : live m l
      · have : s.2 l = B l := by rw [← hs]; exact keep_old hm
        rw [this] at e
        exact x4 l hm e
      · have := h3 l l2 hm
        rw [e, x3] at this
        cases this
  · rw [hk]
    by_cases hl : live (m + j) k
    · rw [hold k hl]; exact h3 k hl k2
    · have hb : k ∈ begunK (m + j) := ((hlv k).2 k1).resolve_left hl
      have := g5 k hb
      cases hT : T ((grw c.F c.n (s.1, s.2) (begunK (m + j))).2 k - c.F) with
      | false => rfl
      | true => rw [hmono _ hT] at this; cases this
/-- The blocks that growing and laying write to may be written. -/
def Wrt (c : Cx) (B' : Nat → Nat) (m m' : Nat) : Prop := ∀ k, live m' k → (¬ live m k ∨ k % 2 = 1 ∨ k + 2 = 2 * m) → B' k ∈ c.L
theorem Wrt.lg {J : Nat} (h : Wrt c (grw c.F c.n (T, B) (keysTo m J)).2 m (m + J)) (hj : j < J) (hM : m + J ≤ 16520) : Lg c (grw c.F c.n (T, B) (keysTo m j)) (begunK (m + j)) := by
  intro t ht
  obtain ⟨s, hs⟩ : ∃ s, grw c.F c.n (T, B) (keysTo m j) = s := ⟨_, rfl⟩
  rw [hs]
  obtain ⟨r, hr⟩ : ∃ r, J = j + 1 + r := ⟨J - (j + 1), by omega⟩
  have hJ : grw c.F c.n (T, B) (keysTo m J) = grw c.F c.n (grw c.F c.n s (begunK (m + j))) (keysTo (m + (j + 1)) r) := by
    rw [hr, keysTo_app, grw_app, keysTo, grw_app, hs]
  have hsp : begunK (m + j) = (begunK (m + j)).take (t + 1) ++ (begunK (m + j)).drop (t + 1) := (List.take_append_drop _ _).symm
  have hok := begunK_ok (i := m + j) (by omega)
  have hmem := mem_getD ht
  have fin : ∀ k, fst k ≤ m + j → k ∉ (begunK (m + j)).drop t → (grw c.F c.n (T, B) (keysTo m J)).2 k = (grw c.F c.n s ((begunK (m + j)).take t)).2 k := fun k k1 k2 => by
    rw [hJ, grw_other _ _ _ _ _ (fun e => by have := keysTo_fst _ e; omega)]
    conv => lhs; rw [show begunK (m + j) = (begunK (m + j)).take t ++ (begunK (m + j)).drop t from (List.take_append_drop _ _).symm, grw_app]
    exact grw_other _ _ _ _ _ k2
  constructor
  · have hk := h ((begunK (m + j)).getD t 0) (live_mono ((live_succ _ _).2 (.inr hmem)) (by omega)) (.inl (fun e => begunK_new hmem (live_mono e (by omega))))
    have : (grw c.F c.n (T, B) (keysTo m J)).2 ((begunK (m + j)).getD t 0) = c.F + frN c.n (grw c.F c.n s ((begunK (m + j)).take t)).1 := by
      rw [hJ, grw_other _ _ _ _ _ (fun e => by have := keysTo_fst _ e; have := begunK_fst hmem; omega)]
      have e1 : grw c.F c.n s (begunK (m + j)) = grw c.F c.n (grw c.F c.n s ((begunK (m + j)).take (t + 1))) ((begunK (m + j)).drop (t + 1)) := by
        conv => lhs; rw [hsp]
        exact grw_app _ _ _ _ _
      rw [e1, grw_other _ _ _ _ _ ?_, grw_step ht]
      · exact upd_same _ _ _
      · intro e
        have hnd := hok.nodup
        rw [hsp, List.nodup_append] at hnd
        have hin : (begunK (m + j)).getD t 0 ∈ (begunK (m + j)).take (t + 1) := by
          rw [take_step ht]; simp
        exact hnd.2.2 _ hin _ e rfl
    rw [← this]; exact hk
  · intro hf
    have hp := hok.par t ht hf
    have hpl : live (m + j + 1) (par ((begunK (m + j)).getD t 0)) := by
      rw [live_succ]
      rcases hp with e | e
      · exact .inl e
      · exact .inr (List.mem_of_mem_take e)
    have hk := h _ (live_mono hpl (by omega)) (.inr (.inl (par_odd hf)))
    rw [fin _ (by have := live_fst.1 hpl; omega) ?_] at hk
    · exact hk
    · intro e
      rcases hp with e2 | e2
      · exact begunK_new (List.mem_of_mem_drop e) e2
      · have hnd := hok.nodup
        rw [← List.take_append_drop t (begunK (m + j)), List.nodup_append] at hnd
        exact hnd.2.2 _ e2 _ e rfl
end
end Go.Proofs.YtnnaemlipahamaaGreat

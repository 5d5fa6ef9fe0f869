/-
  The reference's disk in memory, and what it has to do with the document's disk.
-/
import Derived.Test.YtioloobeakjbeaaImage
import Derived.Lib.AppendStr
namespace Go.Proofs.Ytioloobeakjbeaa
open Go.RowKit Go.Maps
attribute [local go_sem ↓] Go.wp_at_zero Go.wp_at_succ

/-! ### strings -/
theorem strOf_list (xs : List Int) : (strOf xs).data.toList = xs.map (fun n => UInt8.ofNat n.toNat) := by
  have gen : ∀ (r : ByteArray), (xs.foldl (fun r n => r.push (UInt8.ofNat n.toNat)) r).data.toList = r.data.toList ++ xs.map (fun n => UInt8.ofNat n.toNat) := by
    induction xs with
    | nil => intro r; simp
    | cons x xs ih => intro r; rw [List.foldl_cons, ih]; simp [ByteArray.push]
  have := gen ByteArray.empty
  simpa [strOf] using this
theorem str_ext {a b : ByteArray} (h : a.data.toList = b.data.toList) : a = b := by
  cases a; cases b
  rename_i x y
  have : x = y := Array.ext' h
  rw [this]
theorem strOf_size (xs : List Int) : (strOf xs).size = xs.length := by
  have := congrArg List.length (strOf_list xs)
  rw [List.length_map] at this
  exact this

/-! ### versions in order -/
abbrev Ws := List (Nat × List Int)
def versOf (W : Ws) (n : Nat) : List (List Int) := (W.filter fun x => x.1 == n).map (·.2)
theorem versOf_append (W V : Ws) (n : Nat) : versOf (W ++ V) n = versOf W n ++ versOf V n := by simp [versOf]
theorem versOf_one (k : Nat) (b : List Int) (n : Nat) : versOf [(k, b)] n = if k = n then [b] else [] := by
  unfold versOf
  by_cases e : k = n
  · simp [e]
  · simp [e]
def wcells (W : Ws) : List Value := W.flatMap fun x => [.int .i64 (x.1 : Int), .string (strOf x.2)]
theorem wcells_len (W : Ws) : (wcells W).length = W.length * 2 := by
  induction W with
  | nil => rfl
  | cons x W ih =>
    have : wcells (x :: W) = [.int .i64 (x.1 : Int), .string (strOf x.2)] ++ wcells W := rfl
    rw [this, List.length_append, ih]; simp; omega
theorem wcells_at {W : Ws} : ∀ {i : Nat} (hi : i < W.length), (wcells W)[2 * i]? = some (.int .i64 (W[i].1 : Int)) ∧ (wcells W)[2 * i + 1]? = some (.string (strOf W[i].2)) := by
  induction W with
  | nil => intro i hi; simp at hi
  | cons x W ih =>
    intro i hi
    have e : wcells (x :: W) = .int .i64 (x.1 : Int) :: .string (strOf x.2) :: wcells W := rfl
    rw [e]
    cases i with
    | zero => exact ⟨rfl, rfl⟩
    | succ i =>
      have := ih (i := i) (by simpa using hi)
      have e1 : 2 * (i + 1) = (2 * i + 1) + 1 := by omega
      rw [e1]
      simpa using this
theorem wcells_append (W V : Ws) : wcells (W ++ V) = wcells W ++ wcells V := by simp [wcells]
def scells (f : Nat → List Int) (nb : Nat) : List Value := (List.range nb).map fun n => .string (strOf (f n))
theorem scells_len (f : Nat → List Int) (nb : Nat) : (scells f nb).length = nb := by simp [scells]
theorem scells_at {f : Nat → List Int} {nb n : Nat} (h : n < nb) : (scells f nb)[n]? = some (.string (strOf (f n))) := by simp [scells, h]
theorem scells_congr {f g : Nat → List Int} {nb : Nat} (h : ∀ n, n < nb → f n = g n) : scells f nb = scells g nb := by
  unfold scells
  refine List.map_congr_left (fun n hn => ?_)
  rw [h n (List.mem_range.1 hn)]
theorem scells_set {f : Nat → List Int} {nb n : Nat} (b : List Int) : (scells f nb).set n (.string (strOf b)) = scells (upd f n b) nb := by
  apply List.ext_getElem?
  intro j
  rw [List.getElem?_set, scells_len]
  by_cases hj : j < nb
  · rw [scells_at hj, scells_at hj]
    by_cases e : n = j
    · subst e; simp [hj, upd_same]
    · rw [if_neg e, upd_other _ _ (fun x => e x.symm)]
  · have h1 : (scells f nb)[j]? = none := List.getElem?_eq_none (by rw [scells_len]; omega)
    have h2 : (scells (upd f n b) nb)[j]? = none := List.getElem?_eq_none (by rw [scells_len]; omega)
    rw [h1, h2]
    by_cases e : n = j
    · subst e; simp [hj]
    · rw [if_neg e]

/-- What the reference's disk holds. -/
structure RSt where
  nb : Nat
  f : Nat → List Int
  W : Ws
  off : Bool
  arm : Int
  pk : List Int
  done : Nat

/-- It in memory; G: its blocks. -/
structure RkAt (w : World) (G : Nat → Prop) (q : Nat) (R : RSt) (lb lc : Nat) (wv pv : Value) : Prop where
  blk : w.heap[q]? = some (.cells #[.slice (some ⟨lb, 0, none⟩) R.nb lc, wv, .bool R.off, .int .i64 R.arm, pv, .int .i64 (R.done : Int)] 57 (0, 0))
  row : w.ownsRow 0 9 1 (.slice (some ⟨lb, 0, none⟩) R.nb lc) R.nb (scells R.f R.nb)
  wrow : w.ownsRow 0 112 2 wv R.W.length (wcells R.W)
  prow : w.ownsRow 0 3 1 pv R.pk.length (R.pk.map (Value.int .i64))
  fq : G q
  fl : G lb
  fw : ∀ g, wv.ownBlock = some g → G g
  fk : ∀ g, pv.ownBlock = some g → G g
  lt : ∀ b, G b → b < w.heap.size

section
variable {w : World} {G : Nat → Prop} {q : Nat} {R : RSt} {lb lc : Nat} {wv pv : Value}
theorem RkAt.kept {w' : World} {E : Nat → Prop} (h : RkAt w G q R lb lc wv pv) (hc : Chg E w w') (hE : ∀ b, G b → ¬ E b) : RkAt w' G q R lb lc wv pv := by
  have hb : ∀ b, G b → w'.heap[b]? = w.heap[b]? := fun b hf => hc.block b (h.lt b hf) (hE b hf)
  exact ⟨(hb q h.fq).trans h.blk, own_same h.row (fun g hg => by cases hg; exact hb lb h.fl), own_same h.wrow (fun g hg => hb g (h.fw g hg)), own_same h.prow (fun g hg => hb g (h.fk g hg)), h.fq, h.fl, h.fw, h.fk, fun b hf => Nat.lt_of_lt_of_le (h.lt b hf) hc.size⟩
theorem RkAt.c0 (h : RkAt w G q R lb lc wv pv) : w.cell? ⟨q, 0, none⟩ = some (.slice (some ⟨lb, 0, none⟩) R.nb lc) := by rw [cell_of_row w q 0 _ _ _ h.blk]; rfl
theorem RkAt.c1 (h : RkAt w G q R lb lc wv pv) : w.cell? ⟨q, 1, none⟩ = some wv := by rw [cell_of_row w q 1 _ _ _ h.blk]; rfl
theorem RkAt.c2 (h : RkAt w G q R lb lc wv pv) : w.cell? ⟨q, 2, none⟩ = some (.bool R.off) := by rw [cell_of_row w q 2 _ _ _ h.blk]; rfl
theorem RkAt.c3 (h : RkAt w G q R lb lc wv pv) : w.cell? ⟨q, 3, none⟩ = some (.int .i64 R.arm) := by rw [cell_of_row w q 3 _ _ _ h.blk]; rfl
theorem RkAt.c4 (h : RkAt w G q R lb lc wv pv) : w.cell? ⟨q, 4, none⟩ = some pv := by rw [cell_of_row w q 4 _ _ _ h.blk]; rfl
theorem RkAt.c5 (h : RkAt w G q R lb lc wv pv) : w.cell? ⟨q, 5, none⟩ = some (.int .i64 (R.done : Int)) := by rw [cell_of_row w q 5 _ _ _ h.blk]; rfl
theorem RkAt.fr (h : RkAt w G q R lb lc wv pv) (i : Nat) : w.frozen? ⟨q, i, none⟩ = false := by simp [World.frozen?, h.blk]
theorem RkAt.frl (h : RkAt w G q R lb lc wv pv) (i : Nat) : w.frozen? ⟨lb, i, none⟩ = false := by
  obtain ⟨cu, hcu⟩ := own_obj h.row rfl
  simp [World.frozen?, hcu]
theorem RkAt.ne {e : TypeId} {sz N n : Nat} {v : Value} {xs : List Value} {g : Nat} (h : RkAt w G q R lb lc wv pv) (ho : w.ownsRow N e sz v n xs) (he : e ≠ 57) (hg : v.ownBlock = some g) : g ≠ q := fun e2 => by
  obtain ⟨cur, hcur⟩ := own_obj ho hg
  rw [e2, h.blk] at hcur
  exact he (Obj.cells.inj (Option.some.inj hcur)).2.1.symm
theorem RkAt.lcell (h : RkAt w G q R lb lc wv pv) {n : Nat} (hn : n < R.nb) : w.cell? ⟨lb, n, none⟩ = some (.string (strOf (R.f n))) := by
  have := h.row.cells (g := lb) rfl n _ (scells_at hn)
  rwa [add_zero_off] at this
theorem RkAt.wform (h : RkAt w G q R lb lc wv pv) : (wv = .slice none 0 0 ∧ R.W = []) ∨ ∃ g c, wv = .slice (some ⟨g, 0, none⟩) R.W.length c := by
  rcases h.wrow.2 with ⟨e, h0⟩ | ⟨g, c, cur, e, _⟩
  · exact .inl ⟨e, List.eq_nil_of_length_eq_zero h0⟩
  · exact .inr ⟨g, c, e⟩
theorem RkAt.wlen (h : RkAt w G q R lb lc wv pv) : ∃ a c, wv = .slice a R.W.length c := by
  rcases h.wform with ⟨rfl, e⟩ | ⟨g, c, rfl⟩
  · exact ⟨none, 0, by rw [e]; rfl⟩
  · exact ⟨_, _, rfl⟩
theorem RkAt.wcell {g c : Nat} (h : RkAt w G q R lb lc (.slice (some ⟨g, 0, none⟩) R.W.length c) pv) {i : Nat} (hi : i < R.W.length) :
    w.cell? ⟨g, i * 2, none⟩ = some (.int .i64 (R.W[i].1 : Int)) ∧ w.cell? ⟨g, i * 2 + 1, none⟩ = some (.string (strOf R.W[i].2)) := by
  have h1 := h.wrow.cells (g := g) rfl (2 * i) _ (wcells_at hi).1
  have h2 := h.wrow.cells (g := g) rfl (2 * i + 1) _ (wcells_at hi).2
  rw [add_zero_off] at h1 h2
  rw [Nat.mul_comm i 2]
  exact ⟨h1, h2⟩

/-- Only the disk's struct has changed. -/
theorem RkAt.restruct {w' : World} {R' : RSt} {wv' pv' : Value} (h : RkAt w G q R lb lc wv pv) (hc : Chg (fun k => k = q) w w')
    (hb : w'.heap[q]? = some (.cells #[.slice (some ⟨lb, 0, none⟩) R.nb lc, wv', .bool R'.off, .int .i64 R'.arm, pv', .int .i64 (R'.done : Int)] 57 (0, 0)))
    (hn : R'.nb = R.nb) (hf : R'.f = R.f) (hw : w'.ownsRow 0 112 2 wv' R'.W.length (wcells R'.W)) (hpk : w'.ownsRow 0 3 1 pv' R'.pk.length (R'.pk.map (Value.int .i64))) (hfw : ∀ g, wv'.ownBlock = some g → G g) (hfk : ∀ g, pv'.ownBlock = some g → G g) : RkAt w' G q R' lb lc wv' pv' :=
  ⟨by rw [hn]; exact hb, by rw [hn, hf]; exact own_same h.row (fun g hg => hc.block g (h.row.lt g hg).2 (h.ne h.row (by decide) hg)), hw, hpk, h.fq, h.fl, hfw, hfk, fun b hf => Nat.lt_of_lt_of_le (h.lt b hf) hc.size⟩
theorem RkAt.wsame {w' : World} (h : RkAt w G q R lb lc wv pv) (hc : Chg (fun k => k = q) w w') : w'.ownsRow 0 112 2 wv R.W.length (wcells R.W) := own_same h.wrow (fun g hg => hc.block g (h.wrow.lt g hg).2 (h.ne h.wrow (by decide) hg))
theorem RkAt.psame {w' : World} (h : RkAt w G q R lb lc wv pv) (hc : Chg (fun k => k = q) w w') : w'.ownsRow 0 3 1 pv R.pk.length (R.pk.map (Value.int .i64)) := own_same h.prow (fun g hg => hc.block g (h.prow.lt g hg).2 (h.ne h.prow (by decide) hg))

theorem RkAt.setW0 (h : RkAt w G q R lb lc wv pv) : RkAt (w.setCell ⟨q, 1, none⟩ (.slice none 0 0)) G q { R with W := [] } lb lc (.slice none 0 0) pv ∧ Chg (fun k => k = q) w (w.setCell ⟨q, 1, none⟩ (.slice none 0 0)) := by
  have hb := heap_setCell_same w q 1 _ _ (.slice none 0 0) h.blk
  have hc : Chg (fun k => k = q) w (w.setCell ⟨q, 1, none⟩ (.slice none 0 0)) := Chg.setCell _ _ _ rfl
  exact ⟨h.restruct hc (by simpa using hb) rfl rfl (World.ownsRow_nil _ _ _ _) (h.psame hc) (fun g hg => by cases hg) h.fk, hc⟩
theorem RkAt.setOff (h : RkAt w G q R lb lc wv pv) (b : Bool) : RkAt (w.setCell ⟨q, 2, none⟩ (.bool b)) G q { R with off := b } lb lc wv pv ∧ Chg (fun k => k = q) w (w.setCell ⟨q, 2, none⟩ (.bool b)) := by
  have hb := heap_setCell_same w q 2 _ _ (.bool b) h.blk
  have hc : Chg (fun k => k = q) w (w.setCell ⟨q, 2, none⟩ (.bool b)) := Chg.setCell _ _ _ rfl
  exact ⟨h.restruct hc (by simpa using hb) rfl rfl (h.wsame hc) (h.psame hc) h.fw h.fk, hc⟩
theorem RkAt.setArm (h : RkAt w G q R lb lc wv pv) (n : Int) : RkAt (w.setCell ⟨q, 3, none⟩ (.int .i64 n)) G q { R with arm := n } lb lc wv pv ∧ Chg (fun k => k = q) w (w.setCell ⟨q, 3, none⟩ (.int .i64 n)) := by
  have hb := heap_setCell_same w q 3 _ _ (.int .i64 n) h.blk
  have hc : Chg (fun k => k = q) w (w.setCell ⟨q, 3, none⟩ (.int .i64 n)) := Chg.setCell _ _ _ rfl
  exact ⟨h.restruct hc (by simpa using hb) rfl rfl (h.wsame hc) (h.psame hc) h.fw h.fk, hc⟩
theorem RkAt.setDone (h : RkAt w G q R lb lc wv pv) (n : Nat) (z : Int) (hz : z = (n : Int)) : RkAt (w.setCell ⟨q, 5, none⟩ (.int .i64 z)) G q { R with done := n } lb lc wv pv ∧ Chg (fun k => k = q) w (w.setCell ⟨q, 5, none⟩ (.int .i64 z)) := by
  subst hz
  have hb := heap_setCell_same w q 5 _ _ (.int .i64 (n : Int)) h.blk
  have hc : Chg (fun k => k = q) w (w.setCell ⟨q, 5, none⟩ (.int .i64 (n : Int))) := Chg.setCell _ _ _ rfl
  exact ⟨h.restruct hc (by simpa using hb) rfl rfl (h.wsame hc) (h.psame hc) h.fw h.fk, hc⟩
theorem RkAt.setPk {u : Value} {ps : List Int} (h : RkAt w G q R lb lc wv pv) (hu : w.ownsRow 0 3 1 u ps.length (ps.map (Value.int .i64))) (hg : ∀ g, u.ownBlock = some g → G g) : RkAt (w.setCell ⟨q, 4, none⟩ u) G q { R with pk := ps } lb lc wv u ∧ Chg (fun k => k = q) w (w.setCell ⟨q, 4, none⟩ u) := by
  have hb := heap_setCell_same w q 4 _ _ u h.blk
  have hc : Chg (fun k => k = q) w (w.setCell ⟨q, 4, none⟩ u) := Chg.setCell _ _ _ rfl
  exact ⟨h.restruct hc (by simpa using hb) rfl rfl (h.wsame hc) (own_same hu (fun g hg => hc.block g (hu.lt g hg).2 (h.ne hu (by decide) hg))) h.fw hg, hc⟩
theorem RkAt.setWv {u : Value} {V : Ws} (h : RkAt w G q R lb lc wv pv) (hu : w.ownsRow 0 112 2 u V.length (wcells V)) (hg : ∀ g, u.ownBlock = some g → G g) : RkAt (w.setCell ⟨q, 1, none⟩ u) G q { R with W := V } lb lc u pv ∧ Chg (fun k => k = q) w (w.setCell ⟨q, 1, none⟩ u) := by
  have hb := heap_setCell_same w q 1 _ _ u h.blk
  have hc : Chg (fun k => k = q) w (w.setCell ⟨q, 1, none⟩ u) := Chg.setCell _ _ _ rfl
  exact ⟨h.restruct hc (by simpa using hb) rfl rfl (own_same hu (fun g hg => hc.block g (hu.lt g hg).2 (h.ne hu (by decide) hg))) (h.psame hc) hg h.fk, hc⟩
theorem RkAt.setL (h : RkAt w G q R lb lc wv pv) (n : Nat) (b : List Int) : RkAt (w.setCell ⟨lb, n, none⟩ (.string (strOf b))) G q { R with f := upd R.f n b } lb lc wv pv ∧ Chg (fun k => k = lb) w (w.setCell ⟨lb, n, none⟩ (.string (strOf b))) := by
  have st := h.row.stored n (.string (strOf b))
  have hc : Chg (fun k => k = lb) w (w.setCell ⟨lb, n, none⟩ (.string (strOf b))) := Chg.setCell _ _ _ rfl
  rw [scells_set] at st
  obtain ⟨cl, hcl⟩ := own_obj h.row rfl
  have ne1 : q ≠ lb := fun e => (h.ne h.row (by decide) rfl) e.symm
  have ot : ∀ {e : TypeId} {sz N n : Nat} {v : Value} {xs : List Value}, e ≠ 9 → w.ownsRow N e sz v n xs → ∀ g, v.ownBlock = some g → ¬ g = lb := fun he ho g hg e2 => by
    obtain ⟨cur, hcur⟩ := own_obj ho hg
    rw [e2, hcl] at hcur
    exact he (Obj.cells.inj (Option.some.inj hcur)).2.1.symm
  exact ⟨⟨(hc.block q (h.lt q h.fq) ne1).trans h.blk, st.1, own_same h.wrow (fun g hg => hc.block g (h.wrow.lt g hg).2 (ot (by decide) h.wrow g hg)), own_same h.prow (fun g hg => hc.block g (h.prow.lt g hg).2 (ot (by decide) h.prow g hg)), h.fq, h.fl, h.fw, h.fk, fun b hf => Nat.lt_of_lt_of_le (h.lt b hf) hc.size⟩, hc⟩
end

def armR (S : St) : Int := if S.arm < 1 then 0 else S.arm
/-- The reference's disk is the document's. -/
structure Sim (S : St) (R : RSt) : Prop where
  wf : S.Wf
  nb : R.nb = S.nb
  f : ∀ n, n < S.nb → R.f n = S.syn n
  vers : ∀ n, S.wait n = versOf R.W n
  num : ∀ x ∈ R.W, x.1 < S.nb
  few : R.W.length ≤ S.writes
  off : R.off = S.off
  arm : R.arm = armR S
  pks : 1 ≤ S.arm → R.pk = S.picks
  done : R.done = S.writes
def Rk (w : World) (G : Nat → Prop) (q : Nat) (S : St) : Prop := ∃ R lb lc wv pv, Sim S R ∧ RkAt w G q R lb lc wv pv
def RTo (G : Nat → Prop) (q : Nat) (w w' : World) (S' : St) : Prop := ∃ G', Rk w' G' q S' ∧ Chg G w w' ∧ ∀ b, G' b → G b ∨ w.heap.size ≤ b
theorem Rk.kept {w w' : World} {G E : Nat → Prop} {q : Nat} {S : St} (h : Rk w G q S) (hc : Chg E w w') (hE : ∀ b, G b → ¬ E b) : Rk w' G q S := by
  obtain ⟨R, lb, lc, wv, pv, s, h⟩ := h
  exact ⟨R, lb, lc, wv, pv, s, h.kept hc hE⟩
theorem Rk.lt {w : World} {G : Nat → Prop} {q : Nat} {S : St} (h : Rk w G q S) : ∀ b, G b → b < w.heap.size := by
  obtain ⟨R, lb, lc, wv, pv, s, h⟩ := h
  exact h.lt
theorem RTo.refl {G : Nat → Prop} {q : Nat} {w : World} {S : St} (h : Rk w G q S) : RTo G q w w S := ⟨G, h, Chg.refl _ _, fun _ h => .inl h⟩
theorem RTo.after {G : Nat → Prop} {q : Nat} {w w1 w2 : World} {S2 : St} (hc : Chg (fun _ => False) w w1) (h2 : RTo G q w1 w2 S2) : RTo G q w w2 S2 := by
  obtain ⟨G', h3, h4, h5⟩ := h2
  refine ⟨G', h3, (hc.mono (fun _ _ h => h.elim)).trans h4 (fun i hi h => h), fun b hb => ?_⟩
  rcases h5 b hb with h | h
  · exact .inl h
  · have := hc.size; exact .inr (by omega)

theorem last_eq (S : St) (n : Nat) : S.last n = (S.wait n).getLast?.getD (S.syn n) := by
  unfold St.last St.ver
  by_cases h : S.wait n = []
  · rw [h]; rfl
  · have hl : 0 < (S.wait n).length := List.length_pos_iff.2 h
    rw [if_neg (by omega), List.getLast?_eq_getElem?, List.getD]
    have : (S.wait n)[(S.wait n).length - 1]? = some (S.wait n)[(S.wait n).length - 1] := by simp
    rw [this]; rfl
theorem waiting_len {S : St} {W : Ws} (hv : ∀ n, S.wait n = versOf W n) (hn : ∀ x ∈ W, x.1 < S.nb) : S.waiting = W.length := by
  have gen : ∀ (W : Ws), (∀ x ∈ W, x.1 < S.nb) → sumTo S.nb (fun n => (versOf W n).length) = W.length := by
    intro W
    induction W with
    | nil =>
      intro _
      generalize S.nb = k
      induction k with
      | zero => rfl
      | succ k ih => rw [sumTo_succ, ih]; rfl
    | cons x W ih =>
      intro h
      have hx := h x (by simp)
      have e : ∀ n, (versOf (x :: W) n).length = (versOf W n).length + (if x.1 = n then 1 else 0) := fun n => by
        have : x :: W = [(x.1, x.2)] ++ W := rfl
        rw [this, versOf_append, List.length_append, versOf_one]
        split <;> simp <;> omega
      have ind : sumTo S.nb (fun n => if x.1 = n then 1 else 0) = 1 := by
        have hz : ∀ k, sumTo k (fun _ => 0) = 0 := fun k => by
          induction k with
          | zero => rfl
          | succ k ih => rw [sumTo_succ, ih]
        have := sumTo_upd (nb := S.nb) (n := x.1) (f := fun _ => 0) hx rfl 1
        rw [hz] at this
        refine Eq.trans (sumTo_congr (g := upd (fun _ => 0) x.1 1) (fun n _ => ?_)) (this.trans (by omega))
        by_cases e : x.1 = n
        · rw [if_pos e, e, upd_same]
        · rw [if_neg e, upd_other _ _ (fun y => e y.symm)]
      have add : ∀ k (f g : Nat → Nat), sumTo k (fun n => f n + g n) = sumTo k f + sumTo k g := fun k f g => by
        induction k with
        | zero => rfl
        | succ k ih => rw [sumTo_succ, sumTo_succ, sumTo_succ, ih]; omega
      rw [sumTo_congr (g := fun n => (versOf W n).length + (if x.1 = n then 1 else 0)) (fun n _ => e n), add, ih (fun y hy => h y (by simp [hy])), ind]; rfl
  have := gen W hn
  rw [← this]
  show sumTo S.nb (fun n => (S.wait n).length) = _
  exact sumTo_congr (fun n _ => by rw [hv n])
end Go.Proofs.Ytioloobeakjbeaa

namespace Go.Proofs.Ytioloobeakjbeaa
open Go.RowKit Go.Maps
attribute [local go_sem ↓] Go.wp_at_zero Go.wp_at_succ

set_option maxHeartbeats 400000 in
theorem ris_any (G : Nat → Prop) (q : Nat) (R : RSt) (n : Int) (w : World) {lb lc : Nat} {wv pv : Value} (h : RkAt w G q R lb lc wv pv) : Calls Try.prog 58 #[.pointer (some ⟨q, 0, none⟩), .int .i64 n] w fun e w' => e = .returned (.bool (decide (0 ≤ n ∧ n < R.nb))) ∧ w' = w := by
  have c0 := h.c0
  clear h
  by_cases h0 : 0 ≤ n
  · go_enter Try.func58, Try.ntmps58
    go_wp2
    go_ret
    simp [h0]
  · have k0 : decide (0 ≤ n) = false := by simpa using h0
    go_enter Try.func58, Try.ntmps58
    go_wp2
    go_ret
    simp

/-- What Last finds. -/
def lastR (R : RSt) (n : Nat) : List Int := (versOf R.W n).getLast?.getD (R.f n)
theorem versOf_none {W : Ws} {n : Nat} (h : ∀ x ∈ W, x.1 ≠ n) : versOf W n = [] := by
  unfold versOf
  rw [List.map_eq_nil_iff, List.filter_eq_nil_iff]
  intro x hx
  simpa using h x hx
theorem versOf_at {W : Ws} {n k : Nat} (hk : k < W.length) (h : ∀ j (hj : j < W.length), k < j → W[j].1 ≠ n) (e : W[k].1 = n) : (versOf W n).getLast? = some W[k].2 := by
  have hs : W = W.take k ++ [W[k]] ++ W.drop (k + 1) := by
    rw [List.append_assoc, List.singleton_append, ← List.drop_eq_getElem_cons hk, List.take_append_drop]
  have hd : versOf (W.drop (k + 1)) n = [] := versOf_none (fun x hx => by
    obtain ⟨j, hj, rfl⟩ := List.getElem_of_mem hx
    rw [List.getElem_drop]
    exact h _ _ (by omega))
  have h1 : versOf [W[k]] n = [W[k].2] := by
    have : versOf [(W[k].1, W[k].2)] n = _ := versOf_one W[k].1 W[k].2 n
    rw [if_pos e] at this
    exact this
  have e0 := congrArg (versOf · n) hs
  simp only [versOf_append, hd, h1] at e0
  rw [e0]
  simp

set_option maxHeartbeats 1600000 in
set_option maxRecDepth 100000 in
theorem rlast_any (G : Nat → Prop) (q : Nat) (R : RSt) (n : Nat) (w : World) {lb lc : Nat} {wv pv : Value} (h : RkAt w G q R lb lc wv pv) (hn : n < R.nb) (_hb : R.nb ≤ 16384) (hw : R.W.length < 1099511627776) :
    Calls Try.prog 52 #[.pointer (some ⟨q, 0, none⟩), .int .i64 (n : Int)] w fun e w' => e = .returned (.string (strOf (lastR R n))) ∧ w' = w := by
  have c0 := h.c0
  have c1 := h.c1
  have hl := h.lcell hn
  obtain ⟨wa, wc, rfl⟩ := h.wlen
  have HH : Hid (RkAt w G q R lb lc (.slice wa R.W.length wc) pv) := h
  obtain ⟨t, ht⟩ : ∃ t, strOf (lastR R n) = t := ⟨_, rfl⟩
  have HT : Hid (strOf (lastR R n) = t) := ht
  rw [ht]
  clear h ht
  go_enter Try.func52, Try.ntmps52
  go_wp2_with fail
  go_loop [5] (fun x => ∃ k : Nat, k ≤ R.W.length ∧ x = .int .i64 ((k : Int) - 1) ∧ Hid (∀ j (hj : j < R.W.length), k ≤ j → R.W[j].1 ≠ n)) (fun x => (intOf x + 1).toNat)
  case atStart => exact ⟨R.W.length, Nat.le_refl _, by go_num, fun j hj hk => by omega⟩
  case round =>
    obtain ⟨k, hk, rfl, hnone⟩ := hrel
    cases k with
    | zero =>
      have e : lastR R n = R.f n := by
        unfold lastR
        rw [versOf_none (fun x hx => by
          obtain ⟨j, hj, rfl⟩ := List.getElem_of_mem hx
          exact hnone.out j hj (Nat.zero_le _))]
        rfl
      have hnI : (n : Int) < (R.nb : Int) := by omega
      rw [← e, HT.out] at hl
      clear HH hnone e
      go_wp2
      go_ret
      exact ⟨rfl, rfl⟩
    | succ k =>
      have hf : (wa, wc).1 = none ∨ ∃ g, wa = some ⟨g, 0, none⟩ := by
        rcases HH.out.wform with ⟨e, e2⟩ | ⟨g, c, e⟩
        · rw [e2] at hk; simp at hk
        · cases e; exact .inr ⟨g, rfl⟩
      rcases hf with e | ⟨g, rfl⟩
      · exact absurd e (by
          rcases HH.out.wform with ⟨_, e2⟩ | ⟨g, c, e3⟩
          · rw [e2] at hk; simp at hk
          · cases e3; simp)
      · have hk' : k < R.W.length := by omega
        obtain ⟨d0, d1⟩ := HH.out.wcell hk'
        have hkI : ((k + 1 : Nat) : Int) - 1 = (k : Int) := by omega
        rw [hkI]
        have hkL : (k : Int) < (R.W.length : Int) := by omega
        by_cases e : R.W[k].1 = n
        · have e2 : lastR R n = R.W[k].2 := by
            unfold lastR
            rw [versOf_at hk' (fun j hj hlt => hnone.out j hj (by omega)) e]
            rfl
          rw [← e2, HT.out] at d1
          rw [e] at d0
          clear HH hnone e2 e hl
          go_wp2
          go_ret
          exact ⟨rfl, rfl⟩
        · have HN : Hid (∀ j (hj : j < R.W.length), k ≤ j → R.W[j].1 ≠ n) := fun j hj hkj => by
            by_cases ej : j = k
            · subst ej; exact e
            · exact hnone.out j hj (by omega)
          have e3 : ((R.W[k].1 : Int) == (n : Int)) = false := by simp; omega
          have e4 : ¬ (R.W[k].1 : Int) = (n : Int) := by omega
          clear HH hnone d1 hl
          generalize R.W[k].1 = x at *
          go_wp2
          go_roundw
          case rel => exact ⟨k, by omega, by go_num, HN⟩
          case measure => simp [intOf]

theorem Sim.last {S : St} {R : RSt} (h : Sim S R) {n : Nat} (hn : n < S.nb) : lastR R n = S.last n := by
  unfold lastR
  rw [last_eq, h.vers n, h.f n hn]

set_option maxHeartbeats 800000 in
theorem rread_any (G : Nat → Prop) (q : Nat) (S : St) (n : Int) (w : World) (h : Rk w G q S) (hx : S.writes < 1099511627776) :
    Calls Try.prog 61 #[.pointer (some ⟨q, 0, none⟩), .int .i64 n] w fun e w' => e = .returned (.tuple #[.string (strOf (S.readV n)), .int .i64 (S.readE n)]) ∧ w' = w := by
  obtain ⟨R, lb, lc, wv, pv, s, h⟩ := h
  have c2 := h.c2
  rw [s.off] at c2
  by_cases ho : S.off = true
  · have e1 : S.readE n = 6 := by simp [St.readE, ho]
    have e2 : strOf (S.readV n) = ByteArray.empty := by simp [St.readV, e1, strOf]
    rw [ho] at c2
    rw [e1, e2]
    clear h s
    go_enter Try.func61, Try.ntmps61
    go_wp2
    go_ret2
    exact ⟨rfl, rfl⟩
  have ho' : S.off = false := by simpa using ho
  rw [ho'] at c2
  have HH : Hid (Sim S R ∧ RkAt w G q R lb lc wv pv) := ⟨s, h⟩
  clear h s
  by_cases hn : 0 ≤ n ∧ n < S.nb
  · have e1 : S.readE n = 0 := by simp [St.readE, ho', hn]
    have e2 : S.readV n = S.last n.toNat := by simp [St.readV, e1]
    rw [e1, e2]
    obtain ⟨k, rfl⟩ := Int.eq_ofNat_of_zero_le hn.1
    have hk : k < S.nb := by have := hn.2; omega
    rw [Int.toNat_natCast, ← HH.out.1.last hk]
    have hd : decide (0 ≤ (k : Int) ∧ (k : Int) < (R.nb : Int)) = true := by rw [HH.out.1.nb]; simpa using hk
    clear e1 e2 hn
    go_enter Try.func61, Try.ntmps61
    go_wp2_with fail
    refine (ris_any G q R (k : Int) w HH.out.2).mono ?_
    rintro e w1 ⟨rfl, rfl⟩
    rw [hd]
    go_wp2_with fail
    refine (rlast_any G q R k w1 HH.out.2 (by rw [HH.out.1.nb]; exact hk) (by rw [HH.out.1.nb]; exact HH.out.1.wf.top) (by have := HH.out.1.few; omega)).mono ?_
    rintro e w2 ⟨rfl, rfl⟩
    go_wp2
    go_ret2
    exact ⟨rfl, rfl⟩
  · have e1 : S.readE n = 1 := by simp [St.readE, ho', hn]
    have e2 : strOf (S.readV n) = ByteArray.empty := by simp [St.readV, e1, strOf]
    rw [e1, e2]
    have hd : decide (0 ≤ n ∧ n < (R.nb : Int)) = false := by rw [HH.out.1.nb]; simpa using hn
    clear e1 e2 hn
    go_enter Try.func61, Try.ntmps61
    go_wp2_with fail
    refine (ris_any G q R n w HH.out.2).mono ?_
    rintro e w1 ⟨rfl, rfl⟩
    rw [hd]
    go_wp2
    go_ret2
    exact ⟨rfl, rfl⟩

theorem Sim.on {S : St} {R : RSt} (h : Sim S R) : Sim S.on { R with off := false, arm := 0 } :=
  ⟨St.on_wf h.wf, h.nb, h.f, h.vers, h.num, h.few, rfl, rfl, fun h1 => absurd h1 (by show ¬ (1 : Int) ≤ 0; decide), h.done⟩

set_option maxHeartbeats 400000 in
theorem ron_any (G : Nat → Prop) (q : Nat) (S : St) (w : World) (h : Rk w G q S) :
    Calls Try.prog 42 #[.pointer (some ⟨q, 0, none⟩)] w fun e w' => e = .returned (.tuple #[]) ∧ RTo G q w w' S.on := by
  obtain ⟨R, lb, lc, wv, pv, s, h⟩ := h
  have c2 := h.c2
  have f2 := h.fr 2
  obtain ⟨h1, k1⟩ := h.setOff false
  have c3 := h1.c3
  have f3 := h1.fr 3
  obtain ⟨h2, k2⟩ := h1.setArm 0
  have HE : Hid (RTo G q w ((w.setCell ⟨q, 2, none⟩ (.bool false)).setCell ⟨q, 3, none⟩ (.int .i64 0)) S.on) :=
    ⟨G, ⟨_, lb, lc, wv, pv, s.on, h2⟩, (k1.trans k2 (fun _ _ h => h)).mono (fun k _ e => by rw [e]; exact h.fq), fun b hb => .inl hb⟩
  clear h h1 k1 h2 k2 s
  go_enter Try.func42, Try.ntmps42
  go_wp2
  go_end0
  exact ⟨rfl, HE.out⟩
end Go.Proofs.Ytioloobeakjbeaa

namespace Go.Proofs.Ytioloobeakjbeaa
open Go.RowKit Go.Maps
attribute [local go_sem ↓] Go.wp_at_zero Go.wp_at_succ

theorem info9 : (Try.prog.info? 9).map (fun i => (i.zero, i.size, i.bytes)) = some (some (.string ByteArray.empty), 1, 16) := by kernel_rfl
theorem info79 : (Try.prog.info? 112).map (fun i => (i.zero, i.size, i.bytes)) = some (some (.agg #[.int .i64 0, .string ByteArray.empty]), 2, 24) := by kernel_rfl

theorem RkAt.mono {w : World} {G G' : Nat → Prop} {q : Nat} {R : RSt} {lb lc : Nat} {wv pv : Value} (h : RkAt w G q R lb lc wv pv) (hG : ∀ b, G b → G' b) (hl : ∀ b, G' b → b < w.heap.size) : RkAt w G' q R lb lc wv pv :=
  ⟨h.blk, h.row, h.wrow, h.prow, hG _ h.fq, hG _ h.fl, fun g hg => hG _ (h.fw g hg), fun g hg => hG _ (h.fk g hg), hl⟩

theorem own_form {w : World} {N e sz n : Nat} {v : Value} {xs : List Value} (h : w.ownsRow N e sz v n xs) : ∃ a c, v = .slice a n c := by
  rcases h.2 with ⟨rfl, h0⟩ | ⟨g, c, cur, rfl, _⟩
  · exact ⟨none, 0, by rw [h0]⟩
  · exact ⟨_, _, rfl⟩

/-! ### Arm -/
theorem Sim.armed {S : St} {R : RSt} (h : Sim S R) {n : Int} (ps : List Int) (h0 : -9223372036854775808 ≤ n) (h1 : n < 9223372036854775808) {m : Int} {pk : List Int} (hm : m = if n < 1 then 0 else n) (hp : 1 ≤ n → pk = ps) : Sim (S.armed n ps) { R with arm := m, pk := pk } :=
  ⟨St.armed_wf h.wf ps h0 h1, h.nb, h.f, h.vers, h.num, h.few, h.off, hm, hp, h.done⟩

set_option maxHeartbeats 800000 in
set_option maxRecDepth 100000 in
theorem rarm_any (G : Nat → Prop) (q : Nat) (S : St) (n : Int) (v : Value) (ps : List Int) (w : World) (h : Rk w G q S) (hi : Is w v ps) (hv : ps ≠ [] → ∀ g, v.ownBlock = some g → ¬ G g) (hl : ps.length ≤ 1099511627776) (h0 : -9223372036854775808 ≤ n) (h1 : n < 9223372036854775808) :
    Calls Try.prog 44 #[.pointer (some ⟨q, 0, none⟩), .int .i64 n, v] w fun e w' => e = .returned (.tuple #[]) ∧ RTo G q w w' (S.armed n ps) := by
  obtain ⟨i0, hi3, hz0, hz1, hz2⟩ := info_parts info3
  obtain ⟨R, lb, lc, wv, pv, s, h⟩ := h
  have c3 := h.c3
  have f3 := h.fr 3
  obtain ⟨a1, k1⟩ := h.setArm 0
  have c4 := a1.c4
  have f4 := a1.fr 4
  obtain ⟨a2, k2⟩ := a1.setPk (u := .slice none 0 0) (ps := []) (World.ownsRow_nil _ _ _ _) (fun g hg => by cases hg)
  have k12 := k1.trans k2 (fun _ _ h => h)
  by_cases hn : n < 1
  · have kn : decide (1 ≤ n) = false := by simp; omega
    have HE : Hid (RTo G q w ((w.setCell ⟨q, 3, none⟩ (.int .i64 0)).setCell ⟨q, 4, none⟩ (.slice none 0 0)) (S.armed n ps)) :=
      ⟨G, ⟨_, lb, lc, wv, _, s.armed ps h0 h1 (by rw [if_pos hn]) (fun h => absurd h (by omega)), a2⟩, k12.mono (fun k _ e => by rw [e]; exact h.fq), fun b hb => .inl hb⟩
    clear h s a1 a2 k1 k2 k12 hi hv hl h0 h1 hn
    go_enter Try.func44, Try.ntmps44
    go_wp2
    go_end0
    exact ⟨rfl, HE.out⟩
  · have kn : decide (1 ≤ n) = true := by simp; omega
    have c3' := a2.c3
    have f3' := a2.fr 3
    obtain ⟨a3, k3⟩ := a2.setArm n
    have k13 := k12.trans k3 (fun _ _ h => h)
    obtain ⟨W3, hW3⟩ : ∃ W3, ((w.setCell ⟨q, 3, none⟩ (.int .i64 0)).setCell ⟨q, 4, none⟩ (.slice none 0 0)).setCell ⟨q, 3, none⟩ (.int .i64 n) = W3 := ⟨_, rfl⟩
    rw [hW3] at a3 k3 k13
    have hsz : W3.heap.size = w.heap.size := by rw [← hW3]; simp
    have ca := Chg.alloc (fun _ => False) W3 (.cells #[] 3)
    have is4 : Is (W3.alloc (.cells #[] 3)) v ps := (Is.kept' hi k13 (fun hne g hg e => hv hne g hg (by rw [e]; exact h.fq))).kept ca (fun _ _ h => h)
    obtain ⟨v', w5, hr, ho, hg, hat⟩ := run_app_ints (W3.alloc (.cells #[] 3)) 40 40 i0 Try.underlying40 hi3 hz0 hz1 hz2 (.slice (some ⟨W3.heap.size, 0, none⟩) 0 0) v W3.heap.size ps (World.ownsRow_made W3 #[] 0 (Nat.le_refl _) (by simp [maxLen]) rfl) is4 hl (by simp)
    obtain ⟨va', vc', rfl⟩ := own_form ho
    have c5 : Chg (fun _ => False) W3 w5 := ⟨hg.os, hg.tape, hg.output, Nat.le_trans (by simp) hg.size, fun k hk _ => (hg.block k (by simp; omega) (by simp [Value.ownBlock]; omega)).trans (Below.heap_alloc W3 _ k hk)⟩
    have a5 := a3.kept c5 (fun _ _ h => h)
    have a5' := a5.mono (G' := fun b => G b ∨ (w.heap.size ≤ b ∧ b < w5.heap.size)) (fun b hb => .inl hb) (fun b hb => hb.elim (a5.lt b) (fun h => h.2))
    have c4' := a5'.c4
    have f4' := a5'.fr 4
    obtain ⟨a6, k6⟩ := a5'.setPk (own_mono ho (Nat.zero_le _)) (fun g hg' => .inr ⟨by have := (ho.lt g hg').1; omega, (ho.lt g hg').2⟩)
    have HE : Hid (RTo G q w (w5.setCell ⟨q, 4, none⟩ (.slice va' ps.length vc')) (S.armed n ps)) :=
      ⟨_, ⟨_, lb, lc, wv, _, s.armed ps h0 h1 (by rw [if_neg hn]) (fun _ => rfl), a6⟩, ((k13.mono (S' := G) (fun k _ e => by rw [e]; exact h.fq)).trans c5 (fun _ _ h => h.elim)).trans k6 (fun k _ e => by rw [e]; exact h.fq), fun b hb => hb.elim .inl (fun h => .inr h.1)⟩
    clear h s a1 a2 k1 k2 k12 hi hv hl h0 h1 hn a3 k3 k13 is4 ho hg hat c5 a5 a5' a6 k6 ca hsz
    go_enter Try.func44, Try.ntmps44
    go_wp2_with (at_builtin; go_must (refine Lib.wpList_append_run _ rfl (.tmp 19) (.tmp 20) 40 40 rfl _ _ rfl rfl _ w5 hr ?_))
    go_end0
    exact ⟨rfl, HE.out⟩

/-! ### versions -/
def strs (l : List (List Int)) : List Value := l.map fun b => .string (strOf b)
theorem run_appS {P : Program} (w : World) (N : Nat) (t ty : TypeId) (i : TypeInfo) (ht : P.underlying t = some (.slice 9)) (hi : P.info? 9 = some i) (hz : i.zero = some (.string ByteArray.empty)) (hs : i.size = 1) (hb : i.bytes = 16)
    (v : Value) (n : Nat) (xs : List Value) (b : ByteArray) (hown : w.ownsRow N 9 1 v n xs) (hlen : n + 1 ≤ 1099511627776) (hN : N ≤ w.heap.size) :
    ∃ v' w', (Builtin.append_ #[t, t] ty #[v, .slice (some ⟨w.heap.size, 0, none⟩) 1 1]).run P (w.alloc (.cells #[.string b] 9)) = .ok v' w' ∧ w'.ownsRow N 9 1 v' (n + 1) (xs ++ [.string b]) ∧ Chg (fun k => v.ownBlock = some k) w w' ∧ (v'.ownBlock = v.ownBlock ∨ v'.ownBlock = some (w.heap.size + 1)) := by
  have ca := Chg.alloc (fun _ => False) w (.cells #[.string b] 9)
  have hown' := own_same hown (fun g hg => ca.block g (hown.lt g hg).2 (fun h => h))
  obtain ⟨v', w', h1, h2, h3, _, h5⟩ := run_append_own_at (P := P) (w.alloc (.cells #[.string b] 9)) N t ty 9 i (.string ByteArray.empty) 1 16 ht hi hz hs hb rfl (by decide) v n xs hown' ⟨w.heap.size, 0, none⟩ 1 1 [.string b] (by simp)
    (cell_one_new w (.string b) 9) (fun u hu => by simp at hu; subst hu; rfl) (by unfold maxLen; omega) (by omega) (Nat.le_trans hN ca.size)
  exact ⟨v', w', h1, h2, (ca.mono (fun _ _ h => h.elim)).trans (Chg.ofGrown h3) (fun _ _ h => h), by simpa using h5⟩

set_option maxHeartbeats 1600000 in
set_option maxRecDepth 100000 in
theorem rvers_any (G : Nat → Prop) (q : Nat) (R : RSt) (n : Nat) (w : World) {lb lc : Nat} {wv pv : Value} (h : RkAt w G q R lb lc wv pv) (hw : R.W.length < 1099511627776) :
    Calls Try.prog 69 #[.pointer (some ⟨q, 0, none⟩), .int .i64 (n : Int)] w fun e w' => ∃ u, e = .returned u ∧ w'.ownsRow w.heap.size 9 1 u (versOf R.W n).length (strs (versOf R.W n)) ∧ Chg (fun _ => False) w w' := by
  obtain ⟨i0, hi9, hz0, hz1, hz2⟩ := info_parts info9
  obtain ⟨wa, wc, rfl⟩ := h.wlen
  have HH : Hid (RkAt w G q R lb lc (.slice wa R.W.length wc) pv) := h
  clear h
  go_enter Try.func69, Try.ntmps69
  go_wp2_with fail
  go_loopw [5, 6] (fun v x wr => ∃ (i : Nat) (u : Value), i ≤ R.W.length ∧ u = v ∧ x = .int .i64 (i : Int) ∧ wr.ownsRow w.heap.size 9 1 u (versOf (R.W.take i) n).length (strs (versOf (R.W.take i) n)) ∧ Chg (fun _ => False) w wr) (fun _ x _ => R.W.length - (intOf x).toNat)
  case atStart => exact ⟨0, _, Nat.zero_le _, rfl, rfl, World.ownsRow_nil _ _ _ _, Chg.refl _ _⟩
  case round =>
    obtain ⟨i, u, hiL, rfl, rfl, hown, hch⟩ := hrel
    have a1 := HH.out.kept hch (fun _ _ h => h)
    have c1 := a1.c1
    by_cases hlt : i < R.W.length
    · have hg : ∃ g, wa = some ⟨g, 0, none⟩ := by
        rcases a1.wform with ⟨_, e2⟩ | ⟨g, c, e⟩
        · rw [e2] at hlt; simp at hlt
        · cases e; exact ⟨g, rfl⟩
      obtain ⟨g, rfl⟩ := hg
      obtain ⟨d0, d1⟩ := a1.wcell hlt
      have hli : (i : Int) < (R.W.length : Int) := by omega
      have hv : versOf (R.W.take (i + 1)) n = versOf (R.W.take i) n ++ (if R.W[i].1 = n then [R.W[i].2] else []) := by
        have e : R.W.take (i + 1) = R.W.take i ++ [(R.W[i].1, R.W[i].2)] := by rw [List.take_add_one, List.getElem?_eq_getElem hlt]; rfl
        rw [e, versOf_append, versOf_one]
      by_cases e : R.W[i].1 = n
      · rw [if_pos e] at hv
        have hvl : (versOf (R.W.take i) n).length ≤ R.W.length := by
          unfold versOf
          rw [List.length_map]
          exact Nat.le_trans (List.length_filter_le _ _) (by rw [List.length_take]; omega)
        obtain ⟨v', w2, hr, ho, hc2, _⟩ := run_appS (P := Try.prog) wr w.heap.size 54 54 i0 Try.underlying54 hi9 hz0 hz1 hz2 u _ _ (strOf R.W[i].2) hown (by omega) hch.size
        have ho' : w2.ownsRow w.heap.size 9 1 v' (versOf (R.W.take (i + 1)) n).length (strs (versOf (R.W.take (i + 1)) n)) := by
          rw [hv]
          simp only [strs, List.map_append, List.length_append, List.map_cons, List.map_nil, List.length_singleton]
          exact ho
        have hc2' : Chg (fun _ => False) w w2 := hch.trans hc2 (fun k hk e => by have := (hown.lt k e).1; omega)
        have HR : Hid (w2.ownsRow w.heap.size 9 1 v' (versOf (R.W.take (i + 1)) n).length (strs (versOf (R.W.take (i + 1)) n)) ∧ Chg (fun _ => False) w w2) := ⟨ho', hc2'⟩
        rw [e] at d0
        clear a1 hv hown hch hvl ho ho' hc2 hc2' e
        generalize strOf R.W[i].2 = t at *
        go_wp2_with (at_builtin; go_must (refine Lib.wpList_append_run _ rfl (.tmp 26) (.tmp 35) 54 54 rfl _ _ rfl rfl v' w2 hr ?_))
        go_roundw
        case rel => exact ⟨i + 1, _, by omega, rfl, by go_num, HR.out⟩
        case measure => simp [intOf]; omega
      · rw [if_neg e, List.append_nil] at hv
        have HR : Hid (wr.ownsRow w.heap.size 9 1 u (versOf (R.W.take (i + 1)) n).length (strs (versOf (R.W.take (i + 1)) n)) ∧ Chg (fun _ => False) w wr) := by rw [hv]; exact ⟨hown, hch⟩
        have e4 : ¬ (R.W[i].1 : Int) = (n : Int) := by omega
        clear a1 hv hown hch d1 e
        generalize R.W[i].1 = x at *
        go_wp2
        go_roundw
        case rel => exact ⟨i + 1, _, by omega, rfl, by go_num, HR.out⟩
        case measure => simp [intOf]; omega
    · have hie : i = R.W.length := by omega
      subst hie
      rw [List.take_length] at hown
      have HR : Hid (wr.ownsRow w.heap.size 9 1 u (versOf R.W n).length (strs (versOf R.W n)) ∧ Chg (fun _ => False) w wr) := ⟨hown, hch⟩
      have g3 : ¬ (R.W.length : Int) < (R.W.length : Int) := by omega
      clear a1 hown hch
      go_wp2
      go_ret
      exact ⟨u, rfl, HR.out⟩
end Go.Proofs.Ytioloobeakjbeaa

/-
  The reference's disk in memory, and what it has to do with the document's disk.
-/
import Derived.Test.YtioloobeakjbeaaImage
import Derived.Lib.AppendStr
namespace Go.Proofs.Ytioloobeakjbeaa
open Go.RowKit Go.Maps
attribute [local go_sem ↓] Go.wp_at_zero Go.wp_at_succ

/-! ### strings -/
theorem strOf_list (xs : List Int) : (strOf xs).data.toList = xs.map (fun n => UInt8.ofNat n.toNat) := by
  have gen : ∀ (r : ByteArray), (xs.foldl (fun r n => r.push (UInt8.ofNat n.toNat)) r).data.toList = r.data.toList ++ xs.map (fun n => UInt8.ofNat n.toNat) := by
    induction xs with
    | nil => intro r; simp
    | cons x xs ih => intro r; rw [List.foldl_cons, ih]; simp [ByteArray.push]
  have := gen ByteArray.empty
  simpa [strOf] using this
theorem str_ext {a b : ByteArray} (h : a.data.toList = b.data.toList) : a = b := by
  cases a; cases b
  rename_i x y
  have : x = y := Array.ext' h
  rw [this]
theorem strOf_size (xs : List Int) : (strOf xs).size = xs.length := by
  have := congrArg List.length (strOf_list xs)
  rw [List.length_map] at this
  exact this

/-! ### versions in order -/
abbrev Ws := List (Nat × List Int)
def versOf (W : Ws) (n : Nat) : List (List Int) := (W.filter fun x => x.1 == n).map (·.2)
theorem versOf_append (W V : Ws) (n : Nat) : versOf (W ++ V) n = versOf W n ++ versOf V n := by simp [versOf]
theorem versOf_one (k : Nat) (b : List Int) (n : Nat) : versOf [(k, b)] n = if k = n then [b] else [] := by
  unfold versOf
  by_cases e : k = n
  · simp [e]
  · simp [e]
def wcells (W : Ws) : List Value := W.flatMap fun x => [.int .i64 (x.1 : Int), .string (strOf x.2)]
theorem wcells_len (W : Ws) : (wcells W).length = W.length * 2 := by
  induction W with
  | nil => rfl
  | cons x W ih =>
    have : wcells (x :: W) = [.int .i64 (x.1 : Int), .string (strOf x.2)] ++ wcells W := rfl
    rw [this, List.length_append, ih]; simp; omega
theorem wcells_at {W : Ws} : ∀ {i : Nat} (hi : i < W.length), (wcells W)[2 * i]? = some (.int .i64 (W[i].1 : Int)) ∧ (wcells W)[2 * i + 1]? = some (.string (strOf W[i].2)) := by
  induction W with
  | nil => intro i hi; simp at hi
  | cons x W ih =>
    intro i hi
    have e : wcells (x :: W) = .int .i64 (x.1 : Int) :: .string (strOf x.2) :: wcells W := rfl
    rw [e]
    cases i with
    | zero => exact ⟨rfl, rfl⟩
    | succ i =>
      have := ih (i := i) (by simpa using hi)
      have e1 : 2 * (i + 1) = (2 * i + 1) + 1 := by omega
      rw [e1]
      simpa using this
theorem wcells_append (W V : Ws) : wcells (W ++ V) = wcells W ++ wcells V := by simp [wcells]
def scells (f : Nat → List Int) (nb : Nat) : List Value := (List.range nb).map fun n => .string (strOf (f n))
theorem scells_len (f : Nat → List Int) (nb : Nat) : (scells f nb).length = nb := by simp [scells]
theorem scells_at {f : Nat → List Int} {nb n : Nat} (h : n < nb) : (scells f nb)[n]? = some (.string (strOf (f n))) := by simp [scells, h]
theorem scells_congr {f g : Nat → List Int} {nb : Nat} (h : ∀ n, n < nb → f n = g n) : scells f nb = scells g nb := by
  unfold scells
  refine List.map_congr_left (fun n hn => ?_)
  rw [h n (List.mem_range.1 hn)]
theorem scells_set {f : Nat → List Int} {nb n : Nat} (b : List Int) : (scells f nb).set n (.string (strOf b)) = scells (upd f n b) nb := by
  apply List.ext_getElem?
  intro j
  rw [List.getElem?_set, scells_len]
  by_cases hj : j < nb
  · rw [scells_at hj, scells_at hj]
    by_cases e : n = j
    · subst e; simp [hj, upd_same]
    · rw [if_neg e, upd_other _ _ (fun x => e x.symm)]
  · have h1 : (scells f nb)[j]? = none := List.getElem?_eq_none (by rw [scells_len]; omega)
    have h2 : (scells (upd f n b) nb)[j]? = none := List.getElem?_eq_none (by rw [scells_len]; omega)
    rw [h1, h2]
    by_cases e : n = j
    · subst e; simp [hj]
    · rw [if_neg e]

/-- What the reference's disk holds. -/
structure RSt where
  nb : Nat
  f : Nat → List Int
  W : Ws
  off : Bool
  arm : Int
  pk : List Int
  done : Nat

/-- It in memory; G: its blocks. -/
structure RkAt (w : World) (G : Nat → Prop) (q : Nat) (R : RSt) (lb lc : Nat) (wv pv : Value) : Prop where
  blk : w.heap[q]? = some (.cells #[.slice (some ⟨lb, 0, none⟩) R.nb lc, wv, .bool R.off, .int .i64 R.arm, pv, .int .i64 (R.done : Int)] 57 (0, 0))
  row : w.ownsRow 0 9 1 (.slice (some ⟨lb, 0, none⟩) R.nb lc) R.nb (scells R.f R.nb)
  wrow : w.ownsRow 0 112 2 wv R.W.length (wcells R.W)
  prow : w.ownsRow 0 3 1 pv R.pk.length (R.pk.map (Value.int .i64))
  fq : G q
  fl : G lb
  fw : ∀ g, wv.ownBlock = some g → G g
  fk : ∀ g, pv.ownBlock = some g → G g
  lt : ∀ b, G b → b < w.heap.size

section
variable {w : World} {G : Nat → Prop} {q : Nat} {R : RSt} {lb lc : Nat} {wv pv : Value}
theorem RkAt.kept {w' : World} {E : Nat → Prop} (h : RkAt w G q R lb lc wv pv) (hc : Chg E w w') (hE : ∀ b, G b → ¬ E b) : RkAt w' G q R lb lc wv pv := by
  have hb : ∀ b, G b → w'.heap[b]? = w.heap[b]? := fun b hf => hc.block b (h.lt b hf) (hE b hf)
  exact ⟨(hb q h.fq).trans h.blk, own_same h.row (fun g hg => by cases hg; exact hb lb h.fl), own_same h.wrow (fun g hg => hb g (h.fw g hg)), own_same h.prow (fun g hg => hb g (h.fk g hg)), h.fq, h.fl, h.fw, h.fk, fun b hf => Nat.lt_of_lt_of_le (h.lt b hf) hc.size⟩
theorem RkAt.c0 (h : RkAt w G q R lb lc wv pv) : w.cell? ⟨q, 0, none⟩ = some (.slice (some ⟨lb, 0, none⟩) R.nb lc) := by rw [cell_of_row w q 0 _ _ _ h.blk]; rfl
theorem RkAt.c1 (h : RkAt w G q R lb lc wv pv) : w.cell? ⟨q, 1, none⟩ = some wv := by rw [cell_of_row w q 1 _ _ _ h.blk]; rfl
theorem RkAt.c2 (h : RkAt w G q R lb lc wv pv) : w.cell? ⟨q, 2, none⟩ = some (.bool R.off) := by rw [cell_of_row w q 2 _ _ _ h.blk]; rfl
theorem RkAt.c3 (h : RkAt w G q R lb lc wv pv) : w.cell? ⟨q, 3, none⟩ = some (.int .i64 R.arm) := by rw [cell_of_row w q 3 _ _ _ h.blk]; rfl
theorem RkAt.c4 (h : RkAt w G q R lb lc wv pv) : w.cell? ⟨q, 4, none⟩ = some pv := by rw [cell_of_row w q 4 _ _ _ h.blk]; rfl
theorem RkAt.c5 (h : RkAt w G q R lb lc wv pv) : w.cell? ⟨q, 5, none⟩ = some (.int .i64 (R.done : Int)) := by rw [cell_of_row w q 5 _ _ _ h.blk]; rfl
theorem RkAt.fr (h : RkAt w G q R lb lc wv pv) (i : Nat) : w.frozen? ⟨q, i, none⟩ = false := by simp [World.frozen?, h.blk]
theorem RkAt.frl (h : RkAt w G q R lb lc wv pv) (i : Nat) : w.frozen? ⟨lb, i, none⟩ = false := by
  obtain ⟨cu, hcu⟩ := own_obj h.row rfl
  simp [World.frozen?, hcu]
theorem RkAt.ne {e : TypeId} {sz N n : Nat} {v : Value} {xs : List Value} {g : Nat} (h : RkAt w G q R lb lc wv pv) (ho : w.ownsRow N e sz v n xs) (he : e ≠ 57) (hg : v.ownBlock = some g) : g ≠ q := fun e2 => by
  obtain ⟨cur, hcur⟩ := own_obj ho hg
  rw [e2, h.blk] at hcur
  exact he (Obj.cells.inj (Option.some.inj hcur)).2.1.symm
theorem RkAt.lcell (h : RkAt w G q R lb lc wv pv) {n : Nat} (hn : n < R.nb) : w.cell? ⟨lb, n, none⟩ = some (.string (strOf (R.f n))) := by
  have := h.row.cells (g := lb) rfl n _ (scells_at hn)
  rwa [add_zero_off] at this
theorem RkAt.wform (h : RkAt w G q R lb lc wv pv) : (wv = .slice none 0 0 ∧ R.W = []) ∨ ∃ g c, wv = .slice (some ⟨g, 0, none⟩) R.W.length c := by
  rcases h.wrow.2 with ⟨e, h0⟩ | ⟨g, c, cur, e, _⟩
  · exact .inl ⟨e, List.eq_nil_of_length_eq_zero h0⟩
  · exact .inr ⟨g, c, e⟩
theorem RkAt.wlen (h : RkAt w G q R lb lc wv pv) : ∃ a c, wv = .slice a R.W.length c := by
  rcases h.wform with ⟨rfl, e⟩ | ⟨g, c, rfl⟩
  · exact ⟨none, 0, by rw [e]; rfl⟩
  · exact ⟨_, _, rfl⟩
theorem RkAt.wcell {g c : Nat} (h : RkAt w G q R lb lc (.slice (some ⟨g, 0, none⟩) R.W.length c) pv) {i : Nat} (hi : i < R.W.length) :
    w.cell? ⟨g, i * 2, none⟩ = some (.int .i64 (R.W[i].1 : Int)) ∧ w.cell? ⟨g, i * 2 + 1, none⟩ = some (.string (strOf R.W[i].2)) := by
  have h1 := h.wrow.cells (g := g) rfl (2 * i) _ (wcells_at hi).1
  have h2 := h.wrow.cells (g := g) rfl (2 * i + 1) _ (wcells_at hi).2
  rw [add_zero_off] at h1 h2
  rw [Nat.mul_comm i 2]
  exact ⟨h1, h2⟩

/-- Only the disk's struct has changed. -/
theorem RkAt.restruct {w' : World} {R' : RSt} {wv' pv' : Value} (h : RkAt w G q R lb lc wv pv) (hc : Chg (fun k => k = q) w w')
    (hb : w'.heap[q]? = some (.cells #[.slice (some ⟨lb, 0, none⟩) R.nb lc, wv', .bool R'.off, .int .i64 R'.arm, pv', .int .i64 (R'.done : Int)] 57 (0, 0)))
    (hn : R'.nb = R.nb) (hf : R'.f = R.f) (hw : w'.ownsRow 0 112 2 wv' R'.W.length (wcells R'.W)) (hpk : w'.ownsRow 0 3 1 pv' R'.pk.length (R'.pk.map (Value.int .i64))) (hfw : ∀ g, wv'.ownBlock = some g → G g) (hfk : ∀ g, pv'.ownBlock = some g → G g) : RkAt w' G q R' lb lc wv' pv' :=
  ⟨by rw [hn]; exact hb, by rw [hn, hf]; exact own_same h.row (fun g hg => hc.block g (h.row.lt g hg).2 (h.ne h.row (by decide) hg)), hw, hpk, h.fq, h.fl, hfw, hfk, fun b hf => Nat.lt_of_lt_of_le (h.lt b hf) hc.size⟩
theorem RkAt.wsame {w' : World} (h : RkAt w G q R lb lc wv pv) (hc : Chg (fun k => k = q) w w') : w'.ownsRow 0 112 2 wv R.W.length (wcells R.W) := own_same h.wrow (fun g hg => hc.block g (h.wrow.lt g hg).2 (h.ne h.wrow (by decide) hg))
theorem RkAt.psame {w' : World} (h : RkAt w G q R lb lc wv pv) (hc : Chg (fun k => k = q) w w') : w'.ownsRow 0 3 1 pv R.pk.length (R.pk.map (Value.int .i64)) := own_same h.prow (fun g hg => hc.block g (h.prow.lt g hg).2 (h.ne h.prow (by decide) hg))

theorem RkAt.setW0 (h : RkAt w G q R lb lc wv pv) : RkAt (w.setCell ⟨q, 1, none⟩ (.slice none 0 0)) G q { R with W := [] } lb lc (.slice none 0 0) pv ∧ Chg (fun k => k = q) w (w.setCell ⟨q, 1, none⟩ (.slice none 0 0)) := by
  have hb := heap_setCell_same w q 1 _ _ (.slice none 0 0) h.blk
  have hc : Chg (fun k => k = q) w (w.setCell ⟨q, 1, none⟩ (.slice none 0 0)) := Chg.setCell _ _ _ rfl
  exact ⟨h.restruct hc (by simpa using hb) rfl rfl (World.ownsRow_nil _ _ _ _) (h.psame hc) (fun g hg => by cases hg) h.fk, hc⟩
theorem RkAt.setOff (h : RkAt w G q R lb lc wv pv) (b : Bool) : RkAt (w.setCell ⟨q, 2, none⟩ (.bool b)) G q { R with off := b } lb lc wv pv ∧ Chg (fun k => k = q) w (w.setCell ⟨q, 2, none⟩ (.bool b)) := by
  have hb := heap_setCell_same w q 2 _ _ (.bool b) h.blk
  have hc : Chg (fun k => k = q) w (w.setCell ⟨q, 2, none⟩ (.bool b)) := Chg.setCell _ _ _ rfl
  exact ⟨h.restruct hc (by simpa using hb) rfl rfl (h.wsame hc) (h.psame hc) h.fw h.fk, hc⟩
theorem RkAt.setArm (h : RkAt w G q R lb lc wv pv) (n : Int) : RkAt (w.setCell ⟨q, 3, none⟩ (.int .i64 n)) G q { R with arm := n } lb lc wv pv ∧ Chg (fun k => k = q) w (w.setCell ⟨q, 3, none⟩ (.int .i64 n)) := by
  have hb := heap_setCell_same w q 3 _ _ (.int .i64 n) h.blk
  have hc : Chg (fun k => k = q) w (w.setCell ⟨q, 3, none⟩ (.int .i64 n)) := Chg.setCell _ _ _ rfl
  exact ⟨h.restruct hc (by simpa using hb) rfl rfl (h.wsame hc) (h.psame hc) h.fw h.fk, hc⟩
theorem RkAt.setDone (h : RkAt w G q R lb lc wv pv) (n : Nat) (z : Int) (hz : z = (n : Int)) : RkAt (w.setCell ⟨q, 5, none⟩ (.int .i64 z)) G q { R with done := n } lb lc wv pv ∧ Chg (fun k => k = q) w (w.setCell ⟨q, 5, none⟩ (.int .i64 z)) := by
  subst hz
  have hb := heap_setCell_same w q 5 _ _ (.int .i64 (n : Int)) h.blk
  have hc : Chg (fun k => k = q) w (w.setCell ⟨q, 5, none⟩ (.int .i64 (n : Int))) := Chg.setCell _ _ _ rfl
  exact ⟨h.restruct hc (by simpa using hb) rfl rfl (h.wsame hc) (h.psame hc) h.fw h.fk, hc⟩
theorem RkAt.setPk {u : Value} {ps : List Int} (h : RkAt w G q R lb lc wv pv) (hu : w.ownsRow 0 3 1 u ps.length (ps.map (Value.int .i64))) (hg : ∀ g, u.ownBlock = some g → G g) : RkAt (w.setCell ⟨q, 4, none⟩ u) G q { R with pk := ps } lb lc wv u ∧ Chg (fun k => k = q) w (w.setCell ⟨q, 4, none⟩ u) := by
  have hb := heap_setCell_same w q 4 _ _ u h.blk
  have hc : Chg (fun k => k = q) w (w.setCell ⟨q, 4, none⟩ u) := Chg.setCell _ _ _ rfl
  exact ⟨h.restruct hc (by simpa using hb) rfl rfl (h.wsame hc) (own_same hu (fun g hg => hc.block g (hu.lt g hg).2 (h.ne hu (by decide) hg))) h.fw hg, hc⟩
theorem RkAt.setWv {u : Value} {V : Ws} (h : RkAt w G q R lb lc wv pv) (hu : w.ownsRow 0 112 2 u V.length (wcells V)) (hg : ∀ g, u.ownBlock = some g → G g) : RkAt (w.setCell ⟨q, 1, none⟩ u) G q { R with W := V } lb lc u pv ∧ Chg (fun k => k = q) w (w.setCell ⟨q, 1, none⟩ u) := by
  have hb := heap_setCell_same w q 1 _ _ u h.blk
  have hc : Chg (fun k => k = q) w (w.setCell ⟨q, 1, none⟩ u) := Chg.setCell _ _ _ rfl
  exact ⟨h.restruct hc (by simpa using hb) rfl rfl (own_same hu (fun g hg => hc.block g (hu.lt g hg).2 (h.ne hu (by decide) hg))) (h.psame hc) hg h.fk, hc⟩
theorem RkAt.setL (h : RkAt w G q R lb lc wv pv) (n : Nat) (b : List Int) : RkAt (w.setCell ⟨lb, n, none⟩ (.string (strOf b))) G q { R with f := upd R.f n b } lb lc wv pv ∧ Chg (fun k => k = lb) w (w.setCell ⟨lb, n, none⟩ (.string (strOf b))) := by
  have st := h.row.stored n (.string (strOf b))
  have hc : Chg (fun k => k = lb) w (w.setCell ⟨lb, n, none⟩ (.string (strOf b))) := Chg.setCell _ _ _ rfl
  rw [scells_set] at st
  obtain ⟨cl, hcl⟩ := own_obj h.row rfl
  have ne1 : q ≠ lb := fun e => (h.ne h.row (by decide) rfl) e.symm
  have ot : ∀ {e : TypeId} {sz N n : Nat} {v : Value} {xs : List Value}, e ≠ 9 → w.ownsRow N e sz v n xs → ∀ g, v.ownBlock = some g → ¬ g = lb := fun he ho g hg e2 => by
    obtain ⟨cur, hcur⟩ := own_obj ho hg
    rw [e2, hcl] at hcur
    exact he (Obj.cells.inj (Option.some.inj hcur)).2.1.symm
  exact ⟨⟨(hc.block q (h.lt q h.fq) ne1).trans h.blk, st.1, own_same h.wrow (fun g hg => hc.block g (h.wrow.lt g hg).2 (ot (by decide) h.wrow g hg)), own_same h.prow (fun g hg => hc.block g (h.prow.lt g hg).2 (ot (by decide) h.prow g hg)), h.fq, h.fl, h.fw, h.fk, fun b hf => Nat.lt_of_lt_of_le (h.lt b hf) hc.size⟩, hc⟩
end

def armR (S : St) : Int := if S.arm < 1 then 0 else S.arm
/-- The reference's disk is the document's. -/
structure Sim (S : St) (R : RSt) : Prop where
  wf : S.Wf
  nb : R.nb = S.nb
  f : ∀ n, n < S.nb → R.f n = S.syn n
  vers : ∀ n, S.wait n = versOf R.W n
  num : ∀ x ∈ R.W, x.1 < S.nb
  few : R.W.length ≤ S.writes
  off : R.off = S.off
  arm : R.arm = armR S
  pks : 1 ≤ S.arm → R.pk = S.picks
  done : R.done = S.writes
def Rk (w : World) (G : Nat → Prop) (q : Nat) (S : St) : Prop := ∃ R lb lc wv pv, Sim S R ∧ RkAt w G q R lb lc wv pv
def RTo (G : Nat → Prop) (q : Nat) (w w' : World) (S' : St) : Prop := ∃ G', Rk w' G' q S' ∧ Chg G w w' ∧ ∀ b, G' b → G b ∨ w.heap.size ≤ b
theorem Rk.kept {w w' : World} {G E : Nat → Prop} {q : Nat} {S : St} (h : Rk w G q S) (hc : Chg E w w') (hE : ∀ b, G b → ¬ E b) : Rk w' G q S := by
  obtain ⟨R, lb, lc, wv, pv, s, h⟩ := h
  exact ⟨R, lb, lc, wv, pv, s, h.kept hc hE⟩
theorem Rk.lt {w : World} {G : Nat → Prop} {q : Nat} {S : St} (h : Rk w G q S) : ∀ b, G b → b < w.heap.size := by
  obtain ⟨R, lb, lc, wv, pv, s, h⟩ := h
  exact h.lt
theorem RTo.refl {G : Nat → Prop} {q : Nat} {w : World} {S : St} (h : Rk w G q S) : RTo G q w w S := ⟨G, h, Chg.refl _ _, fun _ h => .inl h⟩
theorem RTo.after {G : Nat → Prop} {q : Nat} {w w1 w2 : World} {S2 : St} (hc : Chg (fun _ => False) w w1) (h2 : RTo G q w1 w2 S2) : RTo G q w w2 S2 := by
  obtain ⟨G', h3, h4, h5⟩ := h2
  refine ⟨G', h3, (hc.mono (fun _ _ h => h.elim)).trans h4 (fun i hi h => h), fun b hb => ?_⟩
  rcases h5 b hb with h | h
  · exact .inl h
  · have := hc.size; exact .inr (by omega)

theorem last_eq (S : St) (n : Nat) : S.last n = (S.wait n).getLast?.getD (S.syn n) := by
  unfold St.last St.ver
  by_cases h : S.wait n = []
  · rw [h]; rfl
  · have hl : 0 < (S.wait n).length := List.length_pos_iff.2 h
    rw [if_neg (by omega), List.getLast?_eq_getElem?, List.getD]
    have : (S.wait n)[(S.wait n).length - 1]? = some (S.wait n)[(S.wait n).length - 1] := by simp
    rw [this]; rfl
theorem waiting_len {S : St} {W : Ws} (hv : ∀ n, S.wait n = versOf W n) (hn : ∀ x ∈ W, x.1 < S.nb) : S.waiting = W.length := by
  have gen : ∀ (W : Ws), (∀ x ∈ W, x.1 < S.nb) → sumTo S.nb (fun n => (versOf W n).length) = W.length := by
    intro W
    induction W with
    | nil =>
      intro _
      generalize S.nb = k
      induction k with
      | zero => rfl
      | succ k ih => rw [sumTo_succ, ih]; rfl
    | cons x W ih =>
      intro h
      have hx := h x (by simp)
      have e : ∀ n, (versOf (x :: W) n).length = (versOf W n).length + (if x.1 = n then 1 else 0) := fun n => by
        have : x :: W = [(x.1, x.2)] ++ W := rfl
        rw [this, versOf_append, List.length_append, versOf_one]
        split <;> simp <;> omega
      have ind : sumTo S.nb (fun n => if x.1 = n then 1 else 0) = 1 := by
        have hz : ∀ k, sumTo k (fun _ => 0) = 0 := fun k => by
          induction k with
          | zero => rfl
          | succ k ih => rw [sumTo_succ, ih]
        have := sumTo_upd (nb := S.nb) (n := x.1) (f := fun _ => 0) hx rfl 1
        rw [hz] at this
        refine Eq.trans (sumTo_congr (g := upd (fun _ => 0) x.1 1) (fun n _ => ?_)) (this.trans (by omega))
        by_cases e : x.1 = n
        · rw [if_pos e, e, upd_same]
        · rw [if_neg e, upd_other _ _ (fun y => e y.symm)]
      have add : ∀ k (f g : Nat → Nat), sumTo k (fun n => f n + g n) = sumTo k f + sumTo k g := fun k f g => by
        induction k with
        | zero => rfl
        | succ k ih => rw [sumTo_succ, sumTo_succ, sumTo_succ, ih]; omega
      rw [sumTo_congr (g := fun n => (versOf W n).length + (if x.1 = n then 1 else 0)) (fun n _ => e n), add, ih (fun y hy => h y (by simp [hy])), ind]; rfl
  have := gen W hn
  rw [← this]
  show sumTo S.nb (fun n => (S.wait n).length) = _
  exact sumTo_congr (fun n _ => by rw [hv n])
end Go.Proofs.Ytioloobeakjbeaa

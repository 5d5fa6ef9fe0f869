/-
  A disk of package block in memory: which blocks it owns and what they hold; and the contracts of its small methods.
-/
import Derived.Test.YtkkmdmnjlncgfaaMaps
import Derived.Handy
import Derived.WalkSpells
import Derived.WalkLawsBesides
namespace Go.Proofs.Ytkkmdmnjlncgfaa
open Go.RowKit Go.Maps

theorem own_same {w w' : World} {N : Nat} {e : TypeId} {sz : Nat} {v : Value} {n : Nat} {xs : List Value} (h : w.ownsRow N e sz v n xs) (hb : ∀ g, v.ownBlock = some g → w'.heap[g]? = w.heap[g]?) : w'.ownsRow N e sz v n xs := by
  refine ⟨h.1, ?_⟩
  rcases h.2 with h2 | ⟨g, cap, cur, rfl, h3, h4, r⟩
  · exact .inl h2
  · exact .inr ⟨g, cap, cur, rfl, h3, (hb g rfl).trans h4, r⟩
theorem own_mono {w : World} {N N' : Nat} {e : TypeId} {sz : Nat} {v : Value} {n : Nat} {xs : List Value} (h : w.ownsRow N' e sz v n xs) (hN : N ≤ N') : w.ownsRow N e sz v n xs := by
  refine ⟨h.1, ?_⟩
  rcases h.2 with h2 | ⟨g, cap, cur, e, hb, r⟩
  · exact .inl h2
  · exact .inr ⟨g, cap, cur, e, by omega, r⟩
theorem own_obj {w : World} {N : Nat} {e : TypeId} {sz : Nat} {v : Value} {n : Nat} {xs : List Value} {g : Nat} (h : w.ownsRow N e sz v n xs) (hg : v.ownBlock = some g) : ∃ cur, w.heap[g]? = some (.cells cur e (0, 0)) := by
  rcases h.2 with ⟨rfl, _⟩ | ⟨g', cap, cur, rfl, _, h4, _⟩
  · cases hg
  · cases hg; exact ⟨cur, h4⟩

/-- What the disk's map holds: nothing at a block of which nothing waits, else the list of its versions. -/
def mf (S : St) (V : Nat → Value) (n : Nat) : Option Value := if (S.wait n).isEmpty then none else some (V n)
theorem mf_none {S : St} {V : Nat → Value} {n : Nat} (h : S.wait n = []) : mf S V n = none := by simp [mf, h]
theorem mf_some {S : St} {V : Nat → Value} {n : Nat} (h : S.wait n ≠ []) : mf S V n = some (V n) := by simp [mf, List.isEmpty_iff, h]

/-- The list of block n's versions. -/
def Vers (w : World) (F : Nat → Prop) (s : Nat) (v : Value) (bss : List (List Int)) : Prop :=
  ∃ us : List Value, w.ownsRow 0 39 1 v bss.length us ∧ ∀ j, j < bss.length → ∃ g c, us[j]? = some (.slice (some ⟨g, 0, none⟩) 512 c) ∧ w.ownsRow 0 5 1 (.slice (some ⟨g, 0, none⟩) 512 c) 512 (bcells (bss.getD j [])) ∧ g ≠ s ∧ F g

/-- The disk at p is S; F: its blocks. -/
structure DkAt (w : World) (F : Nat → Prop) (p : Nat) (S : St) (s sc m : Nat) (pv : Value) (V : Nat → Value) : Prop where
  wf : S.Wf
  blk : w.heap[p]? = some (.cells #[.slice (some ⟨s, 0, none⟩) (512 * S.nb) sc, .map (some m), .int .i64 (S.writes : Int), .bool S.off, .int .i64 S.arm, pv] 66 (0, 0))
  syn : w.ownsRow 0 5 1 (.slice (some ⟨s, 0, none⟩) (512 * S.nb) sc) (512 * S.nb) (bcells (St.flat S.nb S.syn))
  map : MapIs w m S.nb (mf S V)
  row : ∀ n, S.wait n ≠ [] → Vers w F s (V n) (S.wait n)
  apart : ∀ n k g, S.wait n ≠ [] → S.wait k ≠ [] → n ≠ k → (V n).ownBlock = some g → (V k).ownBlock ≠ some g
  pk : w.ownsRow 0 3 1 pv S.picks.length (S.picks.map (Value.int .i64))
  fp : F p
  fs : F s
  fm : F m
  fv : ∀ n g, S.wait n ≠ [] → (V n).ownBlock = some g → F g
  fk : ∀ g, pv.ownBlock = some g → F g
  lt : ∀ b, F b → b < w.heap.size
def Dk (w : World) (F : Nat → Prop) (p : Nat) (S : St) : Prop := ∃ s sc m pv V, DkAt w F p S s sc m pv V

theorem Vers.kept {w w' : World} {F : Nat → Prop} {s : Nat} {v : Value} {bss : List (List Int)} (h : Vers w F s v bss) (hv : ∀ g, v.ownBlock = some g → w'.heap[g]? = w.heap[g]?) (hF : ∀ g, F g → g ≠ s → (∃ cur, w.heap[g]? = some (.cells cur 5 (0, 0))) → w'.heap[g]? = w.heap[g]?) : Vers w' F s v bss := by
  obtain ⟨us, h1, h2⟩ := h
  refine ⟨us, own_same h1 hv, fun j hj => ?_⟩
  obtain ⟨g, c, e, ho, hs, hf⟩ := h2 j hj
  exact ⟨g, c, e, own_same ho (fun g' hg' => by cases hg'; exact hF g hf hs (own_obj ho rfl)), hs, hf⟩
theorem Vers.mono {w : World} {F F' : Nat → Prop} {s : Nat} {v : Value} {bss : List (List Int)} (h : Vers w F s v bss) (hF : ∀ b, F b → F' b) : Vers w F' s v bss := by
  obtain ⟨us, h1, h2⟩ := h
  refine ⟨us, h1, fun j hj => ?_⟩
  obtain ⟨g, c, e, ho, hs, hf⟩ := h2 j hj
  exact ⟨g, c, e, ho, hs, hF _ hf⟩

section
variable {w : World} {F : Nat → Prop} {p : Nat} {S : St} {s sc m : Nat} {pv : Value} {V : Nat → Value}

theorem DkAt.kept {w' : World} {E : Nat → Prop} (h : DkAt w F p S s sc m pv V) (hc : Chg E w w') (hE : ∀ b, F b → ¬ E b) : DkAt w' F p S s sc m pv V := by
  have hb : ∀ b, F b → w'.heap[b]? = w.heap[b]? := fun b hf => hc.block b (h.lt b hf) (hE b hf)
  exact ⟨h.wf, (hb p h.fp).trans h.blk, own_same h.syn (fun g hg => by cases hg; exact hb s h.fs), h.map.kept (hb m h.fm), fun n hn => (h.row n hn).kept (fun g hg => hb g (h.fv n g hn hg)) (fun g hf _ _ => hb g hf), h.apart,
    own_same h.pk (fun g hg => hb g (h.fk g hg)), h.fp, h.fs, h.fm, h.fv, h.fk, fun b hf => Nat.lt_of_lt_of_le (h.lt b hf) hc.size⟩
theorem Dk.kept {w' : World} {E : Nat → Prop} (h : Dk w F p S) (hc : Chg E w w') (hE : ∀ b, F b → ¬ E b) : Dk w' F p S := by
  obtain ⟨s, sc, m, pv, V, h⟩ := h
  exact ⟨s, sc, m, pv, V, h.kept hc hE⟩
theorem Dk.wf (h : Dk w F p S) : S.Wf := by obtain ⟨_, _, _, _, _, h⟩ := h; exact h.wf
theorem Dk.lt (h : Dk w F p S) : ∀ b, F b → b < w.heap.size := by obtain ⟨_, _, _, _, _, h⟩ := h; exact h.lt
theorem Dk.fp (h : Dk w F p S) : F p := by obtain ⟨_, _, _, _, _, h⟩ := h; exact h.fp

theorem DkAt.pobj (h : DkAt w F p S s sc m pv V) : p < w.heap.size := (Array.getElem?_eq_some_iff.1 h.blk).1
theorem DkAt.c0 (h : DkAt w F p S s sc m pv V) : w.cell? ⟨p, 0, none⟩ = some (.slice (some ⟨s, 0, none⟩) (512 * S.nb) sc) := by rw [cell_of_row w p 0 _ _ _ h.blk]; rfl
theorem DkAt.c1 (h : DkAt w F p S s sc m pv V) : w.cell? ⟨p, 1, none⟩ = some (.map (some m)) := by rw [cell_of_row w p 1 _ _ _ h.blk]; rfl
theorem DkAt.c2 (h : DkAt w F p S s sc m pv V) : w.cell? ⟨p, 2, none⟩ = some (.int .i64 (S.writes : Int)) := by rw [cell_of_row w p 2 _ _ _ h.blk]; rfl
theorem DkAt.c3 (h : DkAt w F p S s sc m pv V) : w.cell? ⟨p, 3, none⟩ = some (.bool S.off) := by rw [cell_of_row w p 3 _ _ _ h.blk]; rfl
theorem DkAt.c4 (h : DkAt w F p S s sc m pv V) : w.cell? ⟨p, 4, none⟩ = some (.int .i64 S.arm) := by rw [cell_of_row w p 4 _ _ _ h.blk]; rfl
theorem DkAt.c5 (h : DkAt w F p S s sc m pv V) : w.cell? ⟨p, 5, none⟩ = some pv := by rw [cell_of_row w p 5 _ _ _ h.blk]; rfl
theorem DkAt.fr (h : DkAt w F p S s sc m pv V) (i : Nat) : w.frozen? ⟨p, i, none⟩ = false := by simp [World.frozen?, h.blk]

/-- Only the disk's struct has changed. -/
theorem DkAt.restruct {w' : World} {S' : St} {pv' : Value} (h : DkAt w F p S s sc m pv V) (hc : Chg (fun k => k = p) w w')
    (hb : w'.heap[p]? = some (.cells #[.slice (some ⟨s, 0, none⟩) (512 * S.nb) sc, .map (some m), .int .i64 (S'.writes : Int), .bool S'.off, .int .i64 S'.arm, pv'] 66 (0, 0)))
    (hwf : S'.Wf) (hn : S'.nb = S.nb) (hs : S'.syn = S.syn) (hw : S'.wait = S.wait) (hpk : w'.ownsRow 0 3 1 pv' S'.picks.length (S'.picks.map (Value.int .i64))) (hfk : ∀ g, pv'.ownBlock = some g → F g) : DkAt w' F p S' s sc m pv' V := by
  have ne_of : ∀ {b : Nat} {o : Obj}, w.heap[b]? = some o → (∀ cur, o ≠ .cells cur 66 (0, 0)) → ¬ b = p := fun ho hno e => by
    subst e; rw [h.blk] at ho; cases ho; exact hno _ rfl
  have hb' : ∀ b, b < w.heap.size → ¬ b = p → w'.heap[b]? = w.heap[b]? := fun b hl hne => hc.block b hl hne
  have hrow : ∀ {e : TypeId} {v : Value} {n : Nat} {xs : List Value}, e ≠ 66 → w.ownsRow 0 e 1 v n xs → ∀ g, v.ownBlock = some g → w'.heap[g]? = w.heap[g]? := fun he ho g hg => by
    obtain ⟨cur, hcur⟩ := own_obj ho hg
    exact hb' g (ho.lt g hg).2 (ne_of hcur (fun c e => he (Obj.cells.inj e).2.1))
  have hm : w'.heap[m]? = w.heap[m]? := by
    obtain ⟨es, cl, ho⟩ := h.map.obj
    exact hb' m h.map.lt (ne_of ho (fun c e => by cases e))
  have hmf : mf S' V = mf S V := by unfold mf; rw [hw]
  refine ⟨hwf, ?_, ?_, ?_, ?_, ?_, hpk, h.fp, h.fs, h.fm, ?_, hfk, fun b hf => Nat.lt_of_lt_of_le (h.lt b hf) hc.size⟩
  · rw [hn]; exact hb
  · rw [hn, hs]; exact own_same h.syn (hrow (by decide) h.syn)
  · rw [hn, hmf]; exact h.map.kept hm
  · intro n hne
    rw [hw] at hne ⊢
    have hv := h.row n hne
    refine hv.kept ?_ (fun g hf _ ⟨cur, hcur⟩ => hb' g (h.lt g hf) (ne_of hcur (fun c e => by cases e)))
    obtain ⟨us, h1, _⟩ := hv
    exact hrow (by decide) h1
  · rw [hw]; exact h.apart
  · rw [hw]; exact h.fv
end

set_option maxHeartbeats 400000 in
theorem blocks_any (F : Nat → Prop) (p : Nat) (S : St) (w : World) (h : Dk w F p S) : Calls Try.prog 36 #[.pointer (some ⟨p, 0, none⟩)] w fun e w' => e = .returned (.int .i64 (S.nb : Int)) ∧ w' = w := by
  obtain ⟨s, sc, m, pv, V, h⟩ := h
  have c0 := h.c0
  have hw := h.wf.top
  have e1 : Int.tdiv (512 * (S.nb : Int)) 512 = S.nb := by rw [Int.mul_tdiv_cancel_left _ (by decide)]
  have e2 : (512 * (S.nb : Int)) / 512 = S.nb := by omega
  clear h
  go_enter Try.func36, Try.ntmps36
  go_wp2
  go_ret
  simp

set_option maxHeartbeats 400000 in
theorem has_any (F : Nat → Prop) (p : Nat) (S : St) (n : Int) (w : World) (h : Dk w F p S) : Calls Try.prog 64 #[.pointer (some ⟨p, 0, none⟩), .int .i64 n] w fun e w' => e = .returned (.bool (decide (0 ≤ n ∧ n < S.nb))) ∧ w' = w := by
  by_cases h0 : 0 ≤ n
  · go_enter Try.func64, Try.ntmps64
    go_wp2_with fail
    refine (blocks_any F p S _ h).mono ?_
    rintro e w1 ⟨rfl, rfl⟩
    clear h
    go_wp2
    go_ret
    simp [h0]
  · have k0 : decide (0 ≤ n) = false := by simpa using h0
    clear h
    go_enter Try.func64, Try.ntmps64
    go_wp2
    go_ret
    simp
end Go.Proofs.Ytkkmdmnjlncgfaa

/-
  A disk of package block in memory: which blocks it owns and what they hold; and the contracts of its small methods.
-/
import Derived.Test.YtmlhjcjonfalhaaGreatMaps
import Derived.Handy
import Derived.WalkSpells
import Derived.WalkLawsBesides
namespace Go.Proofs.YtmlhjcjonfalhaaGreat
open Go.RowKit Go.Maps

theorem own_same {w w' : World} {N : Nat} {e : TypeId} {sz : Nat} {v : Value} {n : Nat} {xs : List Value} (h : w.ownsRow N e sz v n xs) (hb : ∀ g, v.ownBlock = some g → w'.heap[g]? = w.heap[g]?) : w'.ownsRow N e sz v n xs := by
  refine ⟨h.1, ?_⟩
  rcases h.2 with h2 | ⟨g, cap, cur, rfl, h3, h4, r⟩
  · exact .inl h2
  · exact .inr ⟨g, cap, cur, rfl, h3, (hb g rfl).trans h4, r⟩
theorem own_mono {w : World} {N N' : Nat} {e : TypeId} {sz : Nat} {v : Value} {n : Nat} {xs : List Value} (h : w.ownsRow N' e sz v n xs) (hN : N ≤ N') : w.ownsRow N e sz v n xs := by
  refine ⟨h.1, ?_⟩
  rcases h.2 with h2 | ⟨g, cap, cur, e, hb, r⟩
  · exact .inl h2
  · exact .inr ⟨g, cap, cur, e, by omega, r⟩
theorem own_obj {w : World} {N : Nat} {e : TypeId} {sz : Nat} {v : Value} {n : Nat} {xs : List Value} {g : Nat} (h : w.ownsRow N e sz v n xs) (hg : v.ownBlock = some g) : ∃ cur, w.heap[g]? = some (.cells cur e (0, 0)) := by
  rcases h.2 with ⟨rfl, _⟩ | ⟨g', cap, cur, rfl, _, h4, _⟩
  · cases hg
  · cases hg; exact ⟨cur, h4⟩

/-- What the disk's map holds: nothing at a block of which nothing waits, else the list of its versions. -/
def mf (S : St) (V : Nat → Value) (n : Nat) : Option Value := if (S.wait n).isEmpty then none else some (V n)
theorem mf_none {S : St} {V : Nat → Value} {n : Nat} (h : S.wait n = []) : mf S V n = none := by simp [mf, h]
theorem mf_some {S : St} {V : Nat → Value} {n : Nat} (h : S.wait n ≠ []) : mf S V n = some (V n) := by simp [mf, List.isEmpty_iff, h]

/-- The list of block n's versions. -/
def Vers (w : World) (F : Nat → Prop) (s : Nat) (v : Value) (bss : List (List Int)) : Prop :=
  ∃ us : List Value, w.ownsRow 0 50 1 v bss.length us ∧ ∀ j, j < bss.length → ∃ g c, us[j]? = some (.slice (some ⟨g, 0, none⟩) 512 c) ∧ w.ownsRow 0 5 1 (.slice (some ⟨g, 0, none⟩) 512 c) 512 (bcells (bss.getD j [])) ∧ g ≠ s ∧ F g

/-- The disk at p is S; F: its blocks. -/
structure DkAt (w : World) (F : Nat → Prop) (p : Nat) (S : St) (s sc m : Nat) (pv : Value) (V : Nat → Value) : Prop where
  wf : S.Wf
  blk : w.heap[p]? = some (.cells #[.slice (some ⟨s, 0, none⟩) (512 * S.nb) sc, .map (some m), .int .i64 (S.writes : Int), .bool S.off, .int .i64 S.arm, pv] 65 (0, 0))
  syn : w.ownsRow 0 5 1 (.slice (some ⟨s, 0, none⟩) (512 * S.nb) sc) (512 * S.nb) (bcells (St.flat S.nb S.syn))
  map : MapIs w m S.nb (mf S V)
  row : ∀ n, S.wait n ≠ [] → Vers w F s (V n) (S.wait n)
  apart : ∀ n k g, S.wait n ≠ [] → S.wait k ≠ [] → n ≠ k → (V n).ownBlock = some g → (V k).ownBlock ≠ some g
  pk : w.ownsRow 0 3 1 pv S.picks.length (S.picks.map (Value.int .i64))
  fp : F p
  fs : F s
  fm : F m
  fv : ∀ n g, S.wait n ≠ [] → (V n).ownBlock = some g → F g
  fk : ∀ g, pv.ownBlock = some g → F g
  lt : ∀ b, F b → b < w.heap.size
def Dk (w : World) (F : Nat → Prop) (p : Nat) (S : St) : Prop := ∃ s sc m pv V, DkAt w F p S s sc m pv V

theorem Vers.kept {w w' : World} {F : Nat → Prop} {s : Nat} {v : Value} {bss : List (List Int)} (h : Vers w F s v bss) (hv : ∀ g, v.ownBlock = some g → w'.heap[g]? = w.heap[g]?) (hF : ∀ g, F g → g ≠ s → (∃ cur, w.heap[g]? = some (.cells cur 5 (0, 0))) → w'.heap[g]? = w.heap[g]?) : Vers w' F s v bss := by
  obtain ⟨us, h1, h2⟩ := h
  refine ⟨us, own_same h1 hv, fun j hj => ?_⟩
  obtain ⟨g, c, e, ho, hs, hf⟩ := h2 j hj
  exact ⟨g, c, e, own_same ho (fun g' hg' => by cases hg'; exact hF g hf hs (own_obj ho rfl)), hs, hf⟩
theorem Vers.mono {w : World} {F F' : Nat → Prop} {s : Nat} {v : Value} {bss : List (List Int)} (h : Vers w F s v bss) (hF : ∀ b, F b → F' b) : Vers w F' s v bss := by
  obtain ⟨us, h1, h2⟩ := h
  refine ⟨us, h1, fun j hj => ?_⟩
  obtain ⟨g, c, e, ho, hs, hf⟩ := h2 j hj
  exact ⟨g, c, e, ho, hs, hF _ hf⟩

section
variable {w : World} {F : Nat → Prop} {p : Nat} {S : St} {s sc m : Nat} {pv : Value} {V : Nat → Value}

theorem DkAt.kept {w' : World} {E : Nat → Prop} (h : DkAt w F p S s sc m pv V) (hc : Chg E w w') (hE : ∀ b, F b → ¬ E b) : DkAt w' F p S s sc m pv V := by
  have hb : ∀ b, F b → w'.heap[b]? = w.heap[b]? := fun b hf => hc.block b (h.lt b hf) (hE b hf)
  exact ⟨h.wf, (hb p h.fp).trans h.blk, own_same h.syn (fun g hg => by cases hg; exact hb s h.fs), h.map.kept (hb m h.fm), fun n hn => (h.row n hn).kept (fun g hg => hb g (h.fv n g hn hg)) (fun g hf _ _ => hb g hf), h.apart,
    own_same h.pk (fun g hg => hb g (h.fk g hg)), h.fp, h.fs, h.fm, h.fv, h.fk, fun b hf => Nat.lt_of_lt_of_le (h.lt b hf) hc.size⟩
theorem Dk.kept {w' : World} {E : Nat → Prop} (h : Dk w F p S) (hc : Chg E w w') (hE : ∀ b, F b → ¬ E b) : Dk w' F p S := by
  obtain ⟨s, sc, m, pv, V, h⟩ := h
  exact ⟨s, sc, m, pv, V, h.kept hc hE⟩
theorem Dk.wf (h : Dk w F p S) : S.Wf := by obtain ⟨_, _, _, _, _, h⟩ := h; exact h.wf
theorem Dk.lt (h : Dk w F p S) : ∀ b, F b → b < w.heap.size := by obtain ⟨_, _, _, _, _, h⟩ := h; exact h.lt
theorem Dk.fp (h : Dk w F p S) : F p := by obtain ⟨_, _, _, _, _, h⟩ := h; exact h.fp

theorem DkAt.pobj (h : DkAt w F p S s sc m pv V) : p < w.heap.size := (Array.getElem?_eq_some_iff.1 h.blk).1
theorem DkAt.c0 (h : DkAt w F p S s sc m pv V) : w.cell? ⟨p, 0, none⟩ = some (.slice (some ⟨s, 0, none⟩) (512 * S.nb) sc) := by rw [cell_of_row w p 0 _ _ _ h.blk]; rfl
theorem DkAt.c1 (h : DkAt w F p S s sc m pv V) : w.cell? ⟨p, 1, none⟩ = some (.map (some m)) := by rw [cell_of_row w p 1 _ _ _ h.blk]; rfl
theorem DkAt.c2 (h : DkAt w F p S s sc m pv V) : w.cell? ⟨p, 2, none⟩ = some (.int .i64 (S.writes : Int)) := by rw [cell_of_row w p 2 _ _ _ h.blk]; rfl
theorem DkAt.c3 (h : DkAt w F p S s sc m pv V) : w.cell? ⟨p, 3, none⟩ = some (.bool S.off) := by rw [cell_of_row w p 3 _ _ _ h.blk]; rfl
theorem DkAt.c4 (h : DkAt w F p S s sc m pv V) : w.cell? ⟨p, 4, none⟩ = some (.int .i64 S.arm) := by rw [cell_of_row w p 4 _ _ _ h.blk]; rfl
theorem DkAt.c5 (h : DkAt w F p S s sc m pv V) : w.cell? ⟨p, 5, none⟩ = some pv := by rw [cell_of_row w p 5 _ _ _ h.blk]; rfl
theorem DkAt.fr (h : DkAt w F p S s sc m pv V) (i : Nat) : w.frozen? ⟨p, i, none⟩ = false := by simp [World.frozen?, h.blk]

/-- Only the disk's struct has changed. -/
theorem DkAt.restruct {w' : World} {S' : St} {pv' : Value} (h : DkAt w F p S s sc m pv V) (hc : Chg (fun k => k = p) w w')
    (hb : w'.heap[p]? = some (.cells #[.slice (some ⟨s, 0, none⟩) (512 * S.nb) sc, .map (some m), .int .i64 (S'.writes : Int), .bool S'.off, .int .i64 S'.arm, pv'] 65 (0, 0)))
    (hwf : S'.Wf) (hn : S'.nb = S.nb) (hs : S'.syn = S.syn) (hw : S'.wait = S.wait) (hpk : w'.ownsRow 0 3 1 pv' S'.picks.length (S'.picks.map (Value.int .i64))) (hfk : ∀ g, pv'.ownBlock = some g → F g) : DkAt w' F p S' s sc m pv' V := by
  have ne_of : ∀ {b : Nat} {o : Obj}, w.heap[b]? = some o → (∀ cur, o ≠ .cells cur 65 (0, 0)) → ¬ b = p := fun ho hno e => by
    subst e; rw [h.blk] at ho; cases ho; exact hno _ rfl
  have hb' : ∀ b, b < w.heap.size → ¬ b = p → w'.heap[b]? = w.heap[b]? := fun b hl hne => hc.block b hl hne
  have hrow : ∀ {e : TypeId} {v : Value} {n : Nat} {xs : List Value}, e ≠ 65 → w.ownsRow 0 e 1 v n xs → ∀ g, v.ownBlock = some g → w'.heap[g]? = w.heap[g]? := fun he ho g hg => by
    obtain ⟨cur, hcur⟩ := own_obj ho hg
    exact hb' g (ho.lt g hg).2 (ne_of hcur (fun c e => he (Obj.cells.inj e).2.1))
  have hm : w'.heap[m]? = w.heap[m]? := by
    obtain ⟨es, cl, ho⟩ := h.map.obj
    exact hb' m h.map.lt (ne_of ho (fun c e => by cases e))
  have hmf : mf S' V = mf S V := by unfold mf; rw [hw]
  refine ⟨hwf, ?_, ?_, ?_, ?_, ?_, hpk, h.fp, h.fs, h.fm, ?_, hfk, fun b hf => Nat.lt_of_lt_of_le (h.lt b hf) hc.size⟩
  · rw [hn]; exact hb
  · rw [hn, hs]; exact own_same h.syn (hrow (by decide) h.syn)
  · rw [hn, hmf]; exact h.map.kept hm
  · intro n hne
    rw [hw] at hne ⊢
    have hv := h.row n hne
    refine hv.kept ?_ (fun g hf _ ⟨cur, hcur⟩ => hb' g (h.lt g hf) (ne_of hcur (fun c e => by cases e)))
    obtain ⟨us, h1, _⟩ := hv
    exact hrow (by decide) h1
  · rw [hw]; exact h.apart
  · rw [hw]; exact h.fv
end

set_option maxHeartbeats 400000 in
theorem blocks_any (F : Nat → Prop) (p : Nat) (S : St) (w : World) (h : Dk w F p S) : Calls Tryz.prog 24 #[.pointer (some ⟨p, 0, none⟩)] w fun e w' => e = .returned (.int .i64 (S.nb : Int)) ∧ w' = w := by
  obtain ⟨s, sc, m, pv, V, h⟩ := h
  have c0 := h.c0
  have hw := h.wf.top
  have e1 : Int.tdiv (512 * (S.nb : Int)) 512 = S.nb := by rw [Int.mul_tdiv_cancel_left _ (by decide)]
  have e2 : (512 * (S.nb : Int)) / 512 = S.nb := by omega
  clear h
  go_enter Tryz.func24, Tryz.ntmps24
  go_wp2
  go_ret
  simp

set_option maxHeartbeats 400000 in
theorem has_any (F : Nat → Prop) (p : Nat) (S : St) (n : Int) (w : World) (h : Dk w F p S) : Calls Tryz.prog 49 #[.pointer (some ⟨p, 0, none⟩), .int .i64 n] w fun e w' => e = .returned (.bool (decide (0 ≤ n ∧ n < S.nb))) ∧ w' = w := by
  by_cases h0 : 0 ≤ n
  · go_enter Tryz.func49, Tryz.ntmps49
    go_wp2_with fail
    refine (blocks_any F p S _ h).mono ?_
    rintro e w1 ⟨rfl, rfl⟩
    clear h
    go_wp2
    go_ret
    simp [h0]
  · have k0 : decide (0 ≤ n) = false := by simpa using h0
    clear h
    go_enter Tryz.func49, Tryz.ntmps49
    go_wp2
    go_ret
    simp
end Go.Proofs.YtmlhjcjonfalhaaGreat

namespace Go.Proofs.YtmlhjcjonfalhaaGreat
open Go.RowKit Go.Maps

/-- From w to w' the disk at p, whose blocks were F, has become S'; nothing else of what was there has changed. -/
def To (F : Nat → Prop) (p : Nat) (w w' : World) (S' : St) : Prop := ∃ F', Dk w' F' p S' ∧ Chg F w w' ∧ ∀ b, F' b → F b ∨ w.heap.size ≤ b
theorem To.refl {F : Nat → Prop} {p : Nat} {w : World} {S : St} (h : Dk w F p S) : To F p w w S := ⟨F, h, Chg.refl _ _, fun _ h => .inl h⟩
theorem To.trans {F F1 : Nat → Prop} {p : Nat} {w w1 w2 : World} {S2 : St} (hc : Chg F w w1) (hF : ∀ b, F1 b → F b ∨ w.heap.size ≤ b) (h2 : To F1 p w1 w2 S2) : To F p w w2 S2 := by
  obtain ⟨F2, h3, h4, h5⟩ := h2
  refine ⟨F2, h3, hc.trans h4 (fun i hi h => ?_), fun b hb => ?_⟩
  · rcases hF i h with h | h
    · exact h
    · omega
  · rcases h5 b hb with h | h
    · exact hF b h
    · exact .inr (Nat.le_trans hc.size h)
theorem To.own {F : Nat → Prop} {p : Nat} {w w' : World} {S' : St} (hF : F p) (h : Dk w' F p S') (hc : Chg (fun k => k = p) w w') : To F p w w' S' := ⟨F, h, hc.mono (fun i _ h => by rw [h]; exact hF), fun _ h => .inl h⟩

theorem DkAt.ne_pk {w : World} {F : Nat → Prop} {p : Nat} {S : St} {s sc m : Nat} {pv : Value} {V : Nat → Value} (h : DkAt w F p S s sc m pv V) : ∀ g, pv.ownBlock = some g → ¬ g = p := by
  rintro g hg rfl
  obtain ⟨cur, hcur⟩ := own_obj h.pk hg
  rw [h.blk] at hcur; cases hcur

theorem DkAt.struck {w : World} {F : Nat → Prop} {p : Nat} {S : St} {s sc m : Nat} {pv : Value} {V : Nat → Value} (h : DkAt w F p S s sc m pv V) {A : Int} (hA : S.arm = A) (h1 : 1 ≤ A) :
    DkAt (w.setCell ⟨p, 4, none⟩ (.int .i64 (A - 1))) F p S.struck s sc m pv V ∧ Chg (fun k => k = p) w (w.setCell ⟨p, 4, none⟩ (.int .i64 (A - 1))) := by
  have a0 := h.wf.arm0
  have a1 := h.wf.arm1
  have e : S.struck.arm = A - 1 := by
    show (if S.arm < 1 then S.arm else S.arm - 1) = A - 1
    rw [if_neg (by omega), hA]
  have hb := heap_setCell_same w p 4 _ _ (.int .i64 (A - 1)) h.blk
  have hc : Chg (fun k => k = p) w (w.setCell ⟨p, 4, none⟩ (.int .i64 (A - 1))) := Chg.setCell _ _ _ rfl
  refine ⟨h.restruct hc (by simp at hb; rw [e]; exact hb) ⟨h.wf.pos, h.wf.top, h.wf.syn, h.wf.ver, h.wf.out, h.wf.few, by rw [e]; omega, by rw [e]; omega⟩ rfl rfl rfl (own_same h.pk (fun g hg => hc.block g (h.lt g (h.fk g hg)) (h.ne_pk g hg))) h.fk, hc⟩

set_option maxHeartbeats 400000 in
theorem strikes_any (F : Nat → Prop) (p : Nat) (S : St) (w : World) (h : Dk w F p S) :
    Calls Tryz.prog 50 #[.pointer (some ⟨p, 0, none⟩)] w fun e w' => e = .returned (.bool (decide (S.arm = 1))) ∧ Dk w' F p S.struck ∧ Chg (fun k => k = p) w w' := by
  obtain ⟨s, sc, m, pv, V, h⟩ := h
  have c4 := h.c4
  have f4 := h.fr 4
  have a0 := h.wf.arm0
  have a1 := h.wf.arm1
  by_cases hlt : S.arm < 1
  · have e : S.struck = S := by show ({ S with arm := if S.arm < 1 then S.arm else S.arm - 1 } : St) = S; rw [if_pos hlt]
    rw [e]
    have HH : Hid (DkAt w F p S s sc m pv V) := h
    have k1 : decide (S.arm < 1) = true := by simpa using hlt
    have k2 : decide (S.arm = 1) = false := by simp; omega
    clear h
    go_enter Tryz.func50, Tryz.ntmps50
    go_wp2
    go_ret
    rw [k2]
    exact ⟨rfl, ⟨s, sc, m, pv, V, HH.out⟩, Chg.refl _ _⟩
  · have k1 : decide (S.arm < 1) = false := by simpa using hlt
    obtain ⟨A, hA⟩ : ∃ A, S.arm = A := ⟨_, rfl⟩
    have HH : Hid (DkAt (w.setCell ⟨p, 4, none⟩ (.int .i64 (A - 1))) F p S.struck s sc m pv V ∧ Chg (fun k => k = p) w (w.setCell ⟨p, 4, none⟩ (.int .i64 (A - 1)))) := h.struck hA (by omega)
    rw [hA] at c4 a0 a1 k1 hlt
    have HA : Hid (S.arm = A) := hA
    clear h hA
    go_enter Tryz.func50, Tryz.ntmps50
    go_wp2
    go_ret
    refine ⟨?_, ⟨s, sc, m, pv, V, HH.out.1⟩, HH.out.2⟩
    rw [HA.out]
    have : (A - 1 == 0) = decide (A = 1) := by
      rw [Bool.eq_iff_iff]; simp; omega
    simp [this]

theorem disarmed {w : World} {F : Nat → Prop} {p : Nat} {S : St} {s sc m : Nat} {pv : Value} {V : Nat → Value} (h : DkAt w F p S s sc m pv V) :
    DkAt ((w.setCell ⟨p, 4, none⟩ (.int .i64 0)).setCell ⟨p, 5, none⟩ (.slice none 0 0)) F p { S with arm := 0, picks := [] } s sc m (.slice none 0 0) V ∧ Chg (fun k => k = p) w ((w.setCell ⟨p, 4, none⟩ (.int .i64 0)).setCell ⟨p, 5, none⟩ (.slice none 0 0)) := by
  have hb := heap_setCell_same w p 4 _ _ (.int .i64 0) h.blk
  have hb2 := heap_setCell_same _ p 5 _ _ (.slice none 0 0) hb
  have hc : Chg (fun k => k = p) w ((w.setCell ⟨p, 4, none⟩ (.int .i64 0)).setCell ⟨p, 5, none⟩ (.slice none 0 0)) := (Chg.setCell (S := fun k => k = p) w ⟨p, 4, none⟩ _ rfl).trans (Chg.setCell (S := fun k => k = p) _ ⟨p, 5, none⟩ _ rfl) (fun _ _ h => h)
  exact ⟨h.restruct hc (by simpa using hb2) ⟨h.wf.pos, h.wf.top, h.wf.syn, h.wf.ver, h.wf.out, h.wf.few, by simp, by simp⟩ rfl rfl rfl (World.ownsRow_nil _ _ _ _) (fun g hg => by cases hg), hc⟩

set_option maxHeartbeats 400000 in
theorem disarm_any (F : Nat → Prop) (p : Nat) (S : St) (w : World) (h : Dk w F p S) :
    Calls Tryz.prog 47 #[.pointer (some ⟨p, 0, none⟩)] w fun e w' => e = .returned (.tuple #[]) ∧ Dk w' F p { S with arm := 0, picks := [] } ∧ Chg (fun k => k = p) w w' := by
  obtain ⟨s, sc, m, pv, V, h⟩ := h
  have c4 := h.c4
  have c5 := h.c5
  have f4 := h.fr 4
  have f5 := h.fr 5
  have HH : Hid (DkAt w F p S s sc m pv V) := h
  clear h
  go_enter Tryz.func47, Tryz.ntmps47
  go_wp2
  go_end0
  have := disarmed HH.out
  exact ⟨rfl, ⟨s, sc, m, _, V, this.1⟩, this.2⟩

theorem DkAt.setOff {w : World} {F : Nat → Prop} {p : Nat} {S : St} {s sc m : Nat} {pv : Value} {V : Nat → Value} (h : DkAt w F p S s sc m pv V) (b : Bool) :
    DkAt (w.setCell ⟨p, 3, none⟩ (.bool b)) F p { S with off := b } s sc m pv V ∧ Chg (fun k => k = p) w (w.setCell ⟨p, 3, none⟩ (.bool b)) := by
  have hb := heap_setCell_same w p 3 _ _ (.bool b) h.blk
  have hc : Chg (fun k => k = p) w (w.setCell ⟨p, 3, none⟩ (.bool b)) := Chg.setCell _ _ _ rfl
  exact ⟨h.restruct hc (by simpa using hb) ⟨h.wf.pos, h.wf.top, h.wf.syn, h.wf.ver, h.wf.out, h.wf.few, h.wf.arm0, h.wf.arm1⟩ rfl rfl rfl (own_same h.pk (fun g hg => hc.block g (h.lt g (h.fk g hg)) (h.ne_pk g hg))) h.fk, hc⟩

set_option maxHeartbeats 400000 in
theorem on_any (F : Nat → Prop) (p : Nat) (S : St) (w : World) (h : Dk w F p S) :
    Calls Tryz.prog 20 #[.pointer (some ⟨p, 0, none⟩)] w fun e w' => e = .returned (.tuple #[]) ∧ Dk w' F p S.on ∧ Chg (fun k => k = p) w w' := by
  obtain ⟨s, sc, m, pv, V, h⟩ := h
  have c3 := h.c3
  have f3 := h.fr 3
  obtain ⟨h1, hc1⟩ := h.setOff false
  have H1 : Hid (DkAt (w.setCell ⟨p, 3, none⟩ (.bool false)) F p { S with off := false } s sc m pv V) := h1
  clear h h1
  go_enter Tryz.func20, Tryz.ntmps20
  go_wp2_with fail
  refine (disarm_any F p { S with off := false } _ ⟨s, sc, m, pv, V, H1.out⟩).mono ?_
  rintro e w2 ⟨rfl, h2, hc2⟩
  clear H1 c3 f3
  go_wp2
  go_end0
  exact ⟨rfl, h2, hc1.trans hc2 (fun _ _ h => h)⟩

set_option maxHeartbeats 400000 in
theorem rest_any (q : Int) (k : Nat) (w : World) (hk : k < 1099511627776) :
    Calls Tryz.prog 46 #[.int .i64 q, .int .i64 ((k : Int) + 1)] w fun e w' => e = .returned (.int .i64 (St.pickN q k : Int)) ∧ w' = w := by
  have hp : (0 : Int) < (k : Int) + 1 := by omega
  have e1 : ((St.pickN q k : Nat) : Int) = q % ((k : Int) + 1) := by
    unfold St.pickN
    have := Int.emod_nonneg q (b := (k : Int) + 1) (by omega)
    omega
  have t1 := Int.tmod_lt_of_pos q hp
  have t2 : -((k : Int) + 1) < q.tmod ((k : Int) + 1) := by
    have h9 := Int.tmod_lt_of_pos (-q) hp
    rw [Int.neg_tmod] at h9
    omega
  have e2 : (q.tmod ((k : Int) + 1) + ((k : Int) + 1)).tmod ((k : Int) + 1) = q % ((k : Int) + 1) := by
    rw [Int.tmod_eq_emod_of_nonneg (by omega), Int.add_emod_right]
    by_cases hq : 0 ≤ q
    · rw [Int.tmod_eq_emod_of_nonneg hq, Int.emod_emod]
    · have h5 : q = -(-q) := by omega
      have h6 : q.tmod ((k : Int) + 1) = -((-q).tmod ((k : Int) + 1)) := by rw [← Int.neg_tmod]; simp
      rw [h6, Int.tmod_eq_emod_of_nonneg (by omega)]
      have h7 := Int.emod_add_mul_ediv (-q) ((k : Int) + 1)
      have h8 : -((-q) % ((k : Int) + 1)) = q + ((k : Int) + 1) * ((-q) / ((k : Int) + 1)) := by omega
      rw [h8, Int.add_mul_emod_self_left]
  rw [e1]
  clear e1
  have z1 : ¬ ((k : Int) + 1 = 0) := by omega
  go_enter Tryz.func46, Tryz.ntmps46
  go_wp2
  go_ret
  exact ⟨rfl, rfl⟩

theorem info5 : (Tryz.prog.info? 5).map (fun i => (i.zero, i.size, i.bytes)) = some (some (.int .u8 0), 1, 1) := by kernel_rfl
theorem info3 : (Tryz.prog.info? 3).map (fun i => (i.zero, i.size, i.bytes)) = some (some (.int .i64 0), 1, 8) := by kernel_rfl

/-- A slice of numbers that reads xs. -/
def Is (w : World) (v : Value) (xs : List Int) : Prop :=
  (v = .slice none 0 0 ∧ xs = []) ∨
  ∃ a c, v = .slice (some a) xs.length c ∧ xs.length ≤ c ∧ c ≤ maxLen ∧ ∀ j, j < xs.length → w.cell? (a.add j) = some (.int .i64 (xs.getD j 0))
theorem Is.kept {E : Nat → Prop} {w w' : World} {v : Value} {xs : List Int} (h : Is w v xs) (hc : Chg E w w') (hn : ∀ g, v.ownBlock = some g → ¬ E g) : Is w' v xs := by
  rcases h with h | ⟨a, c, rfl, hl, hm, hcell⟩
  · exact .inl h
  · refine .inr ⟨a, c, rfl, hl, hm, fun j hj => ?_⟩
    refine hc.cell (hcell j hj) ?_
    have e : (a.add j).block = a.block := by unfold Addr.add; split <;> rfl
    rw [e]; exact hn _ rfl
theorem Is.ofOwns {w : World} {N : Nat} {v : Value} {n : Nat} {xs : List Int} (h : w.ownsRow N 3 1 v n (xs.map (Value.int .i64))) : Is w v xs := by
  have hn : xs.length = n := by have := h.1; simpa using this
  subst hn
  rcases h.2 with ⟨rfl, h0⟩ | ⟨g, cap, cur, rfl, hb, hg, hnc, hcm, hcs, htake⟩
  · exact .inl ⟨rfl, List.eq_nil_of_length_eq_zero h0⟩
  · refine .inr ⟨⟨g, 0, none⟩, cap, rfl, hnc, hcm, fun j hj => ?_⟩
    refine h.cells (g := g) rfl j _ ?_
    simp [List.getD, hj]
theorem Is.form {w : World} {v : Value} {xs : List Int} (h : Is w v xs) : ∃ a c, v = .slice a xs.length c ∧ xs.length ≤ c := by
  rcases h with ⟨rfl, rfl⟩ | ⟨a, c, rfl, hl, _⟩
  · exact ⟨none, 0, rfl, Nat.le_refl _⟩
  · exact ⟨some a, c, rfl, hl⟩
theorem Bs.form {w : World} {v : Value} {xs : List Int} (h : Bs w v xs) : ∃ a c, v = .slice a xs.length c ∧ xs.length ≤ c := by
  rcases h with ⟨rfl, rfl⟩ | ⟨a, c, rfl, hl, _⟩
  · exact ⟨none, 0, rfl, Nat.le_refl _⟩
  · exact ⟨some a, c, rfl, hl⟩

/-- append(v, x...) where v is an empty slice that the call has made. -/
theorem run_app_ints {P : Program} (w : World) (t ty : TypeId) (i : TypeInfo) (ht : P.underlying t = some (.slice 3)) (hi : P.info? 3 = some i) (hz : i.zero = some (.int .i64 0)) (hs : i.size = 1) (hb : i.bytes = 8)
    (v x : Value) (N : Nat) (news : List Int) (hown : w.ownsRow N 3 1 v 0 []) (hx : Is w x news) (hlen : news.length ≤ 1099511627776) (hN : N ≤ w.heap.size) :
    ∃ v' w', (Builtin.append_ #[t, t] ty #[v, x]).run P w = .ok v' w' ∧ w'.ownsRow N 3 1 v' news.length (news.map (Value.int .i64)) ∧ w.grownBy w' v.ownBlock ∧ (v'.ownBlock = v.ownBlock ∨ v'.ownBlock = some w.heap.size) := by
  rcases hx with ⟨rfl, rfl⟩ | ⟨a, c, rfl, _, _, hcell⟩
  · exact ⟨v, w, run_append_owned_none w N t ty 3 i 1 ht hi v _ _ hown, by simpa using hown, ⟨rfl, rfl, rfl, Nat.le_refl _, fun _ _ _ => rfl⟩, .inl rfl⟩
  · obtain ⟨v', w', h1, h2, h3, _, h5⟩ := run_append_own_at (P := P) w N t ty 3 i (.int .i64 0) 1 8 ht hi hz hs hb rfl (by decide) v 0 [] hown a news.length c (news.map (Value.int .i64)) (by simp)
      (fun j u hu => by
        have hj : j < news.length := by simpa using (List.getElem?_eq_some_iff.1 hu).1
        have : u = .int .i64 (news.getD j 0) := by
          simp [hj] at hu
          simp [List.getD, hj, ← hu]
        rw [this]; exact hcell j hj) (fun u hu => by obtain ⟨z, _, rfl⟩ := List.mem_map.1 hu; rfl) (by unfold maxLen; omega) (by omega) hN
    exact ⟨v', w', h1, by simpa using h2, h3, h5⟩

theorem eq33_nil (w : World) : (binOp .eql 26 (.slice none 0 0) (.slice none 0 0)).run Tryz.prog w = .ok (.bool true) w := by kernel_rfl
theorem eq33_some (a : Addr) (n c : Nat) (w : World) : (binOp .eql 26 (.slice (some a) n c) (.slice none 0 0)).run Tryz.prog w = .ok (.bool false) w := by kernel_rfl
theorem eq32_nil (w : World) : (binOp .eql 50 (.slice none 0 0) (.slice none 0 0)).run Tryz.prog w = .ok (.bool true) w := by kernel_rfl
theorem eq32_some (a : Addr) (n c : Nat) (w : World) : (binOp .eql 50 (.slice (some a) n c) (.slice none 0 0)).run Tryz.prog w = .ok (.bool false) w := by kernel_rfl

set_option maxHeartbeats 400000 in
set_option maxRecDepth 100000 in
/-- slices.Clone at numbers: new memory that holds the same. -/
theorem cloneI_any (v : Value) (xs : List Int) (w : World) (h : Is w v xs) (hlen : xs.length ≤ 1099511627776) :
    Calls Tryz.prog 55 #[v] w fun e w' => ∃ u, e = .returned u ∧ w'.ownsRow w.heap.size 3 1 u xs.length (xs.map (Value.int .i64)) ∧ Chg (fun _ => False) w w' := by
  obtain ⟨i0, hi, hz0, hz1, hz2⟩ := info_parts info3
  rcases h with ⟨rfl, rfl⟩ | ⟨a, c, rfl, hl, hm, hcell⟩
  · have hq := eq33_nil
    go_enter Tryz.func55, Tryz.ntmps55
    go_wp2
    go_ret
    exact ⟨_, rfl, World.ownsRow_nil _ _ _ _, Chg.refl _ _⟩
  · have h2 : Is (w.alloc (.cells #[] 3)) (.slice (some a) xs.length c) xs := Is.kept (.inr ⟨a, c, rfl, hl, hm, hcell⟩) (Chg.alloc (fun _ => False) w _) (fun _ _ h => h)
    obtain ⟨v', w', hr, ho, hg, hat⟩ := run_app_ints (w.alloc (.cells #[] 3)) 26 26 i0 Tryz.underlying26 hi hz0 hz1 hz2 (.slice (some ⟨w.heap.size, 0, none⟩) 0 0) _ w.heap.size xs (World.ownsRow_made w #[] 0 (Nat.le_refl _) (by simp [maxLen]) rfl) h2 hlen (by simp)
    have hc : Chg (fun _ => False) w w' := ⟨hg.os, hg.tape, hg.output, Nat.le_trans (by simp) hg.size, fun k hk _ => (hg.block k (by simp; omega) (by simp [Value.ownBlock]; omega)).trans (Below.heap_alloc w _ k hk)⟩
    clear h2 hg hat hcell hlen hm
    have hq := eq33_some a xs.length c
    go_enter Tryz.func55, Tryz.ntmps55
    go_wp2_with (at_builtin; go_must (refine Lib.wpList_append_run _ rfl (.tmp 5) (.tmp 6) 26 26 rfl _ _ rfl rfl v' w' hr ?_))
    go_ret
    exact ⟨v', rfl, ho, hc⟩

set_option maxHeartbeats 400000 in
set_option maxRecDepth 100000 in
/-- bytes.Clone: new memory that holds the same. -/
theorem cloneB_any (v : Value) (xs : List Int) (w : World) (h : Bs w v xs) (hlen : xs.length ≤ 1099511627776) :
    Calls Tryz.prog 36 #[v] w fun e w' => ∃ u, e = .returned u ∧ w'.ownsRow w.heap.size 5 1 u xs.length (bcells xs) ∧ Chg (fun _ => False) w w' := by
  obtain ⟨i0, hi, hz0, hz1, hz2⟩ := info_parts info5
  rcases h with ⟨rfl, rfl⟩ | ⟨a, c, rfl, hl, hm, hcell⟩
  · have hq := eq32_nil
    go_enter Tryz.func36, Tryz.ntmps36
    go_wp2
    go_ret
    exact ⟨_, rfl, World.ownsRow_nil _ _ _ _, Chg.refl _ _⟩
  · have h2 : Bs (w.alloc (.cells #[] 5)) (.slice (some a) xs.length c) xs := Bs.kept (.inr ⟨a, c, rfl, hl, hm, hcell⟩) (Chg.alloc (fun _ => False) w _) (fun _ _ _ _ _ h => h)
    obtain ⟨v', w', hr, ho, hg, hat⟩ := run_app (w.alloc (.cells #[] 5)) w.heap.size 50 50 i0 Tryz.underlying50 hi hz0 hz1 hz2 (.slice (some ⟨w.heap.size, 0, none⟩) 0 0) _ 0 [] xs (by simpa [bcells] using World.ownsRow_made (size := 1) w #[] 0 (Nat.le_refl _) (by simp [maxLen]) rfl) h2 (by simpa using hlen) (by simp)
    simp only [Nat.zero_add, List.nil_append] at ho
    have hc : Chg (fun _ => False) w w' := ⟨hg.os, hg.tape, hg.output, Nat.le_trans (by simp) hg.size, fun k hk _ => (hg.block k (by simp; omega) (by simp [Value.ownBlock]; omega)).trans (Below.heap_alloc w _ k hk)⟩
    clear h2 hg hat hcell hlen hm
    have hq := eq32_some a xs.length c
    go_enter Tryz.func36, Tryz.ntmps36
    go_wp2_with (at_builtin; go_must (refine Lib.wpList_append_run _ rfl (.tmp 5) (.tmp 6) 50 50 rfl _ _ rfl rfl v' w' hr ?_))
    go_ret
    exact ⟨v', rfl, ho, hc⟩
end Go.Proofs.YtmlhjcjonfalhaaGreat

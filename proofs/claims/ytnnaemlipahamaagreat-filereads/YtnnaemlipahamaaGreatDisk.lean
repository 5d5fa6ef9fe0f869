/-
  A disk of package block in memory: which blocks it owns and what they hold; and the contracts of its small methods.
-/
import Derived.Test.YtnnaemlipahamaaGreatMaps
import Derived.Handy
import Derived.WalkSpells
import Derived.WalkLawsBesides
namespace Go.Proofs.YtnnaemlipahamaaGreat
open Go.RowKit Go.Maps

theorem own_same {w w' : World} {N : Nat} {e : TypeId} {sz : Nat} {v : Value} {n : Nat} {xs : List Value} (h : w.ownsRow N e sz v n xs) (hb : ∀ g, v.ownBlock = some g → w'.heap[g]? = w.heap[g]?) : w'.ownsRow N e sz v n xs := by
  refine ⟨h.1, ?_⟩
  rcases h.2 with h2 | ⟨g, cap, cur, rfl, h3, h4, r⟩
  · exact .inl h2
  · exact .inr ⟨g, cap, cur, rfl, h3, (hb g rfl).trans h4, r⟩
theorem own_mono {w : World} {N N' : Nat} {e : TypeId} {sz : Nat} {v : Value} {n : Nat} {xs : List Value} (h : w.ownsRow N' e sz v n xs) (hN : N ≤ N') : w.ownsRow N e sz v n xs := by
  refine ⟨h.1, ?_⟩
  rcases h.2 with h2 | ⟨g, cap, cur, e, hb, r⟩
  · exact .inl h2
  · exact .inr ⟨g, cap, cur, e, by omega, r⟩
theorem own_obj {w : World} {N : Nat} {e : TypeId} {sz : Nat} {v : Value} {n : Nat} {xs : List Value} {g : Nat} (h : w.ownsRow N e sz v n xs) (hg : v.ownBlock = some g) : ∃ cur, w.heap[g]? = some (.cells cur e (0, 0)) := by
  rcases h.2 with ⟨rfl, _⟩ | ⟨g', cap, cur, rfl, _, h4, _⟩
  · cases hg
  · cases hg; exact ⟨cur, h4⟩

/-- What the disk's map holds: nothing at a block of which nothing waits, else the list of its versions. -/
def mf (S : St) (V : Nat → Value) (n : Nat) : Option Value := if (S.wait n).isEmpty then none else some (V n)
theorem mf_none {S : St} {V : Nat → Value} {n : Nat} (h : S.wait n = []) : mf S V n = none := by simp [mf, h]
theorem mf_some {S : St} {V : Nat → Value} {n : Nat} (h : S.wait n ≠ []) : mf S V n = some (V n) := by simp [mf, List.isEmpty_iff, h]

/-- The list of block n's versions. -/
def Vers (w : World) (F : Nat → Prop) (s : Nat) (v : Value) (bss : List (List Int)) : Prop :=
  ∃ us : List Value, w.ownsRow 0 33 1 v bss.length us ∧ ∀ j, j < bss.length → ∃ g c, us[j]? = some (.slice (some ⟨g, 0, none⟩) 512 c) ∧ w.ownsRow 0 5 1 (.slice (some ⟨g, 0, none⟩) 512 c) 512 (bcells (bss.getD j [])) ∧ g ≠ s ∧ F g

/-- The disk at p is S; F: its blocks. -/
structure DkAt (w : World) (F : Nat → Prop) (p : Nat) (S : St) (s sc m : Nat) (pv : Value) (V : Nat → Value) : Prop where
  wf : S.Wf
  blk : w.heap[p]? = some (.cells #[.slice (some ⟨s, 0, none⟩) (512 * S.nb) sc, .map (some m), .int .i64 (S.writes : Int), .bool S.off, .int .i64 S.arm, pv] 116 (0, 0))
  syn : w.ownsRow 0 5 1 (.slice (some ⟨s, 0, none⟩) (512 * S.nb) sc) (512 * S.nb) (bcells (St.flat S.nb S.syn))
  map : MapIs w m S.nb (mf S V)
  row : ∀ n, S.wait n ≠ [] → Vers w F s (V n) (S.wait n)
  apart : ∀ n k g, S.wait n ≠ [] → S.wait k ≠ [] → n ≠ k → (V n).ownBlock = some g → (V k).ownBlock ≠ some g
  pk : w.ownsRow 0 3 1 pv S.picks.length (S.picks.map (Value.int .i64))
  fp : F p
  fs : F s
  fm : F m
  fv : ∀ n g, S.wait n ≠ [] → (V n).ownBlock = some g → F g
  fk : ∀ g, pv.ownBlock = some g → F g
  lt : ∀ b, F b → b < w.heap.size
def Dk (w : World) (F : Nat → Prop) (p : Nat) (S : St) : Prop := ∃ s sc m pv V, DkAt w F p S s sc m pv V

theorem Vers.kept {w w' : World} {F : Nat → Prop} {s : Nat} {v : Value} {bss : List (List Int)} (h : Vers w F s v bss) (hv : ∀ g, v.ownBlock = some g → w'.heap[g]? = w.heap[g]?) (hF : ∀ g, F g → g ≠ s → (∃ cur, w.heap[g]? = some (.cells cur 5 (0, 0))) → w'.heap[g]? = w.heap[g]?) : Vers w' F s v bss := by
  obtain ⟨us, h1, h2⟩ := h
  refine ⟨us, own_same h1 hv, fun j hj => ?_⟩
  obtain ⟨g, c, e, ho, hs, hf⟩ := h2 j hj
  exact ⟨g, c, e, own_same ho (fun g' hg' => by cases hg'; exact hF g hf hs (own_obj ho rfl)), hs, hf⟩
theorem Vers.mono {w : World} {F F' : Nat → Prop} {s : Nat} {v : Value} {bss : List (List Int)} (h : Vers w F s v bss) (hF : ∀ b, F b → F' b) : Vers w F' s v bss := by
  obtain ⟨us, h1, h2⟩ := h
  refine ⟨us, h1, fun j hj => ?_⟩
  obtain ⟨g, c, e, ho, hs, hf⟩ := h2 j hj
  exact ⟨g, c, e, ho, hs, hF _ hf⟩

section
variable {w : World} {F : Nat → Prop} {p : Nat} {S : St} {s sc m : Nat} {pv : Value} {V : Nat → Value}

theorem DkAt.kept {w' : World} {E : Nat → Prop} (h : DkAt w F p S s sc m pv V) (hc : Chg E w w') (hE : ∀ b, F b → ¬ E b) : DkAt w' F p S s sc m pv V := by
  have hb : ∀ b, F b → w'.heap[b]? = w.heap[b]? := fun b hf => hc.block b (h.lt b hf) (hE b hf)
  exact ⟨h.wf, (hb p h.fp).trans h.blk, own_same h.syn (fun g hg => by cases hg; exact hb s h.fs), h.map.kept (hb m h.fm), fun n hn => (h.row n hn).kept (fun g hg => hb g (h.fv n g hn hg)) (fun g hf _ _ => hb g hf), h.apart,
    own_same h.pk (fun g hg => hb g (h.fk g hg)), h.fp, h.fs, h.fm, h.fv, h.fk, fun b hf => Nat.lt_of_lt_of_le (h.lt b hf) hc.size⟩
theorem Dk.kept {w' : World} {E : Nat → Prop} (h : Dk w F p S) (hc : Chg E w w') (hE : ∀ b, F b → ¬ E b) : Dk w' F p S := by
  obtain ⟨s, sc, m, pv, V, h⟩ := h
  exact ⟨s, sc, m, pv, V, h.kept hc hE⟩
theorem Dk.wf (h : Dk w F p S) : S.Wf := by obtain ⟨_, _, _, _, _, h⟩ := h; exact h.wf
theorem Dk.lt (h : Dk w F p S) : ∀ b, F b → b < w.heap.size := by obtain ⟨_, _, _, _, _, h⟩ := h; exact h.lt
theorem Dk.fp (h : Dk w F p S) : F p := by obtain ⟨_, _, _, _, _, h⟩ := h; exact h.fp

theorem DkAt.pobj (h : DkAt w F p S s sc m pv V) : p < w.heap.size := (Array.getElem?_eq_some_iff.1 h.blk).1
theorem DkAt.c0 (h : DkAt w F p S s sc m pv V) : w.cell? ⟨p, 0, none⟩ = some (.slice (some ⟨s, 0, none⟩) (512 * S.nb) sc) := by rw [cell_of_row w p 0 _ _ _ h.blk]; rfl
theorem DkAt.c1 (h : DkAt w F p S s sc m pv V) : w.cell? ⟨p, 1, none⟩ = some (.map (some m)) := by rw [cell_of_row w p 1 _ _ _ h.blk]; rfl
theorem DkAt.c2 (h : DkAt w F p S s sc m pv V) : w.cell? ⟨p, 2, none⟩ = some (.int .i64 (S.writes : Int)) := by rw [cell_of_row w p 2 _ _ _ h.blk]; rfl
theorem DkAt.c3 (h : DkAt w F p S s sc m pv V) : w.cell? ⟨p, 3, none⟩ = some (.bool S.off) := by rw [cell_of_row w p 3 _ _ _ h.blk]; rfl
theorem DkAt.c4 (h : DkAt w F p S s sc m pv V) : w.cell? ⟨p, 4, none⟩ = some (.int .i64 S.arm) := by rw [cell_of_row w p 4 _ _ _ h.blk]; rfl
theorem DkAt.c5 (h : DkAt w F p S s sc m pv V) : w.cell? ⟨p, 5, none⟩ = some pv := by rw [cell_of_row w p 5 _ _ _ h.blk]; rfl
theorem DkAt.fr (h : DkAt w F p S s sc m pv V) (i : Nat) : w.frozen? ⟨p, i, none⟩ = false := by simp [World.frozen?, h.blk]

/-- Only the disk's struct has changed. -/
theorem DkAt.restruct {w' : World} {S' : St} {pv' : Value} (h : DkAt w F p S s sc m pv V) (hc : Chg (fun k => k = p) w w')
    (hb : w'.heap[p]? = some (.cells #[.slice (some ⟨s, 0, none⟩) (512 * S.nb) sc, .map (some m), .int .i64 (S'.writes : Int), .bool S'.off, .int .i64 S'.arm, pv'] 116 (0, 0)))
    (hwf : S'.Wf) (hn : S'.nb = S.nb) (hs : S'.syn = S.syn) (hw : S'.wait = S.wait) (hpk : w'.ownsRow 0 3 1 pv' S'.picks.length (S'.picks.map (Value.int .i64))) (hfk : ∀ g, pv'.ownBlock = some g → F g) : DkAt w' F p S' s sc m pv' V := by
  have ne_of : ∀ {b : Nat} {o : Obj}, w.heap[b]? = some o → (∀ cur, o ≠ .cells cur 116 (0, 0)) → ¬ b = p := fun ho hno e => by
    subst e; rw [h.blk] at ho; cases ho; exact hno _ rfl
  have hb' : ∀ b, b < w.heap.size → ¬ b = p → w'.heap[b]? = w.heap[b]? := fun b hl hne => hc.block b hl hne
  have hrow : ∀ {e : TypeId} {v : Value} {n : Nat} {xs : List Value}, e ≠ 116 → w.ownsRow 0 e 1 v n xs → ∀ g, v.ownBlock = some g → w'.heap[g]? = w.heap[g]? := fun he ho g hg => by
    obtain ⟨cur, hcur⟩ := own_obj ho hg
    exact hb' g (ho.lt g hg).2 (ne_of hcur (fun c e => he (Obj.cells.inj e).2.1))
  have hm : w'.heap[m]? = w.heap[m]? := by
    obtain ⟨es, cl, ho⟩ := h.map.obj
    exact hb' m h.map.lt (ne_of ho (fun c e => by cases e))
  have hmf : mf S' V = mf S V := by unfold mf; rw [hw]
  refine ⟨hwf, ?_, ?_, ?_, ?_, ?_, hpk, h.fp, h.fs, h.fm, ?_, hfk, fun b hf => Nat.lt_of_lt_of_le (h.lt b hf) hc.size⟩
  · rw [hn]; exact hb
  · rw [hn, hs]; exact own_same h.syn (hrow (by decide) h.syn)
  · rw [hn, hmf]; exact h.map.kept hm
  · intro n hne
    rw [hw] at hne ⊢
    have hv := h.row n hne
    refine hv.kept ?_ (fun g hf _ ⟨cur, hcur⟩ => hb' g (h.lt g hf) (ne_of hcur (fun c e => by cases e)))
    obtain ⟨us, h1, _⟩ := hv
    exact hrow (by decide) h1
  · rw [hw]; exact h.apart
  · rw [hw]; exact h.fv
end

set_option maxHeartbeats 400000 in
theorem blocks_any (F : Nat → Prop) (p : Nat) (S : St) (w : World) (h : Dk w F p S) : Calls Tryz.prog 54 #[.pointer (some ⟨p, 0, none⟩)] w fun e w' => e = .returned (.int .i64 (S.nb : Int)) ∧ w' = w := by
  obtain ⟨s, sc, m, pv, V, h⟩ := h
  have c0 := h.c0
  have hw := h.wf.top
  have e1 : Int.tdiv (512 * (S.nb : Int)) 512 = S.nb := by rw [Int.mul_tdiv_cancel_left _ (by decide)]
  have e2 : (512 * (S.nb : Int)) / 512 = S.nb := by omega
  clear h
  go_enter Tryz.func54, Tryz.ntmps54
  go_wp2
  go_ret
  simp

set_option maxHeartbeats 400000 in
theorem has_any (F : Nat → Prop) (p : Nat) (S : St) (n : Int) (w : World) (h : Dk w F p S) : Calls Tryz.prog 85 #[.pointer (some ⟨p, 0, none⟩), .int .i64 n] w fun e w' => e = .returned (.bool (decide (0 ≤ n ∧ n < S.nb))) ∧ w' = w := by
  by_cases h0 : 0 ≤ n
  · go_enter Tryz.func85, Tryz.ntmps85
    go_wp2_with fail
    refine (blocks_any F p S _ h).mono ?_
    rintro e w1 ⟨rfl, rfl⟩
    clear h
    go_wp2
    go_ret
    simp [h0]
  · have k0 : decide (0 ≤ n) = false := by simpa using h0
    clear h
    go_enter Tryz.func85, Tryz.ntmps85
    go_wp2
    go_ret
    simp
end Go.Proofs.YtnnaemlipahamaaGreat

namespace Go.Proofs.YtnnaemlipahamaaGreat
open Go.RowKit Go.Maps

/-- From w to w' the disk at p, whose blocks were F, has become S'; nothing else of what was there has changed. -/
def To (F : Nat → Prop) (p : Nat) (w w' : World) (S' : St) : Prop := ∃ F', Dk w' F' p S' ∧ Chg F w w' ∧ ∀ b, F' b → F b ∨ w.heap.size ≤ b
theorem To.refl {F : Nat → Prop} {p : Nat} {w : World} {S : St} (h : Dk w F p S) : To F p w w S := ⟨F, h, Chg.refl _ _, fun _ h => .inl h⟩
theorem To.trans {F F1 : Nat → Prop} {p : Nat} {w w1 w2 : World} {S2 : St} (hc : Chg F w w1) (hF : ∀ b, F1 b → F b ∨ w.heap.size ≤ b) (h2 : To F1 p w1 w2 S2) : To F p w w2 S2 := by
  obtain ⟨F2, h3, h4, h5⟩ := h2
  refine ⟨F2, h3, hc.trans h4 (fun i hi h => ?_), fun b hb => ?_⟩
  · rcases hF i h with h | h
    · exact h
    · omega
  · rcases h5 b hb with h | h
    · exact hF b h
    · exact .inr (Nat.le_trans hc.size h)
theorem To.own {F : Nat → Prop} {p : Nat} {w w' : World} {S' : St} (hF : F p) (h : Dk w' F p S') (hc : Chg (fun k => k = p) w w') : To F p w w' S' := ⟨F, h, hc.mono (fun i _ h => by rw [h]; exact hF), fun _ h => .inl h⟩

theorem DkAt.ne_pk {w : World} {F : Nat → Prop} {p : Nat} {S : St} {s sc m : Nat} {pv : Value} {V : Nat → Value} (h : DkAt w F p S s sc m pv V) : ∀ g, pv.ownBlock = some g → ¬ g = p := by
  rintro g hg rfl
  obtain ⟨cur, hcur⟩ := own_obj h.pk hg
  rw [h.blk] at hcur; cases hcur

theorem DkAt.struck {w : World} {F : Nat → Prop} {p : Nat} {S : St} {s sc m : Nat} {pv : Value} {V : Nat → Value} (h : DkAt w F p S s sc m pv V) {A : Int} (hA : S.arm = A) (h1 : 1 ≤ A) :
    DkAt (w.setCell ⟨p, 4, none⟩ (.int .i64 (A - 1))) F p S.struck s sc m pv V ∧ Chg (fun k => k = p) w (w.setCell ⟨p, 4, none⟩ (.int .i64 (A - 1))) := by
  have a0 := h.wf.arm0
  have a1 := h.wf.arm1
  have e : S.struck.arm = A - 1 := by
    show (if S.arm < 1 then S.arm else S.arm - 1) = A - 1
    rw [if_neg (by omega), hA]
  have hb := heap_setCell_same w p 4 _ _ (.int .i64 (A - 1)) h.blk
  have hc : Chg (fun k => k = p) w (w.setCell ⟨p, 4, none⟩ (.int .i64 (A - 1))) := Chg.setCell _ _ _ rfl
  refine ⟨h.restruct hc (by simp at hb; rw [e]; exact hb) ⟨h.wf.pos, h.wf.top, h.wf.syn, h.wf.ver, h.wf.out, h.wf.few, by rw [e]; omega, by rw [e]; omega⟩ rfl rfl rfl (own_same h.pk (fun g hg => hc.block g (h.lt g (h.fk g hg)) (h.ne_pk g hg))) h.fk, hc⟩

set_option maxHeartbeats 400000 in
theorem strikes_any (F : Nat → Prop) (p : Nat) (S : St) (w : World) (h : Dk w F p S) :
    Calls Tryz.prog 86 #[.pointer (some ⟨p, 0, none⟩)] w fun e w' => e = .returned (.bool (decide (S.arm = 1))) ∧ Dk w' F p S.struck ∧ Chg (fun k => k = p) w w' := by
  obtain ⟨s, sc, m, pv, V, h⟩ := h
  have c4 := h.c4
  have f4 := h.fr 4
  have a0 := h.wf.arm0
  have a1 := h.wf.arm1
  by_cases hlt : S.arm < 1
  · have e : S.struck = S := by show ({ S with arm := if S.arm < 1 then S.arm else S.arm - 1 } : St) = S; rw [if_pos hlt]
    rw [e]
    have HH : Hid (DkAt w F p S s sc m pv V) := h
    have k1 : decide (S.arm < 1) = true := by simpa using hlt
    have k2 : decide (S.arm = 1) = false := by simp; omega
    clear h
    go_enter Tryz.func86, Tryz.ntmps86
    go_wp2
    go_ret
    rw [k2]
    exact ⟨rfl, ⟨s, sc, m, pv, V, HH.out⟩, Chg.refl _ _⟩
  · have k1 : decide (S.arm < 1) = false := by simpa using hlt
    obtain ⟨A, hA⟩ : ∃ A, S.arm = A := ⟨_, rfl⟩
    have HH : Hid (DkAt (w.setCell ⟨p, 4, none⟩ (.int .i64 (A - 1))) F p S.struck s sc m pv V ∧ Chg (fun k => k = p) w (w.setCell ⟨p, 4, none⟩ (.int .i64 (A - 1)))) := h.struck hA (by omega)
    rw [hA] at c4 a0 a1 k1 hlt
    have HA : Hid (S.arm = A) := hA
    clear h hA
    go_enter Tryz.func86, Tryz.ntmps86
    go_wp2
    go_ret
    refine ⟨?_, ⟨s, sc, m, pv, V, HH.out.1⟩, HH.out.2⟩
    rw [HA.out]
    have : (A - 1 == 0) = decide (A = 1) := by
      rw [Bool.eq_iff_iff]; simp; omega
    simp [this]

theorem disarmed {w : World} {F : Nat → Prop} {p : Nat} {S : St} {s sc m : Nat} {pv : Value} {V : Nat → Value} (h : DkAt w F p S s sc m pv V) :
    DkAt ((w.setCell ⟨p, 4, none⟩ (.int .i64 0)).setCell ⟨p, 5, none⟩ (.slice none 0 0)) F p { S with arm := 0, picks := [] } s sc m (.slice none 0 0) V ∧ Chg (fun k => k = p) w ((w.setCell ⟨p, 4, none⟩ (.int .i64 0)).setCell ⟨p, 5, none⟩ (.slice none 0 0)) := by
  have hb := heap_setCell_same w p 4 _ _ (.int .i64 0) h.blk
  have hb2 := heap_setCell_same _ p 5 _ _ (.slice none 0 0) hb
  have hc : Chg (fun k => k = p) w ((w.setCell ⟨p, 4, none⟩ (.int .i64 0)).setCell ⟨p, 5, none⟩ (.slice none 0 0)) := (Chg.setCell (S := fun k => k = p) w ⟨p, 4, none⟩ _ rfl).trans (Chg.setCell (S := fun k => k = p) _ ⟨p, 5, none⟩ _ rfl) (fun _ _ h => h)
  exact ⟨h.restruct hc (by simpa using hb2) ⟨h.wf.pos, h.wf.top, h.wf.syn, h.wf.ver, h.wf.out, h.wf.few, by simp, by simp⟩ rfl rfl rfl (World.ownsRow_nil _ _ _ _) (fun g hg => by cases hg), hc⟩

set_option maxHeartbeats 400000 in
theorem disarm_any (F : Nat → Prop) (p : Nat) (S : St) (w : World) (h : Dk w F p S) :
    Calls Tryz.prog 119 #[.pointer (some ⟨p, 0, none⟩)] w fun e w' => e = .returned (.tuple #[]) ∧ Dk w' F p { S with arm := 0, picks := [] } ∧ Chg (fun k => k = p) w w' := by
  obtain ⟨s, sc, m, pv, V, h⟩ := h
  have c4 := h.c4
  have c5 := h.c5
  have f4 := h.fr 4
  have f5 := h.fr 5
  have HH : Hid (DkAt w F p S s sc m pv V) := h
  clear h
  go_enter Tryz.func119, Tryz.ntmps119
  go_wp2
  go_end0
  have := disarmed HH.out
  exact ⟨rfl, ⟨s, sc, m, _, V, this.1⟩, this.2⟩

theorem DkAt.setOff {w : World} {F : Nat → Prop} {p : Nat} {S : St} {s sc m : Nat} {pv : Value} {V : Nat → Value} (h : DkAt w F p S s sc m pv V) (b : Bool) :
    DkAt (w.setCell ⟨p, 3, none⟩ (.bool b)) F p { S with off := b } s sc m pv V ∧ Chg (fun k => k = p) w (w.setCell ⟨p, 3, none⟩ (.bool b)) := by
  have hb := heap_setCell_same w p 3 _ _ (.bool b) h.blk
  have hc : Chg (fun k => k = p) w (w.setCell ⟨p, 3, none⟩ (.bool b)) := Chg.setCell _ _ _ rfl
  exact ⟨h.restruct hc (by simpa using hb) ⟨h.wf.pos, h.wf.top, h.wf.syn, h.wf.ver, h.wf.out, h.wf.few, h.wf.arm0, h.wf.arm1⟩ rfl rfl rfl (own_same h.pk (fun g hg => hc.block g (h.lt g (h.fk g hg)) (h.ne_pk g hg))) h.fk, hc⟩

set_option maxHeartbeats 400000 in
theorem rest_any (q : Int) (k : Nat) (w : World) (hk : k < 1099511627776) :
    Calls Tryz.prog 118 #[.int .i64 q, .int .i64 ((k : Int) + 1)] w fun e w' => e = .returned (.int .i64 (St.pickN q k : Int)) ∧ w' = w := by
  have hp : (0 : Int) < (k : Int) + 1 := by omega
  have e1 : ((St.pickN q k : Nat) : Int) = q % ((k : Int) + 1) := by
    unfold St.pickN
    have := Int.emod_nonneg q (b := (k : Int) + 1) (by omega)
    omega
  have t1 := Int.tmod_lt_of_pos q hp
  have t2 : -((k : Int) + 1) < q.tmod ((k : Int) + 1) := by
    have h9 := Int.tmod_lt_of_pos (-q) hp
    rw [Int.neg_tmod] at h9
    omega
  have e2 : (q.tmod ((k : Int) + 1) + ((k : Int) + 1)).tmod ((k : Int) + 1) = q % ((k : Int) + 1) := by
    rw [Int.tmod_eq_emod_of_nonneg (by omega), Int.add_emod_right]
    by_cases hq : 0 ≤ q
    · rw [Int.tmod_eq_emod_of_nonneg hq, Int.emod_emod]
    · have h5 : q = -(-q) := by omega
      have h6 : q.tmod ((k : Int) + 1) = -((-q).tmod ((k : Int) + 1)) := by rw [← Int.neg_tmod]; simp
      rw [h6, Int.tmod_eq_emod_of_nonneg (by omega)]
      have h7 := Int.emod_add_mul_ediv (-q) ((k : Int) + 1)
      have h8 : -((-q) % ((k : Int) + 1)) = q + ((k : Int) + 1) * ((-q) / ((k : Int) + 1)) := by omega
      rw [h8, Int.add_mul_emod_self_left]
  rw [e1]
  clear e1
  have z1 : ¬ ((k : Int) + 1 = 0) := by omega
  go_enter Tryz.func118, Tryz.ntmps118
  go_wp2
  go_ret
  exact ⟨rfl, rfl⟩

theorem info5 : (Tryz.prog.info? 5).map (fun i => (i.zero, i.size, i.bytes)) = some (some (.int .u8 0), 1, 1) := by kernel_rfl
theorem info3 : (Tryz.prog.info? 3).map (fun i => (i.zero, i.size, i.bytes)) = some (some (.int .i64 0), 1, 8) := by kernel_rfl

/-- A slice of numbers that reads xs. -/
def Is (w : World) (v : Value) (xs : List Int) : Prop :=
  (v = .slice none 0 0 ∧ xs = []) ∨
  ∃ a c, v = .slice (some a) xs.length c ∧ xs.length ≤ c ∧ c ≤ maxLen ∧ ∀ j, j < xs.length → w.cell? (a.add j) = some (.int .i64 (xs.getD j 0))
theorem Is.kept {E : Nat → Prop} {w w' : World} {v : Value} {xs : List Int} (h : Is w v xs) (hc : Chg E w w') (hn : ∀ g, v.ownBlock = some g → ¬ E g) : Is w' v xs := by
  rcases h with h | ⟨a, c, rfl, hl, hm, hcell⟩
  · exact .inl h
  · refine .inr ⟨a, c, rfl, hl, hm, fun j hj => ?_⟩
    refine hc.cell (hcell j hj) ?_
    have e : (a.add j).block = a.block := by unfold Addr.add; split <;> rfl
    rw [e]; exact hn _ rfl
theorem Is.ofOwns {w : World} {N : Nat} {v : Value} {n : Nat} {xs : List Int} (h : w.ownsRow N 3 1 v n (xs.map (Value.int .i64))) : Is w v xs := by
  have hn : xs.length = n := by have := h.1; simpa using this
  subst hn
  rcases h.2 with ⟨rfl, h0⟩ | ⟨g, cap, cur, rfl, hb, hg, hnc, hcm, hcs, htake⟩
  · exact .inl ⟨rfl, List.eq_nil_of_length_eq_zero h0⟩
  · refine .inr ⟨⟨g, 0, none⟩, cap, rfl, hnc, hcm, fun j hj => ?_⟩
    refine h.cells (g := g) rfl j _ ?_
    simp [List.getD, hj]
theorem Is.form {w : World} {v : Value} {xs : List Int} (h : Is w v xs) : ∃ a c, v = .slice a xs.length c ∧ xs.length ≤ c := by
  rcases h with ⟨rfl, rfl⟩ | ⟨a, c, rfl, hl, _⟩
  · exact ⟨none, 0, rfl, Nat.le_refl _⟩
  · exact ⟨some a, c, rfl, hl⟩
theorem Bs.form {w : World} {v : Value} {xs : List Int} (h : Bs w v xs) : ∃ a c, v = .slice a xs.length c ∧ xs.length ≤ c := by
  rcases h with ⟨rfl, rfl⟩ | ⟨a, c, rfl, hl, _⟩
  · exact ⟨none, 0, rfl, Nat.le_refl _⟩
  · exact ⟨some a, c, rfl, hl⟩

/-- append(v, x...) where v is an empty slice that the call has made. -/
theorem run_app_ints {P : Program} (w : World) (t ty : TypeId) (i : TypeInfo) (ht : P.underlying t = some (.slice 3)) (hi : P.info? 3 = some i) (hz : i.zero = some (.int .i64 0)) (hs : i.size = 1) (hb : i.bytes = 8)
    (v x : Value) (N : Nat) (news : List Int) (hown : w.ownsRow N 3 1 v 0 []) (hx : Is w x news) (hlen : news.length ≤ 1099511627776) (hN : N ≤ w.heap.size) :
    ∃ v' w', (Builtin.append_ #[t, t] ty #[v, x]).run P w = .ok v' w' ∧ w'.ownsRow N 3 1 v' news.length (news.map (Value.int .i64)) ∧ w.grownBy w' v.ownBlock ∧ (v'.ownBlock = v.ownBlock ∨ v'.ownBlock = some w.heap.size) := by
  rcases hx with ⟨rfl, rfl⟩ | ⟨a, c, rfl, _, _, hcell⟩
  · exact ⟨v, w, run_append_owned_none w N t ty 3 i 1 ht hi v _ _ hown, by simpa using hown, ⟨rfl, rfl, rfl, Nat.le_refl _, fun _ _ _ => rfl⟩, .inl rfl⟩
  · obtain ⟨v', w', h1, h2, h3, _, h5⟩ := run_append_own_at (P := P) w N t ty 3 i (.int .i64 0) 1 8 ht hi hz hs hb rfl (by decide) v 0 [] hown a news.length c (news.map (Value.int .i64)) (by simp)
      (fun j u hu => by
        have hj : j < news.length := by simpa using (List.getElem?_eq_some_iff.1 hu).1
        have : u = .int .i64 (news.getD j 0) := by
          simp [hj] at hu
          simp [List.getD, hj, ← hu]
        rw [this]; exact hcell j hj) (fun u hu => by obtain ⟨z, _, rfl⟩ := List.mem_map.1 hu; rfl) (by unfold maxLen; omega) (by omega) hN
    exact ⟨v', w', h1, by simpa using h2, h3, h5⟩

theorem eq33_nil (w : World) : (binOp .eql 34 (.slice none 0 0) (.slice none 0 0)).run Tryz.prog w = .ok (.bool true) w := by kernel_rfl
theorem eq33_some (a : Addr) (n c : Nat) (w : World) : (binOp .eql 34 (.slice (some a) n c) (.slice none 0 0)).run Tryz.prog w = .ok (.bool false) w := by kernel_rfl
theorem eq32_nil (w : World) : (binOp .eql 33 (.slice none 0 0) (.slice none 0 0)).run Tryz.prog w = .ok (.bool true) w := by kernel_rfl
theorem eq32_some (a : Addr) (n c : Nat) (w : World) : (binOp .eql 33 (.slice (some a) n c) (.slice none 0 0)).run Tryz.prog w = .ok (.bool false) w := by kernel_rfl

set_option maxHeartbeats 400000 in
set_option maxRecDepth 100000 in
/-- bytes.Clone: new memory that holds the same. -/
theorem cloneB_any (v : Value) (xs : List Int) (w : World) (h : Bs w v xs) (hlen : xs.length ≤ 1099511627776) :
    Calls Tryz.prog 88 #[v] w fun e w' => ∃ u, e = .returned u ∧ w'.ownsRow w.heap.size 5 1 u xs.length (bcells xs) ∧ Chg (fun _ => False) w w' := by
  obtain ⟨i0, hi, hz0, hz1, hz2⟩ := info_parts info5
  rcases h with ⟨rfl, rfl⟩ | ⟨a, c, rfl, hl, hm, hcell⟩
  · have hq := eq32_nil
    go_enter Tryz.func88, Tryz.ntmps88
    go_wp2
    go_ret
    exact ⟨_, rfl, World.ownsRow_nil _ _ _ _, Chg.refl _ _⟩
  · have h2 : Bs (w.alloc (.cells #[] 5)) (.slice (some a) xs.length c) xs := Bs.kept (.inr ⟨a, c, rfl, hl, hm, hcell⟩) (Chg.alloc (fun _ => False) w _) (fun _ _ _ _ _ h => h)
    obtain ⟨v', w', hr, ho, hg, hat⟩ := run_app (w.alloc (.cells #[] 5)) w.heap.size 33 33 i0 Tryz.underlying33 hi hz0 hz1 hz2 (.slice (some ⟨w.heap.size, 0, none⟩) 0 0) _ 0 [] xs (by simpa [bcells] using World.ownsRow_made (size := 1) w #[] 0 (Nat.le_refl _) (by simp [maxLen]) rfl) h2 (by simpa using hlen) (by simp)
    simp only [Nat.zero_add, List.nil_append] at ho
    have hc : Chg (fun _ => False) w w' := ⟨hg.os, hg.tape, hg.output, Nat.le_trans (by simp) hg.size, fun k hk _ => (hg.block k (by simp; omega) (by simp [Value.ownBlock]; omega)).trans (Below.heap_alloc w _ k hk)⟩
    clear h2 hg hat hcell hlen hm
    have hq := eq32_some a xs.length c
    go_enter Tryz.func88, Tryz.ntmps88
    go_wp2_with (at_builtin; go_must (refine Lib.wpList_append_run _ rfl (.tmp 5) (.tmp 6) 33 33 rfl _ _ rfl rfl v' w' hr ?_))
    go_ret
    exact ⟨v', rfl, ho, hc⟩
end Go.Proofs.YtnnaemlipahamaaGreat

namespace Go.Proofs.YtnnaemlipahamaaGreat
open Go.RowKit Go.Maps

theorem Dk.grow {w : World} {F F' : Nat → Prop} {p : Nat} {S : St} {s sc m : Nat} {pv : Value} {V : Nat → Value} (h : DkAt w F p S s sc m pv V) (hF : ∀ b, F b → F' b) (hl : ∀ b, F' b → b < w.heap.size) : DkAt w F' p S s sc m pv V :=
  ⟨h.wf, h.blk, h.syn, h.map, fun n hn => (h.row n hn).mono hF, h.apart, h.pk, hF _ h.fp, hF _ h.fs, hF _ h.fm, fun n g hn hg => hF _ (h.fv n g hn hg), fun g hg => hF _ (h.fk g hg), hl⟩

/-- A call that makes memory alone: the disk stays; F and the new blocks. -/
def more (F : Nat → Prop) (a b : Nat) : Nat → Prop := fun k => F k ∨ (a ≤ k ∧ k < b)

theorem wpList_copy_eq {P : Program} (w : World) {ops : Array Oper} {rest : List Oper} {o : Oper} {a : Act} {Q : Exit → Act → World → Prop} (hgd : o.guard = none) (d s : Operand) (t t' : TypeId)
    (ho : o.op = .call { callee := .builtin .copy, args := #[d, s], argTypes := #[t, t'] }) (vd vs : Value) (hd : a.eval d = vd) (hs : a.eval s = vs)
    (v' : Value) (w' : World) (hr : (Builtin.copy_ #[t, t'] o.type #[vd, vs]).run P w = .ok v' w') (h : wpList P ops Q rest (a.put o.dst v') w') : wpList P ops Q (o :: rest) a w := by
  refine wpList_plain hgd fun K' hK' => ?_
  unfold Oper.wp
  simp [execOp, ho, resolve, invoke, builtin, hd, hs, hr, Result.andThen]
  exact hK' _ _ h
theorem wpList_delete_eq {P : Program} (w : World) {ops : Array Oper} {rest : List Oper} {o : Oper} {a : Act} {Q : Exit → Act → World → Prop} (hgd : o.guard = none) (d s : Operand) (t t' : TypeId)
    (ho : o.op = .call { callee := .builtin .delete, args := #[d, s], argTypes := #[t, t'] }) (vd vs : Value) (hd : a.eval d = vd) (hs : a.eval s = vs)
    (w' : World) (hr : (Builtin.delete_ #[t, t'] o.type #[vd, vs]).run P w = .ok (.tuple #[]) w') (h : wpList P ops Q rest (a.put o.dst (.tuple #[])) w') : wpList P ops Q (o :: rest) a w := by
  refine wpList_plain hgd fun K' hK' => ?_
  unfold Oper.wp
  simp [execOp, ho, resolve, invoke, builtin, hd, hs, hr, Result.andThen]
  exact hK' _ _ h

section
variable {w : World} {F : Nat → Prop} {p : Nat} {S : St} {s sc m : Nat} {pv : Value} {V : Nat → Value}

theorem DkAt.scle (h : DkAt w F p S s sc m pv V) : 512 * S.nb ≤ sc ∧ sc ≤ maxLen := by
  rcases h.syn.2 with ⟨e, _⟩ | ⟨g, cap, cur, e, _, _, h1, h2, _⟩
  · cases e
  · cases e; exact ⟨h1, h2⟩
theorem DkAt.srow (h : DkAt w F p S s sc m pv V) : ∃ cur : Array Value, w.heap[s]? = some (.cells cur 5 (0, 0)) ∧ cur.size = sc ∧ cur.toList.take (512 * S.nb) = bcells (St.flat S.nb S.syn) := by
  rcases h.syn.2 with ⟨e, _⟩ | ⟨g, cap, cur, e, _, h0, h1, h2, h3, h4⟩
  · cases e
  · cases e; exact ⟨cur, h0, by simpa using h3, by simpa using h4⟩
/-- A synced block as a slice. -/
theorem DkAt.sub (h : DkAt w F p S s sc m pv V) {n : Nat} (hn : n < S.nb) : Bs w (.slice (some ⟨s, 512 * n, none⟩) 512 512) (S.syn n) := by
  have hl := h.wf.syn n hn
  refine .inr ⟨_, 512, by rw [hl], by omega, by simp [maxLen], fun j hj => ?_⟩
  rw [hl] at hj
  obtain ⟨cur, h0, h3, h4⟩ := h.srow
  have e : (⟨s, 512 * n, none⟩ : Addr).add j = ⟨s, 512 * n + j, none⟩ := by unfold Addr.add; split <;> simp_all
  rw [e, cell_of_row w s _ _ _ _ h0]
  have hfl := St.flat_length (nb := S.nb) (f := S.syn) h.wf.syn
  have hg := St.flat_get hn h.wf.syn
  have h5 : (512 * n + j) < 512 * S.nb := by omega
  have h6 : cur.toList[512 * n + j]? = (bcells (St.flat S.nb S.syn))[512 * n + j]? := by
    rw [← h4, List.getElem?_take]; simp [h5]
  have h7 : cur[512 * n + j]? = cur.toList[512 * n + j]? := by simp
  rw [h7, h6]
  have h8 : (St.flat S.nb S.syn)[512 * n + j]? = (S.syn n)[j]? := by
    rw [← hg, List.getElem?_take, List.getElem?_drop]; simp [hj]
  simp only [bcells, List.getElem?_map, h8]
  simp [List.getD, hl, hj]

/-- A version as a slice. -/
theorem DkAt.verAt (h : DkAt w F p S s sc m pv V) {n j : Nat} (hw : S.wait n ≠ []) (h1 : 1 ≤ j) (hj : j ≤ (S.wait n).length) :
    ∃ g c go co, V n = .slice (some ⟨go, 0, none⟩) (S.wait n).length co ∧ (S.wait n).length ≤ co ∧ co ≤ maxLen ∧ w.cell? ⟨go, j - 1, none⟩ = some (.slice (some ⟨g, 0, none⟩) 512 c) ∧ w.ownsRow 0 5 1 (.slice (some ⟨g, 0, none⟩) 512 c) 512 (bcells (S.ver n j)) ∧ g ≠ s ∧ F g := by
  obtain ⟨us, ho, hu⟩ := h.row n hw
  obtain ⟨g, c, e, hr, hs, hf⟩ := hu (j - 1) (by omega)
  rcases ho.2 with ⟨_, h0⟩ | ⟨go, co, cur, hV, _, hg, hle, hm, hsz, htk⟩
  · exact absurd (List.eq_nil_of_length_eq_zero h0) hw
  · refine ⟨g, c, go, co, hV, hle, hm, ?_, ?_, hs, hf⟩
    · have := ho.cells (g := go) (by rw [hV]; rfl) (j - 1) _ e
      have e2 : (⟨go, 0, none⟩ : Addr).add (j - 1) = ⟨go, j - 1, none⟩ := by unfold Addr.add; split <;> simp_all
      rwa [e2] at this
    · have : S.ver n j = (S.wait n).getD (j - 1) [] := by simp [St.ver, show ¬ j = 0 by omega]
      rw [this]; exact hr
theorem DkAt.look (h : DkAt w F p S s sc m pv V) {n : Nat} (hn : n < S.nb) : (Instr.lookup 114 (.map (some m)) (.int .i64 (n : Int)) false).run Tryz.prog w = .ok ((mf S V n).getD (.slice none 0 0)) w := h.map.look h.wf.top hn
end

set_option maxHeartbeats 400000 in
theorem pick0_any (F : Nat → Prop) (p : Nat) (S : St) (n : Nat) (w : World) {s sc m : Nat} {pv : Value} {V : Nat → Value} (h : DkAt w F p S s sc m pv V) (hn : n < S.nb) :
    Calls Tryz.prog 120 #[.pointer (some ⟨p, 0, none⟩), .int .i64 (n : Int), .int .i64 0] w fun e w' => e = .returned (.slice (some ⟨s, 512 * n, none⟩) 512 512) ∧ w' = w := by
  have c0 := h.c0
  have hs := h.scle
  have hw := h.wf.top
  obtain ⟨h1, h2⟩ := hs
  unfold maxLen at h2
  have e1 : (n : Int) * 512 = ((512 * n : Nat) : Int) := by omega
  have e2 : ((n : Int) + 1) * 512 = ((512 * n + 512 : Nat) : Int) := by omega
  have g1 : 512 * n ≤ 512 * n + 512 := by omega
  have g2 : 512 * n + 512 ≤ sc := by omega
  have g3 : ¬ (512 * n + 512 = 512 * n) := by omega
  have g4 : ¬ (sc = 512 * n) := by omega
  clear h
  go_enter Tryz.func120, Tryz.ntmps120
  go_wp2
  go_ret
  rw [show 512 * n + 512 - 512 * n = 512 by omega]
  exact ⟨rfl, rfl⟩

set_option maxHeartbeats 400000 in
theorem pickJ_any (F : Nat → Prop) (p : Nat) (S : St) (n j : Nat) (w : World) {s sc m : Nat} {pv : Value} {V : Nat → Value} (h : DkAt w F p S s sc m pv V) (hw : S.wait n ≠ []) (h1 : 1 ≤ j) (hj : j ≤ (S.wait n).length) (hx : S.writes < 1099511627776) :
    Calls Tryz.prog 120 #[.pointer (some ⟨p, 0, none⟩), .int .i64 (n : Int), .int .i64 (j : Int)] w fun e w' => ∃ g c, e = .returned (.slice (some ⟨g, 0, none⟩) 512 c) ∧ w' = w ∧ w.ownsRow 0 5 1 (.slice (some ⟨g, 0, none⟩) 512 c) 512 (bcells (S.ver n j)) ∧ g ≠ s ∧ F g := by
  have hn : n < S.nb := by
    by_cases hn : n < S.nb
    · exact hn
    · exact absurd (h.wf.out n (by omega)) hw
  have c1 := h.c1
  have lk := h.look hn
  have hfw := h.wf.few n
  rw [mf_some hw] at lk
  obtain ⟨g, c, go, co, hV, hle, hm, hcell, hrow, hs, hf⟩ := h.verAt hw h1 hj
  rw [hV] at lk
  simp only [Option.getD_some] at lk
  obtain ⟨i, rfl⟩ : ∃ i, j = i + 1 := ⟨j - 1, by omega⟩
  have HR : Hid (w.ownsRow 0 5 1 (.slice (some ⟨g, 0, none⟩) 512 c) 512 (bcells (S.ver n (i + 1))) ∧ g ≠ s ∧ F g) := ⟨hrow, hs, hf⟩
  simp only [Nat.add_sub_cancel] at hcell
  obtain ⟨L, hL⟩ : ∃ L, (S.wait n).length = L := ⟨_, rfl⟩
  rw [hL] at hj hle hfw lk
  have hi : i < L := by omega
  have e3 : ((i + 1 : Nat) : Int) = (i : Int) + 1 := by omega
  rw [e3]
  clear h hrow hV hL hs hf e3
  go_enter Tryz.func120, Tryz.ntmps120
  go_wp2
  go_ret
  exact ⟨g, c, rfl, rfl, HR.out⟩

theorem mf_settle (S : St) (V : Nat → Value) (n j : Nat) : mf (S.settle n j) V = upd (mf S V) n none := by
  funext k
  by_cases e : k = n
  · subst e
    rw [upd_same]
    exact mf_none (by simp [St.settle, upd_same])
  · rw [upd_other _ _ e]
    unfold mf
    have : (S.settle n j).wait k = S.wait k := upd_other _ _ e
    rw [this]

theorem DkAt.settled {w w1 w2 : World} {F : Nat → Prop} {p : Nat} {S : St} {s sc m : Nat} {pv : Value} {V : Nat → Value} (h : DkAt w F p S s sc m pv V) {n j : Nat} (hn : n < S.nb) (hj : j ≤ (S.wait n).length) {cur : Array Value}
    (h0 : w.heap[s]? = some (.cells cur 5 (0, 0))) (h3 : cur.size = sc) (h4 : cur.toList.take (512 * S.nb) = bcells (St.flat S.nb S.syn))
    (hw1 : w1 = w.setRow s (cur.toList.take (512 * n) ++ bcells (S.ver n j) ++ cur.toList.drop (512 * n + (bcells (S.ver n j)).length)).toArray)
    (hm : MapIs w2 m S.nb (upd (mf S V) n none)) (hg : w1.grownBy w2 (some m)) (hz : w2.heap.size = w1.heap.size) :
    DkAt w2 F p (S.settle n j) s sc m pv V ∧ Chg (fun k => k = s ∨ k = m) w w2 ∧ w2.heap.size = w.heap.size := by
  have hvl : (bcells (S.ver n j)).length = 512 := by simp [bcells]; exact St.ver_len h.wf hn hj
  obtain ⟨es, cl, hmo⟩ := h.map.obj
  have hsm : s ≠ m := by rintro rfl; rw [h0] at hmo; cases hmo
  have hps : p ≠ s := by rintro rfl; have := h.blk; rw [h0] at this; cases this
  have hpm : p ≠ m := by rintro rfl; have := h.blk; rw [hmo] at this; cases this
  have hz1 : w1.heap.size = w.heap.size := by rw [hw1]; simp
  have oth : ∀ k, k < w.heap.size → k ≠ s → k ≠ m → w2.heap[k]? = w.heap[k]? := fun k hk h1 h2 => by
    rw [hg.block k (by omega) (by simpa using h2), hw1, setRow_other w s k _ h1]
  have hrow1 : w1.heap[s]? = some (.cells (cur.toList.take (512 * n) ++ bcells (S.ver n j) ++ cur.toList.drop (512 * n + (bcells (S.ver n j)).length)).toArray 5 (0, 0)) := by
    rw [hw1]; exact setRow_heap w s cur _ 5 _ h0
  have hrow2 : w2.heap[s]? = some (.cells (cur.toList.take (512 * n) ++ bcells (S.ver n j) ++ cur.toList.drop (512 * n + (bcells (S.ver n j)).length)).toArray 5 (0, 0)) :=
    (hg.block s (by rw [hz1]; exact (Array.getElem?_eq_some_iff.1 h0).1) (by simpa using hsm)).trans hrow1
  have hsc := h.scle
  have hcl : cur.toList.length = sc := by simpa using h3
  have hch : Chg (fun k => k = s ∨ k = m) w w2 := ⟨by rw [hg.os, hw1]; rfl, by rw [hg.tape, hw1]; rfl, by rw [hg.output, hw1]; rfl, by omega, fun k hk hne => oth k hk (fun e => hne (.inl e)) (fun e => hne (.inr e))⟩
  refine ⟨⟨St.settle_wf h.wf hn hj, (oth p h.pobj hps hpm).trans h.blk, ?_, by rw [mf_settle]; exact hm, ?_, ?_, ?_, h.fp, h.fs, h.fm, ?_, h.fk, fun b hf => by have := h.lt b hf; omega⟩, hch, by omega⟩
  · refine ⟨?_, .inr ⟨s, sc, _, rfl, Nat.zero_le _, hrow2, hsc.1, hsc.2, ?_, ?_⟩⟩
    · have hl2 := St.flat_length (nb := S.nb) (f := (S.settle n j).syn) (St.settle_wf h.wf hn hj).syn
      simp only [bcells, List.length_map, Nat.mul_one]
      exact hl2
    · simp [hvl, List.length_take, hcl]; omega
    · show (cur.toList.take (512 * n) ++ bcells (S.ver n j) ++ cur.toList.drop (512 * n + (bcells (S.ver n j)).length)).take (512 * S.nb * 1) = bcells (St.flat S.nb (upd S.syn n (S.ver n j)))
      rw [St.flat_set hn h.wf.syn]
      have e1 : bcells ((St.flat S.nb S.syn).take (512 * n) ++ S.ver n j ++ (St.flat S.nb S.syn).drop (512 * n + 512)) = (bcells (St.flat S.nb S.syn)).take (512 * n) ++ bcells (S.ver n j) ++ (bcells (St.flat S.nb S.syn)).drop (512 * n + 512) := by
        simp [bcells, List.map_take, List.map_drop]
      rw [e1, ← h4, hvl, Nat.mul_one]
      have e2 : (cur.toList.take (512 * S.nb)).take (512 * n) = cur.toList.take (512 * n) := by rw [List.take_take]; congr 1; omega
      have e3 : (cur.toList.take (512 * S.nb)).drop (512 * n + 512) = (cur.toList.drop (512 * n + 512)).take (512 * S.nb - (512 * n + 512)) := by rw [List.drop_take]
      have hl : (cur.toList.take (512 * n) ++ bcells (S.ver n j)).length = 512 * n + 512 := by simp [hvl, hcl]; omega
      rw [e2, e3, List.take_append, hl, List.take_of_length_le (by rw [hl]; omega)]
  · intro k hk
    have hkn : k ≠ n := by rintro rfl; exact hk (by simp [St.settle, upd_same])
    have e : (S.settle n j).wait k = S.wait k := upd_other _ _ hkn
    rw [e] at hk ⊢
    have hv := h.row k hk
    refine hv.kept (fun g hg' => ?_) (fun g hf hgs ⟨c, hc⟩ => oth g (h.lt g hf) hgs (by rintro rfl; rw [hmo] at hc; cases hc))
    obtain ⟨us, h1, _⟩ := hv
    obtain ⟨c, hc⟩ := own_obj h1 hg'
    exact oth g (h1.lt g hg').2 (by rintro rfl; rw [h0] at hc; cases hc) (by rintro rfl; rw [hmo] at hc; cases hc)
  · intro a b g ha hb hne
    have han : a ≠ n := by rintro rfl; exact ha (by simp [St.settle, upd_same])
    have hbn : b ≠ n := by rintro rfl; exact hb (by simp [St.settle, upd_same])
    have e1 : (S.settle n j).wait a = S.wait a := upd_other _ _ han
    have e2 : (S.settle n j).wait b = S.wait b := upd_other _ _ hbn
    rw [e1] at ha; rw [e2] at hb
    exact h.apart a b g ha hb hne
  · refine own_same h.pk (fun g hg' => ?_)
    obtain ⟨c, hc⟩ := own_obj h.pk hg'
    exact oth g (h.pk.lt g hg').2 (by rintro rfl; rw [h0] at hc; cases hc) (by rintro rfl; rw [hmo] at hc; cases hc)
  · intro k g hk
    have hkn : k ≠ n := by rintro rfl; exact hk (by simp [St.settle, upd_same])
    have e : (S.settle n j).wait k = S.wait k := upd_other _ _ hkn
    rw [e] at hk
    exact h.fv k g hk

/-- What pick hands back, at any of block n's versions. -/
theorem pick_any (F : Nat → Prop) (p : Nat) (S : St) (n j : Nat) (w : World) {s sc m : Nat} {pv : Value} {V : Nat → Value} (h : DkAt w F p S s sc m pv V) (hn : n < S.nb) (hj : j ≤ (S.wait n).length) (hx : S.writes < 1099511627776) :
    Calls Tryz.prog 120 #[.pointer (some ⟨p, 0, none⟩), .int .i64 (n : Int), .int .i64 (j : Int)] w fun e w' => ∃ a c, e = .returned (.slice (some a) 512 c) ∧ w' = w ∧ Bs w (.slice (some a) 512 c) (S.ver n j) ∧ F a.block := by
  by_cases h0 : j = 0
  · subst h0
    refine (pick0_any F p S n w h hn).mono ?_
    rintro e w' ⟨rfl, rfl⟩
    exact ⟨_, _, rfl, rfl, by simpa [St.ver] using h.sub hn, h.fs⟩
  · refine (pickJ_any F p S n j w h (fun e => by rw [e] at hj; simp at hj; omega) (by omega) hj hx).mono ?_
    rintro e w' ⟨g, c, rfl, rfl, hr, _, hf⟩
    exact ⟨_, _, rfl, rfl, Bs.ofOwns hr, hf⟩

set_option maxHeartbeats 800000 in
theorem settle_any (F : Nat → Prop) (p : Nat) (S : St) (n j : Nat) (w : World) {s sc m : Nat} {pv : Value} {V : Nat → Value} (h : DkAt w F p S s sc m pv V) (hn : n < S.nb) (hj : j ≤ (S.wait n).length) (hx : S.writes < 1099511627776) :
    Calls Tryz.prog 89 #[.pointer (some ⟨p, 0, none⟩), .int .i64 (n : Int), .int .i64 (j : Int)] w fun e w' => e = .returned (.tuple #[]) ∧ DkAt w' F p (S.settle n j) s sc m pv V ∧ Chg (fun k => k = s ∨ k = m) w w' ∧ w'.heap.size = w.heap.size ∧
      ∀ r g cnt, Rng w m r S.nb (mf S V) g cnt → ∃ cnt', Rng w' m r S.nb (mf (S.settle n j) V) (upd g n false) cnt' ∧ cnt' ≤ cnt := by
  obtain ⟨cur, h0, h3, h4⟩ := h.srow
  have hvl : (S.ver n j).length = 512 := St.ver_len h.wf hn hj
  have hbl : (bcells (S.ver n j)).length = 512 := by simp [bcells]; exact hvl
  have hsc := h.scle
  have hsz : 512 * n + (bcells (S.ver n j)).length ≤ cur.size := by rw [hbl, h3]; omega
  obtain ⟨w1, hw1⟩ : ∃ w1, w1 = w.setRow s (cur.toList.take (512 * n) ++ bcells (S.ver n j) ++ cur.toList.drop (512 * n + (bcells (S.ver n j)).length)).toArray := ⟨_, rfl⟩
  obtain ⟨es, cl, hmo⟩ := h.map.obj
  have hsm : s ≠ m := by rintro rfl; rw [h0] at hmo; cases hmo
  have hps : p ≠ s := by rintro rfl; have := h.blk; rw [h0] at this; cases this
  have hm1 : MapIs w1 m S.nb (mf S V) := h.map.kept (by rw [hw1]; exact setRow_other w s m _ (fun e => hsm e.symm))
  obtain ⟨w2, hdel, hm2, hg2, hz2, hrng⟩ := hm1.delete h.wf.top hn 0
  have HS := h.settled hn hj h0 h3 h4 hw1 hm2 hg2 hz2
  have HR : Hid (∀ r g cnt, Rng w m r S.nb (mf S V) g cnt → ∃ cnt', Rng w2 m r S.nb (mf (S.settle n j) V) (upd g n false) cnt' ∧ cnt' ≤ cnt) := fun r g cnt hr => by
    have hrs : r ≠ s := by rintro rfl; obtain ⟨_, _, _, _, ho⟩ := hr.obj; rw [h0] at ho; cases ho
    have hr1 : Rng w1 m r S.nb (mf S V) g cnt := hr.kept (by rw [hw1]; exact setRow_other w s m _ (fun e => hsm e.symm)) (by rw [hw1]; exact setRow_other w s r _ hrs)
    rw [mf_settle]
    exact hrng r g cnt hr1
  have HD : Hid (DkAt w F p S s sc m pv V ∧ (DkAt w2 F p (S.settle n j) s sc m pv V ∧ Chg (fun k => k = s ∨ k = m) w w2 ∧ w2.heap.size = w.heap.size)) := ⟨h, HS⟩
  have c1 : w1.cell? ⟨p, 1, none⟩ = some (.map (some m)) := by
    have : w1.heap[p]? = w.heap[p]? := by rw [hw1]; exact setRow_other w s p _ hps
    rw [World.cell?_of_block (a := ⟨p, 1, none⟩) this]; exact h.c1
  have hcp : ∀ (a : Addr) (c : Nat), Bs w (.slice (some a) 512 c) (S.ver n j) → (Builtin.copy_ #[33, 33] 3 #[.slice (some ⟨s, 512 * n, none⟩) 512 512, .slice (some a) 512 c]).run Tryz.prog w = .ok (goInt 512) w1 := fun a c hb => by
    have := run_copy_row (P := Tryz.prog) w 33 33 3 5 s (512 * n) 512 512 a 512 c cur 5 (bcells (S.ver n j)) Tryz.underlying33 (by kernel_rfl) h0 (by rw [hbl]; rfl) (fun i u hu => by
      obtain ⟨hi, rfl⟩ := bcells_get hu
      rcases hb with ⟨e, _⟩ | ⟨a', c', e, _, _, hc⟩
      · cases e
      · simp at e; obtain ⟨rfl, _⟩ := e; exact hc i hi) hsz (bcells_one _)
    rw [hw1, this, hbl]
    rfl
  have HC : Hid (∀ (a : Addr) (c : Nat), Bs w (.slice (some a) 512 c) (S.ver n j) → (Builtin.copy_ #[33, 33] 3 #[.slice (some ⟨s, 512 * n, none⟩) 512 512, .slice (some a) 512 c]).run Tryz.prog w = .ok (goInt 512) w1) := hcp
  clear h h0 h3 h4 hvl hbl hsc hsz hw1 hmo hsm hps hm1 hm2 hg2 hz2 hrng HS hcp
  go_enter Tryz.func89, Tryz.ntmps89
  go_wp2_with fail
  refine (pick0_any F p S n w HD.out.1 hn).mono ?_
  rintro e w' ⟨rfl, rfl⟩
  go_wp2_with fail
  refine (pick_any F p S n j w' HD.out.1 hn hj hx).mono ?_
  rintro e w'' ⟨a, c, rfl, rfl, hb, _⟩
  have hr := HC.out a c hb
  clear HC hb
  go_wp2_with (first | (at_builtin; refine wpList_copy_eq _ rfl (.tmp 8) (.tmp 12) 33 33 rfl _ _ rfl rfl _ w1 hr ?_) | (at_delete; refine wpList_delete_eq _ rfl (.tmp 17) (.tmp 18) 114 3 rfl _ _ rfl rfl w2 hdel ?_))
  go_end0
  exact ⟨rfl, HD.out.2.1, HD.out.2.2.1, HD.out.2.2.2, HR.out⟩

theorem own_block_ge {w : World} {N : Nat} {e : TypeId} {v : Value} {n : Nat} {xs : List Value} (h : w.ownsRow N e 1 v n xs) : ∀ g, v.ownBlock = some g → N ≤ g ∧ g < w.heap.size := fun g hg => h.lt g hg

end Go.Proofs.YtnnaemlipahamaaGreat

namespace Go.Proofs.YtnnaemlipahamaaGreat
open Go.RowKit Go.Maps

/-- Where g does not hold, the block is synced. -/
def mask (S : St) (g : Nat → Bool) : St := { S with syn := fun n => if g n then S.syn n else S.last n, wait := fun n => if g n then S.wait n else [] }
theorem mask_start {S : St} {g : Nat → Bool} (h : ∀ n, g n = false → S.wait n = []) : mask S g = S := by
  have e1 : (fun n => if g n then S.syn n else S.last n) = S.syn := by
    funext n
    cases hg : g n
    · simp [St.last, St.ver, h n hg]
    · simp
  have e2 : (fun n => if g n then S.wait n else []) = S.wait := by
    funext n
    cases hg : g n
    · simp [h n hg]
    · simp
  unfold mask
  rw [e1, e2]
theorem mask_end {S : St} {g : Nat → Bool} (h : ∀ n, g n = true → S.wait n = []) : mask S g = S.synced := by
  have e1 : (fun n => if g n then S.syn n else S.last n) = S.last := by
    funext n
    cases hg : g n
    · simp
    · simp [St.last, St.ver, h n hg]
  have e2 : (fun n => if g n then S.wait n else []) = fun _ => [] := by
    funext n
    cases hg : g n
    · simp
    · simp [h n hg]
  unfold mask St.synced
  rw [e1, e2]
theorem mask_step {S : St} {g : Nat → Bool} {n : Nat} (hg : g n = true) : (mask S g).settle n ((mask S g).wait n).length = mask S (upd g n false) := by
  have hw : (mask S g).wait n = S.wait n := by simp [mask, hg]
  have hv : (mask S g).ver n (S.wait n).length = S.last n := by
    unfold St.last St.ver
    rw [hw]
    split
    · simp [mask, hg]
    · rfl
  have e1 : upd (mask S g).syn n ((mask S g).ver n (S.wait n).length) = fun k => if upd g n false k then S.syn k else S.last k := by
    rw [hv]
    funext k
    by_cases e : k = n
    · subst e; simp [upd_same]
    · simp [upd_other _ _ e, mask]
  have e2 : upd (mask S g).wait n [] = fun k => if upd g n false k then S.wait k else [] := by
    funext k
    by_cases e : k = n
    · subst e; simp [upd_same]
    · simp [upd_other _ _ e, mask]
  rw [hw]
  unfold St.settle
  rw [e1, e2]
  rfl
theorem upd_upd {α : Type} (f : Nat → α) (n : Nat) (a b : α) : upd (upd f n a) n b = upd f n b := by
  funext k; unfold upd; split <;> rfl

/-- A step of the range, where the elements are slices. -/
theorem wpList_next_sl (w : World) {ops : Array Oper} {rest : List Oper} {o : Oper} {a : Act} {Q : Exit → Act → World → Prop} (hg : o.guard = none) (it : Operand) (hop : o.op = Op.next it false) (m r nb : Nat) (f : Nat → Option Value) (g : Nat → Bool) (cnt : Nat) (len : Nat → Nat)
    (hnb : nb ≤ 16384) (hit : a.eval it = .pointer (some ⟨r, 0, none⟩)) (h : Rng w m r nb f g cnt) (hform : ∀ n v, n < nb → f n = some v → ∃ a c, v = .slice a (len n) c)
    (hDone : (∀ n, n < nb → g n = false) → wpList Tryz.prog ops Q rest (a.put o.dst (.tuple #[.bool false])) w)
    (hMore : ∀ (n : Nat) (x : Option Addr) (c : Nat) (w' : World) (cnt' : Nat), n < nb → g n = true → f n = some (.slice x (len n) c) → Rng w' m r nb f (upd g n false) cnt' → cnt' < cnt → w.grownBy w' (some r) → w'.heap.size = w.heap.size →
      (Instr.entry (.pointer (some ⟨r, 0, none⟩))).run Tryz.prog w' = .ok (.tuple #[.int .i64 (n : Int), .slice x (len n) c]) w' → wpList Tryz.prog ops Q rest (a.put o.dst (.tuple #[.bool true, .int .i64 (n : Int), .slice x (len n) c])) w') :
    wpList Tryz.prog ops Q (o :: rest) a w :=
  wpList_next_is w hg it hop m r nb f g cnt hnb hit h hDone (fun n v w' cnt' h1 h2 h3 h4 h5 h6 h7 h8 => by
    obtain ⟨x, c, rfl⟩ := hform n v h1 h3
    exact hMore n x c w' cnt' h1 h2 h3 h4 h5 h6 h7 h8)

theorem DkAt.form {w : World} {F : Nat → Prop} {p : Nat} {S : St} {s sc m : Nat} {pv : Value} {V : Nat → Value} (h : DkAt w F p S s sc m pv V) : ∀ n v, n < S.nb → mf S V n = some v → ∃ a c, v = .slice a (S.wait n).length c := fun n v _ hv => by
  unfold mf at hv
  split at hv
  · cases hv
  · rename_i hne
    have hw : S.wait n ≠ [] := by simpa [List.isEmpty_iff] using hne
    cases hv
    obtain ⟨us, ho, _⟩ := h.row n hw
    rcases ho.2 with ⟨e, h0⟩ | ⟨go, co, cur, hV, _⟩
    · exact ⟨none, 0, by rw [e, h0]⟩
    · exact ⟨_, _, hV⟩

theorem Chg.of_grown {w w' : World} {r : Nat} (h : w.grownBy w' (some r)) : Chg (fun k => k = r) w w' := ⟨h.os, h.tape, h.output, h.size, fun k hk hn => h.block k hk (by simpa using hn)⟩
theorem Chg.of_none {w w' : World} (h : w.grownBy w' none) : Chg (fun _ => False) w w' := ⟨h.os, h.tape, h.output, h.size, fun k hk _ => h.block k hk (by simp)⟩

set_option maxHeartbeats 1600000 in
theorem sync_any (F : Nat → Prop) (p : Nat) (S : St) (w : World) (h : Dk w F p S) (hx : S.writes < 1099511627776) :
    Calls Tryz.prog 56 #[.pointer (some ⟨p, 0, none⟩)] w fun e w' => e = .returned (.int .i64 S.syncE) ∧ To F p w w' S.sync := by
  obtain ⟨s, sc, m, pv, V, h⟩ := h
  have c3 := h.c3
  by_cases hoff : S.off = true
  · have e1 : S.syncE = 6 := by simp [St.syncE, hoff]
    have e2 : S.sync = S := by simp [St.sync, hoff]
    rw [e1, e2]
    have HH : Hid (DkAt w F p S s sc m pv V) := h
    rw [hoff] at c3
    clear h e1 e2
    go_enter Tryz.func56, Tryz.ntmps56
    go_wp2
    go_ret
    exact ⟨rfl, To.refl ⟨s, sc, m, pv, V, HH.out⟩⟩
  · have e1 : S.syncE = 0 := by simp [St.syncE, hoff]
    have e2 : S.sync = S.synced := by simp [St.sync, hoff]
    rw [e1, e2]
    have hof : S.off = false := by simpa using hoff
    rw [hof] at c3
    have c1 := h.c1
    have hlt := h.lt
    have HH : Hid (DkAt w F p S s sc m pv V) := h
    have hmap := h.map
    have htop := h.wf.top
    clear h e1 e2 hoff
    go_enter Tryz.func56, Tryz.ntmps56
    go_wp2_with (at_range; refine wpList_range_is _ rfl (.tmp 12) rfl m S.nb (mf S V) rfl hmap ?_; intro w0 cnt0 hrg0 hg0 hs0)
    go_frame
    have hst : mask S (fun n => (mf S V n).isSome) = S := mask_start (fun n hn => by
      by_cases hw : S.wait n = []
      · exact hw
      · rw [mf_some hw] at hn; cases hn)
    have REL0 : Rng w0 m w.heap.size S.nb (mf (mask S fun n => (mf S V n).isSome) V) (fun n => (mf S V n).isSome) cnt0 ∧ DkAt w0 F p (mask S fun n => (mf S V n).isSome) s sc m pv V ∧ Chg F w w0 := by
      rw [hst]
      exact ⟨hrg0, HH.out.kept (Chg.of_none hg0) (fun _ _ h => h), (Chg.of_none hg0).mono (fun _ _ h => h.elim)⟩
    have HS : Hid (∀ n, S.nb ≤ n → S.wait n = []) := HH.out.wf.out
    clear HH hmap hrg0 hg0 hs0 hst c1 c3
    go_loopw [3, 4] (fun _ _ wr => ∃ g cnt, Rng wr m w.heap.size S.nb (mf (mask S g) V) g cnt ∧ DkAt wr F p (mask S g) s sc m pv V ∧ Chg F w wr) (fun _ _ wr => wr.rangeLeft m w.heap.size)
    case atStart => exact ⟨_, _, REL0⟩
    case round =>
      clear REL0
      obtain ⟨g, cnt, hrg, hdk, hch⟩ := hrel
      have hform := hdk.form
      go_wp2_with (first
        | (at_next; refine wpList_next_sl _ rfl (.tmp 13) rfl m w.heap.size S.nb (mf (mask S g) V) g cnt (fun n => ((mask S g).wait n).length) htop rfl hrg hform ?_ ?_)
        | go_in)
      · intro hdone
        clear hform
        go_wp2
        go_ret
        refine ⟨rfl, F, ⟨s, sc, m, pv, V, ?_⟩, hch, fun _ h => .inl h⟩
        rw [← mask_end (g := g) (fun n hn => by
          by_cases h : n < S.nb
          · rw [hdone n h] at hn; cases hn
          · exact HS.out n (by omega))]
        exact hdk
      · intro n x c w2 cnt2 hn hgn hf hrg2 hlt2 hg2 hs2 hen
        have hdk2 := hdk.kept (Chg.of_grown hg2) (fun b hb e => by have := hlt b hb; omega)
        have hch2 : Chg F w w2 := hch.trans (Chg.of_grown hg2) (fun i hi e => by omega)
        have hl := hrg.left
        clear hform hf hs2 hrg hdk hch hg2
        go_wp2_with fail
        refine (settle_any F p (mask S g) n ((mask S g).wait n).length _ hdk2 hn (Nat.le_refl _) hx).mono ?_
        rintro e w3 ⟨rfl, hdk3, hc3, hs3, hr3⟩
        obtain ⟨cnt3, hrg3, hle3⟩ := hr3 _ _ _ hrg2
        rw [mask_step hgn, upd_upd] at hrg3
        rw [mask_step hgn] at hdk3
        have hch3 : Chg F w w3 := hch2.trans hc3 (fun i _ e => by
          rcases e with rfl | rfl
          · exact hdk2.fs
          · exact hdk2.fm)
        clear hr3 hc3 hs3 hrg2 hdk2 hch2 hen
        go_wp2
        go_roundw
        case rel => exact ⟨_, cnt3, hrg3, hdk3, hch3⟩
        case measure => rw [hrg3.left, hl]; omega
end Go.Proofs.YtnnaemlipahamaaGreat

namespace Go.Proofs.YtnnaemlipahamaaGreat
open Go.RowKit Go.Maps

theorem and_mask (n : Int) (k : Nat) (m : Int) (hm : (BitVec.ofInt 64 m).toNat = 2 ^ k - 1) (hk : k ≤ 8) : bits .and .i64 n m = n % ((2 ^ k : Nat) : Int) := by
  have key : (BitVec.ofInt 64 n &&& BitVec.ofInt 64 m).toNat = (n % ((2 ^ 64 : Nat) : Int)).toNat % 2 ^ k := by
    rw [BitVec.toNat_and, BitVec.toNat_ofInt, hm, Nat.and_two_pow_sub_one_eq_mod]
  show IntKind.i64.wrap ((BitVec.ofInt 64 n &&& BitVec.ofInt 64 m).toNat : Nat) = n % ((2 ^ k : Nat) : Int)
  rw [key, IntKind.wrap_i64]
  have : k = 0 ∨ k = 1 ∨ k = 2 ∨ k = 3 ∨ k = 4 ∨ k = 5 ∨ k = 6 ∨ k = 7 ∨ k = 8 := by omega
  rcases this with rfl | rfl | rfl | rfl | rfl | rfl | rfl | rfl | rfl <;> omega
theorem and63 (n : Int) : bits .and .i64 n 63 = n % 64 := and_mask n 6 63 (by decide) (by decide)
theorem and31 (n : Int) : bits .and .i64 n 31 = n % 32 := and_mask n 5 31 (by decide) (by decide)
theorem and15 (n : Int) : bits .and .i64 n 15 = n % 16 := and_mask n 4 15 (by decide) (by decide)
theorem and7 (n : Int) : bits .and .i64 n 7 = n % 8 := and_mask n 3 7 (by decide) (by decide)

/-- A number of a slice. -/
theorem Is.nth {w : World} {va : Option Addr} {n vc j : Nat} {l : List Int} (h : Is w (.slice va n vc) l) (hj : j < l.length) : ∃ b off, va = some ⟨b, off, none⟩ ∧ ∀ k, k < l.length → w.cell? ⟨b, off + k, none⟩ = some (.int .i64 (l.getD k 0)) := by
  rcases h with ⟨e, rfl⟩ | ⟨x, c', e, hl, hm, hcell⟩
  · simp at hj
  · simp at e
    obtain ⟨rfl, _, _⟩ := e
    obtain ⟨b, off, spot⟩ := x
    have h0 := hcell 0 (by omega)
    have hspot : spot = none := by simpa [Addr.add] using World.cell?_spot h0
    subst hspot
    refine ⟨b, off, rfl, fun k hk => ?_⟩
    have := hcell k hk
    unfold Addr.add at this
    split at this
    · rename_i e; subst e; simpa using this
    · exact this

/-- A slice of numbers that a call has made. -/
theorem own_slice {W : World} {N n : Nat} {v : Value} {xs : List Value} (h : W.ownsRow N 3 1 v n xs) : ∃ a cp, v = .slice a n cp := by
  rcases h.2 with ⟨hv, h0⟩ | ⟨g, cap, cur, hv, _⟩
  · exact ⟨none, 0, by rw [hv, h0]⟩
  · exact ⟨_, _, hv⟩
end Go.Proofs.YtnnaemlipahamaaGreat

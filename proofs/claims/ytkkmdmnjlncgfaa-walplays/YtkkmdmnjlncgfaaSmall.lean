/-
  Contracts of the disk's methods that change its struct alone (strikes, disarm, On, Arm), of rest, and of the library's Clone of bytes and of numbers.
-/
import Derived.Test.YtkkmdmnjlncgfaaDisk
namespace Go.Proofs.Ytkkmdmnjlncgfaa
open Go.RowKit Go.Maps

/-- From w to w' the disk at p, whose blocks were F, has become S'; nothing else of what was there has changed. -/
def To (F : Nat → Prop) (p : Nat) (w w' : World) (S' : St) : Prop := ∃ F', Dk w' F' p S' ∧ Chg F w w' ∧ ∀ b, F' b → F b ∨ w.heap.size ≤ b
theorem To.refl {F : Nat → Prop} {p : Nat} {w : World} {S : St} (h : Dk w F p S) : To F p w w S := ⟨F, h, Chg.refl _ _, fun _ h => .inl h⟩
theorem To.trans {F F1 : Nat → Prop} {p : Nat} {w w1 w2 : World} {S2 : St} (hc : Chg F w w1) (hF : ∀ b, F1 b → F b ∨ w.heap.size ≤ b) (h2 : To F1 p w1 w2 S2) : To F p w w2 S2 := by
  obtain ⟨F2, h3, h4, h5⟩ := h2
  refine ⟨F2, h3, hc.trans h4 (fun i hi h => ?_), fun b hb => ?_⟩
  · rcases hF i h with h | h
    · exact h
    · omega
  · rcases h5 b hb with h | h
    · exact hF b h
    · exact .inr (Nat.le_trans hc.size h)
theorem To.own {F : Nat → Prop} {p : Nat} {w w' : World} {S' : St} (hF : F p) (h : Dk w' F p S') (hc : Chg (fun k => k = p) w w') : To F p w w' S' := ⟨F, h, hc.mono (fun i _ h => by rw [h]; exact hF), fun _ h => .inl h⟩

theorem DkAt.ne_pk {w : World} {F : Nat → Prop} {p : Nat} {S : St} {s sc m : Nat} {pv : Value} {V : Nat → Value} (h : DkAt w F p S s sc m pv V) : ∀ g, pv.ownBlock = some g → ¬ g = p := by
  rintro g hg rfl
  obtain ⟨cur, hcur⟩ := own_obj h.pk hg
  rw [h.blk] at hcur; cases hcur

theorem DkAt.struck {w : World} {F : Nat → Prop} {p : Nat} {S : St} {s sc m : Nat} {pv : Value} {V : Nat → Value} (h : DkAt w F p S s sc m pv V) {A : Int} (hA : S.arm = A) (h1 : 1 ≤ A) :
    DkAt (w.setCell ⟨p, 4, none⟩ (.int .i64 (A - 1))) F p S.struck s sc m pv V ∧ Chg (fun k => k = p) w (w.setCell ⟨p, 4, none⟩ (.int .i64 (A - 1))) := by
  have a0 := h.wf.arm0
  have a1 := h.wf.arm1
  have e : S.struck.arm = A - 1 := by
    show (if S.arm < 1 then S.arm else S.arm - 1) = A - 1
    rw [if_neg (by omega), hA]
  have hb := heap_setCell_same w p 4 _ _ (.int .i64 (A - 1)) h.blk
  have hc : Chg (fun k => k = p) w (w.setCell ⟨p, 4, none⟩ (.int .i64 (A - 1))) := Chg.setCell _ _ _ rfl
  refine ⟨h.restruct hc (by simp at hb; rw [e]; exact hb) ⟨h.wf.pos, h.wf.top, h.wf.syn, h.wf.ver, h.wf.out, h.wf.few, by rw [e]; omega, by rw [e]; omega⟩ rfl rfl rfl (own_same h.pk (fun g hg => hc.block g (h.lt g (h.fk g hg)) (h.ne_pk g hg))) h.fk, hc⟩

set_option maxHeartbeats 400000 in
theorem strikes_any (F : Nat → Prop) (p : Nat) (S : St) (w : World) (h : Dk w F p S) :
    Calls Try.prog 65 #[.pointer (some ⟨p, 0, none⟩)] w fun e w' => e = .returned (.bool (decide (S.arm = 1))) ∧ Dk w' F p S.struck ∧ Chg (fun k => k = p) w w' := by
  obtain ⟨s, sc, m, pv, V, h⟩ := h
  have c4 := h.c4
  have f4 := h.fr 4
  have a0 := h.wf.arm0
  have a1 := h.wf.arm1
  by_cases hlt : S.arm < 1
  · have e : S.struck = S := by show ({ S with arm := if S.arm < 1 then S.arm else S.arm - 1 } : St) = S; rw [if_pos hlt]
    rw [e]
    have HH : Hid (DkAt w F p S s sc m pv V) := h
    have k1 : decide (S.arm < 1) = true := by simpa using hlt
    have k2 : decide (S.arm = 1) = false := by simp; omega
    clear h
    go_enter Try.func65, Try.ntmps65
    go_wp2
    go_ret
    rw [k2]
    exact ⟨rfl, ⟨s, sc, m, pv, V, HH.out⟩, Chg.refl _ _⟩
  · have k1 : decide (S.arm < 1) = false := by simpa using hlt
    obtain ⟨A, hA⟩ : ∃ A, S.arm = A := ⟨_, rfl⟩
    have HH : Hid (DkAt (w.setCell ⟨p, 4, none⟩ (.int .i64 (A - 1))) F p S.struck s sc m pv V ∧ Chg (fun k => k = p) w (w.setCell ⟨p, 4, none⟩ (.int .i64 (A - 1)))) := h.struck hA (by omega)
    rw [hA] at c4 a0 a1 k1 hlt
    have HA : Hid (S.arm = A) := hA
    clear h hA
    go_enter Try.func65, Try.ntmps65
    go_wp2
    go_ret
    refine ⟨?_, ⟨s, sc, m, pv, V, HH.out.1⟩, HH.out.2⟩
    rw [HA.out]
    have : (A - 1 == 0) = decide (A = 1) := by
      rw [Bool.eq_iff_iff]; simp; omega
    simp [this]

theorem disarmed {w : World} {F : Nat → Prop} {p : Nat} {S : St} {s sc m : Nat} {pv : Value} {V : Nat → Value} (h : DkAt w F p S s sc m pv V) :
    DkAt ((w.setCell ⟨p, 4, none⟩ (.int .i64 0)).setCell ⟨p, 5, none⟩ (.slice none 0 0)) F p { S with arm := 0, picks := [] } s sc m (.slice none 0 0) V ∧ Chg (fun k => k = p) w ((w.setCell ⟨p, 4, none⟩ (.int .i64 0)).setCell ⟨p, 5, none⟩ (.slice none 0 0)) := by
  have hb := heap_setCell_same w p 4 _ _ (.int .i64 0) h.blk
  have hb2 := heap_setCell_same _ p 5 _ _ (.slice none 0 0) hb
  have hc : Chg (fun k => k = p) w ((w.setCell ⟨p, 4, none⟩ (.int .i64 0)).setCell ⟨p, 5, none⟩ (.slice none 0 0)) := (Chg.setCell (S := fun k => k = p) w ⟨p, 4, none⟩ _ rfl).trans (Chg.setCell (S := fun k => k = p) _ ⟨p, 5, none⟩ _ rfl) (fun _ _ h => h)
  exact ⟨h.restruct hc (by simpa using hb2) ⟨h.wf.pos, h.wf.top, h.wf.syn, h.wf.ver, h.wf.out, h.wf.few, by simp, by simp⟩ rfl rfl rfl (World.ownsRow_nil _ _ _ _) (fun g hg => by cases hg), hc⟩

set_option maxHeartbeats 400000 in
theorem disarm_any (F : Nat → Prop) (p : Nat) (S : St) (w : World) (h : Dk w F p S) :
    Calls Try.prog 62 #[.pointer (some ⟨p, 0, none⟩)] w fun e w' => e = .returned (.tuple #[]) ∧ Dk w' F p { S with arm := 0, picks := [] } ∧ Chg (fun k => k = p) w w' := by
  obtain ⟨s, sc, m, pv, V, h⟩ := h
  have c4 := h.c4
  have c5 := h.c5
  have f4 := h.fr 4
  have f5 := h.fr 5
  have HH : Hid (DkAt w F p S s sc m pv V) := h
  clear h
  go_enter Try.func62, Try.ntmps62
  go_wp2
  go_end0
  have := disarmed HH.out
  exact ⟨rfl, ⟨s, sc, m, _, V, this.1⟩, this.2⟩

theorem DkAt.setOff {w : World} {F : Nat → Prop} {p : Nat} {S : St} {s sc m : Nat} {pv : Value} {V : Nat → Value} (h : DkAt w F p S s sc m pv V) (b : Bool) :
    DkAt (w.setCell ⟨p, 3, none⟩ (.bool b)) F p { S with off := b } s sc m pv V ∧ Chg (fun k => k = p) w (w.setCell ⟨p, 3, none⟩ (.bool b)) := by
  have hb := heap_setCell_same w p 3 _ _ (.bool b) h.blk
  have hc : Chg (fun k => k = p) w (w.setCell ⟨p, 3, none⟩ (.bool b)) := Chg.setCell _ _ _ rfl
  exact ⟨h.restruct hc (by simpa using hb) ⟨h.wf.pos, h.wf.top, h.wf.syn, h.wf.ver, h.wf.out, h.wf.few, h.wf.arm0, h.wf.arm1⟩ rfl rfl rfl (own_same h.pk (fun g hg => hc.block g (h.lt g (h.fk g hg)) (h.ne_pk g hg))) h.fk, hc⟩

set_option maxHeartbeats 400000 in
theorem on_any (F : Nat → Prop) (p : Nat) (S : St) (w : World) (h : Dk w F p S) :
    Calls Try.prog 27 #[.pointer (some ⟨p, 0, none⟩)] w fun e w' => e = .returned (.tuple #[]) ∧ Dk w' F p S.on ∧ Chg (fun k => k = p) w w' := by
  obtain ⟨s, sc, m, pv, V, h⟩ := h
  have c3 := h.c3
  have f3 := h.fr 3
  obtain ⟨h1, hc1⟩ := h.setOff false
  have H1 : Hid (DkAt (w.setCell ⟨p, 3, none⟩ (.bool false)) F p { S with off := false } s sc m pv V) := h1
  clear h h1
  go_enter Try.func27, Try.ntmps27
  go_wp2_with fail
  refine (disarm_any F p { S with off := false } _ ⟨s, sc, m, pv, V, H1.out⟩).mono ?_
  rintro e w2 ⟨rfl, h2, hc2⟩
  clear H1 c3 f3
  go_wp2
  go_end0
  exact ⟨rfl, h2, hc1.trans hc2 (fun _ _ h => h)⟩

set_option maxHeartbeats 400000 in
theorem rest_any (q : Int) (k : Nat) (w : World) (hk : k < 1099511627776) :
    Calls Try.prog 61 #[.int .i64 q, .int .i64 ((k : Int) + 1)] w fun e w' => e = .returned (.int .i64 (St.pickN q k : Int)) ∧ w' = w := by
  have hp : (0 : Int) < (k : Int) + 1 := by omega
  have e1 : ((St.pickN q k : Nat) : Int) = q % ((k : Int) + 1) := by
    unfold St.pickN
    have := Int.emod_nonneg q (b := (k : Int) + 1) (by omega)
    omega
  have t1 := Int.tmod_lt_of_pos q hp
  have t2 : -((k : Int) + 1) < q.tmod ((k : Int) + 1) := by
    have h9 := Int.tmod_lt_of_pos (-q) hp
    rw [Int.neg_tmod] at h9
    omega
  have e2 : (q.tmod ((k : Int) + 1) + ((k : Int) + 1)).tmod ((k : Int) + 1) = q % ((k : Int) + 1) := by
    rw [Int.tmod_eq_emod_of_nonneg (by omega), Int.add_emod_right]
    by_cases hq : 0 ≤ q
    · rw [Int.tmod_eq_emod_of_nonneg hq, Int.emod_emod]
    · have h5 : q = -(-q) := by omega
      have h6 : q.tmod ((k : Int) + 1) = -((-q).tmod ((k : Int) + 1)) := by rw [← Int.neg_tmod]; simp
      rw [h6, Int.tmod_eq_emod_of_nonneg (by omega)]
      have h7 := Int.emod_add_mul_ediv (-q) ((k : Int) + 1)
      have h8 : -((-q) % ((k : Int) + 1)) = q + ((k : Int) + 1) * ((-q) / ((k : Int) + 1)) := by omega
      rw [h8, Int.add_mul_emod_self_left]
  rw [e1]
  clear e1
  have z1 : ¬ ((k : Int) + 1 = 0) := by omega
  go_enter Try.func61, Try.ntmps61
  go_wp2
  go_ret
  exact ⟨rfl, rfl⟩

theorem info5 : (Try.prog.info? 5).map (fun i => (i.zero, i.size, i.bytes)) = some (some (.int .u8 0), 1, 1) := by kernel_rfl
theorem info3 : (Try.prog.info? 3).map (fun i => (i.zero, i.size, i.bytes)) = some (some (.int .i64 0), 1, 8) := by kernel_rfl

/-- A slice of numbers that reads xs. -/
def Is (w : World) (v : Value) (xs : List Int) : Prop :=
  (v = .slice none 0 0 ∧ xs = []) ∨
  ∃ a c, v = .slice (some a) xs.length c ∧ xs.length ≤ c ∧ c ≤ maxLen ∧ ∀ j, j < xs.length → w.cell? (a.add j) = some (.int .i64 (xs.getD j 0))
theorem Is.kept {E : Nat → Prop} {w w' : World} {v : Value} {xs : List Int} (h : Is w v xs) (hc : Chg E w w') (hn : ∀ g, v.ownBlock = some g → ¬ E g) : Is w' v xs := by
  rcases h with h | ⟨a, c, rfl, hl, hm, hcell⟩
  · exact .inl h
  · refine .inr ⟨a, c, rfl, hl, hm, fun j hj => ?_⟩
    refine hc.cell (hcell j hj) ?_
    have e : (a.add j).block = a.block := by unfold Addr.add; split <;> rfl
    rw [e]; exact hn _ rfl
theorem Is.ofOwns {w : World} {N : Nat} {v : Value} {n : Nat} {xs : List Int} (h : w.ownsRow N 3 1 v n (xs.map (Value.int .i64))) : Is w v xs := by
  have hn : xs.length = n := by have := h.1; simpa using this
  subst hn
  rcases h.2 with ⟨rfl, h0⟩ | ⟨g, cap, cur, rfl, hb, hg, hnc, hcm, hcs, htake⟩
  · exact .inl ⟨rfl, List.eq_nil_of_length_eq_zero h0⟩
  · refine .inr ⟨⟨g, 0, none⟩, cap, rfl, hnc, hcm, fun j hj => ?_⟩
    refine h.cells (g := g) rfl j _ ?_
    simp [List.getD, hj]
theorem Is.form {w : World} {v : Value} {xs : List Int} (h : Is w v xs) : ∃ a c, v = .slice a xs.length c ∧ xs.length ≤ c := by
  rcases h with ⟨rfl, rfl⟩ | ⟨a, c, rfl, hl, _⟩
  · exact ⟨none, 0, rfl, Nat.le_refl _⟩
  · exact ⟨some a, c, rfl, hl⟩
theorem Bs.form {w : World} {v : Value} {xs : List Int} (h : Bs w v xs) : ∃ a c, v = .slice a xs.length c ∧ xs.length ≤ c := by
  rcases h with ⟨rfl, rfl⟩ | ⟨a, c, rfl, hl, _⟩
  · exact ⟨none, 0, rfl, Nat.le_refl _⟩
  · exact ⟨some a, c, rfl, hl⟩

/-- append(v, x...) where v is an empty slice that the call has made. -/
theorem run_app_ints {P : Program} (w : World) (t ty : TypeId) (i : TypeInfo) (ht : P.underlying t = some (.slice 3)) (hi : P.info? 3 = some i) (hz : i.zero = some (.int .i64 0)) (hs : i.size = 1) (hb : i.bytes = 8)
    (v x : Value) (N : Nat) (news : List Int) (hown : w.ownsRow N 3 1 v 0 []) (hx : Is w x news) (hlen : news.length ≤ 1099511627776) (hN : N ≤ w.heap.size) :
    ∃ v' w', (Builtin.append_ #[t, t] ty #[v, x]).run P w = .ok v' w' ∧ w'.ownsRow N 3 1 v' news.length (news.map (Value.int .i64)) ∧ w.grownBy w' v.ownBlock ∧ (v'.ownBlock = v.ownBlock ∨ v'.ownBlock = some w.heap.size) := by
  rcases hx with ⟨rfl, rfl⟩ | ⟨a, c, rfl, _, _, hcell⟩
  · exact ⟨v, w, run_append_owned_none w N t ty 3 i 1 ht hi v _ _ hown, by simpa using hown, ⟨rfl, rfl, rfl, Nat.le_refl _, fun _ _ _ => rfl⟩, .inl rfl⟩
  · obtain ⟨v', w', h1, h2, h3, _, h5⟩ := run_append_own_at (P := P) w N t ty 3 i (.int .i64 0) 1 8 ht hi hz hs hb rfl (by decide) v 0 [] hown a news.length c (news.map (Value.int .i64)) (by simp)
      (fun j u hu => by
        have hj : j < news.length := by simpa using (List.getElem?_eq_some_iff.1 hu).1
        have : u = .int .i64 (news.getD j 0) := by
          simp [hj] at hu
          simp [List.getD, hj, ← hu]
        rw [this]; exact hcell j hj) (fun u hu => by obtain ⟨z, _, rfl⟩ := List.mem_map.1 hu; rfl) (by unfold maxLen; omega) (by omega) hN
    exact ⟨v', w', h1, by simpa using h2, h3, h5⟩

theorem eq33_nil (w : World) : (binOp .eql 50 (.slice none 0 0) (.slice none 0 0)).run Try.prog w = .ok (.bool true) w := by kernel_rfl
theorem eq33_some (a : Addr) (n c : Nat) (w : World) : (binOp .eql 50 (.slice (some a) n c) (.slice none 0 0)).run Try.prog w = .ok (.bool false) w := by kernel_rfl
theorem eq32_nil (w : World) : (binOp .eql 39 (.slice none 0 0) (.slice none 0 0)).run Try.prog w = .ok (.bool true) w := by kernel_rfl
theorem eq32_some (a : Addr) (n c : Nat) (w : World) : (binOp .eql 39 (.slice (some a) n c) (.slice none 0 0)).run Try.prog w = .ok (.bool false) w := by kernel_rfl

set_option maxHeartbeats 400000 in
set_option maxRecDepth 100000 in
/-- slices.Clone at numbers: new memory that holds the same. -/
theorem cloneI_any (v : Value) (xs : List Int) (w : World) (h : Is w v xs) (hlen : xs.length ≤ 1099511627776) :
    Calls Try.prog 58 #[v] w fun e w' => ∃ u, e = .returned u ∧ w'.ownsRow w.heap.size 3 1 u xs.length (xs.map (Value.int .i64)) ∧ Chg (fun _ => False) w w' := by
  obtain ⟨i0, hi, hz0, hz1, hz2⟩ := info_parts info3
  rcases h with ⟨rfl, rfl⟩ | ⟨a, c, rfl, hl, hm, hcell⟩
  · have hq := eq33_nil
    go_enter Try.func58, Try.ntmps58
    go_wp2
    go_ret
    exact ⟨_, rfl, World.ownsRow_nil _ _ _ _, Chg.refl _ _⟩
  · have h2 : Is (w.alloc (.cells #[] 3)) (.slice (some a) xs.length c) xs := Is.kept (.inr ⟨a, c, rfl, hl, hm, hcell⟩) (Chg.alloc (fun _ => False) w _) (fun _ _ h => h)
    obtain ⟨v', w', hr, ho, hg, hat⟩ := run_app_ints (w.alloc (.cells #[] 3)) 50 50 i0 Try.underlying50 hi hz0 hz1 hz2 (.slice (some ⟨w.heap.size, 0, none⟩) 0 0) _ w.heap.size xs (World.ownsRow_made w #[] 0 (Nat.le_refl _) (by simp [maxLen]) rfl) h2 hlen (by simp)
    have hc : Chg (fun _ => False) w w' := ⟨hg.os, hg.tape, hg.output, Nat.le_trans (by simp) hg.size, fun k hk _ => (hg.block k (by simp; omega) (by simp [Value.ownBlock]; omega)).trans (Below.heap_alloc w _ k hk)⟩
    clear h2 hg hat hcell hlen hm
    have hq := eq33_some a xs.length c
    go_enter Try.func58, Try.ntmps58
    go_wp2_with (at_builtin; go_must (refine Lib.wpList_append_run _ rfl (.tmp 5) (.tmp 6) 50 50 rfl _ _ rfl rfl v' w' hr ?_))
    go_ret
    exact ⟨v', rfl, ho, hc⟩

set_option maxHeartbeats 400000 in
set_option maxRecDepth 100000 in
/-- bytes.Clone: new memory that holds the same. -/
theorem cloneB_any (v : Value) (xs : List Int) (w : World) (h : Bs w v xs) (hlen : xs.length ≤ 1099511627776) :
    Calls Try.prog 56 #[v] w fun e w' => ∃ u, e = .returned u ∧ w'.ownsRow w.heap.size 5 1 u xs.length (bcells xs) ∧ Chg (fun _ => False) w w' := by
  obtain ⟨i0, hi, hz0, hz1, hz2⟩ := info_parts info5
  rcases h with ⟨rfl, rfl⟩ | ⟨a, c, rfl, hl, hm, hcell⟩
  · have hq := eq32_nil
    go_enter Try.func56, Try.ntmps56
    go_wp2
    go_ret
    exact ⟨_, rfl, World.ownsRow_nil _ _ _ _, Chg.refl _ _⟩
  · have h2 : Bs (w.alloc (.cells #[] 5)) (.slice (some a) xs.length c) xs := Bs.kept (.inr ⟨a, c, rfl, hl, hm, hcell⟩) (Chg.alloc (fun _ => False) w _) (fun _ _ _ _ _ h => h)
    obtain ⟨v', w', hr, ho, hg, hat⟩ := run_app (w.alloc (.cells #[] 5)) w.heap.size 39 39 i0 Try.underlying39 hi hz0 hz1 hz2 (.slice (some ⟨w.heap.size, 0, none⟩) 0 0) _ 0 [] xs (by simpa [bcells] using World.ownsRow_made (size := 1) w #[] 0 (Nat.le_refl _) (by simp [maxLen]) rfl) h2 (by simpa using hlen) (by simp)
    simp only [Nat.zero_add, List.nil_append] at ho
    have hc : Chg (fun _ => False) w w' := ⟨hg.os, hg.tape, hg.output, Nat.le_trans (by simp) hg.size, fun k hk _ => (hg.block k (by simp; omega) (by simp [Value.ownBlock]; omega)).trans (Below.heap_alloc w _ k hk)⟩
    clear h2 hg hat hcell hlen hm
    have hq := eq32_some a xs.length c
    go_enter Try.func56, Try.ntmps56
    go_wp2_with (at_builtin; go_must (refine Lib.wpList_append_run _ rfl (.tmp 5) (.tmp 6) 39 39 rfl _ _ rfl rfl v' w' hr ?_))
    go_ret
    exact ⟨v', rfl, ho, hc⟩
end Go.Proofs.Ytkkmdmnjlncgfaa

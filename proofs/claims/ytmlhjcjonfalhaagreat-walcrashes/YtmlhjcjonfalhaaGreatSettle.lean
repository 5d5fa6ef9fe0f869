/-
  Contracts of pick, settle and Arm of package block.
-/
import Derived.Test.YtmlhjcjonfalhaaGreatDisk
namespace Go.Proofs.YtmlhjcjonfalhaaGreat
open Go.RowKit Go.Maps

theorem Dk.grow {w : World} {F F' : Nat → Prop} {p : Nat} {S : St} {s sc m : Nat} {pv : Value} {V : Nat → Value} (h : DkAt w F p S s sc m pv V) (hF : ∀ b, F b → F' b) (hl : ∀ b, F' b → b < w.heap.size) : DkAt w F' p S s sc m pv V :=
  ⟨h.wf, h.blk, h.syn, h.map, fun n hn => (h.row n hn).mono hF, h.apart, h.pk, hF _ h.fp, hF _ h.fs, hF _ h.fm, fun n g hn hg => hF _ (h.fv n g hn hg), fun g hg => hF _ (h.fk g hg), hl⟩

/-- A call that makes memory alone: the disk stays; F and the new blocks. -/
def more (F : Nat → Prop) (a b : Nat) : Nat → Prop := fun k => F k ∨ (a ≤ k ∧ k < b)

theorem wpList_copy_eq {P : Program} (w : World) {ops : Array Oper} {rest : List Oper} {o : Oper} {a : Act} {Q : Exit → Act → World → Prop} (hgd : o.guard = none) (d s : Operand) (t t' : TypeId)
    (ho : o.op = .call { callee := .builtin .copy, args := #[d, s], argTypes := #[t, t'] }) (vd vs : Value) (hd : a.eval d = vd) (hs : a.eval s = vs)
    (v' : Value) (w' : World) (hr : (Builtin.copy_ #[t, t'] o.type #[vd, vs]).run P w = .ok v' w') (h : wpList P ops Q rest (a.put o.dst v') w') : wpList P ops Q (o :: rest) a w := by
  refine wpList_plain hgd fun K' hK' => ?_
  unfold Oper.wp
  simp [execOp, ho, resolve, invoke, builtin, hd, hs, hr, Result.andThen]
  exact hK' _ _ h
theorem wpList_delete_eq {P : Program} (w : World) {ops : Array Oper} {rest : List Oper} {o : Oper} {a : Act} {Q : Exit → Act → World → Prop} (hgd : o.guard = none) (d s : Operand) (t t' : TypeId)
    (ho : o.op = .call { callee := .builtin .delete, args := #[d, s], argTypes := #[t, t'] }) (vd vs : Value) (hd : a.eval d = vd) (hs : a.eval s = vs)
    (w' : World) (hr : (Builtin.delete_ #[t, t'] o.type #[vd, vs]).run P w = .ok (.tuple #[]) w') (h : wpList P ops Q rest (a.put o.dst (.tuple #[])) w') : wpList P ops Q (o :: rest) a w := by
  refine wpList_plain hgd fun K' hK' => ?_
  unfold Oper.wp
  simp [execOp, ho, resolve, invoke, builtin, hd, hs, hr, Result.andThen]
  exact hK' _ _ h

section
variable {w : World} {F : Nat → Prop} {p : Nat} {S : St} {s sc m : Nat} {pv : Value} {V : Nat → Value}

theorem DkAt.scle (h : DkAt w F p S s sc m pv V) : 512 * S.nb ≤ sc ∧ sc ≤ maxLen := by
  rcases h.syn.2 with ⟨e, _⟩ | ⟨g, cap, cur, e, _, _, h1, h2, _⟩
  · cases e
  · cases e; exact ⟨h1, h2⟩
theorem DkAt.srow (h : DkAt w F p S s sc m pv V) : ∃ cur : Array Value, w.heap[s]? = some (.cells cur 5 (0, 0)) ∧ cur.size = sc ∧ cur.toList.take (512 * S.nb) = bcells (St.flat S.nb S.syn) := by
  rcases h.syn.2 with ⟨e, _⟩ | ⟨g, cap, cur, e, _, h0, h1, h2, h3, h4⟩
  · cases e
  · cases e; exact ⟨cur, h0, by simpa using h3, by simpa using h4⟩
/-- A synced block as a slice. -/
theorem DkAt.sub (h : DkAt w F p S s sc m pv V) {n : Nat} (hn : n < S.nb) : Bs w (.slice (some ⟨s, 512 * n, none⟩) 512 512) (S.syn n) := by
  have hl := h.wf.syn n hn
  refine .inr ⟨_, 512, by rw [hl], by omega, by simp [maxLen], fun j hj => ?_⟩
  rw [hl] at hj
  obtain ⟨cur, h0, h3, h4⟩ := h.srow
  have e : (⟨s, 512 * n, none⟩ : Addr).add j = ⟨s, 512 * n + j, none⟩ := by unfold Addr.add; split <;> simp_all
  rw [e, cell_of_row w s _ _ _ _ h0]
  have hfl := St.flat_length (nb := S.nb) (f := S.syn) h.wf.syn
  have hg := St.flat_get hn h.wf.syn
  have h5 : (512 * n + j) < 512 * S.nb := by omega
  have h6 : cur.toList[512 * n + j]? = (bcells (St.flat S.nb S.syn))[512 * n + j]? := by
    rw [← h4, List.getElem?_take]; simp [h5]
  have h7 : cur[512 * n + j]? = cur.toList[512 * n + j]? := by simp
  rw [h7, h6]
  have h8 : (St.flat S.nb S.syn)[512 * n + j]? = (S.syn n)[j]? := by
    rw [← hg, List.getElem?_take, List.getElem?_drop]; simp [hj]
  simp only [bcells, List.getElem?_map, h8]
  simp [List.getD, hl, hj]

/-- A version as a slice. -/
theorem DkAt.verAt (h : DkAt w F p S s sc m pv V) {n j : Nat} (hw : S.wait n ≠ []) (h1 : 1 ≤ j) (hj : j ≤ (S.wait n).length) :
    ∃ g c go co, V n = .slice (some ⟨go, 0, none⟩) (S.wait n).length co ∧ (S.wait n).length ≤ co ∧ co ≤ maxLen ∧ w.cell? ⟨go, j - 1, none⟩ = some (.slice (some ⟨g, 0, none⟩) 512 c) ∧ w.ownsRow 0 5 1 (.slice (some ⟨g, 0, none⟩) 512 c) 512 (bcells (S.ver n j)) ∧ g ≠ s ∧ F g := by
  obtain ⟨us, ho, hu⟩ := h.row n hw
  obtain ⟨g, c, e, hr, hs, hf⟩ := hu (j - 1) (by omega)
  rcases ho.2 with ⟨_, h0⟩ | ⟨go, co, cur, hV, _, hg, hle, hm, hsz, htk⟩
  · exact absurd (List.eq_nil_of_length_eq_zero h0) hw
  · refine ⟨g, c, go, co, hV, hle, hm, ?_, ?_, hs, hf⟩
    · have := ho.cells (g := go) (by rw [hV]; rfl) (j - 1) _ e
      have e2 : (⟨go, 0, none⟩ : Addr).add (j - 1) = ⟨go, j - 1, none⟩ := by unfold Addr.add; split <;> simp_all
      rwa [e2] at this
    · have : S.ver n j = (S.wait n).getD (j - 1) [] := by simp [St.ver, show ¬ j = 0 by omega]
      rw [this]; exact hr
theorem DkAt.look (h : DkAt w F p S s sc m pv V) {n : Nat} (hn : n < S.nb) : (Instr.lookup 63 (.map (some m)) (.int .i64 (n : Int)) false).run Tryz.prog w = .ok ((mf S V n).getD (.slice none 0 0)) w := h.map.look h.wf.top hn
end

set_option maxHeartbeats 400000 in
theorem pick0_any (F : Nat → Prop) (p : Nat) (S : St) (n : Nat) (w : World) {s sc m : Nat} {pv : Value} {V : Nat → Value} (h : DkAt w F p S s sc m pv V) (hn : n < S.nb) :
    Calls Tryz.prog 61 #[.pointer (some ⟨p, 0, none⟩), .int .i64 (n : Int), .int .i64 0] w fun e w' => e = .returned (.slice (some ⟨s, 512 * n, none⟩) 512 512) ∧ w' = w := by
  have c0 := h.c0
  have hs := h.scle
  have hw := h.wf.top
  obtain ⟨h1, h2⟩ := hs
  unfold maxLen at h2
  have e1 : (n : Int) * 512 = ((512 * n : Nat) : Int) := by omega
  have e2 : ((n : Int) + 1) * 512 = ((512 * n + 512 : Nat) : Int) := by omega
  have g1 : 512 * n ≤ 512 * n + 512 := by omega
  have g2 : 512 * n + 512 ≤ sc := by omega
  have g3 : ¬ (512 * n + 512 = 512 * n) := by omega
  have g4 : ¬ (sc = 512 * n) := by omega
  clear h
  go_enter Tryz.func61, Tryz.ntmps61
  go_wp2
  go_ret
  rw [show 512 * n + 512 - 512 * n = 512 by omega]
  exact ⟨rfl, rfl⟩

set_option maxHeartbeats 400000 in
theorem pickJ_any (F : Nat → Prop) (p : Nat) (S : St) (n j : Nat) (w : World) {s sc m : Nat} {pv : Value} {V : Nat → Value} (h : DkAt w F p S s sc m pv V) (hw : S.wait n ≠ []) (h1 : 1 ≤ j) (hj : j ≤ (S.wait n).length) (hx : S.writes < 1099511627776) :
    Calls Tryz.prog 61 #[.pointer (some ⟨p, 0, none⟩), .int .i64 (n : Int), .int .i64 (j : Int)] w fun e w' => ∃ g c, e = .returned (.slice (some ⟨g, 0, none⟩) 512 c) ∧ w' = w ∧ w.ownsRow 0 5 1 (.slice (some ⟨g, 0, none⟩) 512 c) 512 (bcells (S.ver n j)) ∧ g ≠ s ∧ F g := by
  have hn : n < S.nb := by
    by_cases hn : n < S.nb
    · exact hn
    · exact absurd (h.wf.out n (by omega)) hw
  have c1 := h.c1
  have lk := h.look hn
  have hfw := h.wf.few n
  rw [mf_some hw] at lk
  obtain ⟨g, c, go, co, hV, hle, hm, hcell, hrow, hs, hf⟩ := h.verAt hw h1 hj
  rw [hV] at lk
  simp only [Option.getD_some] at lk
  obtain ⟨i, rfl⟩ : ∃ i, j = i + 1 := ⟨j - 1, by omega⟩
  have HR : Hid (w.ownsRow 0 5 1 (.slice (some ⟨g, 0, none⟩) 512 c) 512 (bcells (S.ver n (i + 1))) ∧ g ≠ s ∧ F g) := ⟨hrow, hs, hf⟩
  simp only [Nat.add_sub_cancel] at hcell
  obtain ⟨L, hL⟩ : ∃ L, (S.wait n).length = L := ⟨_, rfl⟩
  rw [hL] at hj hle hfw lk
  have hi : i < L := by omega
  have e3 : ((i + 1 : Nat) : Int) = (i : Int) + 1 := by omega
  rw [e3]
  clear h hrow hV hL hs hf e3
  go_enter Tryz.func61, Tryz.ntmps61
  go_wp2
  go_ret
  exact ⟨g, c, rfl, rfl, HR.out⟩

theorem mf_settle (S : St) (V : Nat → Value) (n j : Nat) : mf (S.settle n j) V = upd (mf S V) n none := by
  funext k
  by_cases e : k = n
  · subst e
    rw [upd_same]
    exact mf_none (by simp [St.settle, upd_same])
  · rw [upd_other _ _ e]
    unfold mf
    have : (S.settle n j).wait k = S.wait k := upd_other _ _ e
    rw [this]

theorem DkAt.settled {w w1 w2 : World} {F : Nat → Prop} {p : Nat} {S : St} {s sc m : Nat} {pv : Value} {V : Nat → Value} (h : DkAt w F p S s sc m pv V) {n j : Nat} (hn : n < S.nb) (hj : j ≤ (S.wait n).length) {cur : Array Value}
    (h0 : w.heap[s]? = some (.cells cur 5 (0, 0))) (h3 : cur.size = sc) (h4 : cur.toList.take (512 * S.nb) = bcells (St.flat S.nb S.syn))
    (hw1 : w1 = w.setRow s (cur.toList.take (512 * n) ++ bcells (S.ver n j) ++ cur.toList.drop (512 * n + (bcells (S.ver n j)).length)).toArray)
    (hm : MapIs w2 m S.nb (upd (mf S V) n none)) (hg : w1.grownBy w2 (some m)) (hz : w2.heap.size = w1.heap.size) :
    DkAt w2 F p (S.settle n j) s sc m pv V ∧ Chg (fun k => k = s ∨ k = m) w w2 ∧ w2.heap.size = w.heap.size := by
  have hvl : (bcells (S.ver n j)).length = 512 := by simp [bcells]; exact St.ver_len h.wf hn hj
  obtain ⟨es, cl, hmo⟩ := h.map.obj
  have hsm : s ≠ m := by rintro rfl; rw [h0] at hmo; cases hmo
  have hps : p ≠ s := by rintro rfl; have := h.blk; rw [h0] at this; cases this
  have hpm : p ≠ m := by rintro rfl; have := h.blk; rw [hmo] at this; cases this
  have hz1 : w1.heap.size = w.heap.size := by rw [hw1]; simp
  have oth : ∀ k, k < w.heap.size → k ≠ s → k ≠ m → w2.heap[k]? = w.heap[k]? := fun k hk h1 h2 => by
    rw [hg.block k (by omega) (by simpa using h2), hw1, setRow_other w s k _ h1]
  have hrow1 : w1.heap[s]? = some (.cells (cur.toList.take (512 * n) ++ bcells (S.ver n j) ++ cur.toList.drop (512 * n + (bcells (S.ver n j)).length)).toArray 5 (0, 0)) := by
    rw [hw1]; exact setRow_heap w s cur _ 5 _ h0
  have hrow2 : w2.heap[s]? = some (.cells (cur.toList.take (512 * n) ++ bcells (S.ver n j) ++ cur.toList.drop (512 * n + (bcells (S.ver n j)).length)).toArray 5 (0, 0)) :=
    (hg.block s (by rw [hz1]; exact (Array.getElem?_eq_some_iff.1 h0).1) (by simpa using hsm)).trans hrow1
  have hsc := h.scle
  have hcl : cur.toList.length = sc := by simpa using h3
  have hch : Chg (fun k => k = s ∨ k = m) w w2 := ⟨by rw [hg.os, hw1]; rfl, by rw [hg.tape, hw1]; rfl, by rw [hg.output, hw1]; rfl, by omega, fun k hk hne => oth k hk (fun e => hne (.inl e)) (fun e => hne (.inr e))⟩
  refine ⟨⟨St.settle_wf h.wf hn hj, (oth p h.pobj hps hpm).trans h.blk, ?_, by rw [mf_settle]; exact hm, ?_, ?_, ?_, h.fp, h.fs, h.fm, ?_, h.fk, fun b hf => by have := h.lt b hf; omega⟩, hch, by omega⟩
  · refine ⟨?_, .inr ⟨s, sc, _, rfl, Nat.zero_le _, hrow2, hsc.1, hsc.2, ?_, ?_⟩⟩
    · have hl2 := St.flat_length (nb := S.nb) (f := (S.settle n j).syn) (St.settle_wf h.wf hn hj).syn
      simp only [bcells, List.length_map, Nat.mul_one]
      exact hl2
    · simp [hvl, List.length_take, hcl]; omega
    · show (cur.toList.take (512 * n) ++ bcells (S.ver n j) ++ cur.toList.drop (512 * n + (bcells (S.ver n j)).length)).take (512 * S.nb * 1) = bcells (St.flat S.nb (upd S.syn n (S.ver n j)))
      rw [St.flat_set hn h.wf.syn]
      have e1 : bcells ((St.flat S.nb S.syn).take (512 * n) ++ S.ver n j ++ (St.flat S.nb S.syn).drop (512 * n + 512)) = (bcells (St.flat S.nb S.syn)).take (512 * n) ++ bcells (S.ver n j) ++ (bcells (St.flat S.nb S.syn)).drop (512 * n + 512) := by
        simp [bcells, List.map_take, List.map_drop]
      rw [e1, ← h4, hvl, Nat.mul_one]
      have e2 : (cur.toList.take (512 * S.nb)).take (512 * n) = cur.toList.take (512 * n) := by rw [List.take_take]; congr 1; omega
      have e3 : (cur.toList.take (512 * S.nb)).drop (512 * n + 512) = (cur.toList.drop (512 * n + 512)).take (512 * S.nb - (512 * n + 512)) := by rw [List.drop_take]
      have hl : (cur.toList.take (512 * n) ++ bcells (S.ver n j)).length = 512 * n + 512 := by simp [hvl, hcl]; omega
      rw [e2, e3, List.take_append, hl, List.take_of_length_le (by rw [hl]; omega)]
  · intro k hk
    have hkn : k ≠ n := by rintro rfl; exact hk (by simp [St.settle, upd_same])
    have e : (S.settle n j).wait k = S.wait k := upd_other _ _ hkn
    rw [e] at hk ⊢
    have hv := h.row k hk
    refine hv.kept (fun g hg' => ?_) (fun g hf hgs ⟨c, hc⟩ => oth g (h.lt g hf) hgs (by rintro rfl; rw [hmo] at hc; cases hc))
    obtain ⟨us, h1, _⟩ := hv
    obtain ⟨c, hc⟩ := own_obj h1 hg'
    exact oth g (h1.lt g hg').2 (by rintro rfl; rw [h0] at hc; cases hc) (by rintro rfl; rw [hmo] at hc; cases hc)
  · intro a b g ha hb hne
    have han : a ≠ n := by rintro rfl; exact ha (by simp [St.settle, upd_same])
    have hbn : b ≠ n := by rintro rfl; exact hb (by simp [St.settle, upd_same])
    have e1 : (S.settle n j).wait a = S.wait a := upd_other _ _ han
    have e2 : (S.settle n j).wait b = S.wait b := upd_other _ _ hbn
    rw [e1] at ha; rw [e2] at hb
    exact h.apart a b g ha hb hne
  · refine own_same h.pk (fun g hg' => ?_)
    obtain ⟨c, hc⟩ := own_obj h.pk hg'
    exact oth g (h.pk.lt g hg').2 (by rintro rfl; rw [h0] at hc; cases hc) (by rintro rfl; rw [hmo] at hc; cases hc)
  · intro k g hk
    have hkn : k ≠ n := by rintro rfl; exact hk (by simp [St.settle, upd_same])
    have e : (S.settle n j).wait k = S.wait k := upd_other _ _ hkn
    rw [e] at hk
    exact h.fv k g hk

/-- What pick hands back, at any of block n's versions. -/
theorem pick_any (F : Nat → Prop) (p : Nat) (S : St) (n j : Nat) (w : World) {s sc m : Nat} {pv : Value} {V : Nat → Value} (h : DkAt w F p S s sc m pv V) (hn : n < S.nb) (hj : j ≤ (S.wait n).length) (hx : S.writes < 1099511627776) :
    Calls Tryz.prog 61 #[.pointer (some ⟨p, 0, none⟩), .int .i64 (n : Int), .int .i64 (j : Int)] w fun e w' => ∃ a c, e = .returned (.slice (some a) 512 c) ∧ w' = w ∧ Bs w (.slice (some a) 512 c) (S.ver n j) ∧ F a.block := by
  by_cases h0 : j = 0
  · subst h0
    refine (pick0_any F p S n w h hn).mono ?_
    rintro e w' ⟨rfl, rfl⟩
    exact ⟨_, _, rfl, rfl, by simpa [St.ver] using h.sub hn, h.fs⟩
  · refine (pickJ_any F p S n j w h (fun e => by rw [e] at hj; simp at hj; omega) (by omega) hj hx).mono ?_
    rintro e w' ⟨g, c, rfl, rfl, hr, _, hf⟩
    exact ⟨_, _, rfl, rfl, Bs.ofOwns hr, hf⟩

set_option maxHeartbeats 800000 in
theorem settle_any (F : Nat → Prop) (p : Nat) (S : St) (n j : Nat) (w : World) {s sc m : Nat} {pv : Value} {V : Nat → Value} (h : DkAt w F p S s sc m pv V) (hn : n < S.nb) (hj : j ≤ (S.wait n).length) (hx : S.writes < 1099511627776) :
    Calls Tryz.prog 45 #[.pointer (some ⟨p, 0, none⟩), .int .i64 (n : Int), .int .i64 (j : Int)] w fun e w' => e = .returned (.tuple #[]) ∧ DkAt w' F p (S.settle n j) s sc m pv V ∧ Chg (fun k => k = s ∨ k = m) w w' ∧ w'.heap.size = w.heap.size ∧
      ∀ r g cnt, Rng w m r S.nb (mf S V) g cnt → ∃ cnt', Rng w' m r S.nb (mf (S.settle n j) V) (upd g n false) cnt' ∧ cnt' ≤ cnt := by
  obtain ⟨cur, h0, h3, h4⟩ := h.srow
  have hvl : (S.ver n j).length = 512 := St.ver_len h.wf hn hj
  have hbl : (bcells (S.ver n j)).length = 512 := by simp [bcells]; exact hvl
  have hsc := h.scle
  have hsz : 512 * n + (bcells (S.ver n j)).length ≤ cur.size := by rw [hbl, h3]; omega
  obtain ⟨w1, hw1⟩ : ∃ w1, w1 = w.setRow s (cur.toList.take (512 * n) ++ bcells (S.ver n j) ++ cur.toList.drop (512 * n + (bcells (S.ver n j)).length)).toArray := ⟨_, rfl⟩
  obtain ⟨es, cl, hmo⟩ := h.map.obj
  have hsm : s ≠ m := by rintro rfl; rw [h0] at hmo; cases hmo
  have hps : p ≠ s := by rintro rfl; have := h.blk; rw [h0] at this; cases this
  have hm1 : MapIs w1 m S.nb (mf S V) := h.map.kept (by rw [hw1]; exact setRow_other w s m _ (fun e => hsm e.symm))
  obtain ⟨w2, hdel, hm2, hg2, hz2, hrng⟩ := hm1.delete h.wf.top hn 0
  have HS := h.settled hn hj h0 h3 h4 hw1 hm2 hg2 hz2
  have HR : Hid (∀ r g cnt, Rng w m r S.nb (mf S V) g cnt → ∃ cnt', Rng w2 m r S.nb (mf (S.settle n j) V) (upd g n false) cnt' ∧ cnt' ≤ cnt) := fun r g cnt hr => by
    have hrs : r ≠ s := by rintro rfl; obtain ⟨_, _, _, _, ho⟩ := hr.obj; rw [h0] at ho; cases ho
    have hr1 : Rng w1 m r S.nb (mf S V) g cnt := hr.kept (by rw [hw1]; exact setRow_other w s m _ (fun e => hsm e.symm)) (by rw [hw1]; exact setRow_other w s r _ hrs)
    rw [mf_settle]
    exact hrng r g cnt hr1
  have HD : Hid (DkAt w F p S s sc m pv V ∧ (DkAt w2 F p (S.settle n j) s sc m pv V ∧ Chg (fun k => k = s ∨ k = m) w w2 ∧ w2.heap.size = w.heap.size)) := ⟨h, HS⟩
  have c1 : w1.cell? ⟨p, 1, none⟩ = some (.map (some m)) := by
    have : w1.heap[p]? = w.heap[p]? := by rw [hw1]; exact setRow_other w s p _ hps
    rw [World.cell?_of_block (a := ⟨p, 1, none⟩) this]; exact h.c1
  have hcp : ∀ (a : Addr) (c : Nat), Bs w (.slice (some a) 512 c) (S.ver n j) → (Builtin.copy_ #[50, 50] 3 #[.slice (some ⟨s, 512 * n, none⟩) 512 512, .slice (some a) 512 c]).run Tryz.prog w = .ok (goInt 512) w1 := fun a c hb => by
    have := run_copy_row (P := Tryz.prog) w 50 50 3 5 s (512 * n) 512 512 a 512 c cur 5 (bcells (S.ver n j)) Tryz.underlying50 (by kernel_rfl) h0 (by rw [hbl]; rfl) (fun i u hu => by
      obtain ⟨hi, rfl⟩ := bcells_get hu
      rcases hb with ⟨e, _⟩ | ⟨a', c', e, _, _, hc⟩
      · cases e
      · simp at e; obtain ⟨rfl, _⟩ := e; exact hc i hi) hsz (bcells_one _)
    rw [hw1, this, hbl]
    rfl
  have HC : Hid (∀ (a : Addr) (c : Nat), Bs w (.slice (some a) 512 c) (S.ver n j) → (Builtin.copy_ #[50, 50] 3 #[.slice (some ⟨s, 512 * n, none⟩) 512 512, .slice (some a) 512 c]).run Tryz.prog w = .ok (goInt 512) w1) := hcp
  clear h h0 h3 h4 hvl hbl hsc hsz hw1 hmo hsm hps hm1 hm2 hg2 hz2 hrng HS hcp
  go_enter Tryz.func45, Tryz.ntmps45
  go_wp2_with fail
  refine (pick0_any F p S n w HD.out.1 hn).mono ?_
  rintro e w' ⟨rfl, rfl⟩
  go_wp2_with fail
  refine (pick_any F p S n j w' HD.out.1 hn hj hx).mono ?_
  rintro e w'' ⟨a, c, rfl, rfl, hb, _⟩
  have hr := HC.out a c hb
  clear HC hb
  go_wp2_with (first | (at_builtin; refine wpList_copy_eq _ rfl (.tmp 8) (.tmp 12) 50 50 rfl _ _ rfl rfl _ w1 hr ?_) | (at_delete; refine wpList_delete_eq _ rfl (.tmp 17) (.tmp 18) 63 3 rfl _ _ rfl rfl w2 hdel ?_))
  go_end0
  exact ⟨rfl, HD.out.2.1, HD.out.2.2.1, HD.out.2.2.2, HR.out⟩

theorem own_block_ge {w : World} {N : Nat} {e : TypeId} {v : Value} {n : Nat} {xs : List Value} (h : w.ownsRow N e 1 v n xs) : ∀ g, v.ownBlock = some g → N ≤ g ∧ g < w.heap.size := fun g hg => h.lt g hg

set_option maxHeartbeats 800000 in
theorem arm_any (F : Nat → Prop) (p : Nat) (S : St) (n : Int) (v : Value) (ps : List Int) (w : World) (h : Dk w F p S) (hi : Is w v ps) (hl : ps.length ≤ 1099511627776) (h0 : -9223372036854775808 ≤ n) (h1 : n < 9223372036854775808) :
    Calls Tryz.prog 29 #[.pointer (some ⟨p, 0, none⟩), .int .i64 n, v] w fun e w' => e = .returned (.tuple #[]) ∧ To F p w w' (S.armed n ps) := by
  obtain ⟨s, sc, m, pv, V, h⟩ := h
  have HH : Hid (DkAt w F p S s sc m pv V) := h
  clear h
  go_enter Tryz.func29, Tryz.ntmps29
  go_wp2_with fail
  refine (cloneI_any v ps w hi hl).mono ?_
  rintro e w1 ⟨u, rfl, ho, hc⟩
  have h := HH.out.kept hc (fun _ _ h => h)
  have c4 := h.c4
  have c5 := h.c5
  have f4 := h.fr 4
  have f5 := h.fr 5
  have HK : Hid (To F p w ((w1.setCell ⟨p, 4, none⟩ (.int .i64 n)).setCell ⟨p, 5, none⟩ u) (S.armed n ps)) := by
    have hg := Dk.grow (F' := more F w.heap.size w1.heap.size) h (fun b hb => .inl hb) (fun b hb => by
      rcases hb with hb | hb
      · exact h.lt b hb
      · exact hb.2)
    have hb4 := heap_setCell_same w1 p 4 _ _ (.int .i64 n) h.blk
    have hb5 := heap_setCell_same _ p 5 _ _ u hb4
    have hch : Chg (fun k => k = p) w1 ((w1.setCell ⟨p, 4, none⟩ (.int .i64 n)).setCell ⟨p, 5, none⟩ u) := (Chg.setCell (S := fun k => k = p) w1 ⟨p, 4, none⟩ _ rfl).trans (Chg.setCell (S := fun k => k = p) _ ⟨p, 5, none⟩ _ rfl) (fun _ _ h => h)
    have hlt : p < w.heap.size := HH.out.pobj
    refine ⟨more F w.heap.size w1.heap.size, ⟨s, sc, m, u, V, hg.restruct hch (by simp at hb5; exact hb5) (St.armed_wf h.wf ps h0 h1) rfl rfl rfl (own_same (own_mono ho (Nat.zero_le _)) (fun g hgu => hch.block g (ho.lt g hgu).2 (fun e => by have := (ho.lt g hgu).1; omega))) (fun g hgu => .inr (ho.lt g hgu))⟩, ?_, fun b hb => ?_⟩
    · exact (hc.mono (fun i _ hi => hi.elim)).trans hch (fun i _ e => by rw [e]; exact h.fp)
    · rcases hb with hb | hb
      · exact .inl hb
      · exact .inr hb.1
  have hu : ∃ ua uc, u = .slice ua ps.length uc := by
    rcases ho.2 with ⟨rfl, e⟩ | ⟨g, cap, cur, rfl, _⟩
    · exact ⟨none, 0, by rw [e]⟩
    · exact ⟨_, _, rfl⟩
  obtain ⟨ua, uc, rfl⟩ := hu
  clear h HH ho hc hi
  go_wp2
  go_end0
  exact ⟨rfl, HK.out⟩
end Go.Proofs.YtmlhjcjonfalhaaGreat

namespace Go.Proofs.YtmlhjcjonfalhaaGreat
open Go.RowKit Go.Maps

/-- Where g does not hold, the block is synced. -/
def mask (S : St) (g : Nat → Bool) : St := { S with syn := fun n => if g n then S.syn n else S.last n, wait := fun n => if g n then S.wait n else [] }
theorem mask_start {S : St} {g : Nat → Bool} (h : ∀ n, g n = false → S.wait n = []) : mask S g = S := by
  have e1 : (fun n => if g n then S.syn n else S.last n) = S.syn := by
    funext n
    cases hg : g n
    · simp [St.last, St.ver, h n hg]
    · simp
  have e2 : (fun n => if g n then S.wait n else []) = S.wait := by
    funext n
    cases hg : g n
    · simp [h n hg]
    · simp
  unfold mask
  rw [e1, e2]
theorem mask_end {S : St} {g : Nat → Bool} (h : ∀ n, g n = true → S.wait n = []) : mask S g = S.synced := by
  have e1 : (fun n => if g n then S.syn n else S.last n) = S.last := by
    funext n
    cases hg : g n
    · simp
    · simp [St.last, St.ver, h n hg]
  have e2 : (fun n => if g n then S.wait n else []) = fun _ => [] := by
    funext n
    cases hg : g n
    · simp
    · simp [h n hg]
  unfold mask St.synced
  rw [e1, e2]
theorem mask_step {S : St} {g : Nat → Bool} {n : Nat} (hg : g n = true) : (mask S g).settle n ((mask S g).wait n).length = mask S (upd g n false) := by
  have hw : (mask S g).wait n = S.wait n := by simp [mask, hg]
  have hv : (mask S g).ver n (S.wait n).length = S.last n := by
    unfold St.last St.ver
    rw [hw]
    split
    · simp [mask, hg]
    · rfl
  have e1 : upd (mask S g).syn n ((mask S g).ver n (S.wait n).length) = fun k => if upd g n false k then S.syn k else S.last k := by
    rw [hv]
    funext k
    by_cases e : k = n
    · subst e; simp [upd_same]
    · simp [upd_other _ _ e, mask]
  have e2 : upd (mask S g).wait n [] = fun k => if upd g n false k then S.wait k else [] := by
    funext k
    by_cases e : k = n
    · subst e; simp [upd_same]
    · simp [upd_other _ _ e, mask]
  rw [hw]
  unfold St.settle
  rw [e1, e2]
  rfl
theorem upd_upd {α : Type} (f : Nat → α) (n : Nat) (a b : α) : upd (upd f n a) n b = upd f n b := by
  funext k; unfold upd; split <;> rfl

/-- A step of the range, where the elements are slices. -/
theorem wpList_next_sl (w : World) {ops : Array Oper} {rest : List Oper} {o : Oper} {a : Act} {Q : Exit → Act → World → Prop} (hg : o.guard = none) (it : Operand) (hop : o.op = Op.next it false) (m r nb : Nat) (f : Nat → Option Value) (g : Nat → Bool) (cnt : Nat) (len : Nat → Nat)
    (hnb : nb ≤ 16384) (hit : a.eval it = .pointer (some ⟨r, 0, none⟩)) (h : Rng w m r nb f g cnt) (hform : ∀ n v, n < nb → f n = some v → ∃ a c, v = .slice a (len n) c)
    (hDone : (∀ n, n < nb → g n = false) → wpList Tryz.prog ops Q rest (a.put o.dst (.tuple #[.bool false])) w)
    (hMore : ∀ (n : Nat) (x : Option Addr) (c : Nat) (w' : World) (cnt' : Nat), n < nb → g n = true → f n = some (.slice x (len n) c) → Rng w' m r nb f (upd g n false) cnt' → cnt' < cnt → w.grownBy w' (some r) → w'.heap.size = w.heap.size →
      (Instr.entry (.pointer (some ⟨r, 0, none⟩))).run Tryz.prog w' = .ok (.tuple #[.int .i64 (n : Int), .slice x (len n) c]) w' → wpList Tryz.prog ops Q rest (a.put o.dst (.tuple #[.bool true, .int .i64 (n : Int), .slice x (len n) c])) w') :
    wpList Tryz.prog ops Q (o :: rest) a w :=
  wpList_next_is w hg it hop m r nb f g cnt hnb hit h hDone (fun n v w' cnt' h1 h2 h3 h4 h5 h6 h7 h8 => by
    obtain ⟨x, c, rfl⟩ := hform n v h1 h3
    exact hMore n x c w' cnt' h1 h2 h3 h4 h5 h6 h7 h8)

theorem DkAt.form {w : World} {F : Nat → Prop} {p : Nat} {S : St} {s sc m : Nat} {pv : Value} {V : Nat → Value} (h : DkAt w F p S s sc m pv V) : ∀ n v, n < S.nb → mf S V n = some v → ∃ a c, v = .slice a (S.wait n).length c := fun n v _ hv => by
  unfold mf at hv
  split at hv
  · cases hv
  · rename_i hne
    have hw : S.wait n ≠ [] := by simpa [List.isEmpty_iff] using hne
    cases hv
    obtain ⟨us, ho, _⟩ := h.row n hw
    rcases ho.2 with ⟨e, h0⟩ | ⟨go, co, cur, hV, _⟩
    · exact ⟨none, 0, by rw [e, h0]⟩
    · exact ⟨_, _, hV⟩

theorem Chg.of_grown {w w' : World} {r : Nat} (h : w.grownBy w' (some r)) : Chg (fun k => k = r) w w' := ⟨h.os, h.tape, h.output, h.size, fun k hk hn => h.block k hk (by simpa using hn)⟩
theorem Chg.of_none {w w' : World} (h : w.grownBy w' none) : Chg (fun _ => False) w w' := ⟨h.os, h.tape, h.output, h.size, fun k hk _ => h.block k hk (by simp)⟩

set_option maxHeartbeats 1600000 in
theorem sync_any (F : Nat → Prop) (p : Nat) (S : St) (w : World) (h : Dk w F p S) (hx : S.writes < 1099511627776) :
    Calls Tryz.prog 26 #[.pointer (some ⟨p, 0, none⟩)] w fun e w' => e = .returned (.int .i64 S.syncE) ∧ To F p w w' S.sync := by
  obtain ⟨s, sc, m, pv, V, h⟩ := h
  have c3 := h.c3
  by_cases hoff : S.off = true
  · have e1 : S.syncE = 6 := by simp [St.syncE, hoff]
    have e2 : S.sync = S := by simp [St.sync, hoff]
    rw [e1, e2]
    have HH : Hid (DkAt w F p S s sc m pv V) := h
    rw [hoff] at c3
    clear h e1 e2
    go_enter Tryz.func26, Tryz.ntmps26
    go_wp2
    go_ret
    exact ⟨rfl, To.refl ⟨s, sc, m, pv, V, HH.out⟩⟩
  · have e1 : S.syncE = 0 := by simp [St.syncE, hoff]
    have e2 : S.sync = S.synced := by simp [St.sync, hoff]
    rw [e1, e2]
    have hof : S.off = false := by simpa using hoff
    rw [hof] at c3
    have c1 := h.c1
    have hlt := h.lt
    have HH : Hid (DkAt w F p S s sc m pv V) := h
    have hmap := h.map
    have htop := h.wf.top
    clear h e1 e2 hoff
    go_enter Tryz.func26, Tryz.ntmps26
    go_wp2_with (at_range; refine wpList_range_is _ rfl (.tmp 12) rfl m S.nb (mf S V) rfl hmap ?_; intro w0 cnt0 hrg0 hg0 hs0)
    go_frame
    have hst : mask S (fun n => (mf S V n).isSome) = S := mask_start (fun n hn => by
      by_cases hw : S.wait n = []
      · exact hw
      · rw [mf_some hw] at hn; cases hn)
    have REL0 : Rng w0 m w.heap.size S.nb (mf (mask S fun n => (mf S V n).isSome) V) (fun n => (mf S V n).isSome) cnt0 ∧ DkAt w0 F p (mask S fun n => (mf S V n).isSome) s sc m pv V ∧ Chg F w w0 := by
      rw [hst]
      exact ⟨hrg0, HH.out.kept (Chg.of_none hg0) (fun _ _ h => h), (Chg.of_none hg0).mono (fun _ _ h => h.elim)⟩
    have HS : Hid (∀ n, S.nb ≤ n → S.wait n = []) := HH.out.wf.out
    clear HH hmap hrg0 hg0 hs0 hst c1 c3
    go_loopw [3, 4] (fun _ _ wr => ∃ g cnt, Rng wr m w.heap.size S.nb (mf (mask S g) V) g cnt ∧ DkAt wr F p (mask S g) s sc m pv V ∧ Chg F w wr) (fun _ _ wr => wr.rangeLeft m w.heap.size)
    case atStart => exact ⟨_, _, REL0⟩
    case round =>
      clear REL0
      obtain ⟨g, cnt, hrg, hdk, hch⟩ := hrel
      have hform := hdk.form
      go_wp2_with (first
        | (at_next; refine wpList_next_sl _ rfl (.tmp 13) rfl m w.heap.size S.nb (mf (mask S g) V) g cnt (fun n => ((mask S g).wait n).length) htop rfl hrg hform ?_ ?_)
        | go_in)
      · intro hdone
        clear hform
        go_wp2
        go_ret
        refine ⟨rfl, F, ⟨s, sc, m, pv, V, ?_⟩, hch, fun _ h => .inl h⟩
        rw [← mask_end (g := g) (fun n hn => by
          by_cases h : n < S.nb
          · rw [hdone n h] at hn; cases hn
          · exact HS.out n (by omega))]
        exact hdk
      · intro n x c w2 cnt2 hn hgn hf hrg2 hlt2 hg2 hs2 hen
        have hdk2 := hdk.kept (Chg.of_grown hg2) (fun b hb e => by have := hlt b hb; omega)
        have hch2 : Chg F w w2 := hch.trans (Chg.of_grown hg2) (fun i hi e => by omega)
        have hl := hrg.left
        clear hform hf hs2 hrg hdk hch hg2
        go_wp2_with fail
        refine (settle_any F p (mask S g) n ((mask S g).wait n).length _ hdk2 hn (Nat.le_refl _) hx).mono ?_
        rintro e w3 ⟨rfl, hdk3, hc3, hs3, hr3⟩
        obtain ⟨cnt3, hrg3, hle3⟩ := hr3 _ _ _ hrg2
        rw [mask_step hgn, upd_upd] at hrg3
        rw [mask_step hgn] at hdk3
        have hch3 : Chg F w w3 := hch2.trans hc3 (fun i _ e => by
          rcases e with rfl | rfl
          · exact hdk2.fs
          · exact hdk2.fm)
        clear hr3 hc3 hs3 hrg2 hdk2 hch2 hen
        go_wp2
        go_roundw
        case rel => exact ⟨_, cnt3, hrg3, hdk3, hch3⟩
        case measure => rw [hrg3.left, hl]; omega
end Go.Proofs.YtmlhjcjonfalhaaGreat

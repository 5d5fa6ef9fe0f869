/-
  Names of package dir.
-/
import Derived.Test.YtlnjnimenihhnaaGreatDoorDPut
import Derived.Test.YtlnjnimenihhnaaGreatDoorDSort
import Derived.Sort.OwnSorted
namespace Go.Proofs.YtlnjnimenihhnaaGreatDoor
open Go.RowKit Go.Sort

theorem info9 : (Tryz.prog.info? 9).map (fun i => (i.zero, i.size, i.bytes)) = some (some (.string ByteArray.empty), 1, 16) := by kernel_rfl
/-- The names of the slots that are not free, in their order. -/
def namesL (es : List En) : List (List UInt8) := (es.filter fun e => decide (1 ≤ e.nm.size)).map fun e => e.nm.data.toList
theorem namesL_take (es : List En) (k : Nat) (hk : k < es.length) : namesL (es.take (k + 1)) = namesL (es.take k) ++ (if 1 ≤ (es.getD k En.fr).nm.size then [(es.getD k En.fr).nm.data.toList] else []) := by
  have e : es.take (k + 1) = es.take k ++ [es.getD k En.fr] := by
    rw [List.take_add_one]; simp [List.getD, hk]
  rw [e]
  generalize es.getD k En.fr = x
  unfold namesL
  rw [List.filter_append, List.map_append]
  by_cases h : 1 ≤ x.nm.size
  · simp [h]
  · simp [h]
theorem namesL_le (es : List En) : (namesL es).length ≤ es.length := by
  unfold namesL
  rw [List.length_map]
  exact List.length_filter_le _ _
theorem encStr_data (s : ByteArray) : encStr s.data.toList = .string s := by simp [encStr]
/-- .. rising. -/
def sortL (l : List (List UInt8)) : List (List UInt8) := l.mergeSort fun x y => decide (x ≤ y)
theorem sortL_len (l : List (List UInt8)) : (sortL l).length = l.length := by simp [sortL]

theorem own_kept1 {w w' : World} {N T n : Nat} {u : Value} {xs : List Value} (h : w.ownsRow N T 1 u n xs) (hb : Below w.heap.size w w') : w'.ownsRow N T 1 u n xs := by
  refine ⟨h.1, ?_⟩
  rcases h.2 with h | ⟨g, cap, cur, h1, h2, h3, h4⟩
  · exact .inl h
  · exact .inr ⟨g, cap, cur, h1, h2, by rw [hb.block g (lt_of_block h3)]; exact h3, h4⟩
theorem own_sl1 {w : World} {N T n : Nat} {v : Value} {xs : List Value} (h : w.ownsRow N T 1 v n xs) : ∃ a cap, v = .slice a n cap := by
  rcases h.2 with ⟨rfl, rfl⟩ | ⟨g, cap, cur, rfl, _⟩
  · exact ⟨_, _, rfl⟩
  · exact ⟨_, _, rfl⟩
theorem grown_below {w w' : World} {N T n : Nat} {v : Value} {xs : List Value} (h : w.ownsRow N T 1 v n xs) (hg : w.grownBy w' v.ownBlock) (hN : N ≤ w.heap.size) : Below N w w' := by
  refine (Chg.ofGrown hg).below hN fun k hk => ?_
  rcases h.2 with ⟨rfl, _⟩ | ⟨g, cap, cur, rfl, hb, _⟩
  · cases hk
  · have : g = k := by simpa [Value.ownBlock] using hk
    omega

end Go.Proofs.YtlnjnimenihhnaaGreatDoor

namespace Go.Proofs.YtlnjnimenihhnaaGreatDoor
open Go.RowKit Go.Sort

/-- v reads as the texts ss. -/
def Ss (w : World) (v : Value) (ss : List (List UInt8)) : Prop :=
  ∃ a c, v = .slice a ss.length c ∧ ss.length ≤ c ∧ c ≤ maxLen ∧ (a = none → c = 0) ∧ (0 < ss.length → ∃ b off, a = some ⟨b, off, none⟩ ∧ ∀ j, j < ss.length → w.cell? ⟨b, off + j, none⟩ = some (encStr (ss.getD j [])))
theorem Ss.form {w : World} {v : Value} {ss : List (List UInt8)} (h : Ss w v ss) : ∃ a c, v = .slice a ss.length c := by
  obtain ⟨a, c, e, _⟩ := h
  exact ⟨a, c, e⟩
theorem Ss.nthS {w : World} {a : Option Addr} {n c k : Nat} {ss : List (List UInt8)} (h : Ss w (.slice a n c) ss) (hk : k < ss.length) : ∃ b off, a = some ⟨b, off, none⟩ ∧ ∀ j, j < ss.length → w.cell? ⟨b, off + j, none⟩ = some (encStr (ss.getD j [])) := by
  obtain ⟨a', c', e, _, _, _, hx⟩ := h
  injection e with e1 e2 e3
  subst e1
  exact hx (by omega)
theorem Ss.nil (w : World) : Ss w (.slice none 0 0) [] := ⟨none, 0, rfl, Nat.le_refl _, Nat.zero_le _, fun _ => rfl, fun h => absurd h (by simp)⟩
theorem Ss.kept {S : Nat → Prop} {w w' : World} {v : Value} {ss : List (List UInt8)} (h : Ss w v ss) (hc : Chg S w w') (hS : ∀ k, k < w.heap.size → ¬ S k) : Ss w' v ss := by
  obtain ⟨a, c, e, h1, h2, h3, hx⟩ := h
  refine ⟨a, c, e, h1, h2, h3, fun h0 => ?_⟩
  obtain ⟨b, off, e1, hc'⟩ := hx h0
  have hb : b < w.heap.size := World.block_lt_of_cell? w _ (hc' 0 h0)
  exact ⟨b, off, e1, fun j hj => hc.cell (hc' j hj) (hS _ hb)⟩
theorem Ss.below {w w' : World} {v : Value} {ss : List (List UInt8)} (h : Ss w v ss) (hb : Below w.heap.size w w') : Ss w' v ss := h.kept (Chg.ofBelowC hb) (fun _ _ h => h)
theorem Ss.far {S : Nat → Prop} {w w' : World} {b n c : Nat} {ss : List (List UInt8)} (h : Ss w (.slice (some ⟨b, 0, none⟩) n c) ss) (hc : Chg S w w') (hS : ¬ S b) : Ss w' (.slice (some ⟨b, 0, none⟩) n c) ss := by
  obtain ⟨a, c', e, h1, h2, h3, hx⟩ := h
  injection e with e1 e2 e3
  subst e1; subst e2; subst e3
  refine ⟨_, _, rfl, h1, h2, h3, fun h0 => ?_⟩
  obtain ⟨b', off, e1, hc'⟩ := hx h0
  injection e1 with e1
  injection e1 with e1 e2
  subst e1; subst e2
  exact ⟨b, 0, rfl, fun j hj => hc.cell (hc' j hj) hS⟩
theorem scells_get (ss : List (List UInt8)) (j : Nat) (hj : j < ss.length) : (ss.map encStr)[j]? = some (encStr (ss.getD j [])) := by
  rw [List.getElem?_map, List.getD_eq_getElem?_getD, List.getElem?_eq_getElem hj]; rfl
theorem scells_one (ss : List (List UInt8)) : ∀ u ∈ ss.map encStr, u.oneCell' = true := by
  intro u hu
  obtain ⟨s, _, rfl⟩ := List.mem_map.1 hu
  rfl
theorem Ss.ofOwns {w : World} {N n : Nat} {v : Value} {ss : List (List UInt8)} (h : w.ownsRow N 9 1 v n (ss.map encStr)) : Ss w v ss := by
  have hn : ss.length = n := by have := h.1; rw [List.length_map] at this; omega
  subst hn
  rcases h.2 with ⟨rfl, h0⟩ | ⟨g, cap, cur, rfl, hb, hg, hnc, hcm, hcs, htake⟩
  · have : ss = [] := List.eq_nil_of_length_eq_zero h0
    subst this
    exact Ss.nil w
  · refine ⟨some ⟨g, 0, none⟩, cap, rfl, hnc, hcm, (fun h => by cases h), fun h0 => ⟨g, 0, rfl, fun j hj => ?_⟩⟩
    have h1 := h.cells (g := g) rfl j _ (scells_get ss j hj)
    have ad : ∀ k, (⟨g, 0, none⟩ : Addr).add k = ⟨g, 0 + k, none⟩ := by intro k; unfold Addr.add; split <;> simp_all
    rw [ad] at h1
    exact h1
theorem run_appS {P : Program} (w : World) (N : Nat) (t ty : TypeId) (i : TypeInfo) (ht : P.underlying t = some (.slice 9)) (hi : P.info? 9 = some i) (hz : i.zero = some (.string ByteArray.empty)) (hs : i.size = 1) (hb : i.bytes = 16)
    (v x : Value) (n : Nat) (xs news : List (List UInt8)) (hown : w.ownsRow N 9 1 v n (xs.map encStr)) (hx : Ss w x news) (hlen : xs.length + news.length ≤ 1099511627776) (hN : N ≤ w.heap.size) :
    ∃ v' w', (Builtin.append_ #[t, t] ty #[v, x]).run P w = .ok v' w' ∧ w'.ownsRow N 9 1 v' (n + news.length) ((xs ++ news).map encStr) ∧ Below N w w' ∧ Chg (fun k => v.ownBlock = some k) w w' := by
  have hn : xs.length = n := by have := hown.1; rw [List.length_map] at this; omega
  subst hn
  obtain ⟨a, c, rfl, h1, h2, h3, hx'⟩ := hx
  by_cases h0 : 0 < news.length
  · obtain ⟨b, off, rfl, hcell⟩ := hx' h0
    have ad : ∀ k, (⟨b, off, none⟩ : Addr).add k = ⟨b, off + k, none⟩ := by intro k; unfold Addr.add; split <;> simp_all
    obtain ⟨v', w', h1, h2, h3, _, h5⟩ := run_append_own_at (P := P) w N t ty 9 i _ 1 16 ht hi hz hs hb rfl (by decide) v xs.length (xs.map encStr) hown ⟨b, off, none⟩ news.length c (news.map encStr) (by simp)
      (fun j u hu => by
        have hj : j < news.length := by have := (List.getElem?_eq_some_iff.1 hu).1; simpa using this
        rw [scells_get news j hj] at hu
        cases hu
        rw [ad]; exact hcell j hj) (scells_one news) (by unfold maxLen; omega) (by omega) hN
    exact ⟨v', w', h1, by rw [List.map_append]; exact h2, grown_below hown h3 hN, Chg.ofGrown h3⟩
  · have e0 : news = [] := List.eq_nil_of_length_eq_zero (by omega)
    subst e0
    cases a with
    | none =>
      obtain rfl := h3 rfl
      exact ⟨v, w, run_append_owned_none (P := P) w N t ty 9 i 1 ht hi v _ _ hown, by simpa using hown, Below.refl _ _, Chg.refl _ _⟩
    | some b =>
      obtain ⟨v', w', h1, h2, h3, _, h5⟩ := run_append_own_at (P := P) w N t ty 9 i _ 1 16 ht hi hz hs hb rfl (by decide) v xs.length (xs.map encStr) hown b 0 c [] rfl (fun j u hu => by simp at hu) (fun u hu => by cases hu) (by unfold maxLen; omega) (by omega) hN
      exact ⟨v', w', h1, by simpa using h2, grown_below hown h3 hN, Chg.ofGrown h3⟩
theorem wpList_appS {P : Program} {w : World} {ops : Array Oper} {rest : List Oper} {o : Oper} {a : Act} {Q : Exit → Act → World → Prop} (hgd : o.guard = none) (s x : Operand) (t : TypeId)
    (ho : o.op = .call { callee := .builtin .append, args := #[s, x], argTypes := #[t, t] }) (N : Nat) (i : TypeInfo) (ht : P.underlying t = some (.slice 9)) (hi : P.info? 9 = some i) (hz : i.zero = some (.string ByteArray.empty)) (hs : i.size = 1) (hb : i.bytes = 16)
    (v vx : Value) (n : Nat) (xs news : List (List UInt8)) (hv : a.eval s = v) (hown : w.ownsRow N 9 1 v n (xs.map encStr)) (hvx : a.eval x = vx) (hx : Ss w vx news) (hlen : xs.length + news.length ≤ 1099511627776) (hN : N ≤ w.heap.size)
    (h : ∀ v' w', w'.ownsRow N 9 1 v' (n + news.length) ((xs ++ news).map encStr) → Below N w w' → Chg (fun k => v.ownBlock = some k) w w' → wpList P ops Q rest (a.put o.dst v') w') : wpList P ops Q (o :: rest) a w := by
  obtain ⟨v', w', hr, h1, h2, h3⟩ := run_appS (P := P) w N t o.type i ht hi hz hs hb v vx n xs news hown hx hlen hN
  exact Lib.wpList_append_run w hgd s x t t ho v vx hv hvx v' w' hr (h v' w' h1 h2 h3)
theorem step_appS {P : Program} {w : World} {ops : Array Oper} {o : Oper} {a : Act} {K : Act → World → Prop} {Q : Exit → Act → World → Prop} {E : Prop} (hgd : o.guard = none) (s x : Operand) (t : TypeId)
    (ho : o.op = .call { callee := .builtin .append, args := #[s, x], argTypes := #[t, t] }) (N : Nat) (i : TypeInfo) (ht : P.underlying t = some (.slice 9)) (hi : P.info? 9 = some i) (hz : i.zero = some (.string ByteArray.empty)) (hs : i.size = 1) (hb : i.bytes = 16)
    (v vx : Value) (n : Nat) (xs news : List (List UInt8)) (hv : a.eval s = v) (hown : w.ownsRow N 9 1 v n (xs.map encStr)) (hvx : a.eval x = vx) (hx : Ss w vx news) (hlen : xs.length + news.length ≤ 1099511627776) (hN : N ≤ w.heap.size)
    (h : ∀ v' w', w'.ownsRow N 9 1 v' (n + news.length) ((xs ++ news).map encStr) → Below N w w' → Chg (fun k => v.ownBlock = some k) w w' → K (a.put o.dst v') w') :
    if Region.wanted o (yielded ops a.tmps) = true then Oper.wp P o a w K Q else E := by
  have hw : Region.wanted o (yielded ops a.tmps) = true := by simp [Region.wanted, hgd]
  rw [if_pos hw]
  obtain ⟨v', w', hr, h1, h2, h3⟩ := run_appS (P := P) w N t o.type i ht hi hz hs hb v vx n xs news hown hx hlen hN
  exact Lib.wp_append_run w s x t t ho v vx hv hvx v' w' hr (h v' w' h1 h2 h3)
theorem lit_ownS (w : World) (N : Nat) (hN : N ≤ w.heap.size) : (w.alloc (.cells #[] 9)).ownsRow N 9 1 (.slice (some ⟨w.heap.size, 0, none⟩) 0 0) 0 (([] : List (List UInt8)).map encStr) :=
  ⟨rfl, .inr ⟨w.heap.size, 0, #[], rfl, hN, heap_alloc_new w _, Nat.le_refl _, Nat.zero_le _, rfl, rfl⟩⟩
theorem Ss.one (w : World) (s : ByteArray) : Ss (w.alloc (.cells #[.string s] 9)) (.slice (some ⟨w.heap.size, 0, none⟩) 1 1) [s.data.toList] := by
  refine ⟨_, 1, rfl, Nat.le_refl _, by simp [maxLen], (fun h => by cases h), fun _ => ⟨w.heap.size, 0, rfl, fun j hj => ?_⟩⟩
  have : j = 0 := by simp at hj; omega
  subst this
  have hb := heap_alloc_new w (.cells #[.string s] 9)
  rw [cell_of_row _ w.heap.size _ _ _ _ hb]
  show some _ = some (encStr s.data.toList)
  rw [encStr_data]
  rfl
theorem own_mono1 {w : World} {N N' T : Nat} {v : Value} {n : Nat} {xs : List Value} (h : w.ownsRow N' T 1 v n xs) (hN : N ≤ N') : w.ownsRow N T 1 v n xs := by
  refine ⟨h.1, ?_⟩
  rcases h.2 with h | ⟨g, cap, cur, h1, h2, h3⟩
  · exact .inl h
  · exact .inr ⟨g, cap, cur, h1, Nat.le_trans hN h2, h3⟩
/-- The front of a row, the rest of it. -/
theorem Ss.take {w : World} {b c : Nat} {ss : List (List UInt8)} (h : Ss w (.slice (some ⟨b, 0, none⟩) ss.length c) ss) (p : Nat) (hp : p ≤ ss.length) : Ss w (.slice (some ⟨b, 0, none⟩) p c) (ss.take p) := by
  obtain ⟨a, c', e, h1, h2, h3, hx⟩ := h
  injection e with e1 e2 e3
  subst e1; subst e3
  have hl : (ss.take p).length = p := by simp; omega
  refine ⟨_, c, by rw [hl], by omega, h2, (fun h => by cases h), fun h0 => ?_⟩
  obtain ⟨b', off, e1, hc⟩ := hx (by omega)
  refine ⟨b', off, e1, fun j hj => ?_⟩
  rw [hl] at hj
  rw [hc j (by omega)]
  congr 2
  simp [List.getD, hj]
theorem Ss.drop {w : World} {b c : Nat} {ss : List (List UInt8)} (h : Ss w (.slice (some ⟨b, 0, none⟩) ss.length c) ss) (p : Nat) (hp : p ≤ ss.length) (ad : Addr) (had : p < c → ad = ⟨b, p, none⟩) : Ss w (.slice (some ad) (ss.length - p) (c - p)) (ss.drop p) := by
  obtain ⟨a, c', e, h1, h2, h3, hx⟩ := h
  injection e with e1 e2 e3
  subst e1; subst e3
  have hl : (ss.drop p).length = ss.length - p := by simp
  refine ⟨_, c - p, by rw [hl], by omega, by omega, (fun h => by cases h), fun h0 => ?_⟩
  obtain ⟨b', off, e1, hc⟩ := hx (by omega)
  injection e1 with e1
  injection e1 with e1 e2
  subst e1; subst e2
  refine ⟨b, p, by rw [had (by omega)], fun j hj => ?_⟩
  rw [hl] at hj
  have := hc (p + j) (by omega)
  rw [Nat.zero_add] at this
  rw [this]
  congr 2
  simp [List.getD, List.getElem?_drop]
/-- A text set at its place. -/
theorem sortL_insert (l : List (List UInt8)) (x : List UInt8) (p : Nat) (hp : p ≤ (sortL l).length) (h1 : ∀ j, j < p → (sortL l).getD j [] < x) (h2 : p < (sortL l).length → ¬ (sortL l).getD p [] < x) :
    sortL (l ++ [x]) = (sortL l).take p ++ [x] ++ (sortL l).drop p := by
  have tr : ∀ a b c : List UInt8, decide (a ≤ b) = true → decide (b ≤ c) = true → decide (a ≤ c) = true := by
    intro a b c h1 h2
    simp only [decide_eq_true_eq] at *
    exact List.le_trans h1 h2
  have to : ∀ a b : List UInt8, (decide (a ≤ b) || decide (b ≤ a)) = true := by
    intro a b
    simp only [Bool.or_eq_true, decide_eq_true_eq]
    exact List.le_total a b
  have hs : (sortL l).Pairwise (fun a b => decide (a ≤ b) = true) := List.pairwise_mergeSort tr to l
  have hpm : (sortL l).Perm l := List.mergeSort_perm l _
  refine List.Perm.eq_of_pairwise (le := fun a b => decide (a ≤ b) = true) (fun a b _ _ h1 h2 => ?_) (List.pairwise_mergeSort tr to (l ++ [x])) ?_ ?_
  · simp only [decide_eq_true_eq] at h1 h2
    exact List.le_antisymm h1 h2
  · generalize sortL l = s at *
    have e : s = s.take p ++ s.drop p := (List.take_append_drop p s).symm
    rw [e, List.pairwise_append] at hs
    obtain ⟨s1, s2, s3⟩ := hs
    rw [List.append_assoc, List.pairwise_append]
    refine ⟨s1, ?_, ?_⟩
    · rw [List.singleton_append, List.pairwise_cons]
      refine ⟨fun y hy => ?_, s2⟩
      rw [decide_eq_true_eq]
      by_cases h0 : p < s.length
      · have hx : x ≤ s.getD p [] := List.not_lt.1 (h2 h0)
        refine List.le_trans hx ?_
        have hd : s.drop p = s.getD p [] :: s.drop (p + 1) := by
          rw [List.drop_eq_getElem_cons h0]; simp [List.getD, h0]
        rw [hd] at hy s2
        rcases List.mem_cons.1 hy with rfl | hy
        · exact List.le_refl _
        · have := (List.pairwise_cons.1 s2).1 y hy
          simpa using this
      · rw [List.drop_eq_nil_of_le (by omega)] at hy
        cases hy
    · intro a ha y hy
      have hax : a < x := by
        obtain ⟨j, hj, rfl⟩ := List.mem_iff_getElem.1 ha
        have hj2 : j < p ∧ j < s.length := by simp at hj; omega
        have := h1 j hj2.1
        simpa [List.getD, hj2.2] using this
      rw [List.singleton_append] at hy
      rcases List.mem_cons.1 hy with rfl | hy
      · rw [decide_eq_true_eq]; exact List.le_of_lt hax
      · exact s3 a ha y hy
  · refine (List.mergeSort_perm _ _).trans ?_
    have e : ((sortL l).take p ++ [x] ++ (sortL l).drop p).Perm (sortL l ++ [x]) := by
      rw [List.append_assoc]
      refine (List.Perm.append_left _ List.perm_append_comm).trans ?_
      rw [← List.append_assoc, List.take_append_drop]
    exact ((hpm.symm.append_right [x])).trans e.symm
end Go.Proofs.YtlnjnimenihhnaaGreatDoor

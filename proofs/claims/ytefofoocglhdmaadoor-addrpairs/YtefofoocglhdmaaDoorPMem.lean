/-
  Rows of texts: reading, append.
-/
import Derived.Test.YtefofoocglhdmaaDoorMem
import Derived.Test.YtefofoocglhdmaaDoorChecked
namespace Go.Proofs.YtefofoocglhdmaaDoor
open Go.RowKit

theorem Chg.ofBelowT {w w' : World} (h : Below w.heap.size w w') : Chg (fun _ => False) w w' := ⟨h.os, h.tape, h.output, h.size, fun k hk _ => h.block k hk⟩
theorem own_keptT {w w' : World} {N T n : Nat} {u : Value} {xs : List Value} (h : w.ownsRow N T 1 u n xs) (hb : Below w.heap.size w w') : w'.ownsRow N T 1 u n xs := by
  refine ⟨h.1, ?_⟩
  rcases h.2 with h | ⟨g, cap, cur, h1, h2, h3, h4⟩
  · exact .inl h
  · exact .inr ⟨g, cap, cur, h1, h2, by rw [hb.block g (lt_of_block h3)]; exact h3, h4⟩
theorem grown_belowT {w w' : World} {N T n : Nat} {v : Value} {xs : List Value} (h : w.ownsRow N T 1 v n xs) (hg : w.grownBy w' v.ownBlock) (hN : N ≤ w.heap.size) : Below N w w' := by
  refine (Chg.ofGrown hg).below hN fun k hk => ?_
  rcases h.2 with ⟨rfl, _⟩ | ⟨g, cap, cur, rfl, hb, _⟩
  · cases hk
  · have : g = k := by simpa [Value.ownBlock] using hk
    omega

/-- v reads as the texts ss. -/
def Tx (w : World) (v : Value) (ss : List ByteArray) : Prop :=
  ∃ a c, v = .slice a ss.length c ∧ ss.length ≤ c ∧ c ≤ maxLen ∧ (a = none → c = 0) ∧ (0 < ss.length → ∃ b off, a = some ⟨b, off, none⟩ ∧ ∀ j, j < ss.length → w.cell? ⟨b, off + j, none⟩ = some (Value.string (ss.getD j ByteArray.empty)))
theorem Tx.form {w : World} {v : Value} {ss : List ByteArray} (h : Tx w v ss) : ∃ a c, v = .slice a ss.length c := by
  obtain ⟨a, c, e, _⟩ := h
  exact ⟨a, c, e⟩
theorem Tx.nth {w : World} {a : Option Addr} {n c k : Nat} {ss : List ByteArray} (h : Tx w (.slice a n c) ss) (hk : k < ss.length) : ∃ b off, a = some ⟨b, off, none⟩ ∧ ∀ j, j < ss.length → w.cell? ⟨b, off + j, none⟩ = some (Value.string (ss.getD j ByteArray.empty)) := by
  obtain ⟨a', c', e, _, _, _, hx⟩ := h
  injection e with e1 e2 e3
  subst e1
  exact hx (by omega)
theorem Tx.nil (w : World) : Tx w (.slice none 0 0) [] := ⟨none, 0, rfl, Nat.le_refl _, Nat.zero_le _, fun _ => rfl, fun h => absurd h (by simp)⟩
theorem Tx.kept {S : Nat → Prop} {w w' : World} {v : Value} {ss : List ByteArray} (h : Tx w v ss) (hc : Chg S w w') (hS : ∀ k, k < w.heap.size → ¬ S k) : Tx w' v ss := by
  obtain ⟨a, c, e, h1, h2, h3, hx⟩ := h
  refine ⟨a, c, e, h1, h2, h3, fun h0 => ?_⟩
  obtain ⟨b, off, e1, hc'⟩ := hx h0
  have hb : b < w.heap.size := World.block_lt_of_cell? w _ (hc' 0 h0)
  exact ⟨b, off, e1, fun j hj => hc.cell (hc' j hj) (hS _ hb)⟩
theorem Tx.below {w w' : World} {v : Value} {ss : List ByteArray} (h : Tx w v ss) (hb : Below w.heap.size w w') : Tx w' v ss := h.kept (Chg.ofBelowT hb) (fun _ _ h => h)
theorem Tx.far {S : Nat → Prop} {w w' : World} {b n c : Nat} {ss : List ByteArray} (h : Tx w (.slice (some ⟨b, 0, none⟩) n c) ss) (hc : Chg S w w') (hS : ¬ S b) : Tx w' (.slice (some ⟨b, 0, none⟩) n c) ss := by
  obtain ⟨a, c', e, h1, h2, h3, hx⟩ := h
  injection e with e1 e2 e3
  subst e1; subst e2; subst e3
  refine ⟨_, _, rfl, h1, h2, h3, fun h0 => ?_⟩
  obtain ⟨b', off, e1, hc'⟩ := hx h0
  injection e1 with e1
  injection e1 with e1 e2
  subst e1; subst e2
  exact ⟨b, 0, rfl, fun j hj => hc.cell (hc' j hj) hS⟩
theorem tcells_get (ss : List ByteArray) (j : Nat) (hj : j < ss.length) : (ss.map Value.string)[j]? = some (Value.string (ss.getD j ByteArray.empty)) := by
  rw [List.getElem?_map, List.getD_eq_getElem?_getD, List.getElem?_eq_getElem hj]; rfl
theorem tcells_one (ss : List ByteArray) : ∀ u ∈ ss.map Value.string, u.oneCell' = true := by
  intro u hu
  obtain ⟨s, _, rfl⟩ := List.mem_map.1 hu
  rfl
theorem Tx.ofOwns {w : World} {N n : Nat} {v : Value} {ss : List ByteArray} (h : w.ownsRow N 9 1 v n (ss.map Value.string)) : Tx w v ss := by
  have hn : ss.length = n := by have := h.1; rw [List.length_map] at this; omega
  subst hn
  rcases h.2 with ⟨rfl, h0⟩ | ⟨g, cap, cur, rfl, hb, hg, hnc, hcm, hcs, htake⟩
  · have : ss = [] := List.eq_nil_of_length_eq_zero h0
    subst this
    exact Tx.nil w
  · refine ⟨some ⟨g, 0, none⟩, cap, rfl, hnc, hcm, (fun h => by cases h), fun h0 => ⟨g, 0, rfl, fun j hj => ?_⟩⟩
    have h1 := h.cells (g := g) rfl j _ (tcells_get ss j hj)
    have ad : ∀ k, (⟨g, 0, none⟩ : Addr).add k = ⟨g, 0 + k, none⟩ := by intro k; unfold Addr.add; split <;> simp_all
    rw [ad] at h1
    exact h1
theorem run_appT {P : Program} (w : World) (N : Nat) (t ty : TypeId) (i : TypeInfo) (ht : P.underlying t = some (.slice 9)) (hi : P.info? 9 = some i) (hz : i.zero = some (.string ByteArray.empty)) (hs : i.size = 1) (hb : i.bytes = 16)
    (v x : Value) (n : Nat) (xs news : List ByteArray) (hown : w.ownsRow N 9 1 v n (xs.map Value.string)) (hx : Tx w x news) (hlen : xs.length + news.length ≤ 1099511627776) (hN : N ≤ w.heap.size) :
    ∃ v' w', (Builtin.append_ #[t, t] ty #[v, x]).run P w = .ok v' w' ∧ w'.ownsRow N 9 1 v' (n + news.length) ((xs ++ news).map Value.string) ∧ Below N w w' ∧ Chg (fun k => v.ownBlock = some k) w w' := by
  have hn : xs.length = n := by have := hown.1; rw [List.length_map] at this; omega
  subst hn
  obtain ⟨a, c, rfl, h1, h2, h3, hx'⟩ := hx
  by_cases h0 : 0 < news.length
  · obtain ⟨b, off, rfl, hcell⟩ := hx' h0
    have ad : ∀ k, (⟨b, off, none⟩ : Addr).add k = ⟨b, off + k, none⟩ := by intro k; unfold Addr.add; split <;> simp_all
    obtain ⟨v', w', h1, h2, h3, _, h5⟩ := run_append_own_at (P := P) w N t ty 9 i _ 1 16 ht hi hz hs hb rfl (by decide) v xs.length (xs.map Value.string) hown ⟨b, off, none⟩ news.length c (news.map Value.string) (by simp)
      (fun j u hu => by
        have hj : j < news.length := by have := (List.getElem?_eq_some_iff.1 hu).1; simpa using this
        rw [tcells_get news j hj] at hu
        cases hu
        rw [ad]; exact hcell j hj) (tcells_one news) (by unfold maxLen; omega) (by omega) hN
    exact ⟨v', w', h1, by rw [List.map_append]; exact h2, grown_belowT hown h3 hN, Chg.ofGrown h3⟩
  · have e0 : news = [] := List.eq_nil_of_length_eq_zero (by omega)
    subst e0
    cases a with
    | none =>
      obtain rfl := h3 rfl
      exact ⟨v, w, run_append_owned_none (P := P) w N t ty 9 i 1 ht hi v _ _ hown, by simpa using hown, Below.refl _ _, Chg.refl _ _⟩
    | some b =>
      obtain ⟨v', w', h1, h2, h3, _, h5⟩ := run_append_own_at (P := P) w N t ty 9 i _ 1 16 ht hi hz hs hb rfl (by decide) v xs.length (xs.map Value.string) hown b 0 c [] rfl (fun j u hu => by simp at hu) (fun u hu => by cases hu) (by unfold maxLen; omega) (by omega) hN
      exact ⟨v', w', h1, by simpa using h2, grown_belowT hown h3 hN, Chg.ofGrown h3⟩
theorem wpList_appT {P : Program} {w : World} {ops : Array Oper} {rest : List Oper} {o : Oper} {a : Act} {Q : Exit → Act → World → Prop} (hgd : o.guard = none) (s x : Operand) (t : TypeId)
    (ho : o.op = .call { callee := .builtin .append, args := #[s, x], argTypes := #[t, t] }) (N : Nat) (i : TypeInfo) (ht : P.underlying t = some (.slice 9)) (hi : P.info? 9 = some i) (hz : i.zero = some (.string ByteArray.empty)) (hs : i.size = 1) (hb : i.bytes = 16)
    (v vx : Value) (n : Nat) (xs news : List ByteArray) (hv : a.eval s = v) (hown : w.ownsRow N 9 1 v n (xs.map Value.string)) (hvx : a.eval x = vx) (hx : Tx w vx news) (hlen : xs.length + news.length ≤ 1099511627776) (hN : N ≤ w.heap.size)
    (h : ∀ v' w', w'.ownsRow N 9 1 v' (n + news.length) ((xs ++ news).map Value.string) → Below N w w' → Chg (fun k => v.ownBlock = some k) w w' → wpList P ops Q rest (a.put o.dst v') w') : wpList P ops Q (o :: rest) a w := by
  obtain ⟨v', w', hr, h1, h2, h3⟩ := run_appT (P := P) w N t o.type i ht hi hz hs hb v vx n xs news hown hx hlen hN
  exact Lib.wpList_append_run w hgd s x t t ho v vx hv hvx v' w' hr (h v' w' h1 h2 h3)
theorem step_appT {P : Program} {w : World} {ops : Array Oper} {o : Oper} {a : Act} {K : Act → World → Prop} {Q : Exit → Act → World → Prop} {E : Prop} (hgd : o.guard = none) (s x : Operand) (t : TypeId)
    (ho : o.op = .call { callee := .builtin .append, args := #[s, x], argTypes := #[t, t] }) (N : Nat) (i : TypeInfo) (ht : P.underlying t = some (.slice 9)) (hi : P.info? 9 = some i) (hz : i.zero = some (.string ByteArray.empty)) (hs : i.size = 1) (hb : i.bytes = 16)
    (v vx : Value) (n : Nat) (xs news : List ByteArray) (hv : a.eval s = v) (hown : w.ownsRow N 9 1 v n (xs.map Value.string)) (hvx : a.eval x = vx) (hx : Tx w vx news) (hlen : xs.length + news.length ≤ 1099511627776) (hN : N ≤ w.heap.size)
    (h : ∀ v' w', w'.ownsRow N 9 1 v' (n + news.length) ((xs ++ news).map Value.string) → Below N w w' → Chg (fun k => v.ownBlock = some k) w w' → K (a.put o.dst v') w') :
    if Region.wanted o (yielded ops a.tmps) = true then Oper.wp P o a w K Q else E := by
  have hw : Region.wanted o (yielded ops a.tmps) = true := by simp [Region.wanted, hgd]
  rw [if_pos hw]
  obtain ⟨v', w', hr, h1, h2, h3⟩ := run_appT (P := P) w N t o.type i ht hi hz hs hb v vx n xs news hown hx hlen hN
  exact Lib.wp_append_run w s x t t ho v vx hv hvx v' w' hr (h v' w' h1 h2 h3)
theorem lit_ownT (w : World) (N : Nat) (hN : N ≤ w.heap.size) : (w.alloc (.cells #[] 9)).ownsRow N 9 1 (.slice (some ⟨w.heap.size, 0, none⟩) 0 0) 0 (([] : List ByteArray).map Value.string) :=
  ⟨rfl, .inr ⟨w.heap.size, 0, #[], rfl, hN, heap_alloc_new w _, Nat.le_refl _, Nat.zero_le _, rfl, rfl⟩⟩
theorem Tx.one (w : World) (s : ByteArray) : Tx (w.alloc (.cells #[.string s] 9)) (.slice (some ⟨w.heap.size, 0, none⟩) 1 1) [s] := by
  refine ⟨_, 1, rfl, Nat.le_refl _, by simp [maxLen], (fun h => by cases h), fun _ => ⟨w.heap.size, 0, rfl, fun j hj => ?_⟩⟩
  have : j = 0 := by simp at hj; omega
  subst this
  have hb := heap_alloc_new w (.cells #[.string s] 9)
  rw [cell_of_row _ w.heap.size _ _ _ _ hb]
  rfl
theorem own_monoT {w : World} {N N' T : Nat} {v : Value} {n : Nat} {xs : List Value} (h : w.ownsRow N' T 1 v n xs) (hN : N ≤ N') : w.ownsRow N T 1 v n xs := by
  refine ⟨h.1, ?_⟩
  rcases h.2 with h | ⟨g, cap, cur, h1, h2, h3⟩
  · exact .inl h
  · exact .inr ⟨g, cap, cur, h1, Nat.le_trans hN h2, h3⟩
/-- The front of a row, the rest of it. -/
theorem Tx.take {w : World} {b c : Nat} {ss : List ByteArray} (h : Tx w (.slice (some ⟨b, 0, none⟩) ss.length c) ss) (p : Nat) (hp : p ≤ ss.length) : Tx w (.slice (some ⟨b, 0, none⟩) p c) (ss.take p) := by
  obtain ⟨a, c', e, h1, h2, h3, hx⟩ := h
  injection e with e1 e2 e3
  subst e1; subst e3
  have hl : (ss.take p).length = p := by simp; omega
  refine ⟨_, c, by rw [hl], by omega, h2, (fun h => by cases h), fun h0 => ?_⟩
  obtain ⟨b', off, e1, hc⟩ := hx (by omega)
  refine ⟨b', off, e1, fun j hj => ?_⟩
  rw [hl] at hj
  rw [hc j (by omega)]
  congr 2
  simp [List.getD, hj]
theorem Tx.drop {w : World} {b c : Nat} {ss : List ByteArray} (h : Tx w (.slice (some ⟨b, 0, none⟩) ss.length c) ss) (p : Nat) (hp : p ≤ ss.length) (ad : Addr) (had : p < c → ad = ⟨b, p, none⟩) : Tx w (.slice (some ad) (ss.length - p) (c - p)) (ss.drop p) := by
  obtain ⟨a, c', e, h1, h2, h3, hx⟩ := h
  injection e with e1 e2 e3
  subst e1; subst e3
  have hl : (ss.drop p).length = ss.length - p := by simp
  refine ⟨_, c - p, by rw [hl], by omega, by omega, (fun h => by cases h), fun h0 => ?_⟩
  obtain ⟨b', off, e1, hc⟩ := hx (by omega)
  injection e1 with e1
  injection e1 with e1 e2
  subst e1; subst e2
  refine ⟨b, p, by rw [had (by omega)], fun j hj => ?_⟩
  rw [hl] at hj
  have := hc (p + j) (by omega)
  rw [Nat.zero_add] at this
  rw [this]
  congr 2
  simp [List.getD, List.getElem?_drop]
end Go.Proofs.YtefofoocglhdmaaDoor

/-
  Entries in memory.
-/
import Derived.Test.YtdcmkcplklkfmaaDoorKHelp
namespace Go.Proofs.YtdcmkcplklkfmaaDoor
open Go.RowKit

/-- An entry. -/
structure En where
  nm : ByteArray
  ino : Int
abbrev En.v (e : En) : Value := .agg #[.string e.nm, .int .i64 e.ino]
/-- A free one. -/
abbrev En.fr : En := ⟨⟨#[]⟩, 0⟩
/-- The cells of entries. -/
def ecells (es : List En) : List Value := es.flatMap fun e => [.string e.nm, .int .i64 e.ino]
theorem ecells_nil : ecells [] = [] := rfl
theorem ecells_cons (e : En) (es : List En) : ecells (e :: es) = .string e.nm :: .int .i64 e.ino :: ecells es := rfl
theorem ecells_len (es : List En) : (ecells es).length = es.length * 2 := by
  induction es with
  | nil => rfl
  | cons e es ih => rw [ecells_cons, List.length_cons, List.length_cons, ih, List.length_cons]; omega
theorem ecells_app (a b : List En) : ecells (a ++ b) = ecells a ++ ecells b := by simp [ecells]
theorem ecells_one (es : List En) : ∀ u ∈ ecells es, u.oneCell' = true := by
  intro u hu
  obtain ⟨e, _, h⟩ := List.mem_flatMap.1 hu
  simp at h
  rcases h with rfl | rfl <;> rfl
theorem ecells_get (es : List En) (j : Nat) (hj : j < es.length) : (ecells es)[j * 2]? = some (.string (es.getD j En.fr).nm) ∧ (ecells es)[j * 2 + 1]? = some (.int .i64 (es.getD j En.fr).ino) := by
  induction es generalizing j with
  | nil => simp at hj
  | cons e es ih =>
    cases j with
    | zero => exact ⟨rfl, rfl⟩
    | succ j =>
      have h := ih j (by simpa using hj)
      have e1 : (j + 1) * 2 = j * 2 + 1 + 1 := by omega
      rw [ecells_cons, e1]
      exact h
theorem ecells_set (es : List En) (k : Nat) (e : En) (hk : k < es.length) : ecells (es.set k e) = ((ecells es).set (k * 2) (.string e.nm)).set (k * 2 + 1) (.int .i64 e.ino) := by
  induction es generalizing k with
  | nil => simp at hk
  | cons x es ih =>
    cases k with
    | zero => rfl
    | succ k =>
      have e1 : (k + 1) * 2 = k * 2 + 1 + 1 := by omega
      rw [List.set_cons_succ, ecells_cons, ecells_cons, ih k (by simpa using hk), e1]
      rfl
/-- v is a slice of the entries es. -/
def Es (w : World) (v : Value) (es : List En) : Prop :=
  ∃ a c, v = .slice a es.length c ∧ es.length ≤ c ∧ c ≤ maxLen ∧ (a = none → c = 0) ∧ (0 < es.length → ∃ b off, a = some ⟨b, off, none⟩ ∧ ∀ j, j < es.length → w.cell? ⟨b, off + j * 2, none⟩ = some (.string (es.getD j En.fr).nm) ∧ w.cell? ⟨b, off + j * 2 + 1, none⟩ = some (.int .i64 (es.getD j En.fr).ino))
theorem Es.form {w : World} {v : Value} {es : List En} (h : Es w v es) : ∃ a c, v = .slice a es.length c := by
  obtain ⟨a, c, e, _⟩ := h
  exact ⟨a, c, e⟩
theorem Es.len {w : World} {v : Value} {es : List En} (h : Es w v es) : es.length ≤ maxLen := by
  obtain ⟨a, c, e, h1, h2, _, _⟩ := h
  omega
theorem Es.nth {w : World} {a : Option Addr} {n c k : Nat} {es : List En} (h : Es w (.slice a n c) es) (hk : k < es.length) : ∃ b off, a = some ⟨b, off, none⟩ ∧ ∀ j, j < es.length → w.cell? ⟨b, off + j * 2, none⟩ = some (.string (es.getD j En.fr).nm) ∧ w.cell? ⟨b, off + j * 2 + 1, none⟩ = some (.int .i64 (es.getD j En.fr).ino) := by
  obtain ⟨a', c', e, _, _, _, hx⟩ := h
  injection e with e1 e2 e3
  subst e1
  exact hx (by omega)
theorem Es.nil (w : World) : Es w (.slice none 0 0) [] := ⟨none, 0, rfl, Nat.le_refl _, Nat.zero_le _, fun _ => rfl, fun h => absurd h (by simp)⟩
theorem Es.kept {S : Nat → Prop} {w w' : World} {v : Value} {es : List En} (h : Es w v es) (hc : Chg S w w') (hS : ∀ k, k < w.heap.size → ¬ S k) : Es w' v es := by
  obtain ⟨a, c, e, h1, h2, h3, hx⟩ := h
  refine ⟨a, c, e, h1, h2, h3, fun h0 => ?_⟩
  obtain ⟨b, off, e1, hc'⟩ := hx h0
  have hb : b < w.heap.size := World.block_lt_of_cell? w _ (hc' 0 h0).1
  exact ⟨b, off, e1, fun j hj => ⟨hc.cell (hc' j hj).1 (hS _ hb), hc.cell (hc' j hj).2 (hS _ hb)⟩⟩
theorem Es.more {w w' : World} {v : Value} {es : List En} (h : Es w v es) (hc : Chg (fun _ => False) w w') : Es w' v es := h.kept hc (fun _ _ h => h)
/-- What is below stays. -/
theorem Es.below {w w' : World} {v : Value} {es : List En} (h : Es w v es) (hb : Below w.heap.size w w') : Es w' v es := h.more (Chg.ofBelowC hb)
/-- What is owned reads. -/
theorem Es.ofOwns {w : World} {N T n : Nat} {v : Value} {es : List En} (h : w.ownsRow N T 2 v n (ecells es)) : Es w v es := by
  have hn : es.length = n := by have := h.1; rw [ecells_len] at this; omega
  subst hn
  rcases h.2 with ⟨rfl, h0⟩ | ⟨g, cap, cur, rfl, hb, hg, hnc, hcm, hcs, htake⟩
  · have : es = [] := List.eq_nil_of_length_eq_zero h0
    subst this
    exact Es.nil w
  · refine ⟨some ⟨g, 0, none⟩, cap, rfl, hnc, hcm, (fun h => by cases h), fun h0 => ⟨g, 0, rfl, fun j hj => ?_⟩⟩
    have h1 := h.cells (g := g) rfl (j * 2) _ (ecells_get es j hj).1
    have h2 := h.cells (g := g) rfl (j * 2 + 1) _ (ecells_get es j hj).2
    have ad : ∀ k, (⟨g, 0, none⟩ : Addr).add k = ⟨g, 0 + k, none⟩ := by intro k; unfold Addr.add; split <;> simp_all
    rw [ad] at h1 h2
    exact ⟨h1, h2⟩
theorem own_sl2 {w : World} {N T n : Nat} {v : Value} {xs : List Value} (h : w.ownsRow N T 2 v n xs) : ∃ a cap, v = .slice a n cap := by
  rcases h.2 with ⟨rfl, rfl⟩ | ⟨g, cap, cur, rfl, _⟩
  · exact ⟨_, _, rfl⟩
  · exact ⟨_, _, rfl⟩
/-- append of entries onto what is owned. -/
theorem run_app2 {P : Program} (w : World) (N T : Nat) (t ty : TypeId) (i : TypeInfo) (ht : P.underlying t = some (.slice T)) (hi : P.info? T = some i) (hz : i.zero = some (.agg #[.string ⟨#[]⟩, .int .i64 0])) (hs : i.size = 2) (hb : i.bytes = 24)
    (v x : Value) (n : Nat) (xs news : List En) (hown : w.ownsRow N T 2 v n (ecells xs)) (hx : Es w x news) (hlen : xs.length + news.length ≤ 1099511627776) (hN : N ≤ w.heap.size) :
    ∃ v' w', (Builtin.append_ #[t, t] ty #[v, x]).run P w = .ok v' w' ∧ w'.ownsRow N T 2 v' (n + news.length) (ecells (xs ++ news)) ∧ Below N w w' := by
  have hn : xs.length = n := by have := hown.1; rw [ecells_len] at this; omega
  subst hn
  have hrow : ∀ k, v.ownBlock = some k → N ≤ k := by
    intro k hk
    rcases hown.2 with ⟨rfl, h0⟩ | ⟨g, cap, cur, rfl, hb, _⟩
    · cases hk
    · have : g = k := by simpa [Value.ownBlock] using hk
      omega
  obtain ⟨a, c, rfl, h1, h2, h3, hx'⟩ := hx
  by_cases h0 : 0 < news.length
  · obtain ⟨b, off, rfl, hcell⟩ := hx' h0
    have ad : ∀ k, (⟨b, off, none⟩ : Addr).add k = ⟨b, off + k, none⟩ := by intro k; unfold Addr.add; split <;> simp_all
    obtain ⟨v', w', h1, h2, h3, _, h5⟩ := run_append_own_at (P := P) w N t ty T i _ 2 24 ht hi hz hs hb rfl (by decide) v xs.length (ecells xs) hown ⟨b, off, none⟩ news.length c (ecells news) (ecells_len news)
      (fun j u hu => by
        have hj : j < news.length * 2 := by rw [← ecells_len]; exact (List.getElem?_eq_some_iff.1 hu).1
        have hj2 : j / 2 < news.length := by omega
        have hg := ecells_get news (j / 2) hj2
        have hc := hcell (j / 2) hj2
        rw [ad]
        rcases (by omega : j = j / 2 * 2 ∨ j = j / 2 * 2 + 1) with e | e
        · rw [e, hg.1] at hu
          cases hu
          have e2 : off + j = off + j / 2 * 2 := by omega
          rw [e2]; exact hc.1
        · rw [e, hg.2] at hu
          cases hu
          have e2 : off + j = off + j / 2 * 2 + 1 := by omega
          rw [e2]; exact hc.2) (ecells_one news) (by unfold maxLen; omega) (by omega) hN
    exact ⟨v', w', h1, by rw [ecells_app]; exact h2, (Chg.ofGrown h3).below hN hrow⟩
  · have e0 : news = [] := List.eq_nil_of_length_eq_zero (by omega)
    subst e0
    cases a with
    | none =>
      obtain rfl := h3 rfl
      exact ⟨v, w, run_append_owned_none (P := P) w N t ty T i 2 ht hi v _ _ hown, by simpa using hown, Below.refl _ _⟩
    | some b =>
      obtain ⟨v', w', h1, h2, h3, _, h5⟩ := run_append_own_at (P := P) w N t ty T i _ 2 24 ht hi hz hs hb rfl (by decide) v xs.length (ecells xs) hown b 0 c [] rfl (fun j u hu => by simp at hu) (fun u hu => by cases hu) (by unfold maxLen; omega) (by omega) hN
      exact ⟨v', w', h1, by simpa using h2, (Chg.ofGrown h3).below hN hrow⟩
/-- The same at the operation. -/
theorem wpList_app2 {P : Program} {w : World} {ops : Array Oper} {rest : List Oper} {o : Oper} {a : Act} {Q : Exit → Act → World → Prop} (hgd : o.guard = none) (s x : Operand) (t : TypeId)
    (ho : o.op = .call { callee := .builtin .append, args := #[s, x], argTypes := #[t, t] }) (N T : Nat) (i : TypeInfo) (ht : P.underlying t = some (.slice T)) (hi : P.info? T = some i) (hz : i.zero = some (.agg #[.string ⟨#[]⟩, .int .i64 0])) (hs : i.size = 2) (hb : i.bytes = 24)
    (v vx : Value) (n : Nat) (xs news : List En) (hv : a.eval s = v) (hown : w.ownsRow N T 2 v n (ecells xs)) (hvx : a.eval x = vx) (hx : Es w vx news) (hlen : xs.length + news.length ≤ 1099511627776) (hN : N ≤ w.heap.size)
    (h : ∀ v' w', w'.ownsRow N T 2 v' (n + news.length) (ecells (xs ++ news)) → Below N w w' → wpList P ops Q rest (a.put o.dst v') w') : wpList P ops Q (o :: rest) a w := by
  obtain ⟨v', w', hr, h1, h2⟩ := run_app2 (P := P) w N T t o.type i ht hi hz hs hb v vx n xs news hown hx hlen hN
  exact Lib.wpList_append_run w hgd s x t t ho v vx hv hvx v' w' hr (h v' w' h1 h2)
/-- An empty literal is owned. -/
theorem lit_own2 (w : World) (N T : Nat) (hN : N ≤ w.heap.size) : (w.alloc (.cells #[] T)).ownsRow N T 2 (.slice (some ⟨w.heap.size, 0, none⟩) 0 0) 0 (ecells []) :=
  ⟨rfl, .inr ⟨w.heap.size, 0, #[], rfl, hN, heap_alloc_new w _, Nat.le_refl _, Nat.zero_le _, rfl, rfl⟩⟩
/-- A literal of one entry. -/
theorem Es.one (w : World) (e : En) (T : Nat) (fr : Nat × Nat) : Es (w.alloc (.cells #[.string e.nm, .int .i64 e.ino] T fr)) (.slice (some ⟨w.heap.size, 0, none⟩) 1 1) [e] := by
  refine ⟨_, 1, rfl, Nat.le_refl _, by simp [maxLen], (fun h => by cases h), fun _ => ⟨w.heap.size, 0, rfl, fun j hj => ?_⟩⟩
  have : j = 0 := by simp at hj; omega
  subst this
  have hb := heap_alloc_new w (.cells #[.string e.nm, .int .i64 e.ino] T fr)
  constructor <;> (rw [cell_of_row _ w.heap.size _ _ _ _ hb]; rfl)
/-- An entry's cells are stored. -/
theorem own_set2 {w : World} {N T n g cap k : Nat} {es : List En} (h : w.ownsRow N T 2 (.slice (some ⟨g, 0, none⟩) n cap) n (ecells es)) (hk : k < es.length) (e : En) :
    ((w.setCell ⟨g, k * 2, none⟩ (.string e.nm)).setCell ⟨g, k * 2 + 1, none⟩ (.int .i64 e.ino)).ownsRow N T 2 (.slice (some ⟨g, 0, none⟩) n cap) n (ecells (es.set k e)) ∧ N ≤ g := by
  rcases h.2 with ⟨h1, _⟩ | ⟨g', cap', cur, e1, hb, hg, hnc, hcm, hcs, htake⟩
  · cases h1
  · injection e1 with e1 e2 e3
    injection e1 with e1
    injection e1 with e1
    subst e1; subst e3
    have hl := ecells_len es
    have hn : es.length = n := by have := h.1; omega
    have s1 : k * 2 + 1 < cur.size := by rw [hcs]; omega
    have h1 := heap_setCell_same w g (k * 2) cur T (.string e.nm) hg
    have h2 := heap_setCell_same _ g (k * 2 + 1) _ T (.int .i64 e.ino) h1
    refine ⟨⟨by rw [ecells_len, List.length_set]; omega, .inr ⟨g, cap, _, rfl, hb, h2, hnc, hcm, by simpa using hcs, ?_⟩⟩, hb⟩
    rw [ecells_set es k e hk]
    simp only [Array.toList_setIfInBounds, List.take_set]
    rw [htake]
end Go.Proofs.YtdcmkcplklkfmaaDoor

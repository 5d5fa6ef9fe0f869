/-
  Rows of lines.
-/
import Derived.Test.YtfbildadidfolaaLTake
namespace Go.Proofs.Ytfbildadidfolaa
open Go.RowKit

/-- The cells of lines. -/
def lcells (es : List Ln) : List Value := es.flatMap fun e => [.string e.t, .bool e.long]
theorem lcells_nil : lcells [] = [] := rfl
theorem lcells_cons (e : Ln) (es : List Ln) : lcells (e :: es) = .string e.t :: .bool e.long :: lcells es := rfl
theorem lcells_len (es : List Ln) : (lcells es).length = es.length * 2 := by
  induction es with
  | nil => rfl
  | cons e es ih => rw [lcells_cons, List.length_cons, List.length_cons, ih, List.length_cons]; omega
theorem lcells_app (a b : List Ln) : lcells (a ++ b) = lcells a ++ lcells b := by simp [lcells]
theorem lcells_one (es : List Ln) : ∀ u ∈ lcells es, u.oneCell' = true := by
  intro u hu
  obtain ⟨e, _, h⟩ := List.mem_flatMap.1 hu
  simp at h
  rcases h with rfl | rfl <;> rfl
theorem lcells_get (es : List Ln) (j : Nat) (hj : j < es.length) : (lcells es)[j * 2]? = some (.string (es.getD j Ln.zero).t) ∧ (lcells es)[j * 2 + 1]? = some (.bool (es.getD j Ln.zero).long) := by
  induction es generalizing j with
  | nil => simp at hj
  | cons e es ih =>
    cases j with
    | zero => exact ⟨rfl, rfl⟩
    | succ j =>
      have h := ih j (by simpa using hj)
      have e1 : (j + 1) * 2 = j * 2 + 1 + 1 := by omega
      rw [lcells_cons, e1]
      exact h
/-- v is a slice of the lines es. -/
def Lns (w : World) (v : Value) (es : List Ln) : Prop :=
  ∃ a c, v = .slice a es.length c ∧ es.length ≤ c ∧ c ≤ maxLen ∧ (a = none → c = 0) ∧ (0 < es.length → ∃ b off, a = some ⟨b, off, none⟩ ∧ ∀ j, j < es.length → w.cell? ⟨b, off + j * 2, none⟩ = some (.string (es.getD j Ln.zero).t) ∧ w.cell? ⟨b, off + j * 2 + 1, none⟩ = some (.bool (es.getD j Ln.zero).long))
theorem Lns.form {w : World} {v : Value} {es : List Ln} (h : Lns w v es) : ∃ a c, v = .slice a es.length c := by
  obtain ⟨a, c, e, _⟩ := h
  exact ⟨a, c, e⟩
theorem Lns.len {w : World} {v : Value} {es : List Ln} (h : Lns w v es) : es.length ≤ maxLen := by
  obtain ⟨a, c, e, h1, h2, _, _⟩ := h
  omega
theorem Lns.nth {w : World} {a : Option Addr} {n c k : Nat} {es : List Ln} (h : Lns w (.slice a n c) es) (hk : k < es.length) : ∃ b off, a = some ⟨b, off, none⟩ ∧ ∀ j, j < es.length → w.cell? ⟨b, off + j * 2, none⟩ = some (.string (es.getD j Ln.zero).t) ∧ w.cell? ⟨b, off + j * 2 + 1, none⟩ = some (.bool (es.getD j Ln.zero).long) := by
  obtain ⟨a', c', e, _, _, _, hx⟩ := h
  injection e with e1 e2 e3
  subst e1
  exact hx (by omega)
theorem Lns.nil (w : World) : Lns w (.slice none 0 0) [] := ⟨none, 0, rfl, Nat.le_refl _, Nat.zero_le _, fun _ => rfl, fun h => absurd h (by simp)⟩
theorem Lns.kept {S : Nat → Prop} {w w' : World} {v : Value} {es : List Ln} (h : Lns w v es) (hc : Chg S w w') (hS : ∀ k, k < w.heap.size → ¬ S k) : Lns w' v es := by
  obtain ⟨a, c, e, h1, h2, h3, hx⟩ := h
  refine ⟨a, c, e, h1, h2, h3, fun h0 => ?_⟩
  obtain ⟨b, off, e1, hc'⟩ := hx h0
  have hb : b < w.heap.size := World.block_lt_of_cell? w _ (hc' 0 h0).1
  exact ⟨b, off, e1, fun j hj => ⟨hc.cell (hc' j hj).1 (hS _ hb), hc.cell (hc' j hj).2 (hS _ hb)⟩⟩
theorem Lns.more {w w' : World} {v : Value} {es : List Ln} (h : Lns w v es) (hc : Chg (fun _ => False) w w') : Lns w' v es := h.kept hc (fun _ _ h => h)
/-- What is below stays. -/
theorem Lns.below {w w' : World} {v : Value} {es : List Ln} (h : Lns w v es) (hb : Below w.heap.size w w') : Lns w' v es := h.more (Chg.ofBelowC hb)
/-- What is owned reads. -/
theorem Lns.ofOwns {w : World} {N T n : Nat} {v : Value} {es : List Ln} (h : w.ownsRow N T 2 v n (lcells es)) : Lns w v es := by
  have hn : es.length = n := by have := h.1; rw [lcells_len] at this; omega
  subst hn
  rcases h.2 with ⟨rfl, h0⟩ | ⟨g, cap, cur, rfl, hb, hg, hnc, hcm, hcs, htake⟩
  · have : es = [] := List.eq_nil_of_length_eq_zero h0
    subst this
    exact Lns.nil w
  · refine ⟨some ⟨g, 0, none⟩, cap, rfl, hnc, hcm, (fun h => by cases h), fun h0 => ⟨g, 0, rfl, fun j hj => ?_⟩⟩
    have h1 := h.cells (g := g) rfl (j * 2) _ (lcells_get es j hj).1
    have h2 := h.cells (g := g) rfl (j * 2 + 1) _ (lcells_get es j hj).2
    have ad : ∀ k, (⟨g, 0, none⟩ : Addr).add k = ⟨g, 0 + k, none⟩ := by intro k; unfold Addr.add; split <;> simp_all
    rw [ad] at h1 h2
    exact ⟨h1, h2⟩
/-- append of lines onto what is owned. -/
theorem run_appL {P : Program} (w : World) (N T : Nat) (t ty : TypeId) (i : TypeInfo) (ht : P.underlying t = some (.slice T)) (hi : P.info? T = some i) (hz : i.zero = some (.agg #[.string ⟨#[]⟩, .bool false])) (hs : i.size = 2) (hb : i.bytes = 24)
    (v x : Value) (n : Nat) (xs news : List Ln) (hown : w.ownsRow N T 2 v n (lcells xs)) (hx : Lns w x news) (hlen : xs.length + news.length ≤ 1099511627776) (hN : N ≤ w.heap.size) :
    ∃ v' w', (Builtin.append_ #[t, t] ty #[v, x]).run P w = .ok v' w' ∧ w'.ownsRow N T 2 v' (n + news.length) (lcells (xs ++ news)) ∧ w.grownBy w' v.ownBlock ∧ (v'.ownBlock = v.ownBlock ∨ v'.ownBlock = some w.heap.size) := by
  have hn : xs.length = n := by have := hown.1; rw [lcells_len] at this; omega
  subst hn
  obtain ⟨a, c, rfl, h1, h2, h3, hx'⟩ := hx
  by_cases h0 : 0 < news.length
  · obtain ⟨b, off, rfl, hcell⟩ := hx' h0
    have ad : ∀ k, (⟨b, off, none⟩ : Addr).add k = ⟨b, off + k, none⟩ := by intro k; unfold Addr.add; split <;> simp_all
    obtain ⟨v', w', h1, h2, h3, _, h5⟩ := run_append_own_at (P := P) w N t ty T i _ 2 24 ht hi hz hs hb rfl (by decide) v xs.length (lcells xs) hown ⟨b, off, none⟩ news.length c (lcells news) (lcells_len news)
      (fun j u hu => by
        have hj : j < news.length * 2 := by rw [← lcells_len]; exact (List.getElem?_eq_some_iff.1 hu).1
        have hj2 : j / 2 < news.length := by omega
        have hg := lcells_get news (j / 2) hj2
        have hc := hcell (j / 2) hj2
        rw [ad]
        rcases (by omega : j = j / 2 * 2 ∨ j = j / 2 * 2 + 1) with e | e
        · rw [e, hg.1] at hu
          cases hu
          have e2 : off + j = off + j / 2 * 2 := by omega
          rw [e2]; exact hc.1
        · rw [e, hg.2] at hu
          cases hu
          have e2 : off + j = off + j / 2 * 2 + 1 := by omega
          rw [e2]; exact hc.2) (lcells_one news) (by unfold maxLen; omega) (by omega) hN
    exact ⟨v', w', h1, by rw [lcells_app]; exact h2, h3, h5⟩
  · have e0 : news = [] := List.eq_nil_of_length_eq_zero (by omega)
    subst e0
    cases a with
    | none =>
      obtain rfl := h3 rfl
      exact ⟨v, w, run_append_owned_none (P := P) w N t ty T i 2 ht hi v _ _ hown, by simpa using hown, ⟨rfl, rfl, rfl, Nat.le_refl _, fun _ _ _ => rfl⟩, .inl rfl⟩
    | some b =>
      obtain ⟨v', w', h1, h2, h3, _, h5⟩ := run_append_own_at (P := P) w N t ty T i _ 2 24 ht hi hz hs hb rfl (by decide) v xs.length (lcells xs) hown b 0 c [] rfl (fun j u hu => by simp at hu) (fun u hu => by cases hu) (by unfold maxLen; omega) (by omega) hN
      exact ⟨v', w', h1, by simpa using h2, h3, h5⟩
/-- The same at the operation. -/
theorem wpList_appL {P : Program} {w : World} {ops : Array Oper} {rest : List Oper} {o : Oper} {a : Act} {Q : Exit → Act → World → Prop} (hgd : o.guard = none) (s x : Operand) (t : TypeId)
    (ho : o.op = .call { callee := .builtin .append, args := #[s, x], argTypes := #[t, t] }) (N T : Nat) (i : TypeInfo) (ht : P.underlying t = some (.slice T)) (hi : P.info? T = some i) (hz : i.zero = some (.agg #[.string ⟨#[]⟩, .bool false])) (hs : i.size = 2) (hb : i.bytes = 24)
    (v vx : Value) (n : Nat) (xs news : List Ln) (hv : a.eval s = v) (hown : w.ownsRow N T 2 v n (lcells xs)) (hvx : a.eval x = vx) (hx : Lns w vx news) (hlen : xs.length + news.length ≤ 1099511627776) (hN : N ≤ w.heap.size)
    (h : ∀ v' w', w'.ownsRow N T 2 v' (n + news.length) (lcells (xs ++ news)) → w.grownBy w' v.ownBlock → (v'.ownBlock = v.ownBlock ∨ v'.ownBlock = some w.heap.size) → wpList P ops Q rest (a.put o.dst v') w') : wpList P ops Q (o :: rest) a w := by
  obtain ⟨v', w', hr, h1, h2, h3⟩ := run_appL (P := P) w N T t o.type i ht hi hz hs hb v vx n xs news hown hx hlen hN
  exact Lib.wpList_append_run w hgd s x t t ho v vx hv hvx v' w' hr (h v' w' h1 h2 h3)
/-- An empty literal is owned. -/
theorem lit_ownL (w : World) (N T : Nat) (hN : N ≤ w.heap.size) : (w.alloc (.cells #[] T)).ownsRow N T 2 (.slice (some ⟨w.heap.size, 0, none⟩) 0 0) 0 (lcells []) :=
  ⟨rfl, .inr ⟨w.heap.size, 0, #[], rfl, hN, heap_alloc_new w _, Nat.le_refl _, Nat.zero_le _, rfl, rfl⟩⟩
/-- A literal of one line. -/
theorem Lns.one (w : World) (e : Ln) (T : Nat) (fr : Nat × Nat) : Lns (w.alloc (.cells #[.string e.t, .bool e.long] T fr)) (.slice (some ⟨w.heap.size, 0, none⟩) 1 1) [e] := by
  refine ⟨_, 1, rfl, Nat.le_refl _, by simp [maxLen], (fun h => by cases h), fun _ => ⟨w.heap.size, 0, rfl, fun j hj => ?_⟩⟩
  have : j = 0 := by simp at hj; omega
  subst this
  have hb := heap_alloc_new w (.cells #[.string e.t, .bool e.long] T fr)
  constructor <;> (rw [cell_of_row _ w.heap.size _ _ _ _ hb]; rfl)
theorem Lns.stays {S P : Nat → Prop} {w w' : World} {v : Value} {es : List Ln} (h : Lns w v es) (hi : In P v) (hc : Chg S w w') (hP : ∀ k, P k → ¬ S k) : Lns w' v es := by
  obtain ⟨a, c, e, h1, h2, h3, hx⟩ := h
  refine ⟨a, c, e, h1, h2, h3, fun h0 => ?_⟩
  obtain ⟨b, off, e1, hc'⟩ := hx h0
  have hb := hP b (hi ⟨b, off, none⟩ es.length c (by rw [e, e1]) h0)
  exact ⟨b, off, e1, fun j hj => ⟨hc.cell (hc' j hj).1 hb, hc.cell (hc' j hj).2 hb⟩⟩
theorem infoL : ∃ i : TypeInfo, Try.prog.info? 47 = some i ∧ i.zero = some (.agg #[.string ⟨#[]⟩, .bool false]) ∧ i.size = 2 ∧ i.bytes = 24 := info_parts (by kernel_rfl)
end Go.Proofs.Ytfbildadidfolaa

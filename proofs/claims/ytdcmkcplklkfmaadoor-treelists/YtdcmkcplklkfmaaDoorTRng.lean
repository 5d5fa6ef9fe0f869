/-
  A range over a map of nodes.
-/
import Derived.Test.YtdcmkcplklkfmaaDoorTLaw
import Derived.Maps.RangeWalk
namespace Go.Proofs.YtdcmkcplklkfmaaDoor
open Go.RowKit Go.Maps Go.Sort

def updG (g : ByteArray → Bool) (s : ByteArray) : ByteArray → Bool := fun x => if x = s then false else g x
/-- Block r ranges over the map f at block m; g: what is still to come. -/
def Rng (w : World) (m r : Nat) (f : ByteArray → Option Value) (g : ByteArray → Bool) (cnt : Nat) : Prop :=
  ∃ c D left, w.ranges Tryd.prog 9 hold m r c D left cnt ∧ SMapD D f ∧ (∀ s, s.size ≤ 256 → left (ks s) = g s) ∧ ∀ k, left k = true → has D k = true
theorem Rng.left {w : World} {m r cnt : Nat} {f : ByteArray → Option Value} {g : ByteArray → Bool} (h : Rng w m r f g cnt) : w.rangeLeft m r = cnt := by
  obtain ⟨c, D, left, h1, _⟩ := h
  exact h1.left_eq
theorem Rng.lt {w : World} {m r cnt : Nat} {f : ByteArray → Option Value} {g : ByteArray → Bool} (h : Rng w m r f g cnt) : r < w.heap.size := by
  obtain ⟨c, D, left, h1, _⟩ := h
  exact h1.lt
theorem Rng.kept {w w' : World} {m r cnt : Nat} {f : ByteArray → Option Value} {g : ByteArray → Bool} (h : Rng w m r f g cnt) (hm : w'.heap[m]? = w.heap[m]?) (hr : w'.heap[r]? = w.heap[r]?) : Rng w' m r f g cnt := by
  obtain ⟨c, D, left, ⟨es, clock, since, seen, c0, hb, F, hs, hD, hr', rest⟩, r2⟩ := h
  exact ⟨c, D, left, ⟨es, clock, since, seen, c0, hm.trans hb, F, hs, hD, hr.trans hr', rest⟩, r2⟩
/-- A range begins, at the operation. -/
theorem wpList_range_s (w : World) {ops : Array Oper} {rest : List Oper} {o : Oper} {a : Act} {Q : Exit → Act → World → Prop} (hg : o.guard = none) (x : Operand) (hop : o.op = Op.range 53 x) (m n : Nat) (f : ByteArray → Option Value) (hm : a.eval x = .map (some m)) (h : SMap w m n f)
    (hK : ∀ w' cnt, Rng w' m w.heap.size f (fun s => (f s).isSome) cnt → w.grownBy w' none → w'.heap.size = w.heap.size + 1 → wpList Tryd.prog ops Q rest (a.put o.dst (.pointer (some ⟨w.heap.size, 0, none⟩))) w') :
    wpList Tryd.prog ops Q (o :: rest) a w := by
  obtain ⟨D, ho, hD, _⟩ := h
  exact wpList_range_own w hg x 53 hop 9 56 law9 Tryd.underlying53 hold m n D hm ho (fun w' h1 h2 h3 => hK w' _ ⟨n, D, _, h1, hD, fun s hs => hD.has s hs, fun k hk => hk⟩ h2 h3)
theorem keyOf_str_inv {key : Value} {kl : Lit} (h : keyOf Tryd.prog 9 key = some kl) : ∃ s : ByteArray, key = .string s ∧ kl = ks s := by
  obtain ⟨x, h1, h2, _⟩ := Maps.keyOf_str Tryd.underlying9 h
  exact ⟨⟨x.toArray⟩, h1.trans rfl, h2.trans rfl⟩
/-- A step of the range at the operation. -/
theorem wpList_next_s (w : World) {ops : Array Oper} {rest : List Oper} {o : Oper} {a : Act} {Q : Exit → Act → World → Prop} (hg : o.guard = none) (it : Operand) (hop : o.op = Op.next it false) (m r : Nat) (f : ByteArray → Option Value) (g : ByteArray → Bool) (cnt : Nat)
    (hit : a.eval it = .pointer (some ⟨r, 0, none⟩)) (h : Rng w m r f g cnt)
    (hDone : (∀ s, s.size ≤ 256 → g s = false) → wpList Tryd.prog ops Q rest (a.put o.dst (.tuple #[.bool false])) w)
    (hMore : ∀ (s : ByteArray) (v : Value) (w' : World) (cnt' : Nat), s.size ≤ 256 → g s = true → f s = some v → Rng w' m r f (updG g s) cnt' → cnt' < cnt → w.grownBy w' (some r) → w'.heap.size = w.heap.size →
      (Instr.entry (.pointer (some ⟨r, 0, none⟩))).run Tryd.prog w' = .ok (.tuple #[.string s, v]) w' → wpList Tryd.prog ops Q rest (a.put o.dst (.tuple #[.bool true, .string s, v])) w') :
    wpList Tryd.prog ops Q (o :: rest) a w := by
  obtain ⟨c, D, left, h1, h2, h3, h4⟩ := h
  refine wpList_next_ranges w hg it hop 9 law9 hold Value.string id (fun key kl hkey => by obtain ⟨x, rfl, _⟩ := keyOf_str_inv hkey; exact ⟨x, rfl⟩) (fun v _ _ => ⟨v, rfl⟩) m r c D left cnt hit h1 (fun _ hl => hDone (fun n hn => by rw [← h3 n hn]; exact hl _)) ?_
  intro x v kl y w' cnt' hkey hlk hv hat hrg hlt hgr hsz hen
  obtain ⟨x', ex, rfl⟩ := keyOf_str_inv hkey
  cases ex
  obtain ⟨s, hs, e⟩ := h2.keys _ (h4 _ hlk)
  obtain rfl := ks_inj e
  have hh : has D (ks x) = true := h4 _ hlk
  obtain ⟨u, hu⟩ : ∃ u, f x = some u := by
    have := h2.has x hs
    rw [hh] at this
    exact Option.isSome_iff_exists.1 this.symm
  have hvu : v = u := by
    have h5 := h2.at' x u hs hu .nil
    have h6 := hat .nil
    rw [h5] at h6
    simp [hold] at hv
    rw [← hv] at h6
    cases h6; rfl
  subst hvu
  refine hMore x v w' cnt' hs (by rw [← h3 x hs]; exact hlk) hu ⟨c, D, _, hrg, h2, fun j hj => ?_, fun k hk => ?_⟩ hlt hgr hsz hen
  · unfold updG
    by_cases e : j = x
    · subst e
      rw [if_pos rfl, WideAt.sameKey_self (ks_key hj)]; simp
    · rw [if_neg e, ← h3 j hj, sameKey_ne (fun he => e (ks_inj he))]; simp
  · simp at hk
    exact h4 k hk.1
end Go.Proofs.YtdcmkcplklkfmaaDoor

/-
  A map from block numbers to one-cell values, as a function: what look-up, store, delete and a range over it do.
-/
import Derived.Test.YtnnaemlipahamaaGreatMem
import Derived.Test.YtnnaemlipahamaaGreatState
import Derived.Test.YtnnaemlipahamaaGreatProg
import Derived.Maps.RangeWalk
namespace Go.Proofs.YtnnaemlipahamaaGreat
open Go.RowKit Go.Maps

/-- An element is read as itself. -/
def hold (v : Value) : Option (DataW Value × List MemPlace) := some (.held v, [])
theorem law3 : Keyed Tryz.prog 3 := int_keyed Tryz.underlying3
/-- Block n as a key. -/
def kn (n : Nat) : Lit := .int .i64 (n : Int)
theorem kn_inj {a b : Nat} (h : kn a = kn b) : a = b := by simp [kn] at h; omega
theorem kn_wf {n : Nat} (h : n < 16384) : (Lit.int .i64 (n : Int)).wf = true := WalkArith.wf_i64 (by omega)
theorem key3 {n : Nat} (h : n < 16384) : keyOf Tryz.prog 3 (.int .i64 (n : Int)) = some (kn n) := keyOf_int_mk Tryz.underlying3 (kn_wf h)
theorem kn_key {n : Nat} (h : n < 16384) : WideAt.IsKeyLit (kn n) := law3.key (key3 h)
theorem zero55 (w : World) : (zeroValue 57).run Tryz.prog w = .ok (.slice none 0 0) w := by kernel_rfl

/-- D is the map f, on the keys below nb. -/
structure MapD (D : DataW Value) (nb : Nat) (f : Nat → Option Value) : Prop where
  keys : ∀ k, has D k = true → ∃ n, n < nb ∧ k = kn n
  has : ∀ n, n < nb → has D (kn n) = (f n).isSome
  at' : ∀ n v, n < nb → f n = some v → ∀ z, D.atKey (kn n) z = .held v

/-- Block m of w is the map f, on the keys below nb. -/
def MapIs (w : World) (m nb : Nat) (f : Nat → Option Value) : Prop := ∃ c D, w.ownsMap Tryz.prog 3 hold m c D ∧ MapD D nb f

theorem own_size {w : World} {m c : Nat} {D : DataW Value} (h : w.ownsMap Tryz.prog 3 hold m c D) : w.ownsMap Tryz.prog 3 hold m (Maps.size D) D := by
  obtain ⟨es, clock, hb, F, hs, rfl⟩ := h
  exact ⟨es, clock, hb, F, by simp [Maps.size, length_sorted], rfl⟩

theorem length_keys : ∀ (nb : Nat) (es : List (Lit × DataW Value)), nb ≤ 16384 → es.Pairwise (fun p q => p.1 ≠ q.1) → (∀ p ∈ es, ∃ n, n < nb ∧ p.1 = kn n) → es.length ≤ nb
  | 0, es, _, _, h => by
    cases es with
    | nil => simp
    | cons p r => obtain ⟨n, hn, _⟩ := h p (by simp); omega
  | nb + 1, es, hb, hp, h => by
    have h1 := length_strike (k := kn nb) es hp
    have h2 := length_keys nb (es.filter fun p => !p.1.sameKey (kn nb)) (by omega) (hp.filter _) (fun p hpm => by
      obtain ⟨hm, hs⟩ := List.mem_filter.1 hpm
      obtain ⟨n, hn, e⟩ := h p hm
      refine ⟨n, ?_, e⟩
      by_cases hnn : n = nb
      · subst hnn
        rw [e, WideAt.sameKey_self (kn_key (by omega))] at hs
        cases hs
      · omega)
    split at h1 <;> omega

theorem MapD.size_le {w : World} {m c nb : Nat} {D : DataW Value} {f : Nat → Option Value} (h : MapD D nb f) (ho : w.ownsMap Tryz.prog 3 hold m c D) (hnb : nb ≤ 16384) : Maps.size D ≤ nb := by
  obtain ⟨es, rfl, hp, hk⟩ := ho.entries law3
  refine length_keys nb es hnb hp (fun p hpm => h.keys p.1 ?_)
  exact List.any_eq_true.2 ⟨p, hpm, WideAt.sameKey_self (hk p hpm)⟩

theorem MapIs.new (w : World) (nb : Nat) : MapIs (w.alloc (.map #[] 0)) w.heap.size nb (fun _ => none) :=
  ⟨0, .map [], World.ownsMap_made w _ _ _, ⟨fun k hk => by simp [Maps.has] at hk, fun n _ => rfl, fun n v _ h => by cases h⟩⟩
theorem MapIs.lt {w : World} {m nb : Nat} {f : Nat → Option Value} (h : MapIs w m nb f) : m < w.heap.size := by obtain ⟨c, D, ho, _⟩ := h; exact ho.lt
theorem MapIs.kept {w w' : World} {m nb : Nat} {f : Nat → Option Value} (h : MapIs w m nb f) (hb : w'.heap[m]? = w.heap[m]?) : MapIs w' m nb f := by
  obtain ⟨c, D, ⟨es, clock, h1, h2⟩, hD⟩ := h
  exact ⟨c, D, ⟨es, clock, hb.trans h1, h2⟩, hD⟩
theorem MapIs.obj {w : World} {m nb : Nat} {f : Nat → Option Value} (h : MapIs w m nb f) : ∃ es clock, w.heap[m]? = some (.map es clock) := by
  obtain ⟨c, D, ⟨es, clock, h1, h2⟩, hD⟩ := h
  exact ⟨es, clock, h1⟩

theorem MapIs.look {w : World} {m nb n : Nat} {f : Nat → Option Value} (h : MapIs w m nb f) (hnb : nb ≤ 16384) (hn : n < nb) :
    (Instr.lookup 114 (.map (some m)) (.int .i64 (n : Int)) false).run Tryz.prog w = .ok ((f n).getD (.slice none 0 0)) w := by
  obtain ⟨c, D, ho, hD⟩ := h
  obtain ⟨v, ps, hrun, hv⟩ := ho.lookup law3 Tryz.underlying114 (zero55 w) (show hold (.slice none 0 0) = some (.held (.slice none 0 0), []) from rfl) (key3 (show n < 16384 by omega))
  rw [hrun]
  have e : DataW.held v = D.atKey (kn n) (.held (.slice none 0 0)) := by simpa [hold] using congrArg (Option.map Prod.fst) hv
  cases hf : f n with
  | some u =>
    rw [hD.at' n u hn hf] at e
    cases e; rfl
  | none =>
    have h0 := hD.has n hn
    rw [hf] at h0
    rw [atKey_of_not_has (by simpa using h0)] at e
    cases e; rfl

theorem MapD.put {w : World} {m c nb n : Nat} {D : DataW Value} {f : Nat → Option Value} (h : MapD D nb f) (ho : w.ownsMap Tryz.prog 3 hold m c D) (hnb : nb ≤ 16384) (hn : n < nb) (v : Value) : MapD (D.put (kn n) (.held v)) nb (upd f n (some v)) := by
  have hk := kn_key (show n < 16384 by omega)
  refine ⟨fun k hh => ?_, fun j hj => ?_, fun j u hj hu z => ?_⟩
  · by_cases e : k = kn n
    · exact ⟨n, hn, e⟩
    · rw [has_put_other e] at hh; exact h.keys k hh
  · by_cases e : j = n
    · subst e; rw [has_put_same ho.isMap hk, upd_same]; rfl
    · rw [has_put_other (fun he => e (kn_inj he)), upd_other _ _ e]; exact h.has j hj
  · by_cases e : j = n
    · subst e; rw [upd_same] at hu; cases hu; exact atKey_put_same ho.isMap hk _ _
    · rw [upd_other _ _ e] at hu
      rw [atKey_put_other (fun he => e (kn_inj he))]; exact h.at' j u hj hu z

theorem MapD.del {nb n : Nat} {D : DataW Value} {f : Nat → Option Value} (h : MapD D nb f) : MapD (D.del (kn n)) nb (upd f n none) := by
  refine ⟨fun k hh => ?_, fun j hj => ?_, fun j u hj hu z => ?_⟩
  · by_cases e : k = kn n
    · rw [e, has_del_same] at hh; cases hh
    · rw [has_del_other e] at hh; exact h.keys k hh
  · by_cases e : j = n
    · subst e; rw [has_del_same, upd_same]; rfl
    · rw [has_del_other (fun he => e (kn_inj he)), upd_other _ _ e]; exact h.has j hj
  · by_cases e : j = n
    · subst e; rw [upd_same] at hu; cases hu
    · rw [upd_other _ _ e] at hu
      rw [atKey_del_other (fun he => e (kn_inj he))]; exact h.at' j u hj hu z

theorem MapIs.store {w : World} {m nb n : Nat} {f : Nat → Option Value} (h : MapIs w m nb f) (hnb : nb ≤ 16384) (hn : n < nb) (v : Value) :
    ∃ w', (Instr.mapUpdate 114 (.map (some m)) (.int .i64 (n : Int)) v).run Tryz.prog w = .ok () w' ∧ MapIs w' m nb (upd f n (some v)) ∧ w.grownBy w' (some m) ∧ w'.heap.size = w.heap.size := by
  obtain ⟨c, D, ho, hD⟩ := h
  have hs := hD.size_le ho hnb
  obtain ⟨w', hrun, ho', ht⟩ := (own_size ho).store law3 Tryz.underlying114 (by unfold maxLen; omega) (key3 (show n < 16384 by omega)) (show hold v = some (.held v, []) from rfl)
  refine ⟨w', hrun, ⟨_, _, ho', hD.put ho hnb hn v⟩, ht.grown, ?_⟩
  obtain ⟨_, _, _, _, _, rfl⟩ := ht
  simp [ChangeMaps.setBlock]

/-- A range over the map is under way at r: g says which keys are still to come. -/
def Rng (w : World) (m r nb : Nat) (f : Nat → Option Value) (g : Nat → Bool) (cnt : Nat) : Prop :=
  ∃ c D left, w.ranges Tryz.prog 3 hold m r c D left cnt ∧ MapD D nb f ∧ (∀ n, n < nb → left (kn n) = g n) ∧ ∀ k, left k = true → has D k = true

theorem Rng.map {w : World} {m r nb cnt : Nat} {f : Nat → Option Value} {g : Nat → Bool} (h : Rng w m r nb f g cnt) : MapIs w m nb f := by
  obtain ⟨c, D, left, h1, h2, _⟩ := h
  exact ⟨c, D, h1.owns, h2⟩
theorem Rng.left {w : World} {m r nb cnt : Nat} {f : Nat → Option Value} {g : Nat → Bool} (h : Rng w m r nb f g cnt) : w.rangeLeft m r = cnt := by
  obtain ⟨c, D, left, h1, _⟩ := h
  exact h1.left_eq
theorem Rng.lt {w : World} {m r nb cnt : Nat} {f : Nat → Option Value} {g : Nat → Bool} (h : Rng w m r nb f g cnt) : r < w.heap.size := by
  obtain ⟨c, D, left, h1, _⟩ := h
  exact h1.lt
theorem Rng.obj {w : World} {m r nb cnt : Nat} {f : Nat → Option Value} {g : Nat → Bool} (h : Rng w m r nb f g cnt) : ∃ a b c d, w.heap[r]? = some (.mapIter a b c d) := by
  obtain ⟨c, D, left, ⟨es, clock, since, seen, c0, hb, _, _, _, hr, _⟩, _⟩ := h
  exact ⟨_, _, _, _, hr⟩
theorem Rng.kept {w w' : World} {m r nb cnt : Nat} {f : Nat → Option Value} {g : Nat → Bool} (h : Rng w m r nb f g cnt) (hm : w'.heap[m]? = w.heap[m]?) (hr : w'.heap[r]? = w.heap[r]?) : Rng w' m r nb f g cnt := by
  obtain ⟨c, D, left, ⟨es, clock, since, seen, c0, hb, F, hs, hD, hr', rest⟩, r2⟩ := h
  exact ⟨c, D, left, ⟨es, clock, since, seen, c0, hm.trans hb, F, hs, hD, hr.trans hr', rest⟩, r2⟩

theorem MapIs.delete {w : World} {m nb n : Nat} {f : Nat → Option Value} (h : MapIs w m nb f) (hnb : nb ≤ 16384) (hn : n < nb) (ty : TypeId) :
    ∃ w', (Builtin.delete_ #[114, 3] ty #[.map (some m), .int .i64 (n : Int)]).run Tryz.prog w = .ok (.tuple #[]) w' ∧ MapIs w' m nb (upd f n none) ∧ w.grownBy w' (some m) ∧ w'.heap.size = w.heap.size ∧
      ∀ r g cnt, Rng w m r nb f g cnt → ∃ cnt', Rng w' m r nb (upd f n none) (upd g n false) cnt' ∧ cnt' ≤ cnt := by
  obtain ⟨c, D, ho, hD⟩ := h
  obtain ⟨w', hrun, ho', ht⟩ := ho.drop law3 Tryz.underlying114 (key3 (show n < 16384 by omega)) ty
  refine ⟨w', hrun, ⟨_, _, ho', hD.del⟩, ht.grown, ?_, ?_⟩
  · obtain ⟨_, _, _, _, _, rfl⟩ := ht
    simp [ChangeMaps.setBlock]
  · rintro r g cnt ⟨c2, D2, left, h1, h2, h3, h4⟩
    obtain ⟨w2, cnt', hrun2, r1, r2, _⟩ := h1.drop law3 Tryz.underlying114 (key3 (show n < 16384 by omega)) ty
    obtain rfl : w' = w2 := by rw [hrun] at hrun2; injection hrun2
    refine ⟨cnt', ⟨c2, _, _, r1, h2.del, fun j hj => ?_, fun k hk => ?_⟩, r2⟩
    · by_cases e : j = n
      · subst e; rw [upd_same, WideAt.sameKey_self (kn_key (by omega))]; simp
      · rw [upd_other _ _ e, ← h3 j hj, sameKey_ne (fun he => e (kn_inj he))]; simp
    · simp at hk
      have hne : k ≠ kn n := fun e => by
        have := hk.2; rw [e, WideAt.sameKey_self (kn_key (by omega))] at this; cases this
      rw [has_del_other hne]; exact h4 k hk.1

/-- 'range m' at the operation. -/
theorem wpList_range_is (w : World) {ops : Array Oper} {rest : List Oper} {o : Oper} {a : Act} {Q : Exit → Act → World → Prop} (hg : o.guard = none) (x : Operand) (hop : o.op = Op.range 114 x) (m nb : Nat) (f : Nat → Option Value)
    (hm : a.eval x = .map (some m)) (h : MapIs w m nb f)
    (hK : ∀ w' cnt, Rng w' m w.heap.size nb f (fun n => (f n).isSome) cnt → w.grownBy w' none → w'.heap.size = w.heap.size + 1 → wpList Tryz.prog ops Q rest (a.put o.dst (.pointer (some ⟨w.heap.size, 0, none⟩))) w') :
    wpList Tryz.prog ops Q (o :: rest) a w := by
  obtain ⟨c, D, ho, hD⟩ := h
  exact wpList_range_own w hg x 114 hop 3 57 law3 Tryz.underlying114 hold m c D hm ho (fun w' h1 h2 h3 => hK w' _ ⟨c, D, _, h1, hD, fun n hn => hD.has n hn, fun k hk => hk⟩ h2 h3)

/-- A step of the range at the operation. -/
theorem wpList_next_is (w : World) {ops : Array Oper} {rest : List Oper} {o : Oper} {a : Act} {Q : Exit → Act → World → Prop} (hg : o.guard = none) (it : Operand) (hop : o.op = Op.next it false) (m r nb : Nat) (f : Nat → Option Value) (g : Nat → Bool) (cnt : Nat)
    (hnb : nb ≤ 16384) (hit : a.eval it = .pointer (some ⟨r, 0, none⟩)) (h : Rng w m r nb f g cnt)
    (hDone : (∀ n, n < nb → g n = false) → wpList Tryz.prog ops Q rest (a.put o.dst (.tuple #[.bool false])) w)
    (hMore : ∀ (n : Nat) (v : Value) (w' : World) (cnt' : Nat), n < nb → g n = true → f n = some v → Rng w' m r nb f (upd g n false) cnt' → cnt' < cnt → w.grownBy w' (some r) → w'.heap.size = w.heap.size →
      (Instr.entry (.pointer (some ⟨r, 0, none⟩))).run Tryz.prog w' = .ok (.tuple #[.int .i64 (n : Int), v]) w' → wpList Tryz.prog ops Q rest (a.put o.dst (.tuple #[.bool true, .int .i64 (n : Int), v])) w') :
    wpList Tryz.prog ops Q (o :: rest) a w := by
  obtain ⟨c, D, left, h1, h2, h3, h4⟩ := h
  refine wpList_next_ranges w hg it hop 3 law3 hold (Value.int .i64) id (fun key kl hkey => by obtain ⟨x, rfl, _⟩ := Maps.keyOf_int_inv Tryz.underlying3 hkey; exact ⟨x, rfl⟩) (fun v _ _ => ⟨v, rfl⟩) m r c D left cnt hit h1 (fun _ hl => hDone (fun n hn => by rw [← h3 n hn]; exact hl _)) ?_
  intro x v kl y w' cnt' hkey hlk hv hat hrg hlt hgr hsz hen
  obtain ⟨x', ex, rfl, _⟩ := Maps.keyOf_int_inv Tryz.underlying3 hkey
  cases ex
  obtain ⟨n, hn, e⟩ := h2.keys _ (h4 _ hlk)
  have ex : x = (n : Int) := by simpa [kn] using e
  subst ex
  have hh : has D (kn n) = true := h4 _ hlk
  obtain ⟨u, hu⟩ : ∃ u, f n = some u := by
    have := h2.has n hn
    rw [hh] at this
    exact Option.isSome_iff_exists.1 this.symm
  have hvu : v = u := by
    have h5 := h2.at' n u hn hu .nil
    have h6 := hat .nil
    rw [show (Lit.int .i64 (n : Int)) = kn n from rfl, h5] at h6
    simp [hold] at hv
    rw [← hv] at h6
    cases h6; rfl
  subst hvu
  refine hMore n v w' cnt' hn (by rw [← h3 n hn]; exact hlk) hu ⟨c, D, _, hrg, h2, fun j hj => ?_, fun k hk => ?_⟩ hlt hgr hsz hen
  · by_cases e : j = n
    · subst e
      rw [upd_same, show (Lit.int .i64 (j : Int)) = kn j from rfl, WideAt.sameKey_self (kn_key (by omega))]; simp
    · rw [upd_other _ _ e, ← h3 j hj, show (Lit.int .i64 (n : Int)) = kn n from rfl, sameKey_ne (fun he => e (kn_inj he))]; simp
  · simp at hk
    exact h4 k hk.1
end Go.Proofs.YtnnaemlipahamaaGreat

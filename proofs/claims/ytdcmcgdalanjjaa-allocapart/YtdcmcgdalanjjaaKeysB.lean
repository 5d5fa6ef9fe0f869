/-
  slices.Sorted(maps.Keys(m)) at a map of the log's blocks.
-/
import Derived.Test.YtdcmcgdalanjjaaKeys
namespace Go.Proofs
open Go.Shelf
end Go.Proofs

namespace Go.Proofs.Ytdcmcgdalanjjaa
open Go.RowKit Go.Maps Go.Sort Go.Shelf

end Go.Proofs.Ytdcmcgdalanjjaa

namespace Go.Proofs.Ytdcmcgdalanjjaa
open Go.RowKit Go.Maps

theorem zeroB (w : World) : (zeroValue 48).run Try.prog w = .ok (.slice none 0 0) w := by kernel_rfl

theorem MapIs.lookB {w : World} {m nb n : Nat} {f : Nat → Option Value} (h : MapIs w m nb f) (hnb : nb ≤ 16384) (hn : n < nb) :
    (Instr.lookup 70 (.map (some m)) (.int .i64 (n : Int)) false).run Try.prog w = .ok ((f n).getD (.slice none 0 0)) w := by
  obtain ⟨c, D, ho, hD⟩ := h
  obtain ⟨v, ps, hrun, hv⟩ := ho.lookup law3 Try.underlying70 (zeroB w) (show hold (.slice none 0 0) = some (.held (.slice none 0 0), []) from rfl) (key3 (show n < 16384 by omega))
  rw [hrun]
  have e : DataW.held v = D.atKey (kn n) (.held (.slice none 0 0)) := by simpa [hold] using congrArg (Option.map Prod.fst) hv
  cases hf : f n with
  | some u =>
    rw [hD.at' n u hn hf] at e
    cases e; rfl
  | none =>
    have h0 := hD.has n hn
    rw [hf] at h0
    rw [atKey_of_not_has (by simpa using h0)] at e
    cases e; rfl

theorem MapIs.storeB {w : World} {m nb n : Nat} {f : Nat → Option Value} (h : MapIs w m nb f) (hnb : nb ≤ 16384) (hn : n < nb) (v : Value) :
    ∃ w', (Instr.mapUpdate 70 (.map (some m)) (.int .i64 (n : Int)) v).run Try.prog w = .ok () w' ∧ MapIs w' m nb (upd f n (some v)) ∧ w.grownBy w' (some m) ∧ w'.heap.size = w.heap.size := by
  obtain ⟨c, D, ho, hD⟩ := h
  have hs := hD.size_le ho hnb
  obtain ⟨w', hrun, ho', ht⟩ := (own_size ho).store law3 Try.underlying70 (by unfold maxLen; omega) (key3 (show n < 16384 by omega)) (show hold v = some (.held v, []) from rfl)
  refine ⟨w', hrun, ⟨_, _, ho', hD.put ho hnb hn v⟩, ht.grown, ?_⟩
  obtain ⟨_, _, _, _, _, rfl⟩ := ht
  simp [ChangeMaps.setBlock]

theorem MapIs.deleteB {w : World} {m nb n : Nat} {f : Nat → Option Value} (h : MapIs w m nb f) (hnb : nb ≤ 16384) (hn : n < nb) (ty : TypeId) :
    ∃ w', (Builtin.delete_ #[70, 3] ty #[.map (some m), .int .i64 (n : Int)]).run Try.prog w = .ok (.tuple #[]) w' ∧ MapIs w' m nb (upd f n none) ∧ w.grownBy w' (some m) ∧ w'.heap.size = w.heap.size ∧
      ∀ r g cnt, Rng w m r nb f g cnt → ∃ cnt', Rng w' m r nb (upd f n none) (upd g n false) cnt' ∧ cnt' ≤ cnt := by
  obtain ⟨c, D, ho, hD⟩ := h
  obtain ⟨w', hrun, ho', ht⟩ := ho.drop law3 Try.underlying70 (key3 (show n < 16384 by omega)) ty
  refine ⟨w', hrun, ⟨_, _, ho', hD.del⟩, ht.grown, ?_, ?_⟩
  · obtain ⟨_, _, _, _, _, rfl⟩ := ht
    simp [ChangeMaps.setBlock]
  · rintro r g cnt ⟨c2, D2, left, h1, h2, h3, h4⟩
    obtain ⟨w2, cnt', hrun2, r1, r2, _⟩ := h1.drop law3 Try.underlying70 (key3 (show n < 16384 by omega)) ty
    obtain rfl : w' = w2 := by rw [hrun] at hrun2; injection hrun2
    refine ⟨cnt', ⟨c2, _, _, r1, h2.del, fun j hj => ?_, fun k hk => ?_⟩, r2⟩
    · by_cases e : j = n
      · subst e; rw [upd_same, WideAt.sameKey_self (kn_key (by omega))]; simp
      · rw [upd_other _ _ e, ← h3 j hj, sameKey_ne (fun he => e (kn_inj he))]; simp
    · simp at hk
      have hne : k ≠ kn n := fun e => by
        have := hk.2; rw [e, WideAt.sameKey_self (kn_key (by omega))] at this; cases this
      rw [has_del_other hne]; exact h4 k hk.1

/-- 'range m' at the operation. -/
theorem wpList_range_isB (w : World) {ops : Array Oper} {rest : List Oper} {o : Oper} {a : Act} {Q : Exit → Act → World → Prop} (hg : o.guard = none) (x : Operand) (hop : o.op = Op.range 70 x) (m nb : Nat) (f : Nat → Option Value)
    (hm : a.eval x = .map (some m)) (h : MapIs w m nb f)
    (hK : ∀ w' cnt, Rng w' m w.heap.size nb f (fun n => (f n).isSome) cnt → w.grownBy w' none → w'.heap.size = w.heap.size + 1 → wpList Try.prog ops Q rest (a.put o.dst (.pointer (some ⟨w.heap.size, 0, none⟩))) w') :
    wpList Try.prog ops Q (o :: rest) a w := by
  obtain ⟨c, D, ho, hD⟩ := h
  exact wpList_range_own w hg x 70 hop 3 48 law3 Try.underlying70 hold m c D hm ho (fun w' h1 h2 h3 => hK w' _ ⟨c, D, _, h1, hD, fun n hn => hD.has n hn, fun k hk => hk⟩ h2 h3)


theorem MapIs.lookB2 {w : World} {m nb n : Nat} {f : Nat → Option Value} (h : MapIs w m nb f) (hnb : nb ≤ 16384) (hn : n < nb) :
    (Instr.lookup 70 (.map (some m)) (.int .i64 (n : Int)) true).run Try.prog w = .ok (.tuple #[(f n).getD (.slice none 0 0), .bool (f n).isSome]) w := by
  obtain ⟨c, D, ho, hD⟩ := h
  obtain ⟨v, ps, hrun, hv⟩ := ho.look_ok law3 Try.underlying70 (zeroB w) (show hold (.slice none 0 0) = some (.held (.slice none 0 0), []) from rfl) (key3 (show n < 16384 by omega))
  rw [hrun, hD.has n hn]
  have e : DataW.held v = D.atKey (kn n) (.held (.slice none 0 0)) := by simpa [hold] using congrArg (Option.map Prod.fst) hv
  cases hf : f n with
  | some u =>
    rw [hD.at' n u hn hf] at e
    cases e; rfl
  | none =>
    have h0 := hD.has n hn
    rw [hf] at h0
    rw [atKey_of_not_has (by simpa using h0)] at e
    cases e; rfl

theorem MapIs.size {w : World} {m c nb : Nat} {D : DataW Value} {f : Nat → Option Value} (ho : w.ownsMap Try.prog 3 hold m c D) (hD : MapD D nb f) : Maps.size D = (keysOf nb f).length := by
  have h1 := congrArg List.length (sorted_is ho hD (List.Perm.refl _))
  obtain ⟨es, rfl, hpw, hk⟩ := ho.entries law3
  have hint : ∀ p ∈ es, ∃ x, p.1 = .int .i64 x := fun p hpm => by
    obtain ⟨n, _, e⟩ := hD.keys p.1 (List.any_eq_true.2 ⟨p, hpm, WideAt.sameKey_self (hk p hpm)⟩)
    exact ⟨_, e⟩
  have h2 : (intKeys (.map es)).length = es.length := by
    have : ∀ l : List (Lit × DataW Value), (∀ p ∈ l, ∃ x, p.1 = .int .i64 x) → (intKeys (.map l)).length = l.length := by
      intro l
      induction l with
      | nil => intro _; rfl
      | cons p r ih =>
        intro hl
        obtain ⟨x, hx⟩ := hl p (by simp)
        have h3 := ih (fun q hq => hl q (by simp [hq]))
        obtain ⟨p1, p2⟩ := p
        simp only at hx
        subst hx
        unfold intKeys at h3 ⊢
        simp at h3 ⊢
    exact this es hint
  simp at h1
  simp [Maps.size]
  omega
theorem MapIs.lenB {w : World} {m nb : Nat} {f : Nat → Option Value} (h : MapIs w m nb f) (ty : TypeId) :
    (Builtin.len_ #[70] ty #[.map (some m)]).run Try.prog w = .ok (.int .i64 ((keysOf nb f).length : Int)) w := by
  obtain ⟨c, D, ho, hD⟩ := h
  rw [ho.len Try.underlying70 ty, MapIs.size ho hD]
end Go.Proofs.Ytdcmcgdalanjjaa

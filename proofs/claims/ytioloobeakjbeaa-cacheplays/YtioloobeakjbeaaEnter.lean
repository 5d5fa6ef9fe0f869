/-
  The contract of enter, and the map from block numbers to nodes.
-/
import Derived.Test.YtioloobeakjbeaaRing
namespace Go.Proofs.Ytioloobeakjbeaa
open Go.RowKit Go.Maps

set_option maxHeartbeats 1600000 in
set_option maxRecDepth 100000 in
theorem enter_any (w : World) (a r o : Nat) (c5 : w.cell? ⟨r, 5, none⟩ = some (.pointer (some ⟨o, 0, none⟩)))
    (a5 : ∃ v, w.cell? ⟨a, 5, none⟩ = some v) (a4 : ∃ v, w.cell? ⟨a, 4, none⟩ = some v) (o4 : ∃ v, w.cell? ⟨o, 4, none⟩ = some v) (f1 : w.frozen? ⟨a, 5, none⟩ = false) (f2 : w.frozen? ⟨a, 4, none⟩ = false) (f3 : w.frozen? ⟨o, 4, none⟩ = false) (f4 : w.frozen? ⟨r, 5, none⟩ = false) (hr : r ≠ a) (ho : o ≠ a) :
    Calls Try.prog 77 #[.pointer (some ⟨a, 0, none⟩), .pointer (some ⟨r, 0, none⟩)] w fun e w' => e = .returned (.tuple #[]) ∧ ∃ q, w' = (enterW w a r o).drewN q := by
  obtain ⟨v5, a5⟩ := a5
  obtain ⟨v4, a4⟩ := a4
  obtain ⟨u4, o4⟩ := o4
  go_enter Try.func77, Try.ntmps77
  go_wp2_with fail
  go_region
  all_goals
    go_end0
    first | exact ⟨rfl, 0, rfl⟩ | exact ⟨rfl, 1, rfl⟩

/-! ### the map -/
theorem zero75 (w : World) : (zeroValue 75).run Try.prog w = .ok (.pointer none) w := by kernel_rfl
def ptr (a : Nat) : Value := .pointer (some ⟨a, 0, none⟩)
/-- The map m holds each node of ls at its number, and nothing else. -/
def Mp (w : World) (m nb : Nat) (ls : List Nat) (nd : Nat → Node) : Prop := ∃ f, MapIs w m nb f ∧ ∀ n v, n < nb → (f n = some v ↔ ∃ a ∈ ls, (nd a).n = n ∧ v = ptr a)
theorem Mp.lt {w : World} {m nb : Nat} {ls : List Nat} {nd : Nat → Node} (h : Mp w m nb ls nd) : m < w.heap.size := by obtain ⟨f, h, _⟩ := h; exact h.lt
theorem Mp.obj {w : World} {m nb : Nat} {ls : List Nat} {nd : Nat → Node} (h : Mp w m nb ls nd) : ∃ es clock, w.heap[m]? = some (.map es clock) := by obtain ⟨f, h, _⟩ := h; exact h.obj
theorem Mp.kept {w w' : World} {m nb : Nat} {ls : List Nat} {nd : Nat → Node} (h : Mp w m nb ls nd) (hb : w'.heap[m]? = w.heap[m]?) : Mp w' m nb ls nd := by obtain ⟨f, h, r⟩ := h; exact ⟨f, h.kept hb, r⟩
theorem Mp.congr {w : World} {m nb : Nat} {ls ls' : List Nat} {nd nd' : Nat → Node} (h : Mp w m nb ls nd) (hl : ∀ a, a ∈ ls' ↔ a ∈ ls) (hn : ∀ a ∈ ls, (nd' a).n = (nd a).n) : Mp w m nb ls' nd' := by
  obtain ⟨f, h, r⟩ := h
  refine ⟨f, h, fun n v hnb => (r n v hnb).trans ⟨?_, ?_⟩⟩
  · rintro ⟨a, ha, e, rfl⟩; exact ⟨a, (hl a).2 ha, (hn a ha).trans e, rfl⟩
  · rintro ⟨a, ha, e, rfl⟩; exact ⟨a, (hl a).1 ha, (hn a ((hl a).1 ha)).symm.trans e, rfl⟩
theorem Mp.new (w : World) (nb : Nat) (nd : Nat → Node) : Mp (w.alloc (.map #[] 0)) w.heap.size nb [] nd := ⟨_, MapIs.new w nb, fun n v _ => by simp⟩

theorem look_int {w : World} {m nb : Nat} {f : Nat → Option Value} (h : MapIs w m nb f) (x : Int) (h0 : -9223372036854775808 ≤ x) (h1 : x < 9223372036854775808) :
    ∃ v, (Instr.lookup 74 (.map (some m)) (.int .i64 x) false).run Try.prog w = .ok v w ∧ ((∃ n, n < nb ∧ x = (n : Int) ∧ v = (f n).getD (.pointer none)) ∨ ((∀ n, n < nb → x ≠ (n : Int)) ∧ v = .pointer none)) := by
  obtain ⟨c, D, ho, hD⟩ := h
  have hk : keyOf Try.prog 3 (.int .i64 x) = some (.int .i64 x) := keyOf_int_mk Try.underlying3 (WalkArith.wf_i64 (by omega))
  obtain ⟨v, ps, hrun, hv⟩ := ho.lookup law3 Try.underlying74 (zero75 w) (show hold (.pointer none) = some (.held (.pointer none), []) from rfl) hk
  refine ⟨v, hrun, ?_⟩
  have e : DataW.held v = D.atKey (.int .i64 x) (.held (.pointer none)) := by simpa [hold] using congrArg (Option.map Prod.fst) hv
  cases hh : Maps.has D (.int .i64 x) with
  | false =>
    rw [atKey_of_not_has hh] at e
    cases e
    by_cases hx : ∃ n, n < nb ∧ x = (n : Int)
    · obtain ⟨n, hn, rfl⟩ := hx
      refine .inl ⟨n, hn, rfl, ?_⟩
      have := hD.has n hn
      rw [show kn n = .int .i64 (n : Int) from rfl, hh] at this
      cases hf : f n with
      | none => rfl
      | some u => rw [hf] at this; cases this
    · exact .inr ⟨fun n hn e => hx ⟨n, hn, e⟩, rfl⟩
  | true =>
    obtain ⟨n, hn, ek⟩ := hD.keys _ hh
    have ex : x = (n : Int) := by simpa [kn] using ek
    subst ex
    refine .inl ⟨n, hn, rfl, ?_⟩
    have := hD.has n hn
    rw [show kn n = .int .i64 (n : Int) from rfl, hh] at this
    obtain ⟨u, hu⟩ := Option.isSome_iff_exists.1 this.symm
    rw [show (Lit.int .i64 (n : Int)) = kn n from rfl, hD.at' n u hn hu] at e
    cases e
    rw [hu]; rfl
theorem Mp.look {w : World} {m nb : Nat} {ls : List Nat} {nd : Nat → Node} (h : Mp w m nb ls nd) (hnb : nb ≤ 16384) {a : Nat} (ha : a ∈ ls) (hn : (nd a).n < nb) :
    (Instr.lookup 74 (.map (some m)) (.int .i64 ((nd a).n : Int)) false).run Try.prog w = .ok (ptr a) w := by
  obtain ⟨f, h, r⟩ := h
  obtain ⟨v, hrun, hv⟩ := look_int h ((nd a).n : Int) (by omega) (by omega)
  rw [hrun]
  rcases hv with ⟨n, hn2, e, rfl⟩ | ⟨h2, _⟩
  · have e2 : (nd a).n = n := by omega
    subst e2
    rw [(r _ (ptr a) hn).2 ⟨a, ha, rfl, rfl⟩]; rfl
  · exact absurd rfl (h2 _ hn)
theorem Mp.lookNone {w : World} {m nb : Nat} {ls : List Nat} {nd : Nat → Node} (h : Mp w m nb ls nd) (x : Int) (h0 : -9223372036854775808 ≤ x) (h1 : x < 9223372036854775808) (hno : ∀ a ∈ ls, ((nd a).n : Int) ≠ x) :
    (Instr.lookup 74 (.map (some m)) (.int .i64 x) false).run Try.prog w = .ok (.pointer none) w := by
  obtain ⟨f, h, r⟩ := h
  obtain ⟨v, hrun, hv⟩ := look_int h x h0 h1
  rw [hrun]
  rcases hv with ⟨n, hn, rfl, rfl⟩ | ⟨_, rfl⟩
  · cases hf : f n with
    | none => rfl
    | some u =>
      obtain ⟨a, ha, e, _⟩ := (r n u hn).1 hf
      exact absurd (by rw [e]) (hno a ha)
  · rfl
theorem store74 {w : World} {m nb n : Nat} {f : Nat → Option Value} (h : MapIs w m nb f) (hnb : nb ≤ 16384) (hn : n < nb) (v : Value) :
    ∃ w', (Instr.mapUpdate 74 (.map (some m)) (.int .i64 (n : Int)) v).run Try.prog w = .ok () w' ∧ MapIs w' m nb (upd f n (some v)) ∧ w.grownBy w' (some m) ∧ w'.heap.size = w.heap.size := by
  obtain ⟨c, D, ho, hD⟩ := h
  have hs := hD.size_le ho hnb
  obtain ⟨w', hrun, ho', ht⟩ := (own_size ho).store law3 Try.underlying74 (by unfold maxLen; omega) (key3 (show n < 16384 by omega)) (show hold v = some (.held v, []) from rfl)
  refine ⟨w', hrun, ⟨_, _, ho', hD.put ho hnb hn v⟩, ht.grown, ?_⟩
  obtain ⟨_, _, _, _, _, rfl⟩ := ht
  simp [ChangeMaps.setBlock]
theorem delete74 {w : World} {m nb n : Nat} {f : Nat → Option Value} (h : MapIs w m nb f) (hnb : nb ≤ 16384) (hn : n < nb) (ty : TypeId) :
    ∃ w', (Builtin.delete_ #[74, 3] ty #[.map (some m), .int .i64 (n : Int)]).run Try.prog w = .ok (.tuple #[]) w' ∧ MapIs w' m nb (upd f n none) ∧ w.grownBy w' (some m) ∧ w'.heap.size = w.heap.size := by
  obtain ⟨c, D, ho, hD⟩ := h
  obtain ⟨w', hrun, ho', ht⟩ := ho.drop law3 Try.underlying74 (key3 (show n < 16384 by omega)) ty
  refine ⟨w', hrun, ⟨_, _, ho', hD.del⟩, ht.grown, ?_⟩
  obtain ⟨_, _, _, _, _, rfl⟩ := ht
  simp [ChangeMaps.setBlock]
theorem Mp.store {w : World} {m nb : Nat} {ls : List Nat} {nd : Nat → Node} (h : Mp w m nb ls nd) (hnb : nb ≤ 16384) {a n : Nat} (hn : n < nb) (hno : ∀ b ∈ ls, (nd b).n ≠ n) (ha : (nd a).n = n) :
    ∃ w', (Instr.mapUpdate 74 (.map (some m)) (.int .i64 (n : Int)) (ptr a)).run Try.prog w = .ok () w' ∧ Mp w' m nb (ls ++ [a]) nd ∧ w.grownBy w' (some m) ∧ w'.heap.size = w.heap.size := by
  obtain ⟨f, h, r⟩ := h
  obtain ⟨w', hrun, h', hg, hs⟩ := store74 h hnb hn (ptr a)
  refine ⟨w', hrun, ⟨_, h', fun k v hk => ?_⟩, hg, hs⟩
  by_cases e : k = n
  · subst e
    rw [upd_same]
    constructor
    · intro h; cases h; exact ⟨a, by simp, ha, rfl⟩
    · rintro ⟨b, hb, e, rfl⟩
      rcases List.mem_append.1 hb with hb | hb
      · exact absurd e (hno b hb)
      · simp at hb; rw [hb]
  · rw [upd_other _ _ e, r k v hk]
    constructor
    · rintro ⟨b, hb, e, rfl⟩; exact ⟨b, List.mem_append_left _ hb, e, rfl⟩
    · rintro ⟨b, hb, e2, rfl⟩
      rcases List.mem_append.1 hb with hb | hb
      · exact ⟨b, hb, e2, rfl⟩
      · simp at hb; subst hb; exact absurd (e2.symm.trans ha) e
theorem Mp.delete {w : World} {m nb : Nat} {xs ys : List Nat} {a : Nat} {nd : Nat → Node} (h : Mp w m nb (xs ++ a :: ys) nd) (hnb : nb ≤ 16384) (hn : (nd a).n < nb) (hno : ∀ b ∈ xs ++ ys, (nd b).n ≠ (nd a).n) (ty : TypeId) :
    ∃ w', (Builtin.delete_ #[74, 3] ty #[.map (some m), .int .i64 ((nd a).n : Int)]).run Try.prog w = .ok (.tuple #[]) w' ∧ Mp w' m nb (xs ++ ys) nd ∧ w.grownBy w' (some m) ∧ w'.heap.size = w.heap.size := by
  obtain ⟨f, h, r⟩ := h
  obtain ⟨w', hrun, h', hg, hs⟩ := delete74 h hnb hn ty
  refine ⟨w', hrun, ⟨_, h', fun k v hk => ?_⟩, hg, hs⟩
  by_cases e : k = (nd a).n
  · subst e
    rw [upd_same]
    constructor
    · intro h; cases h
    · rintro ⟨b, hb, e, rfl⟩; exact absurd e (hno b hb)
  · rw [upd_other _ _ e, r k v hk]
    constructor
    · rintro ⟨b, hb, e2, rfl⟩
      refine ⟨b, ?_, e2, rfl⟩
      rcases List.mem_append.1 hb with hb | hb
      · exact List.mem_append_left _ hb
      · rcases List.mem_cons.1 hb with hb | hb
        · subst hb; exact absurd e2.symm e
        · exact List.mem_append_right _ hb
    · rintro ⟨b, hb, e2, rfl⟩
      refine ⟨b, ?_, e2, rfl⟩
      rcases List.mem_append.1 hb with hb | hb
      · exact List.mem_append_left _ hb
      · exact List.mem_append_right _ (List.mem_cons_of_mem _ hb)
end Go.Proofs.Ytioloobeakjbeaa

/-
  A map from names to pointers, as a function: what look-up, store, delete, len and a range over it do.
-/
import Derived.Test.YtlnjnimenihhnaaGreatDoorPMem
import Derived.Maps.RangeWalk
import Derived.StringKeys
namespace Go.Proofs.YtlnjnimenihhnaaGreatDoor
open Go.RowKit Go.Maps

/-- An element is read as itself. -/
def hold (v : Value) : Option (DataW Value × List MemPlace) := some (.held v, [])
theorem law9 : Keyed Tryz.prog 9 := string_keyed Tryz.underlying9
/-- A name as a key. -/
def ks (s : ByteArray) : Lit := .string s.data.toList
theorem ks_inj {a b : ByteArray} (h : ks a = ks b) : a = b := by
  obtain ⟨⟨a⟩⟩ := a
  obtain ⟨⟨b⟩⟩ := b
  simp [ks] at h
  rw [h]
theorem key9 {s : ByteArray} (h : s.size ≤ 256) : keyOf Tryz.prog 9 (.string s) = some (ks s) := WideMaps.keyOf_string_mk Tryz.underlying9 (by unfold maxLen; omega)
theorem ks_key {s : ByteArray} (h : s.size ≤ 256) : WideAt.IsKeyLit (ks s) := law9.key (key9 h)
theorem zeroN (w : World) : (zeroValue 57).run Tryz.prog w = .ok (.pointer none) w := by kernel_rfl
def updB (f : ByteArray → Option Value) (s : ByteArray) (v : Option Value) : ByteArray → Option Value := fun x => if x = s then v else f x
theorem updB_same (f : ByteArray → Option Value) (s : ByteArray) (v : Option Value) : updB f s v s = v := by simp [updB]
theorem updB_other (f : ByteArray → Option Value) {s x : ByteArray} (v : Option Value) (h : ¬ x = s) : updB f s v x = f x := by simp [updB, h]

/-- D is the map f, on short names. -/
structure SMapD (D : DataW Value) (f : ByteArray → Option Value) : Prop where
  keys : ∀ k, has D k = true → ∃ s, s.size ≤ 256 ∧ k = ks s
  has : ∀ s, s.size ≤ 256 → has D (ks s) = (f s).isSome
  at' : ∀ s v, s.size ≤ 256 → f s = some v → ∀ z, D.atKey (ks s) z = .held v

/-- Block m of w is the map f, of n names. -/
def SMap (w : World) (m n : Nat) (f : ByteArray → Option Value) : Prop := ∃ D, w.ownsMap Tryz.prog 9 hold m n D ∧ SMapD D f ∧ Maps.size D = n

theorem own_size {w : World} {m c : Nat} {D : DataW Value} (h : w.ownsMap Tryz.prog 9 hold m c D) : w.ownsMap Tryz.prog 9 hold m (Maps.size D) D := by
  obtain ⟨es, clock, hb, F, hs, rfl⟩ := h
  exact ⟨es, clock, hb, F, by simp [Maps.size, length_sorted], rfl⟩
theorem SMap.new (w : World) : SMap (w.alloc (.map #[] 0)) w.heap.size 0 (fun _ => none) :=
  ⟨.map [], World.ownsMap_made w _ _ _, ⟨fun k hk => by simp [Maps.has] at hk, fun n _ => rfl, fun n v _ h => by cases h⟩, rfl⟩
theorem SMap.lt {w : World} {m n : Nat} {f : ByteArray → Option Value} (h : SMap w m n f) : m < w.heap.size := by obtain ⟨D, ho, _⟩ := h; exact ho.lt
theorem SMap.kept {w w' : World} {m n : Nat} {f : ByteArray → Option Value} (h : SMap w m n f) (hb : w'.heap[m]? = w.heap[m]?) : SMap w' m n f := by
  obtain ⟨D, ⟨es, clock, h1, h2⟩, hD⟩ := h
  exact ⟨D, ⟨es, clock, hb.trans h1, h2⟩, hD⟩
theorem SMap.ext {w : World} {m n : Nat} {f g : ByteArray → Option Value} (h : SMap w m n f) (e : ∀ s, s.size ≤ 256 → g s = f s) : SMap w m n g := by
  obtain ⟨D, ho, hD, hs⟩ := h
  exact ⟨D, ho, ⟨hD.keys, fun s h => by rw [e s h]; exact hD.has s h, fun s v h hv z => hD.at' s v h (by rw [← e s h]; exact hv) z⟩, hs⟩
theorem SMap.look {w : World} {m n : Nat} {f : ByteArray → Option Value} (h : SMap w m n f) {s : ByteArray} (hs : s.size ≤ 256) :
    (Instr.lookup 54 (.map (some m)) (.string s) false).run Tryz.prog w = .ok ((f s).getD (.pointer none)) w := by
  obtain ⟨D, ho, hD, _⟩ := h
  obtain ⟨v, ps, hrun, hv⟩ := ho.lookup law9 Tryz.underlying54 (zeroN w) (show hold (.pointer none) = some (.held (.pointer none), []) from rfl) (key9 hs)
  rw [hrun]
  have e : DataW.held v = D.atKey (ks s) (.held (.pointer none)) := by simpa [hold] using congrArg (Option.map Prod.fst) hv
  cases hf : f s with
  | some u =>
    rw [hD.at' s u hs hf] at e
    cases e; rfl
  | none =>
    have h0 := hD.has s hs
    rw [hf] at h0
    rw [atKey_of_not_has (by simpa using h0)] at e
    cases e; rfl
theorem SMap.len {w : World} {m n : Nat} {f : ByteArray → Option Value} (h : SMap w m n f) (ty : TypeId) :
    (Builtin.len_ #[54] ty #[.map (some m)]).run Tryz.prog w = .ok (.int .i64 n) w := by
  obtain ⟨D, ho, hD, rfl⟩ := h
  exact ho.len Tryz.underlying54 ty
theorem SMapD.put {w : World} {m c : Nat} {s : ByteArray} {D : DataW Value} {f : ByteArray → Option Value} (h : SMapD D f) (ho : w.ownsMap Tryz.prog 9 hold m c D) (hn : s.size ≤ 256) (v : Value) : SMapD (D.put (ks s) (.held v)) (updB f s (some v)) := by
  have hk := ks_key hn
  refine ⟨fun k hh => ?_, fun j hj => ?_, fun j u hj hu z => ?_⟩
  · by_cases e : k = ks s
    · exact ⟨s, hn, e⟩
    · rw [has_put_other e] at hh; exact h.keys k hh
  · by_cases e : j = s
    · subst e; rw [has_put_same ho.isMap hk, updB_same]; rfl
    · rw [has_put_other (fun he => e (ks_inj he)), updB_other _ _ e]; exact h.has j hj
  · by_cases e : j = s
    · subst e; rw [updB_same] at hu; cases hu; exact atKey_put_same ho.isMap hk _ _
    · rw [updB_other _ _ e] at hu
      rw [atKey_put_other (fun he => e (ks_inj he))]; exact h.at' j u hj hu z
theorem SMapD.del {s : ByteArray} {D : DataW Value} {f : ByteArray → Option Value} (h : SMapD D f) : SMapD (D.del (ks s)) (updB f s none) := by
  refine ⟨fun k hh => ?_, fun j hj => ?_, fun j u hj hu z => ?_⟩
  · by_cases e : k = ks s
    · rw [e, has_del_same] at hh; cases hh
    · rw [has_del_other e] at hh; exact h.keys k hh
  · by_cases e : j = s
    · subst e; rw [has_del_same, updB_same]; rfl
    · rw [has_del_other (fun he => e (ks_inj he)), updB_other _ _ e]; exact h.has j hj
  · by_cases e : j = s
    · subst e; rw [updB_same] at hu; cases hu
    · rw [updB_other _ _ e] at hu
      rw [atKey_del_other (fun he => e (ks_inj he))]; exact h.at' j u hj hu z
theorem SMap.store {w : World} {m n : Nat} {f : ByteArray → Option Value} (h : SMap w m n f) {s : ByteArray} (hs : s.size ≤ 256) (hn : n ≤ 1000000) (v : Value) :
    ∃ w', (Instr.mapUpdate 54 (.map (some m)) (.string s) v).run Tryz.prog w = .ok () w' ∧ SMap w' m (if (f s).isSome = true then n else n + 1) (updB f s (some v)) ∧ w.grownBy w' (some m) ∧ w'.heap.size = w.heap.size := by
  obtain ⟨D, ho, hD, hz⟩ := h
  obtain ⟨w', hrun, ho', ht⟩ := (own_size ho).store law9 Tryz.underlying54 (by unfold maxLen; omega) (key9 hs) (show hold v = some (.held v, []) from rfl)
  have hsz := size_put (k := ks s) (ho.tidy law9) (DataW.held v)
  rw [hD.has s hs, hz] at hsz
  refine ⟨w', hrun, ⟨_, by have := own_size ho'; rwa [hsz] at this, hD.put ho hs v, hsz⟩, ht.grown, ?_⟩
  obtain ⟨_, _, _, _, _, rfl⟩ := ht
  simp [ChangeMaps.setBlock]
theorem SMap.delete {w : World} {m n : Nat} {f : ByteArray → Option Value} (h : SMap w m n f) {s : ByteArray} (hs : s.size ≤ 256) (ty : TypeId) :
    ∃ w', (Builtin.delete_ #[54, 9] ty #[.map (some m), .string s]).run Tryz.prog w = .ok (.tuple #[]) w' ∧ SMap w' m (n - if (f s).isSome = true then 1 else 0) (updB f s none) ∧ w.grownBy w' (some m) ∧ w'.heap.size = w.heap.size := by
  obtain ⟨D, ho, hD, hz⟩ := h
  obtain ⟨w', hrun, ho', ht⟩ := ho.drop law9 Tryz.underlying54 (key9 hs) ty
  have hsz := size_del (k := ks s) (ho.tidy law9)
  rw [hD.has s hs, hz] at hsz
  have hsz' : Maps.size (D.del (ks s)) = n - if (f s).isSome = true then 1 else 0 := by omega
  refine ⟨w', hrun, ⟨_, by have := own_size ho'; rwa [hsz'] at this, hD.del, hsz'⟩, ht.grown, ?_⟩
  obtain ⟨_, _, _, _, _, rfl⟩ := ht
  simp [ChangeMaps.setBlock]
end Go.Proofs.YtlnjnimenihhnaaGreatDoor

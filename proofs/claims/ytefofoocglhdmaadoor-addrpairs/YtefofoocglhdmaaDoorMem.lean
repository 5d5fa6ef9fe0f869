/-
  Words for memory that a call makes and changes, and the laws of append over bytes that the contracts of package block lean on; nothing of the program is in it.
-/
import Derived.WalkKit
import Derived.Maps.AppendAt
import Derived.Laws.AppendOwnNone
import Derived.Lib.AppendZerosOnto
import Derived.KernelRfl
import Derived.Deep.Draws
namespace Go.Proofs.YtefofoocglhdmaaDoor
open Go.RowKit

/-- w' is w with new blocks, and with changes in blocks of S alone. -/
structure Chg (S : Nat → Prop) (w w' : World) : Prop where
  os : w'.os = w.os
  tape : w'.tape = w.tape
  output : w'.output = w.output
  size : w.heap.size ≤ w'.heap.size
  block : ∀ k, k < w.heap.size → ¬ S k → w'.heap[k]? = w.heap[k]?

theorem Chg.refl (S : Nat → Prop) (w : World) : Chg S w w := ⟨rfl, rfl, rfl, Nat.le_refl _, fun _ _ _ => rfl⟩
theorem Chg.trans {S S' : Nat → Prop} {a b c : World} (h : Chg S a b) (k : Chg S' b c) (hs : ∀ i, i < a.heap.size → S' i → S i) : Chg S a c :=
  ⟨k.os.trans h.os, k.tape.trans h.tape, k.output.trans h.output, Nat.le_trans h.size k.size,
    fun i hi hn => (k.block i (Nat.lt_of_lt_of_le hi h.size) (fun e => hn (hs i hi e))).trans (h.block i hi hn)⟩
theorem Chg.mono {S S' : Nat → Prop} {a b : World} (h : Chg S a b) (hs : ∀ i, i < a.heap.size → S i → S' i) : Chg S' a b :=
  ⟨h.os, h.tape, h.output, h.size, fun i hi hn => h.block i hi (fun e => hn (hs i hi e))⟩
theorem Chg.drew (S : Nat → Prop) (w : World) : Chg S w w.drew := ⟨rfl, rfl, rfl, Nat.le_refl _, fun _ _ _ => rfl⟩
theorem Chg.drewN (S : Nat → Prop) (w : World) (n : Nat) : Chg S w (w.drewN n) := ⟨rfl, rfl, rfl, Nat.le_refl _, fun _ _ _ => rfl⟩
theorem Chg.alloc (S : Nat → Prop) (w : World) (o : Obj) : Chg S w (w.alloc o) := ⟨rfl, rfl, rfl, by simp, fun k hk _ => Below.heap_alloc w o k hk⟩
theorem Chg.setCell {S : Nat → Prop} (w : World) (a : Addr) (v : Value) (h : S a.block) : Chg S w (w.setCell a v) :=
  ⟨rfl, rfl, rfl, by simp, fun k _ hn => Below.heap_setCell w a v k (fun e => hn (e ▸ h))⟩
theorem Chg.ofGrown {w w' : World} {row : Option Nat} (h : w.grownBy w' row) : Chg (fun k => row = some k) w w' :=
  ⟨h.os, h.tape, h.output, h.size, fun k hk hn => h.block k hk (fun e => hn e.symm)⟩
theorem Chg.below {S : Nat → Prop} {w w' : World} {N : Nat} (h : Chg S w w') (hN : N ≤ w.heap.size) (hS : ∀ k, S k → N ≤ k) : Below N w w' :=
  ⟨h.os, h.tape, h.output, h.size, fun k hk => h.block k (by omega) (fun e => by have := hS k e; omega)⟩
theorem Chg.cell {S : Nat → Prop} {w w' : World} (h : Chg S w w') {p : Addr} {v : Value} (hc : w.cell? p = some v) (hn : ¬ S p.block) : w'.cell? p = some v :=
  (World.cell?_of_block (h.block p.block (World.block_lt_of_cell? w p hc) hn)).trans hc

/-- Bytes as cells. -/
def bcells (xs : List Int) : List Value := xs.map (Value.int .u8)

/-- v is a slice of bytes that reads xs. -/
def Bs (w : World) (v : Value) (xs : List Int) : Prop :=
  (v = .slice none 0 0 ∧ xs = []) ∨
  ∃ a c, v = .slice (some a) xs.length c ∧ xs.length ≤ c ∧ c ≤ maxLen ∧ ∀ j, j < xs.length → w.cell? (a.add j) = some (.int .u8 (xs.getD j 0))

theorem bcells_get {xs : List Int} {j : Nat} {u : Value} (h : (bcells xs)[j]? = some u) : j < xs.length ∧ u = .int .u8 (xs.getD j 0) := by
  unfold bcells at h
  have hj : j < xs.length := by simpa using (List.getElem?_eq_some_iff.1 h).1
  refine ⟨hj, ?_⟩
  simp [hj] at h
  simp [List.getD, hj, ← h]

theorem bcells_one (xs : List Int) : ∀ u ∈ bcells xs, u.oneCell' = true := by
  intro u hu
  obtain ⟨x, _, rfl⟩ := List.mem_map.1 hu
  rfl

theorem Bs.kept {S : Nat → Prop} {w w' : World} {v : Value} {xs : List Int} (h : Bs w v xs) (hc : Chg S w w') (hn : ∀ a n c, v = .slice (some a) n c → 0 < n → ¬ S a.block) : Bs w' v xs := by
  rcases h with h | ⟨a, c, rfl, hl, hm, hcell⟩
  · exact .inl h
  · refine .inr ⟨a, c, rfl, hl, hm, fun j hj => ?_⟩
    refine hc.cell (hcell j hj) ?_
    have := hn a xs.length c rfl (by omega)
    have e : (a.add j).block = a.block := by unfold Addr.add; split <;> rfl
    rw [e]; exact this

/-- What is owned reads. -/
theorem Bs.ofOwns {w : World} {N : Nat} {v : Value} {n : Nat} {xs : List Int} (h : w.ownsRow N 5 1 v n (bcells xs)) : Bs w v xs := by
  have hn : xs.length = n := by have := h.1; simpa [bcells] using this
  subst hn
  rcases h.2 with ⟨rfl, h0⟩ | ⟨g, cap, cur, rfl, hb, hg, hnc, hcm, hcs, htake⟩
  · exact .inl ⟨rfl, List.eq_nil_of_length_eq_zero h0⟩
  · refine .inr ⟨⟨g, 0, none⟩, cap, rfl, hnc, hcm, fun j hj => ?_⟩
    refine h.cells (g := g) rfl j _ ?_
    simp [bcells, List.getD, hj]

/-- append of what reads 'news' onto what is owned, whatever both are. -/
theorem run_app {P : Program} (w : World) (N : Nat) (t ty : TypeId) (i : TypeInfo) (ht : P.underlying t = some (.slice 5)) (hi : P.info? 5 = some i) (hz : i.zero = some (.int .u8 0)) (hs : i.size = 1) (hb : i.bytes = 1)
    (v x : Value) (n : Nat) (xs news : List Int) (hown : w.ownsRow N 5 1 v n (bcells xs)) (hx : Bs w x news) (hlen : xs.length + news.length ≤ 1099511627776) (hN : N ≤ w.heap.size) :
    ∃ v' w', (Builtin.append_ #[t, t] ty #[v, x]).run P w = .ok v' w' ∧ w'.ownsRow N 5 1 v' (n + news.length) (bcells (xs ++ news)) ∧ w.grownBy w' v.ownBlock ∧ (v'.ownBlock = v.ownBlock ∨ v'.ownBlock = some w.heap.size) := by
  have hn : xs.length = n := by have := hown.1; simpa [bcells] using this
  subst hn
  have e : bcells (xs ++ news) = bcells xs ++ bcells news := by simp [bcells]
  rw [e]
  rcases hx with ⟨rfl, rfl⟩ | ⟨a, c, rfl, _, _, hcell⟩
  · refine ⟨v, w, run_append_owned_none w N t ty 5 i 1 ht hi v _ _ hown, by simpa [bcells] using hown, ⟨rfl, rfl, rfl, Nat.le_refl _, fun _ _ _ => rfl⟩, .inl rfl⟩
  · obtain ⟨v', w', h1, h2, h3, _, h5⟩ := run_append_own_at (P := P) w N t ty 5 i (.int .u8 0) 1 1 ht hi hz hs hb rfl (by decide) v xs.length (bcells xs) hown a news.length c (bcells news) (by simp [bcells])
      (fun j u hu => by obtain ⟨hj, rfl⟩ := bcells_get hu; exact hcell j hj) (bcells_one news) (by unfold maxLen; omega) (by omega) hN
    exact ⟨v', w', h1, h2, h3, h5⟩

/-- The same at the operation, for the walk. -/
theorem wpList_app {P : Program} {w : World} {ops : Array Oper} {rest : List Oper} {o : Oper} {a : Act} {Q : Exit → Act → World → Prop} (hgd : o.guard = none) (s x : Operand) (t : TypeId)
    (ho : o.op = .call { callee := .builtin .append, args := #[s, x], argTypes := #[t, t] }) (N : Nat) (i : TypeInfo) (ht : P.underlying t = some (.slice 5)) (hi : P.info? 5 = some i) (hz : i.zero = some (.int .u8 0)) (hs : i.size = 1) (hb : i.bytes = 1)
    (v vx : Value) (n : Nat) (xs news : List Int) (hv : a.eval s = v) (hown : w.ownsRow N 5 1 v n (bcells xs)) (hvx : a.eval x = vx) (hx : Bs w vx news) (hlen : xs.length + news.length ≤ 1099511627776) (hN : N ≤ w.heap.size)
    (h : ∀ v' w', w'.ownsRow N 5 1 v' (n + news.length) (bcells (xs ++ news)) → w.grownBy w' v.ownBlock → (v'.ownBlock = v.ownBlock ∨ v'.ownBlock = some w.heap.size) → wpList P ops Q rest (a.put o.dst v') w') : wpList P ops Q (o :: rest) a w := by
  obtain ⟨v', w', hr, h1, h2, h3⟩ := run_app (P := P) w N t o.type i ht hi hz hs hb v vx n xs news hown hx hlen hN
  exact Lib.wpList_append_run w hgd s x t t ho v vx hv hvx v' w' hr (h v' w' h1 h2 h3)

/-- A one-byte slice literal reads its byte. -/
theorem Bs.one (w : World) (x : Int) : Bs (w.alloc (.cells #[.int .u8 x] 5)) (.slice (some ⟨w.heap.size, 0, none⟩) 1 1) [x] := by
  refine .inr ⟨⟨w.heap.size, 0, none⟩, 1, rfl, Nat.le_refl _, by simp [maxLen], fun j hj => ?_⟩
  have : j = 0 := by simp at hj; omega
  subst this
  exact cell_one_new w (.int .u8 x) 5 0 _ rfl

theorem zeroCells_eq (k : Nat) : Builtin.zeroCells (Value.int .u8 0).cells k = (bcells (List.replicate k 0)).toArray := by
  apply Array.ext
  · simp [Builtin.zeroCells, Value.cells, bcells]
  · intro i h1 h2
    simp [Builtin.zeroCells, Value.cells, bcells, Nat.mod_one]

/-- append(v, make([]byte, k)...) onto what is owned. -/
theorem run_app_zeros {P : Program} (w : World) (N : Nat) (t tn ty : TypeId) (i : TypeInfo) (kn : IntKind) (ht : P.underlying t = some (.slice 5)) (htn : P.underlying tn = some (.int kn)) (hi : P.info? 5 = some i) (hz : i.zero = some (.int .u8 0)) (hs : i.size = 1) (hb : i.bytes = 1)
    (v : Value) (n k : Nat) (xs : List Int) (hown : w.ownsRow N 5 1 v n (bcells xs)) (hlen : xs.length + k ≤ 1099511627776) (hN : N ≤ w.heap.size) :
    ∃ v' w', (Builtin.append_ #[t, tn] ty #[v, .int .i64 k]).run P w = .ok v' w' ∧ w'.ownsRow N 5 1 v' (n + k) (bcells (xs ++ List.replicate k 0)) ∧ w.grownBy w' v.ownBlock ∧ (v'.ownBlock = v.ownBlock ∨ v'.ownBlock = some w.heap.size) := by
  have hn : xs.length = n := by have := hown.1; simpa [bcells] using this
  subst hn
  have hbl : (bcells (xs ++ List.replicate k 0)).length = xs.length + k := by simp [bcells]
  have e : bcells (xs ++ List.replicate k 0) = bcells xs ++ bcells (List.replicate k 0) := by simp [bcells]
  have hw : IntKind.i64.wrap (k : Int) = k := by rw [IntKind.wrap_i64]; omega
  have h48i : ¬ (281474976710656 < (k : Int)) := by omega
  have hneg : ¬ ((k : Int) < 0) := by omega
  -- what the growing arm leaves
  have grown : ∀ (old : Nat) (row : Option Nat),
      (w.drew.alloc (.cells ((bcells xs).toArray ++ Builtin.zeroCells (Value.int .u8 0).cells k ++ Builtin.zeroCells (Value.int .u8 0).cells (grownCap w (xs.length + k) old 5 - (xs.length + k))) 5)).ownsRow N 5 1
        (.slice (some ⟨w.heap.size, 0, none⟩) (xs.length + k) (grownCap w (xs.length + k) old 5)) (xs.length + k) (bcells (xs ++ List.replicate k 0)) ∧
      w.grownBy (w.drew.alloc (.cells ((bcells xs).toArray ++ Builtin.zeroCells (Value.int .u8 0).cells k ++ Builtin.zeroCells (Value.int .u8 0).cells (grownCap w (xs.length + k) old 5 - (xs.length + k))) 5)) row := by
    intro old row
    have hge := grownCap_ge w (xs.length + k) old 5
    have hcm : grownCap w (xs.length + k) old 5 ≤ maxLen := grownCap_le_maxLen w (xs.length + k) old 5 (by unfold maxLen; omega)
    refine ⟨⟨by rw [hbl]; omega, .inr ⟨w.heap.size, _, _, rfl, hN, heap_alloc_new w.drew _, hge, hcm, ?_, ?_⟩⟩, ⟨rfl, rfl, rfl, by simp, fun j hj _ => Below.heap_alloc w.drew _ j hj⟩⟩
    · rw [zeroCells_eq, zeroCells_eq]
      simp [bcells]
      omega
    · rw [zeroCells_eq, zeroCells_eq, e]
      have hl2 : (xs.length + k) * 1 = (bcells xs ++ bcells (List.replicate k 0)).length := by simp [bcells]
      rw [hl2]
      simp only [Array.toList_append]
      exact List.take_left
  by_cases hk : k = 0
  · subst hk
    refine ⟨v, w, ?_, by simpa using hown, ⟨rfl, rfl, rfl, Nat.le_refl _, fun _ _ _ => rfl⟩, .inl rfl⟩
    have hw0 : IntKind.i64.wrap 0 = 0 := by decide
    rcases hown.2 with ⟨rfl, _⟩ | ⟨g, cap, cur, rfl, _, _, hnc, _⟩
    · simp [hw0, Builtin.append_, run_underlying ht, run_underlying htn, sizeOf, typeInfo, hi, asInt, asIntOf]
    · simp [hw0, Builtin.append_, run_underlying ht, run_underlying htn, sizeOf, typeInfo, hi, asInt, asIntOf, hnc, storeCells]
  · rcases hown.2 with ⟨rfl, h0⟩ | ⟨g, cap, cur, rfl, hbg, hg, hnc, hcm, hcs, htake⟩
    · have hx : xs = [] := List.eq_nil_of_length_eq_zero h0
      subst hx
      have hr := Lib.run_append_nil_zeros (P := P) w t tn ty 5 i (.int .u8 0) .i64 kn ht htn hi hz k (by omega) (by omega) (by omega) (by rw [hb]; simp at hlen; omega)
      have hgr := grown 0 none
      simp only [List.length_nil, Nat.zero_add, List.nil_append] at hgr ⊢
      refine ⟨_, _, hr, by simpa [bcells] using hgr.1, by simpa [bcells, Value.ownBlock] using hgr.2, .inr rfl⟩
    · by_cases hroom : xs.length + k ≤ cap
      · have hfit : xs.length * 1 + (bcells (List.replicate k 0)).length ≤ cur.size := by simp [bcells]; omega
        have hst := run_storeCells_at P g (xs.length * i.size) 5 (bcells (List.replicate k 0)) 0 cur w hg (by simpa [hs] using hfit) (bcells_one _)
        simp only [Nat.add_zero, hs, Nat.mul_one] at hst
        have hr : (Builtin.append_ #[t, tn] ty #[.slice (some ⟨g, 0, none⟩) xs.length cap, .int .i64 k]).run P w = .ok (.slice (some ⟨g, 0, none⟩) (xs.length + k) cap) (w.setRow g (cur.toList.take xs.length ++ bcells (List.replicate k 0) ++ cur.toList.drop (xs.length + (bcells (List.replicate k 0)).length)).toArray) := by
          have hz' := zeroCells_eq k
          simp [Builtin.append_, run_underlying ht, run_underlying htn, sizeOf, typeInfo, zeroValue, hi, hz, hs, hb, asInt, asIntOf, hw, hneg, h48i, hk, hroom, Addr.add_lit, hz', hst]
        refine ⟨_, _, hr, ⟨by rw [hbl]; omega, .inr ⟨g, cap, _, rfl, hbg, setRow_heap w g cur _ 5 _ hg, hroom, hcm, ?_, ?_⟩⟩, ⟨rfl, rfl, rfl, by simp, fun j _ hj => setRow_other w g j _ (fun e => hj (by simp [Value.ownBlock, e]))⟩, .inl rfl⟩
        · simp [bcells] at hfit ⊢
          omega
        · have ht2 : cur.toList.take xs.length = bcells xs := by simpa using htake
          rw [ht2, e]
          have hl2 : (xs.length + k) * 1 = (bcells xs ++ bcells (List.replicate k 0)).length := by simp [bcells]
          rw [hl2]
          exact List.take_left
      · have hfo := run_firstCells_some (P := P) w.drew i.size xs.length ⟨g, 0, none⟩ xs.length cap (bcells xs) (by simp [bcells, hs]) (by intro j u hu; simpa using hown.cells (g := g) rfl j u hu)
        have hr := Lib.run_append_grow_zeros (P := P) w t tn ty 5 i (.int .u8 0) .i64 kn ht htn hi hz (some ⟨g, 0, none⟩) xs.length cap (bcells xs) hfo k (by omega) (by omega) (by omega) (by omega) (by rw [hb]; omega)
          (growslice_fits (by omega) (by rw [hb]; omega))
        have hgr := grown cap (Value.ownBlock (.slice (some ⟨g, 0, none⟩) xs.length cap))
        exact ⟨_, _, hr, hgr.1, hgr.2, .inr rfl⟩

theorem wpList_app_zeros {P : Program} {w : World} {ops : Array Oper} {rest : List Oper} {o : Oper} {a : Act} {Q : Exit → Act → World → Prop} (hgd : o.guard = none) (s x : Operand) (t tn : TypeId)
    (ho : o.op = .call { callee := .builtin .append, args := #[s, x], argTypes := #[t, tn] }) (N : Nat) (i : TypeInfo) (kn : IntKind) (ht : P.underlying t = some (.slice 5)) (htn : P.underlying tn = some (.int kn)) (hi : P.info? 5 = some i) (hz : i.zero = some (.int .u8 0)) (hs : i.size = 1) (hb : i.bytes = 1)
    (v : Value) (n k : Nat) (xs : List Int) (hv : a.eval s = v) (hown : w.ownsRow N 5 1 v n (bcells xs)) (z : Int) (hvx : a.eval x = .int .i64 z) (hzk : z = (k : Int)) (hlen : xs.length + k ≤ 1099511627776) (hN : N ≤ w.heap.size)
    (h : ∀ v' w', w'.ownsRow N 5 1 v' (n + k) (bcells (xs ++ List.replicate k 0)) → w.grownBy w' v.ownBlock → (v'.ownBlock = v.ownBlock ∨ v'.ownBlock = some w.heap.size) → wpList P ops Q rest (a.put o.dst v') w') : wpList P ops Q (o :: rest) a w := by
  subst hzk
  obtain ⟨v', w', hr, h1, h2, h3⟩ := run_app_zeros (P := P) w N t tn o.type i kn ht htn hi hz hs hb v n k xs hown hlen hN
  exact Lib.wpList_append_run w hgd s x t tn ho v _ hv hvx v' w' hr (h v' w' h1 h2 h3)

/-- The same as one step of a region that draws its order. -/
theorem step_app {P : Program} {w : World} {ops : Array Oper} {o : Oper} {a : Act} {K : Act → World → Prop} {Q : Exit → Act → World → Prop} {E : Prop} (hgd : o.guard = none) (s x : Operand) (t : TypeId)
    (ho : o.op = .call { callee := .builtin .append, args := #[s, x], argTypes := #[t, t] }) (N : Nat) (i : TypeInfo) (ht : P.underlying t = some (.slice 5)) (hi : P.info? 5 = some i) (hz : i.zero = some (.int .u8 0)) (hs : i.size = 1) (hb : i.bytes = 1)
    (v vx : Value) (n : Nat) (xs news : List Int) (hv : a.eval s = v) (hown : w.ownsRow N 5 1 v n (bcells xs)) (hvx : a.eval x = vx) (hx : Bs w vx news) (hlen : xs.length + news.length ≤ 1099511627776) (hN : N ≤ w.heap.size)
    (h : ∀ v' w', w'.ownsRow N 5 1 v' (n + news.length) (bcells (xs ++ news)) → w.grownBy w' v.ownBlock → (v'.ownBlock = v.ownBlock ∨ v'.ownBlock = some w.heap.size) → K (a.put o.dst v') w') :
    if Region.wanted o (yielded ops a.tmps) = true then Oper.wp P o a w K Q else E := by
  have hw : Region.wanted o (yielded ops a.tmps) = true := by simp [Region.wanted, hgd]
  rw [if_pos hw]
  obtain ⟨v', w', hr, h1, h2, h3⟩ := run_app (P := P) w N t o.type i ht hi hz hs hb v vx n xs news hown hx hlen hN
  exact Lib.wp_append_run w s x t t ho v vx hv hvx v' w' hr (h v' w' h1 h2 h3)

end Go.Proofs.YtefofoocglhdmaaDoor

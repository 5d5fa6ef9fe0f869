/-
  Words for memory that a call makes and changes, and the laws of append over bytes that the contracts of package block lean on; nothing of the program is in it.
-/
import Derived.WalkKit
import Derived.Maps.AppendAt
import Derived.Laws.AppendOwnNone
import Derived.Lib.AppendZerosOnto
import Derived.KernelRfl
import Derived.Deep.Draws
namespace Go.Proofs.YthohgljlcfbpjaaGreat
open Go.RowKit

/-- w' is w with new blocks, and with changes in blocks of S alone. -/
structure Chg (S : Nat → Prop) (w w' : World) : Prop where
  os : w'.os = w.os
  tape : w'.tape = w.tape
  output : w'.output = w.output
  size : w.heap.size ≤ w'.heap.size
  block : ∀ k, k < w.heap.size → ¬ S k → w'.heap[k]? = w.heap[k]?

theorem Chg.refl (S : Nat → Prop) (w : World) : Chg S w w := ⟨rfl, rfl, rfl, Nat.le_refl _, fun _ _ _ => rfl⟩
theorem Chg.trans {S S' : Nat → Prop} {a b c : World} (h : Chg S a b) (k : Chg S' b c) (hs : ∀ i, i < a.heap.size → S' i → S i) : Chg S a c :=
  ⟨k.os.trans h.os, k.tape.trans h.tape, k.output.trans h.output, Nat.le_trans h.size k.size,
    fun i hi hn => (k.block i (Nat.lt_of_lt_of_le hi h.size) (fun e => hn (hs i hi e))).trans (h.block i hi hn)⟩
theorem Chg.mono {S S' : Nat → Prop} {a b : World} (h : Chg S a b) (hs : ∀ i, i < a.heap.size → S i → S' i) : Chg S' a b :=
  ⟨h.os, h.tape, h.output, h.size, fun i hi hn => h.block i hi (fun e => hn (hs i hi e))⟩
theorem Chg.drew (S : Nat → Prop) (w : World) : Chg S w w.drew := ⟨rfl, rfl, rfl, Nat.le_refl _, fun _ _ _ => rfl⟩
theorem Chg.drewN (S : Nat → Prop) (w : World) (n : Nat) : Chg S w (w.drewN n) := ⟨rfl, rfl, rfl, Nat.le_refl _, fun _ _ _ => rfl⟩
theorem Chg.alloc (S : Nat → Prop) (w : World) (o : Obj) : Chg S w (w.alloc o) := ⟨rfl, rfl, rfl, by simp, fun k hk _ => Below.heap_alloc w o k hk⟩
theorem Chg.setCell {S : Nat → Prop} (w : World) (a : Addr) (v : Value) (h : S a.block) : Chg S w (w.setCell a v) :=
  ⟨rfl, rfl, rfl, by simp, fun k _ hn => Below.heap_setCell w a v k (fun e => hn (e ▸ h))⟩
theorem Chg.ofGrown {w w' : World} {row : Option Nat} (h : w.grownBy w' row) : Chg (fun k => row = some k) w w' :=
  ⟨h.os, h.tape, h.output, h.size, fun k hk hn => h.block k hk (fun e => hn e.symm)⟩
theorem Chg.below {S : Nat → Prop} {w w' : World} {N : Nat} (h : Chg S w w') (hN : N ≤ w.heap.size) (hS : ∀ k, S k → N ≤ k) : Below N w w' :=
  ⟨h.os, h.tape, h.output, h.size, fun k hk => h.block k (by omega) (fun e => by have := hS k e; omega)⟩
theorem Chg.cell {S : Nat → Prop} {w w' : World} (h : Chg S w w') {p : Addr} {v : Value} (hc : w.cell? p = some v) (hn : ¬ S p.block) : w'.cell? p = some v :=
  (World.cell?_of_block (h.block p.block (World.block_lt_of_cell? w p hc) hn)).trans hc

/-- Bytes as cells. -/
def bcells (xs : List Int) : List Value := xs.map (Value.int .u8)

/-- v is a slice of bytes that reads xs. -/
def Bs (w : World) (v : Value) (xs : List Int) : Prop :=
  (v = .slice none 0 0 ∧ xs = []) ∨
  ∃ a c, v = .slice (some a) xs.length c ∧ xs.length ≤ c ∧ c ≤ maxLen ∧ ∀ j, j < xs.length → w.cell? (a.add j) = some (.int .u8 (xs.getD j 0))

theorem bcells_get {xs : List Int} {j : Nat} {u : Value} (h : (bcells xs)[j]? = some u) : j < xs.length ∧ u = .int .u8 (xs.getD j 0) := by
  unfold bcells at h
  have hj : j < xs.length := by simpa using (List.getElem?_eq_some_iff.1 h).1
  refine ⟨hj, ?_⟩
  simp [hj] at h
  simp [List.getD, hj, ← h]

theorem bcells_one (xs : List Int) : ∀ u ∈ bcells xs, u.oneCell' = true := by
  intro u hu
  obtain ⟨x, _, rfl⟩ := List.mem_map.1 hu
  rfl

theorem Bs.kept {S : Nat → Prop} {w w' : World} {v : Value} {xs : List Int} (h : Bs w v xs) (hc : Chg S w w') (hn : ∀ a n c, v = .slice (some a) n c → 0 < n → ¬ S a.block) : Bs w' v xs := by
  rcases h with h | ⟨a, c, rfl, hl, hm, hcell⟩
  · exact .inl h
  · refine .inr ⟨a, c, rfl, hl, hm, fun j hj => ?_⟩
    refine hc.cell (hcell j hj) ?_
    have := hn a xs.length c rfl (by omega)
    have e : (a.add j).block = a.block := by unfold Addr.add; split <;> rfl
    rw [e]; exact this

/-- What is owned reads. -/
theorem Bs.ofOwns {w : World} {N : Nat} {v : Value} {n : Nat} {xs : List Int} (h : w.ownsRow N 5 1 v n (bcells xs)) : Bs w v xs := by
  have hn : xs.length = n := by have := h.1; simpa [bcells] using this
  subst hn
  rcases h.2 with ⟨rfl, h0⟩ | ⟨g, cap, cur, rfl, hb, hg, hnc, hcm, hcs, htake⟩
  · exact .inl ⟨rfl, List.eq_nil_of_length_eq_zero h0⟩
  · refine .inr ⟨⟨g, 0, none⟩, cap, rfl, hnc, hcm, fun j hj => ?_⟩
    refine h.cells (g := g) rfl j _ ?_
    simp [bcells, List.getD, hj]

/-- append of what reads 'news' onto what is owned, whatever both are. -/
theorem run_app {P : Program} (w : World) (N : Nat) (t ty : TypeId) (i : TypeInfo) (ht : P.underlying t = some (.slice 5)) (hi : P.info? 5 = some i) (hz : i.zero = some (.int .u8 0)) (hs : i.size = 1) (hb : i.bytes = 1)
    (v x : Value) (n : Nat) (xs news : List Int) (hown : w.ownsRow N 5 1 v n (bcells xs)) (hx : Bs w x news) (hlen : xs.length + news.length ≤ 1099511627776) (hN : N ≤ w.heap.size) :
    ∃ v' w', (Builtin.append_ #[t, t] ty #[v, x]).run P w = .ok v' w' ∧ w'.ownsRow N 5 1 v' (n + news.length) (bcells (xs ++ news)) ∧ w.grownBy w' v.ownBlock ∧ (v'.ownBlock = v.ownBlock ∨ v'.ownBlock = some w.heap.size) := by
  have hn : xs.length = n := by have := hown.1; simpa [bcells] using this
  subst hn
  have e : bcells (xs ++ news) = bcells xs ++ bcells news := by simp [bcells]
  rw [e]
  rcases hx with ⟨rfl, rfl⟩ | ⟨a, c, rfl, _, _, hcell⟩
  · refine ⟨v, w, run_append_owned_none w N t ty 5 i 1 ht hi v _ _ hown, by simpa [bcells] using hown, ⟨rfl, rfl, rfl, Nat.le_refl _, fun _ _ _ => rfl⟩, .inl rfl⟩
  · obtain ⟨v', w', h1, h2, h3, _, h5⟩ := run_append_own_at (P := P) w N t ty 5 i (.int .u8 0) 1 1 ht hi hz hs hb rfl (by decide) v xs.length (bcells xs) hown a news.length c (bcells news) (by simp [bcells])
      (fun j u hu => by obtain ⟨hj, rfl⟩ := bcells_get hu; exact hcell j hj) (bcells_one news) (by unfold maxLen; omega) (by omega) hN
    exact ⟨v', w', h1, h2, h3, h5⟩

/-- The same at the operation, for the walk. -/
theorem wpList_app {P : Program} {w : World} {ops : Array Oper} {rest : List Oper} {o : Oper} {a : Act} {Q : Exit → Act → World → Prop} (hgd : o.guard = none) (s x : Operand) (t : TypeId)
    (ho : o.op = .call { callee := .builtin .append, args := #[s, x], argTypes := #[t, t] }) (N : Nat) (i : TypeInfo) (ht : P.underlying t = some (.slice 5)) (hi : P.info? 5 = some i) (hz : i.zero = some (.int .u8 0)) (hs : i.size = 1) (hb : i.bytes = 1)
    (v vx : Value) (n : Nat) (xs news : List Int) (hv : a.eval s = v) (hown : w.ownsRow N 5 1 v n (bcells xs)) (hvx : a.eval x = vx) (hx : Bs w vx news) (hlen : xs.length + news.length ≤ 1099511627776) (hN : N ≤ w.heap.size)
    (h : ∀ v' w', w'.ownsRow N 5 1 v' (n + news.length) (bcells (xs ++ news)) → w.grownBy w' v.ownBlock → (v'.ownBlock = v.ownBlock ∨ v'.ownBlock = some w.heap.size) → wpList P ops Q rest (a.put o.dst v') w') : wpList P ops Q (o :: rest) a w := by
  obtain ⟨v', w', hr, h1, h2, h3⟩ := run_app (P := P) w N t o.type i ht hi hz hs hb v vx n xs news hown hx hlen hN
  exact Lib.wpList_append_run w hgd s x t t ho v vx hv hvx v' w' hr (h v' w' h1 h2 h3)

/-- A one-byte slice literal reads its byte. -/
theorem Bs.one (w : World) (x : Int) : Bs (w.alloc (.cells #[.int .u8 x] 5)) (.slice (some ⟨w.heap.size, 0, none⟩) 1 1) [x] := by
  refine .inr ⟨⟨w.heap.size, 0, none⟩, 1, rfl, Nat.le_refl _, by simp [maxLen], fun j hj => ?_⟩
  have : j = 0 := by simp at hj; omega
  subst this
  exact cell_one_new w (.int .u8 x) 5 0 _ rfl

theorem zeroCells_eq (k : Nat) : Builtin.zeroCells (Value.int .u8 0).cells k = (bcells (List.replicate k 0)).toArray := by
  apply Array.ext
  · simp [Builtin.zeroCells, Value.cells, bcells]
  · intro i h1 h2
    simp [Builtin.zeroCells, Value.cells, bcells, Nat.mod_one]

/-- append(v, make([]byte, k)...) onto what is owned. -/
theorem run_app_zeros {P : Program} (w : World) (N : Nat) (t tn ty : TypeId) (i : TypeInfo) (kn : IntKind) (ht : P.underlying t = some (.slice 5)) (htn : P.underlying tn = some (.int kn)) (hi : P.info? 5 = some i) (hz : i.zero = some (.int .u8 0)) (hs : i.size = 1) (hb : i.bytes = 1)
    (v : Value) (n k : Nat) (xs : List Int) (hown : w.ownsRow N 5 1 v n (bcells xs)) (hlen : xs.length + k ≤ 1099511627776) (hN : N ≤ w.heap.size) :
    ∃ v' w', (Builtin.append_ #[t, tn] ty #[v, .int .i64 k]).run P w = .ok v' w' ∧ w'.ownsRow N 5 1 v' (n + k) (bcells (xs ++ List.replicate k 0)) ∧ w.grownBy w' v.ownBlock ∧ (v'.ownBlock = v.ownBlock ∨ v'.ownBlock = some w.heap.size) := by
  have hn : xs.length = n := by have := hown.1; simpa [bcells] using this
  subst hn
  have hbl : (bcells (xs ++ List.replicate k 0)).length = xs.length + k := by simp [bcells]
  have e : bcells (xs ++ List.replicate k 0) = bcells xs ++ bcells (List.replicate k 0) := by simp [bcells]
  have hw : IntKind.i64.wrap (k : Int) = k := by rw [IntKind.wrap_i64]; omega
  have h48i : ¬ (281474976710656 < (k : Int)) := by omega
  have hneg : ¬ ((k : Int) < 0) := by omega
  -- what the growing arm leaves
  have grown : ∀ (old : Nat) (row : Option Nat),
      (w.drew.alloc (.cells ((bcells xs).toArray ++ Builtin.zeroCells (Value.int .u8 0).cells k ++ Builtin.zeroCells (Value.int .u8 0).cells (grownCap w (xs.length + k) old 5 - (xs.length + k))) 5)).ownsRow N 5 1
        (.slice (some ⟨w.heap.size, 0, none⟩) (xs.length + k) (grownCap w (xs.length + k) old 5)) (xs.length + k) (bcells (xs ++ List.replicate k 0)) ∧
      w.grownBy (w.drew.alloc (.cells ((bcells xs).toArray ++ Builtin.zeroCells (Value.int .u8 0).cells k ++ Builtin.zeroCells (Value.int .u8 0).cells (grownCap w (xs.length + k) old 5 - (xs.length + k))) 5)) row := by
    intro old row
    have hge := grownCap_ge w (xs.length + k) old 5
    have hcm : grownCap w (xs.length + k) old 5 ≤ maxLen := grownCap_le_maxLen w (xs.length + k) old 5 (by unfold maxLen; omega)
    refine ⟨⟨by rw [hbl]; omega, .inr ⟨w.heap.size, _, _, rfl, hN, heap_alloc_new w.drew _, hge, hcm, ?_, ?_⟩⟩, ⟨rfl, rfl, rfl, by simp, fun j hj _ => Below.heap_alloc w.drew _ j hj⟩⟩
    · rw [zeroCells_eq, zeroCells_eq]
      simp [bcells]
      omega
    · rw [zeroCells_eq, zeroCells_eq, e]
      have hl2 : (xs.length + k) * 1 = (bcells xs ++ bcells (List.replicate k 0)).length := by simp [bcells]
      rw [hl2]
      simp only [Array.toList_append]
      exact List.take_left
  by_cases hk : k = 0
  · subst hk
    refine ⟨v, w, ?_, by simpa using hown, ⟨rfl, rfl, rfl, Nat.le_refl _, fun _ _ _ => rfl⟩, .inl rfl⟩
    have hw0 : IntKind.i64.wrap 0 = 0 := by decide
    rcases hown.2 with ⟨rfl, _⟩ | ⟨g, cap, cur, rfl, _, _, hnc, _⟩
    · simp [hw0, Builtin.append_, run_underlying ht, run_underlying htn, sizeOf, typeInfo, hi, asInt, asIntOf]
    · simp [hw0, Builtin.append_, run_underlying ht, run_underlying htn, sizeOf, typeInfo, hi, asInt, asIntOf, hnc, storeCells]
  · rcases hown.2 with ⟨rfl, h0⟩ | ⟨g, cap, cur, rfl, hbg, hg, hnc, hcm, hcs, htake⟩
    · have hx : xs = [] := List.eq_nil_of_length_eq_zero h0
      subst hx
      have hr := Lib.run_append_nil_zeros (P := P) w t tn ty 5 i (.int .u8 0) .i64 kn ht htn hi hz k (by omega) (by omega) (by omega) (by rw [hb]; simp at hlen; omega)
      have hgr := grown 0 none
      simp only [List.length_nil, Nat.zero_add, List.nil_append] at hgr ⊢
      refine ⟨_, _, hr, by simpa [bcells] using hgr.1, by simpa [bcells, Value.ownBlock] using hgr.2, .inr rfl⟩
    · by_cases hroom : xs.length + k ≤ cap
      · have hfit : xs.length * 1 + (bcells (List.replicate k 0)).length ≤ cur.size := by simp [bcells]; omega
        have hst := run_storeCells_at P g (xs.length * i.size) 5 (bcells (List.replicate k 0)) 0 cur w hg (by simpa [hs] using hfit) (bcells_one _)
        simp only [Nat.add_zero, hs, Nat.mul_one] at hst
        have hr : (Builtin.append_ #[t, tn] ty #[.slice (some ⟨g, 0, none⟩) xs.length cap, .int .i64 k]).run P w = .ok (.slice (some ⟨g, 0, none⟩) (xs.length + k) cap) (w.setRow g (cur.toList.take xs.length ++ bcells (List.replicate k 0) ++ cur.toList.drop (xs.length + (bcells (List.replicate k 0)).length)).toArray) := by
          have hz' := zeroCells_eq k
          simp [Builtin.append_, run_underlying ht, run_underlying htn, sizeOf, typeInfo, zeroValue, hi, hz, hs, hb, asInt, asIntOf, hw, hneg, h48i, hk, hroom, Addr.add_lit, hz', hst]
        refine ⟨_, _, hr, ⟨by rw [hbl]; omega, .inr ⟨g, cap, _, rfl, hbg, setRow_heap w g cur _ 5 _ hg, hroom, hcm, ?_, ?_⟩⟩, ⟨rfl, rfl, rfl, by simp, fun j _ hj => setRow_other w g j _ (fun e => hj (by simp [Value.ownBlock, e]))⟩, .inl rfl⟩
        · simp [bcells] at hfit ⊢
          omega
        · have ht2 : cur.toList.take xs.length = bcells xs := by simpa using htake
          rw [ht2, e]
          have hl2 : (xs.length + k) * 1 = (bcells xs ++ bcells (List.replicate k 0)).length := by simp [bcells]
          rw [hl2]
          exact List.take_left
      · have hfo := run_firstCells_some (P := P) w.drew i.size xs.length ⟨g, 0, none⟩ xs.length cap (bcells xs) (by simp [bcells, hs]) (by intro j u hu; simpa using hown.cells (g := g) rfl j u hu)
        have hr := Lib.run_append_grow_zeros (P := P) w t tn ty 5 i (.int .u8 0) .i64 kn ht htn hi hz (some ⟨g, 0, none⟩) xs.length cap (bcells xs) hfo k (by omega) (by omega) (by omega) (by omega) (by rw [hb]; omega)
          (growslice_fits (by omega) (by rw [hb]; omega))
        have hgr := grown cap (Value.ownBlock (.slice (some ⟨g, 0, none⟩) xs.length cap))
        exact ⟨_, _, hr, hgr.1, hgr.2, .inr rfl⟩

theorem wpList_app_zeros {P : Program} {w : World} {ops : Array Oper} {rest : List Oper} {o : Oper} {a : Act} {Q : Exit → Act → World → Prop} (hgd : o.guard = none) (s x : Operand) (t tn : TypeId)
    (ho : o.op = .call { callee := .builtin .append, args := #[s, x], argTypes := #[t, tn] }) (N : Nat) (i : TypeInfo) (kn : IntKind) (ht : P.underlying t = some (.slice 5)) (htn : P.underlying tn = some (.int kn)) (hi : P.info? 5 = some i) (hz : i.zero = some (.int .u8 0)) (hs : i.size = 1) (hb : i.bytes = 1)
    (v : Value) (n k : Nat) (xs : List Int) (hv : a.eval s = v) (hown : w.ownsRow N 5 1 v n (bcells xs)) (z : Int) (hvx : a.eval x = .int .i64 z) (hzk : z = (k : Int)) (hlen : xs.length + k ≤ 1099511627776) (hN : N ≤ w.heap.size)
    (h : ∀ v' w', w'.ownsRow N 5 1 v' (n + k) (bcells (xs ++ List.replicate k 0)) → w.grownBy w' v.ownBlock → (v'.ownBlock = v.ownBlock ∨ v'.ownBlock = some w.heap.size) → wpList P ops Q rest (a.put o.dst v') w') : wpList P ops Q (o :: rest) a w := by
  subst hzk
  obtain ⟨v', w', hr, h1, h2, h3⟩ := run_app_zeros (P := P) w N t tn o.type i kn ht htn hi hz hs hb v n k xs hown hlen hN
  exact Lib.wpList_append_run w hgd s x t tn ho v _ hv hvx v' w' hr (h v' w' h1 h2 h3)

/-- The same as one step of a region that draws its order. -/
theorem step_app {P : Program} {w : World} {ops : Array Oper} {o : Oper} {a : Act} {K : Act → World → Prop} {Q : Exit → Act → World → Prop} {E : Prop} (hgd : o.guard = none) (s x : Operand) (t : TypeId)
    (ho : o.op = .call { callee := .builtin .append, args := #[s, x], argTypes := #[t, t] }) (N : Nat) (i : TypeInfo) (ht : P.underlying t = some (.slice 5)) (hi : P.info? 5 = some i) (hz : i.zero = some (.int .u8 0)) (hs : i.size = 1) (hb : i.bytes = 1)
    (v vx : Value) (n : Nat) (xs news : List Int) (hv : a.eval s = v) (hown : w.ownsRow N 5 1 v n (bcells xs)) (hvx : a.eval x = vx) (hx : Bs w vx news) (hlen : xs.length + news.length ≤ 1099511627776) (hN : N ≤ w.heap.size)
    (h : ∀ v' w', w'.ownsRow N 5 1 v' (n + news.length) (bcells (xs ++ news)) → w.grownBy w' v.ownBlock → (v'.ownBlock = v.ownBlock ∨ v'.ownBlock = some w.heap.size) → K (a.put o.dst v') w') :
    if Region.wanted o (yielded ops a.tmps) = true then Oper.wp P o a w K Q else E := by
  have hw : Region.wanted o (yielded ops a.tmps) = true := by simp [Region.wanted, hgd]
  rw [if_pos hw]
  obtain ⟨v', w', hr, h1, h2, h3⟩ := run_app (P := P) w N t o.type i ht hi hz hs hb v vx n xs news hown hx hlen hN
  exact Lib.wp_append_run w s x t t ho v vx hv hvx v' w' hr (h v' w' h1 h2 h3)

end Go.Proofs.YthohgljlcfbpjaaGreat

namespace Go.Proofs.YthohgljlcfbpjaaGreat

/-- f, but v at n. -/
def upd {α : Type} (f : Nat → α) (n : Nat) (v : α) : Nat → α := fun k => if k = n then v else f k
theorem upd_same {α : Type} (f : Nat → α) (n : Nat) (v : α) : upd f n v n = v := by simp [upd]
theorem upd_other {α : Type} (f : Nat → α) {n k : Nat} (v : α) (h : k ≠ n) : upd f n v k = f k := by simp [upd, h]

/-- n bytes 0. -/
def zeros (n : Nat) : List Int := List.replicate n 0
theorem zeros_len (n : Nat) : (zeros n).length = n := List.length_replicate

/-- A disk. -/
structure St where
  nb : Nat
  syn : Nat → List Int
  wait : Nat → List (List Int)
  writes : Nat
  off : Bool
  arm : Int
  picks : List Int

namespace St
/-- Block n's j-th version; 0: as it was synced. -/
def ver (S : St) (n j : Nat) : List Int := if j = 0 then S.syn n else (S.wait n).getD (j - 1) []
def last (S : St) (n : Nat) : List Int := S.ver n (S.wait n).length
def settle (S : St) (n j : Nat) : St := { S with syn := upd S.syn n (S.ver n j), wait := upd S.wait n [] }
def keys (S : St) : List Nat := (List.range S.nb).filter fun n => !(S.wait n).isEmpty
def pickN (p : Int) (k : Nat) : Nat := (p % ((k : Int) + 1)).toNat
def cutTo (S : St) (ps : List Int) : List Nat → St
  | [] => S
  | n :: ns => cutTo (S.settle n (pickN (ps.headD 0) (S.wait n).length)) ps.tail ns
def cut (S : St) (ps : List Int) : St := if S.off then S else { S.cutTo ps S.keys with off := true, arm := 0, picks := [] }
def okW (S : St) (n : Int) (b : List Int) : Prop := 0 ≤ n ∧ n < S.nb ∧ b.length = 512
instance (S : St) (n : Int) (b : List Int) : Decidable (S.okW n b) := by unfold okW; infer_instance
/-- A Write that would be OK is counted. -/
def struck (S : St) : St := { S with arm := if S.arm < 1 then S.arm else S.arm - 1 }
/-- One version more of block n; W: how many Writes. -/
def added (S : St) (n : Nat) (b : List Int) (W : Nat) : St := { S with wait := upd S.wait n (S.wait n ++ [b]), writes := W }
def wrote (S : St) (n : Nat) (b : List Int) : St := { S with wait := upd S.wait n (S.wait n ++ [b]), writes := S.writes + 1 }
def pushed (S : St) (n : Nat) (b : List Int) : St := { S with wait := upd S.wait n (S.wait n ++ [b]), writes := S.writes + 1, arm := if S.arm < 1 then S.arm else S.arm - 1 }
def write (S : St) (n : Int) (b : List Int) : St := if S.off then S else if ¬ S.okW n b then S else if S.arm = 1 then S.cut S.picks else S.pushed n.toNat b
def writeE (S : St) (n : Int) (b : List Int) : Int := if S.off then 6 else if ¬ S.okW n b then 1 else if S.arm = 1 then 6 else 0
def synced (S : St) : St := { S with syn := S.last, wait := fun _ => [] }
def sync (S : St) : St := if S.off then S else S.synced
def syncE (S : St) : Int := if S.off then 6 else 0
def armed (S : St) (n : Int) (ps : List Int) : St := { S with arm := n, picks := ps }
def on (S : St) : St := { S with off := false, arm := 0, picks := [] }
def readE (S : St) (n : Int) : Int := if S.off then 6 else if 0 ≤ n ∧ n < S.nb then 0 else 1
def readV (S : St) (n : Int) : List Int := if S.readE n = 0 then S.last n.toNat else []
def waiting (S : St) : Nat := ((List.range S.nb).map fun n => (S.wait n).length).sum
def flat (nb : Nat) (f : Nat → List Int) : List Int := (List.range nb).flatMap f
def image (S : St) : List Int := flat S.nb S.last
def new (nb : Nat) : St := { nb := nb, syn := fun _ => zeros 512, wait := fun _ => [], writes := 0, off := false, arm := 0, picks := [] }

/-- What a disk keeps to. -/
structure Wf (S : St) : Prop where
  pos : 0 < S.nb
  top : S.nb ≤ 16384
  syn : ∀ n, n < S.nb → (S.syn n).length = 512
  ver : ∀ n, ∀ b ∈ S.wait n, b.length = 512
  out : ∀ n, S.nb ≤ n → S.wait n = []
  few : ∀ n, (S.wait n).length ≤ S.writes
  arm0 : -9223372036854775808 ≤ S.arm
  arm1 : S.arm < 9223372036854775808

/-! ### blocks one behind the other -/
theorem flat_succ (nb : Nat) (f : Nat → List Int) : flat (nb + 1) f = flat nb f ++ f nb := by simp [flat, List.range_succ]
theorem flat_length {nb : Nat} {f : Nat → List Int} (h : ∀ n, n < nb → (f n).length = 512) : (flat nb f).length = 512 * nb := by
  induction nb with
  | zero => rfl
  | succ k ih => rw [flat_succ, List.length_append, ih (fun n hn => h n (by omega)), h k (by omega)]; omega
theorem flat_congr {nb : Nat} {f g : Nat → List Int} (h : ∀ n, n < nb → f n = g n) : flat nb f = flat nb g := by
  induction nb with
  | zero => rfl
  | succ k ih => rw [flat_succ, flat_succ, ih (fun n hn => h n (by omega)), h k (by omega)]
theorem flat_split {nb n : Nat} {f : Nat → List Int} (hn : n < nb) (h : ∀ n, n < nb → (f n).length = 512) : ∃ r, flat nb f = flat n f ++ f n ++ r ∧ ∀ v, flat nb (upd f n v) = flat n f ++ v ++ r := by
  induction nb with
  | zero => omega
  | succ k ih =>
    by_cases hk : n = k
    · subst hk
      refine ⟨[], by rw [flat_succ]; simp, fun v => ?_⟩
      rw [flat_succ, upd_same, flat_congr (g := f) (fun j hj => upd_other f v (by omega))]; simp
    · obtain ⟨r, h1, h2⟩ := ih (by omega) (fun j hj => h j (by omega))
      refine ⟨r ++ f k, by rw [flat_succ, h1]; simp, fun v => ?_⟩
      rw [flat_succ, h2, upd_other f v (by omega)]; simp
theorem flat_get {nb n : Nat} {f : Nat → List Int} (hn : n < nb) (h : ∀ n, n < nb → (f n).length = 512) : ((flat nb f).drop (512 * n)).take 512 = f n := by
  obtain ⟨r, h1, _⟩ := flat_split hn h
  have hl : (flat n f).length = 512 * n := flat_length (fun j hj => h j (by omega))
  rw [h1, List.append_assoc, ← hl, List.drop_left, ← h n hn, List.take_left]
theorem flat_set {nb n : Nat} {f : Nat → List Int} (hn : n < nb) (h : ∀ n, n < nb → (f n).length = 512) (v : List Int) : flat nb (upd f n v) = (flat nb f).take (512 * n) ++ v ++ (flat nb f).drop (512 * n + 512) := by
  obtain ⟨r, h1, h2⟩ := flat_split hn h
  have hl : (flat n f).length = 512 * n := flat_length (fun j hj => h j (by omega))
  rw [h2, h1]
  have e1 : (flat n f ++ f n ++ r).take (512 * n) = flat n f := by rw [List.append_assoc, ← hl, List.take_left]
  have e2 : (flat n f ++ f n ++ r).drop (512 * n + 512) = r := by
    have : 512 * n + 512 = (flat n f ++ f n).length := by rw [List.length_append, hl, h n hn]
    rw [this, List.drop_left]
  rw [e1, e2]

/-! ### what each call keeps -/
theorem ver_len {S : St} (h : S.Wf) {n j : Nat} (hn : n < S.nb) (hj : j ≤ (S.wait n).length) : (S.ver n j).length = 512 := by
  unfold ver
  split
  · exact h.syn n hn
  · have hj' : j - 1 < (S.wait n).length := by omega
    have : (S.wait n).getD (j - 1) [] = (S.wait n)[j - 1] := by simp [List.getD, hj']
    rw [this]
    exact h.ver n _ (List.getElem_mem hj')
theorem last_len {S : St} (h : S.Wf) {n : Nat} (hn : n < S.nb) : (S.last n).length = 512 := ver_len h hn (Nat.le_refl _)
theorem settle_wf {S : St} (h : S.Wf) {n j : Nat} (hn : n < S.nb) (hj : j ≤ (S.wait n).length) : (S.settle n j).Wf := by
  refine ⟨h.pos, h.top, fun k hk => ?_, fun k b hb => ?_, fun k hk => ?_, fun k => ?_, h.arm0, h.arm1⟩
  · show (upd S.syn n (S.ver n j) k).length = 512
    unfold upd; split
    · exact ver_len h hn hj
    · exact h.syn k hk
  · have hb' : b ∈ upd S.wait n [] k := hb
    unfold upd at hb'
    split at hb'
    · cases hb'
    · exact h.ver k b hb'
  · show upd S.wait n [] k = []
    unfold upd; split
    · rfl
    · exact h.out k hk
  · show (upd S.wait n [] k).length ≤ S.writes
    unfold upd; split
    · simp
    · exact h.few k
theorem pickN_le (p : Int) (k : Nat) : pickN p k ≤ k := by
  unfold pickN
  have := Int.emod_nonneg p (b := (k : Int) + 1) (by omega)
  have := Int.emod_lt_of_pos p (b := (k : Int) + 1) (by omega)
  omega
theorem cutTo_wf : ∀ (ks : List Nat) {S : St} (_ : S.Wf) (ps : List Int), (∀ n ∈ ks, n < S.nb) → (S.cutTo ps ks).Wf
  | [], _, h, _, _ => h
  | n :: ks, _, h, ps, hk => cutTo_wf ks (settle_wf h (hk n (by simp)) (pickN_le _ _)) ps.tail (fun k hk' => hk k (by simp [hk']))
theorem keys_lt {S : St} {n : Nat} (h : n ∈ S.keys) : n < S.nb ∧ S.wait n ≠ [] := by
  simp [keys, List.mem_filter] at h
  exact h
theorem mem_keys {S : St} {n : Nat} (h : n < S.nb) (hw : S.wait n ≠ []) : n ∈ S.keys := by simp [keys, List.mem_filter]; exact ⟨h, hw⟩
theorem cut_wf {S : St} (h : S.Wf) (ps : List Int) : (S.cut ps).Wf := by
  unfold cut
  split
  · exact h
  · have := cutTo_wf S.keys h ps (fun n hn => (keys_lt hn).1)
    exact ⟨this.pos, this.top, this.syn, this.ver, this.out, this.few, by simp, by simp⟩
theorem cutTo_same : ∀ (ks : List Nat) (S : St) (ps : List Int), (S.cutTo ps ks).nb = S.nb ∧ (S.cutTo ps ks).writes = S.writes ∧ (S.cutTo ps ks).off = S.off ∧ (S.cutTo ps ks).arm = S.arm ∧ (S.cutTo ps ks).picks = S.picks
  | [], _, _ => ⟨rfl, rfl, rfl, rfl, rfl⟩
  | n :: ks, S, ps => cutTo_same ks (S.settle n (pickN (ps.headD 0) (S.wait n).length)) ps.tail
theorem cutTo_wait : ∀ (ks : List Nat) (S : St) (ps : List Int) (n : Nat), (S.cutTo ps ks).wait n = if n ∈ ks then [] else S.wait n
  | [], _, _, n => by simp [cutTo]
  | k :: ks, S, ps, n => by
    rw [cutTo, cutTo_wait ks]
    by_cases h : n ∈ ks
    · simp [h]
    · by_cases e : n = k
      · subst e; simp [settle, upd_same, h]
      · simp [settle, upd_other _ _ e, h, e]
theorem cut_wait {S : St} (h : S.Wf) (ps : List Int) (ho : S.off = false) (n : Nat) : (S.cut ps).wait n = [] := by
  have e : (S.cut ps).wait n = (S.cutTo ps S.keys).wait n := by simp [cut, ho]
  rw [e, cutTo_wait]
  split
  · rfl
  · rename_i hk
    by_cases hn : n < S.nb
    · by_cases hw : S.wait n = []
      · exact hw
      · exact absurd (mem_keys hn hw) hk
    · exact h.out n (by omega)
theorem cut_nb (S : St) (ps : List Int) : (S.cut ps).nb = S.nb := by unfold cut; split; rfl; exact (cutTo_same _ _ _).1
theorem cut_writes (S : St) (ps : List Int) : (S.cut ps).writes = S.writes := by unfold cut; split; rfl; exact (cutTo_same _ _ _).2.1
theorem cut_off (S : St) (ps : List Int) : (S.cut ps).off = true := by
  unfold cut; split
  · rename_i h; exact h
  · rfl
theorem synced_wf {S : St} (h : S.Wf) : S.synced.Wf := by
  refine ⟨h.pos, h.top, fun n hn => last_len h hn, fun n b hb => ?_, fun n _ => rfl, fun n => Nat.zero_le _, h.arm0, h.arm1⟩
  exact absurd hb (by simp [synced])
theorem sync_wf {S : St} (h : S.Wf) : S.sync.Wf := by unfold sync; split; exact h; exact synced_wf h
theorem pushed_wf {S : St} (h : S.Wf) {n : Nat} {b : List Int} (hn : n < S.nb) (hb : b.length = 512) : (S.pushed n b).Wf := by
  refine ⟨h.pos, h.top, h.syn, fun k c hc => ?_, fun k hk => ?_, fun k => ?_, ?_, ?_⟩
  · have hc' : c ∈ upd S.wait n (S.wait n ++ [b]) k := hc
    unfold upd at hc'
    split at hc'
    · rcases List.mem_append.1 hc' with h1 | h1
      · exact h.ver n c h1
      · simp at h1; rw [h1]; exact hb
    · exact h.ver k c hc'
  · show upd S.wait n _ k = []
    have hk' : S.nb ≤ k := hk
    rw [upd_other _ _ (by omega)]; exact h.out k hk
  · show (upd S.wait n _ k).length ≤ S.writes + 1
    unfold upd; split
    · have := h.few n; simp; exact this
    · have := h.few k; omega
  · show _ ≤ (if S.arm < 1 then S.arm else S.arm - 1)
    have := h.arm0; split <;> omega
  · show (if S.arm < 1 then S.arm else S.arm - 1) < _
    have := h.arm1; split <;> omega
theorem pushed_eq (S : St) (n : Nat) (b : List Int) : S.pushed n b = S.struck.wrote n b := rfl
theorem wrote_wf {S : St} (h : S.Wf) {n : Nat} {b : List Int} (hn : n < S.nb) (hb : b.length = 512) : (S.wrote n b).Wf := by
  have := pushed_wf h hn hb
  exact ⟨this.pos, this.top, this.syn, this.ver, this.out, this.few, h.arm0, h.arm1⟩
theorem write_wf {S : St} (h : S.Wf) (n : Int) (b : List Int) : (S.write n b).Wf := by
  unfold write
  split
  · exact h
  · split
    · exact h
    · split
      · exact cut_wf h _
      · rename_i h2 _
        have h3 := Decidable.not_not.1 h2
        exact pushed_wf h (by have := h3.1; have := h3.2.1; omega) h3.2.2
theorem on_wf {S : St} (h : S.Wf) : S.on.Wf := ⟨h.pos, h.top, h.syn, h.ver, h.out, h.few, by simp [on], by simp [on]⟩
theorem armed_wf {S : St} (h : S.Wf) {n : Int} (ps : List Int) (h0 : -9223372036854775808 ≤ n) (h1 : n < 9223372036854775808) : (S.armed n ps).Wf := ⟨h.pos, h.top, h.syn, h.ver, h.out, h.few, h0, h1⟩
theorem new_wf {nb : Nat} (h0 : 0 < nb) (h1 : nb ≤ 16384) : (new nb).Wf := by
  exact ⟨h0, h1, fun n _ => zeros_len 512, fun n b hb => (List.not_mem_nil hb).elim, fun n _ => rfl, fun n => Nat.zero_le _, (by decide : (-9223372036854775808 : Int) ≤ 0), (by decide : (0 : Int) < 9223372036854775808)⟩
theorem write_nb (S : St) (n : Int) (b : List Int) : (S.write n b).nb = S.nb := by
  unfold write; split; rfl; split; rfl; split; exact cut_nb _ _; rfl
theorem write_writes (S : St) (n : Int) (b : List Int) : (S.write n b).writes = S.writes + (if S.writeE n b = 0 then 1 else 0) := by
  unfold write writeE
  split
  · simp
  · split
    · simp
    · split
      · rw [cut_writes]; simp
      · rfl
theorem write_writes_le (S : St) (n : Int) (b : List Int) : (S.write n b).writes ≤ S.writes + 1 := by rw [write_writes]; split <;> omega
theorem sync_nb (S : St) : S.sync.nb = S.nb := by unfold sync; split <;> rfl
theorem sync_writes (S : St) : S.sync.writes = S.writes := by unfold sync; split <;> rfl
end St
end Go.Proofs.YthohgljlcfbpjaaGreat

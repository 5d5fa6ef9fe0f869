/-
  names of a file; below's closure; marks at a function's end.
-/
import Derived.Test.YtlnjnimenihhnaaGreatDoorTFew
import Derived.Test.YtlnjnimenihhnaaGreatDoorTGood
import Derived.RangeFuncOwn
import Derived.RangeFuncCalls
import Derived.RangeFuncLeaves
import Derived.RangeFuncNested
import Derived.Shelf.Abstract
import Derived.WalkKit
import Derived.OwnWalkIn
import Derived.TacticsInMore
import Derived.LoopNIn
import Derived.LoopIn
namespace Go.Proofs.YtlnjnimenihhnaaGreatDoor
open Go.RowKit Go.Maps Go.Sort Go.Shelf

set_option maxHeartbeats 1000000 in
theorem sortedN_nil (k : Nat) (w : World) (hk : w.heap[k]? = some (.cells #[.map none] 54 (0, 0))) :
    Calls Tryz.prog 78 #[.func (.func 95) #[] #[.pointer (some ⟨k, 0, none⟩)]] w fun e w' => ∃ v, e = .returned v ∧ w'.ownsRow w.heap.size 9 1 v 0 [] ∧ Below w.heap.size w w' := by
  have hkl : k < w.heap.size := (Array.getElem?_eq_some_iff.1 hk).1
  have hcell : w.cell? ⟨k, 0, none⟩ = some (.map none) := by rw [cell_of_row w k 0 _ _ _ hk]; rfl
  have hseq : SeqGives Fence.wide 2 Tryz.prog 95 #[.pointer (some ⟨k, 0, none⟩)] encStr (fun ss : List (List UInt8) => ss = []) 0 w :=
    AnyZ.keys_gives_nil (ρ := Tryz.keysN_ren) { Tryz.keysN with } Fence.wide _ trivial rfl k _ hkl hcell
  have cS := AnyZ.sorted_in Tryz.sortedN Fence.wide 5 trivial trivial trivial trivial rfl (by omega) (sortsN _) (enters_of Tryz.func94 (by kernel_rfl) rfl) 95 #[.pointer (some ⟨k, 0, none⟩)] trivial (enters_of Tryz.func95 (by kernel_rfl) rfl) _ _ (by unfold maxLen; omega) (by omega) _ hseq
  change CallsIn _ _ Tryz.prog 78 _ _ _ at cS
  refine ((callsIn_wide (n := 5)).1 cS).mono ?_
  rintro e w' ⟨v, ss, rfl, hp, hrow, _, hb⟩
  subst hp
  simp only [List.mergeSort_nil, List.map_nil, List.length_nil] at hrow
  exact ⟨v, rfl, hrow, hb⟩
set_option maxHeartbeats 1000000 in
theorem tnames_nil (b : Nat) (w : World) (c2 : w.cell? ⟨b, 2, none⟩ = some (.map none)) :
    Calls Tryz.prog 46 #[ptr b] w fun e w' => ∃ v, e = .returned v ∧ w'.ownsRow w.heap.size 9 1 v 0 [] ∧ Below w.heap.size w w' := by
  have A0 := below_alloc w (.cells #[.map none] 54)
  have hb := heap_alloc_new w (.cells #[.map none] 54)
  have HC : Hid (Calls Tryz.prog 78 #[.func (.func 95) #[] #[.pointer (some ⟨w.heap.size, 0, none⟩)]] (w.alloc (.cells #[.map none] 54)) fun e w' => ∃ v, e = .returned v ∧ w'.ownsRow w.heap.size 9 1 v 0 [] ∧ Below w.heap.size w w') := by
    refine (sortedN_nil w.heap.size _ hb).mono ?_
    rintro e w' ⟨v, rfl, ho, B⟩
    exact ⟨v, rfl, ownsRow_base_a ho A0.size, A0.trans (B.mono A0.size)⟩
  clear A0 hb
  go_enter Tryz.func46, Tryz.ntmps46
  go_wp2_with fail
  refine (keysN_any none w).mono ?_
  rintro e w1 ⟨rfl, rfl⟩
  go_wp2_with fail
  refine HC.out.mono ?_
  rintro e w2 ⟨v, rfl, ho, B⟩
  have HO : Hid (w2.ownsRow w.heap.size 9 1 v 0 [] ∧ Below w.heap.size w w2) := ⟨ho, B⟩
  clear HC ho B
  go_wp2_with fail
  go_ret
  exact ⟨v, rfl, HO.out⟩
/-- A node's names, rising; a file has none. -/
def nmOf (F : Pth → Option Nd) (p : Pth) : List (List UInt8) := match F p with
  | some (.dir _ kn) => nmL kn
  | _ => []
theorem nmL_mem {kn : List ByteArray} {x : List UInt8} (h : x ∈ nmL kn) : (⟨⟨x⟩⟩ : ByteArray) ∈ kn := by
  unfold nmL at h
  have h1 := (List.mergeSort_perm (kn.map fun x => x.data.toList) _).mem_iff.1 h
  obtain ⟨y, hy, e⟩ := List.mem_map.1 h1
  subst e
  exact hy
theorem Tr.names {w : World} {t : Nat} {F : Pth → Option Nd} {A : Pth → Nat} {O : Nat → Option (Pth × Nat)} {bl ino : Int} {K : Nat} (h : Tr w t F A O bl ino K) (hK : K ≤ 100000) {p : Pth} {nd : Nd} (hp : F p = some nd) :
    Calls Tryz.prog 46 #[ptr (A p)] w fun e w' => ∃ v, e = .returned v ∧ w'.ownsRow w.heap.size 9 1 v (nmOf F p).length ((nmOf F p).map encStr) ∧ Below w.heap.size w w' := by
  cases nd with
  | file bs =>
    obtain ⟨-, -, c2, -⟩ := h.nd p _ hp
    have e : nmOf F p = [] := by unfold nmOf; rw [hp]
    rw [e]
    exact tnames_nil (A p) w c2
  | dir s kn =>
    obtain ⟨m, m0, m1, m2, m3, mO, mM, htm, hAm⟩ := h.dirM hp
    obtain ⟨a1, a2, a3, a4⟩ := h.nms _ _ _ hp
    have e : nmOf F p = nmL kn := by unfold nmOf; rw [hp]
    rw [e, nmL_len]
    exact tnames_any _ m A _ kn w m2 mM (by omega) a1 (fun x hx => name_size (a2 x hx))
set_option maxHeartbeats 400000 in
theorem below_any (b : Nat) (at' : ByteArray) (w : World) : Calls Tryz.prog 91 #[ptr b, .string at'] w fun e w' => e = .returned (.func (.func 101) #[] #[.pointer (some ⟨w.heap.size, 0, none⟩), .pointer (some ⟨w.heap.size + 1, 0, none⟩)]) ∧ w' = (w.alloc (.cells #[ptr b] 57)).alloc (.cells #[.string at'] 9) := by
  have hmf : ∀ (fn : Fn) (first cap : Array Value) (w : World), (Instr.makeFunc fn first cap).run Tryz.prog w = .ok (.func fn first cap) w := fun _ _ _ _ => rfl
  go_enter Tryz.func91, Tryz.ntmps91
  go_wp2
  go_ret
  exact ⟨rfl, rfl⟩
/-- A mark at a function's end. -/
def mk (D : Nat) : Deferred := { target := .collected D, args := #[] }
/-- Marks, none of which has a call: their blocks are shut, and that is all. -/
theorem leaves_marks {F : Fence} {n : Nat} {P : Program} {fn : Func} {tmps : Array Value} {R : Ending → World → Prop} : ∀ (ds : List Nat) (W : World), ds.Nodup → (∀ D ∈ ds, W.heap[D]? = some (.deferred (some []))) →
    (∀ W', W'.heap.size = W.heap.size → W'.os = W.os → W'.tape = W.tape → W'.output = W.output → (∀ k, ¬ k ∈ ds → W'.heap[k]? = W.heap[k]?) → LeavesIn F n P fn tmps R [] .returning W') → LeavesInM F n P fn tmps R (ds.map mk) .returning W
  | [], W, _, _, h => h W rfl rfl rfl rfl (fun _ _ => rfl)
  | D :: ds, W, hn, hd, h => by
    have hn2 := List.nodup_cons.1 hn
    have hD := hd D List.mem_cons_self
    refine ⟨by simp, .inl ⟨D, _, rfl, run_takeDeferred hD, ?_⟩⟩
    refine leaves_marks ds _ hn2.2 (fun E hE => ?_) (fun W' e1 e2 e3 e4 e5 => h W' ?_ ?_ ?_ ?_ (fun k hk => ?_))
    · rw [World.putObj_heap_other (fun e => hn2.1 (by rw [← e]; exact hE))]
      exact hd E (List.mem_cons_of_mem _ hE)
    · rw [e1]; simp [World.putObj]
    · rw [e2]; rfl
    · rw [e3]; rfl
    · rw [e4]; rfl
    · rw [e5 k (fun h => hk (List.mem_cons_of_mem _ h))]
      exact World.putObj_heap_other (fun e => hk (by rw [e]; exact List.mem_cons_self))
end Go.Proofs.YtlnjnimenihhnaaGreatDoor

namespace Go.Proofs.YtlnjnimenihhnaaGreatDoor
open Go.RowKit Go.Maps Go.Shelf

section
variable {n : Nat} {P : Program} {g : Operand} {ps : Array Tmp} {assign body : Code} {Q : Exit → Act → World → Prop} {a : Act} {w : World} {gf : Nat} {lb : Array Value}
theorem range_any (hg : a.eval g = .func (.func gf) #[] lb) (eg : ∀ args w, (callFunc gf args).run P w = .ok (.enter gf args) w) (h1 : 1 ≤ n)
    (h : ∀ (fn : FuncId) (rec : LoopState → Loop), (∀ st, rec st = { state := st, pending := none, fn := fn, tmps := a.tmps, params := ps, assign := assign, body := body, defers := w.heap.size }) →
      CallsIn Fence.wide (n - 1) P gf (#[.func (.yield (w.heap.size + 1)) #[] #[]] ++ lb) ((w.alloc (.deferred (some []))).alloc (.loop (rec .ready))) fun e W' => (∃ v, e = .returned v) ∧ W'.heap[w.heap.size + 1]? = some (.loop (rec .ready)) ∧
        Q .normal { a with defers := { target := .collected w.heap.size, args := #[] } :: a.defers } (W'.putObj (w.heap.size + 1) (.loop (rec .exhausted)))) :
    (Code.rangeFunc g ps assign body).wpIn Fence.wide n P Q a w := by
  refine wpIn_rangeFunc ?_
  intro fn hfn
  obtain ⟨rec, hrec⟩ : ∃ rec : LoopState → Loop, ∀ st, rec st = { state := st, pending := none, fn := fn, tmps := a.tmps, params := ps, assign := assign, body := body, defers := w.heap.size } := ⟨_, fun _ => rfl⟩
  obtain ⟨W1, hW1⟩ : ∃ W1, (w.alloc (.deferred (some []))).alloc (.loop (rec .ready)) = W1 := ⟨_, rfl⟩
  have hc := h fn rec hrec
  rw [hW1] at hc
  refine ⟨w.heap.size + 1, [{ target := .collected w.heap.size, args := #[] }], W1, { target := .fn (.func gf) lb, args := #[.func (.yield (w.heap.size + 1)) #[] #[]] }, W1, gf,
    #[.func (.yield (w.heap.size + 1)) #[] #[]] ++ lb, W1, ?_, ?_, ?_, ?_, fun _ => h1, ?_⟩
  · rw [← hW1, hrec]; exact run_enterLoop_outer _ _ _ _ _
  · simp only [resolve, hg]
    simp [go_sem]
  · intro f' _; exact trivial
  · simp [invoke, go_sem, eg]
  · refine hc.mono ?_
    rintro e W' ⟨⟨v, rfl⟩, hl, hq⟩
    have he := run_endLoop (P := P) hl (by rw [hrec]; simp)
    rw [hrec] at he
    rw [hrec] at hq
    exact ⟨none, _, he, hq⟩
theorem yield_any {W : World} {l D : Nat} {fn : FuncId} {tmps args : Array Value} {rec : LoopState → Loop} {R : Ending → World → Prop} (hrec : ∀ st, rec st = { state := st, pending := none, fn := fn, tmps := tmps, params := ps, assign := assign, body := body, defers := D })
    (hl : W.heap[l]? = some (.loop (rec .ready))) (hsz : args.size = ps.size)
    (h : assign.wpIn (Fence.wide.inRound l) n P (Exit.then (fun a1 w1 => w1.heap[l]? = some (.loop (rec .ready)) ∧ body.wpIn (Fence.wide.inRound l) n P (fun e _ W3 => e = .normal ∧ W3.heap[l]? = some (.loop (rec .busy)) ∧ R (.returned (.bool true)) (W3.putObj l (.loop (rec .ready)))) a1 (w1.putObj l (.loop (rec .busy)))) (fun _ _ _ => False))
      { tmps := (ps.zip args).foldl (fun t (p, v) => t.setIfInBounds p v) tmps, defers := [] } W) :
    YieldAt Fence.wide n P l args W R := by
  obtain rfl : rec = _ := funext hrec
  have hy := run_yield (P := P) (args := args) hl hsz
  refine ⟨fn, _, assign, body, hy, roundIn_of_wpIn trivial (wpIn_mono h ?_)⟩
  rintro e a1 w1 hp
  cases e with
  | normal =>
    obtain ⟨hl1, hb⟩ := hp
    refine ⟨_, run_beginRound (P := P) hl1 rfl, wpIn_mono hb ?_⟩
    rintro e a3 W3 ⟨rfl, hl3, hR⟩
    exact ⟨_, _, run_endRound (P := P) none hl3, hR⟩
  | ret => exact hp.elim
  | exit id => exact hp.elim
  | goto t => exact hp.elim
  | panic ch => exact hp.elim
  | outgrown => exact hp.elim
end
end Go.Proofs.YtlnjnimenihhnaaGreatDoor

namespace Go.Proofs.YtlnjnimenihhnaaGreatDoor
open Go.RowKit Go.Maps Go.Sort Go.Shelf

/-- A record of a range over a function. -/
def isMk (o : Obj) : Prop := (∃ l, o = .loop l) ∨ ∃ c, o = .deferred c
/-- A row of stops. -/
def isSt (o : Obj) : Prop := ∃ cs x, o = .cells cs 147 x
/-- What below's iterator changes: new blocks, and its own records, all from B on. -/
structure Chw (B : Nat) (W W' : World) : Prop where
  os : W'.os = W.os
  tape : W'.tape = W.tape
  output : W'.output = W.output
  size : W.heap.size ≤ W'.heap.size
  block : ∀ k o, W.heap[k]? = some o → (k < B ∨ ¬ isMk o) → W'.heap[k]? = some o
/-- What a round keeps of what lies from B on. -/
def Kpy (B : Nat) (W W' : World) : Prop := W.heap.size ≤ W'.heap.size ∧ ∀ k o, B ≤ k → W.heap[k]? = some o → ¬ isSt o → W'.heap[k]? = some o
theorem Chw.of_below {B : Nat} {W W' : World} (h : Below W.heap.size W W') : Chw B W W' := ⟨h.os, h.tape, h.output, h.size, fun k _ hk _ => (h.block k (Array.getElem?_eq_some_iff.1 hk).1).trans hk⟩
theorem Chw.mono {B B' : Nat} {W W' : World} (h : Chw B' W W') (hB : B ≤ B') : Chw B W W' := ⟨h.os, h.tape, h.output, h.size, fun k o hk hm => h.block k o hk (hm.imp (fun h => Nat.lt_of_lt_of_le h hB) (fun h => h))⟩
theorem Chw.put {B : Nat} {W : World} {l : Nat} {r : Loop} (hl : W.heap[l]? = some (.loop r)) (hB : B ≤ l) (o : Obj) : Chw B W (W.putObj l o) :=
  ⟨rfl, rfl, rfl, by simp [World.putObj], fun k o' hk hm => by
    by_cases e : k = l
    · subst e
      rw [hl] at hk
      cases hk
      rcases hm with hm | hm
      · omega
      · exact absurd (.inl ⟨_, rfl⟩) hm
    · exact (World.putObj_heap_other e).trans hk⟩
abbrev nmX (x : List UInt8) : ByteArray := ⟨⟨x⟩⟩
/-- A name's path, as a text. -/
def joinT (at' : ByteArray) (x : List UInt8) : ByteArray := at' ++ ⟨#[47]⟩ ++ nmX x
/-- What stands below a path, in order: texts and paths. -/
def rowsP (F : Pth → Option Nd) : Nat → Pth → ByteArray → List (ByteArray × Pth)
  | 0, _, _ => []
  | d + 1, p, at' => (nmOf F p).flatMap fun x => (joinT at' x, p ++ [nmX x]) :: rowsP F d (p ++ [nmX x]) (joinT at' x)
theorem rowsP_succ (F : Pth → Option Nd) (d : Nat) (p : Pth) (at' : ByteArray) : rowsP F (d + 1) p at' = (nmOf F p).flatMap fun x => (joinT at' x, p ++ [nmX x]) :: rowsP F d (p ++ [nmX x]) (joinT at' x) := rfl
def posP (F : Pth → Option Nd) (d : Nat) (p : Pth) (at' : ByteArray) (k : Nat) : Nat := (((nmOf F p).take k).flatMap fun x => (joinT at' x, p ++ [nmX x]) :: rowsP F d (p ++ [nmX x]) (joinT at' x)).length
theorem posP_end (F : Pth → Option Nd) (d : Nat) (p : Pth) (at' : ByteArray) : posP F d p at' (nmOf F p).length = (rowsP F (d + 1) p at').length := by
  unfold posP; rw [List.take_length, rowsP_succ]
theorem posP_next (F : Pth → Option Nd) (d : Nat) (p : Pth) (at' : ByteArray) {k : Nat} {x : List UInt8} (h : (nmOf F p)[k]? = some x) : posP F d p at' (k + 1) = posP F d p at' k + 1 + (rowsP F d (p ++ [nmX x]) (joinT at' x)).length := by
  unfold posP
  rw [List.take_add_one, h]
  simp
  omega
theorem rowsP_at (F : Pth → Option Nd) (d : Nat) (p : Pth) (at' : ByteArray) {k : Nat} {x : List UInt8} (h : (nmOf F p)[k]? = some x) : (rowsP F (d + 1) p at')[posP F d p at' k]? = some (joinT at' x, p ++ [nmX x]) ∧ ∀ i y, (rowsP F d (p ++ [nmX x]) (joinT at' x))[i]? = some y → (rowsP F (d + 1) p at')[posP F d p at' k + 1 + i]? = some y := by
  have hk := (List.getElem?_eq_some_iff.1 h).1
  have e : nmOf F p = (nmOf F p).take k ++ x :: (nmOf F p).drop (k + 1) := by
    conv => lhs; rw [← List.take_append_drop k (nmOf F p)]
    rw [List.drop_eq_getElem_cons hk, (List.getElem?_eq_some_iff.1 h).2]
  have e2 : rowsP F (d + 1) p at' = ((nmOf F p).take k).flatMap (fun x => (joinT at' x, p ++ [nmX x]) :: rowsP F d (p ++ [nmX x]) (joinT at' x)) ++ (((joinT at' x, p ++ [nmX x]) :: rowsP F d (p ++ [nmX x]) (joinT at' x)) ++ ((nmOf F p).drop (k + 1)).flatMap fun x => (joinT at' x, p ++ [nmX x]) :: rowsP F d (p ++ [nmX x]) (joinT at' x)) := by
    conv => lhs; rw [rowsP_succ, e]
    rw [List.flatMap_append, List.flatMap_cons]
  rw [e2]
  refine ⟨?_, fun i y hy => ?_⟩
  · rw [List.getElem?_append_right (by unfold posP; exact Nat.le_refl _)]
    simp [posP]
  · have hi := (List.getElem?_eq_some_iff.1 hy).1
    rw [List.getElem?_append_right (by unfold posP; omega)]
    have e3 : posP F d p at' k + 1 + i - (((nmOf F p).take k).flatMap (fun x => (joinT at' x, p ++ [nmX x]) :: rowsP F d (p ++ [nmX x]) (joinT at' x))).length = i + 1 := by unfold posP; omega
    rw [e3, List.cons_append, List.getElem?_cons_succ, List.getElem?_append_left hi]
    exact hy
attribute [local go_sem] Oper.semAt_some
/-- What below's iterator does, where nothing lies deeper than d. -/
def BelOk (t : Nat) (F : Pth → Option Nd) (A : Pth → Nat) (O : Nat → Option (Pth × Nat)) (bl ino : Int) (K : Nat) (d : Nat) : Prop :=
  ∀ (p : Pth) (nd : Nd) (at' : ByteArray) (bn ba L B : Nat) (J : Nat → World → Prop) (W : World), F p = some nd → (∀ r : Pth, d < r.length → F (p ++ r) = none) → at'.size + 300 * (d + 1) ≤ 100000000 →
    (∀ i W W', J i W → Chw B W W' → J i W') →
    (∀ i W, J i W → B ≤ W.heap.size ∧ Tr W t F A O bl ino K ∧ W.cell? ⟨bn, 0, none⟩ = some (ptr (A p)) ∧ W.cell? ⟨ba, 0, none⟩ = some (.string at')) →
    (∀ m i x W, (rowsP F (d + 1) p at')[i]? = some x → J i W → YieldAt Fence.wide m Tryz.prog L #[.string x.1, ptr (A x.2)] W fun e W' => e = .returned (.bool true) ∧ J (i + 1) W' ∧ Kpy B W W') →
    W.heap.size = B → J 0 W →
    Calls Tryz.prog 101 #[.func (.yield L) #[] #[], .pointer (some ⟨bn, 0, none⟩), .pointer (some ⟨ba, 0, none⟩)] W fun e W' => (∃ v, e = .returned v) ∧ J (rowsP F (d + 1) p at').length W' ∧ W.heap.size ≤ W'.heap.size
set_option maxHeartbeats 6400000 in
set_option maxRecDepth 100000 in
theorem below_in {t : Nat} {F : Pth → Option Nd} {A : Pth → Nat} {O : Nat → Option (Pth × Nat)} {bl ino : Int} {K : Nat} (hK : K ≤ 100000) (d : Nat) (IH : ∀ d', d = d' + 1 → BelOk t F A O bl ino K d') : BelOk t F A O bl ino K d := by
  intro p nd at' bn ba L B J W hp hdp hat hJ hT hY hB h0
  have HJ : Hid (∀ i W W', J i W → Chw B W W' → J i W') := hJ
  have HT : Hid (∀ i W, J i W → B ≤ W.heap.size ∧ Tr W t F A O bl ino K ∧ W.cell? ⟨bn, 0, none⟩ = some (ptr (A p)) ∧ W.cell? ⟨ba, 0, none⟩ = some (.string at')) := hT
  have HY : Hid (∀ m i x W, (rowsP F (d + 1) p at')[i]? = some x → J i W → YieldAt Fence.wide m Tryz.prog L #[.string x.1, ptr (A x.2)] W fun e W' => e = .returned (.bool true) ∧ J (i + 1) W' ∧ Kpy B W W') := hY
  have HP : Hid (F p = some nd ∧ (∀ r : Pth, d < r.length → F (p ++ r) = none) ∧ at'.size + 300 * (d + 1) ≤ 100000000 ∧ W.heap.size = B ∧ ∀ d', d = d' + 1 → BelOk t F A O bl ino K d') := ⟨hp, hdp, hat, hB, IH⟩
  -- the box of the yield function
  have A0 := below_alloc W (.cells #[.func (.yield L) #[] #[]] 159)
  have hbx := heap_alloc_new W (.cells #[.func (.yield L) #[] #[]] 159)
  obtain ⟨W0, hW0⟩ : ∃ W0, W.alloc (.cells #[.func (.yield L) #[] #[]] 159) = W0 := ⟨_, rfl⟩
  rw [hW0] at A0 hbx
  have J0 : J 0 W0 := hJ 0 W W0 h0 (Chw.of_below A0)
  have c1 := (hT 0 W0 J0).2.2.1
  have HN : Hid (Calls Tryz.prog 46 #[ptr (A p)] W0 fun e w' => ∃ v, e = .returned v ∧ w'.ownsRow W0.heap.size 9 1 v (nmOf F p).length ((nmOf F p).map encStr) ∧ Below W0.heap.size W0 w') := (hT 0 W0 J0).2.1.names hK hp
  have HA0 : Hid (Below W.heap.size W W0 ∧ W0.heap[W.heap.size]? = some (.cells #[.func (.yield L) #[] #[]] 159) ∧ J 0 W0) := ⟨A0, hbx, J0⟩
  clear hJ hT hY hp hdp hat IH A0 hbx J0 h0
  refine (callsIn_wide (n := 5)).1 (callsIn_of_wp_marks Tryz.func101 rfl trivial ?_ rfl)
  simp only [Tryz.ntmps101, List.size_toArray, List.length_cons, List.length_nil, Nat.reduceAdd, Nat.reduceSub, Array.replicate_succ, Array.replicate_zero, List.push_toArray, List.append_toArray, List.nil_append, List.cons_append]
  gi_wp2_with fail
  refine ⟨trivial, (callsIn_wide.2 HN.out).mono ?_⟩
  rintro e W1 ⟨v, rfl, ho, B1⟩
  obtain ⟨ga, gc, rfl⟩ := own_sl1 ho
  obtain ⟨N, hN⟩ : ∃ N, (nmOf F p).length = N := ⟨_, rfl⟩
  rw [hN] at ho ⊢
  have hNK : N ≤ 100000 := by
    rw [← hN]
    unfold nmOf
    rw [HP.out.1]
    cases nd with
    | file bs => exact Nat.zero_le _
    | dir s kn =>
      have h1 := (HT.out 0 W0 HA0.out.2.2).2.1.nms _ _ _ HP.out.1
      show (nmL kn).length ≤ _
      rw [nmL_len]
      omega
  have HW1 : Hid (B < W1.heap.size ∧ J 0 W1 ∧ W1.heap[B]? = some (.cells #[.func (.yield L) #[] #[]] 159) ∧ (nmOf F p).length = N ∧ ∀ j x, (nmOf F p)[j]? = some x → ∃ g o, ga = some ⟨g, 0, none⟩ ∧ B ≤ g ∧ W1.heap[g]? = some o ∧ ¬ isSt o ∧ ∀ Wr : World, Wr.heap[g]? = some o → Wr.cell? ⟨g, 0 + j, none⟩ = some (.string (nmX x))) := by
    have hBW := HP.out.2.2.2.1
    have hb := HA0.out.2.1
    have hb0 : W.heap.size < W0.heap.size := (Array.getElem?_eq_some_iff.1 hb).1
    refine ⟨by have := B1.size; omega, HJ.out 0 W0 W1 HA0.out.2.2 (Chw.of_below B1), by rw [← hBW]; exact ((Chg.ofBelowC B1).block _ hb0 (fun h => h)).trans hb, hN, fun j x hx => ?_⟩
    rcases ho.2 with ⟨e1, e2⟩ | ⟨g, cap, cur, e1, hge, hh, hcap, hmx, hcs, htk⟩
    · have := (List.getElem?_eq_some_iff.1 hx).1
      omega
    · cases e1
      refine ⟨g, _, rfl, by omega, hh, (fun ⟨_, _, h⟩ => by cases h), fun Wr hr => ?_⟩
      rw [cell_of_row _ _ _ _ _ _ hr]
      have hj := (List.getElem?_eq_some_iff.1 hx).1
      have h3 : cur.toList[j]? = some (encStr x) := by
        have h4 : (cur.toList.take (N * 1))[j]? = some (encStr x) := by rw [htk, List.getElem?_map, hx]; rfl
        rw [List.getElem?_take] at h4
        split at h4
        · exact h4
        · cases h4
      rw [Nat.zero_add]
      simpa [encStr] using h3
  clear HN ho B1 HA0 c1 hW0
  gi_wp2_with fail
  refine wpIn_loop (fun a Wr => ∃ (k : Nat) (ds : List Nat) (u5 u6 u7 u8 u9 u14 u15 u16 u17 u18 u19 u20 u21 u22 u23 u24 u25 u26 u27 u28 u29 u30 u31 u32 u33 u34 u35 u36 u37 u38 u39 u40 u41 u42 : Value), a = { tmps := #[.func (.yield L) #[] #[], .pointer (some ⟨bn, 0, none⟩), .pointer (some ⟨ba, 0, none⟩), .pointer (some ⟨B, 0, none⟩), undef, u5, u6, u7, u8, u9, ptr (A p), .slice ga N gc, .int .i64 (N : Int), .int .i64 (k : Int), u14, u15, u16, u17, u18, u19, u20, u21, u22, u23, u24, u25, u26, u27, u28, u29, u30, u31, u32, u33, u34, u35, u36, u37, u38, u39, u40, u41, u42], defers := ds.map mk } ∧ k ≤ N ∧ Hid (J (posP F d p at' k) Wr ∧ W1.heap.size ≤ Wr.heap.size ∧ (∀ j o, B ≤ j → W1.heap[j]? = some o → ¬ isSt o → Wr.heap[j]? = some o) ∧ ds.Nodup ∧ ∀ D ∈ ds, W1.heap.size ≤ D ∧ Wr.heap[D]? = some (.deferred (some [])))) (fun a _ => N - (intOf (a.tmps.getD 13 undef)).toNat) ?start ?round
  case start => exact ⟨0, [], _, _, _, _, _, _, _, _, _, _, _, _, _, _, _, _, _, _, _, _, _, _, _, _, _, _, _, _, _, _, _, _, _, _, rfl, Nat.zero_le _, HW1.out.2.1, Nat.le_refl _, (fun _ _ _ h _ => h), List.nodup_nil, fun _ h => by cases h⟩
  case round =>
    rintro a Wr ⟨k, ds, u5, u6, u7, u8, u9, u14, u15, u16, u17, u18, u19, u20, u21, u22, u23, u24, u25, u26, u27, u28, u29, u30, u31, u32, u33, u34, u35, u36, u37, u38, u39, u40, u41, u42, rfl, hk, HS⟩
    by_cases hlt : k < N
    · have q1 : (k : Int) < N := by omega
      obtain ⟨x, hx⟩ : ∃ x, (nmOf F p)[k]? = some x := ⟨_, List.getElem?_eq_getElem (by omega)⟩
      obtain ⟨g, og, rfl, hg0, hg1, hg2, hgc⟩ := HW1.out.2.2.2.2 k x hx
      obtain ⟨hB1, hTr, c1, c2⟩ := HT.out _ Wr HS.out.1
      have c16 := hgc Wr (HS.out.2.2.1 g og hg0 hg1 hg2)
      have c27 : Wr.cell? ⟨B, 0, none⟩ = some (.func (.yield L) #[] #[]) := by
        rw [cell_of_row _ _ _ _ _ _ (HS.out.2.2.1 B _ (Nat.le_refl _) HW1.out.2.2.1 (fun ⟨_, _, h⟩ => by cases h))]; rfl
      -- the kid
      obtain ⟨s, kn, rfl, hxk⟩ : ∃ s kn, nd = .dir s kn ∧ nmX x ∈ kn := by
        have hm := List.mem_of_getElem? hx
        unfold nmOf at hm
        rw [HP.out.1] at hm
        cases nd with
        | file bs => cases hm
        | dir s kn => exact ⟨s, kn, rfl, nmL_mem hm⟩
      obtain ⟨m, -, -, m2, -, -, hmm, -, -⟩ := hTr.dirM HP.out.1
      have hxs := name_size ((hTr.nms _ _ _ HP.out.1).2.1 _ hxk)
      have lk := hmm.look hxs
      have ek : kidF A p kn (nmX x) = some (ptr (A (p ++ [nmX x]))) := by unfold kidF; rw [(inB_iff _ _).2 hxk]; rfl
      rw [ek] at lk
      simp only [Option.getD_some] at lk
      have hks := hTr.dn _ _ _ _ HP.out.1 hxk
      obtain ⟨d', hd'⟩ : ∃ d', d = d' + 1 := by
        cases d with
        | zero =>
          have := HP.out.2.1 [nmX x] (by simp)
          rw [this] at hks; cases hks
        | succ d' => exact ⟨d', rfl⟩
      obtain ⟨ndk, hndk⟩ := Option.isSome_iff_exists.1 hks
      -- the text
      have hats := HP.out.2.2.1
      obtain ⟨P1, hP1⟩ : ∃ P1, at' ++ (⟨#[47]⟩ : ByteArray) = P1 := ⟨_, rfl⟩
      obtain ⟨X, hX⟩ : ∃ X, nmX x = X := ⟨_, rfl⟩
      obtain ⟨P2, hP2⟩ : ∃ P2, P1 ++ X = P2 := ⟨_, rfl⟩
      have HJT : Hid (joinT at' x = P2) := by show joinT at' x = P2; unfold joinT; rw [hP1, hX, hP2]
      have hs1 : ¬ 9223372036854775807 < at'.size + 1 := by omega
      have z1 : P1.size = at'.size + 1 := by rw [← hP1, ByteArray.size_append]; rfl
      have z2 : P2.size = P1.size + X.size := by rw [← hP2, ByteArray.size_append]
      rw [hX] at hxs
      have hs2 : ¬ 9223372036854775807 < P1.size + X.size := by omega
      have hy0 := HY.out 4 (posP F d p at' k) (joinT at' x, p ++ [nmX x]) Wr (rowsP_at F d p at' hx).1 HS.out.1
      simp only at hy0
      rw [HJT.out, hX] at hy0
      rw [hX, Nat.zero_add] at c16
      rw [hX] at lk hndk
      obtain ⟨kb, hkb⟩ : ∃ kb, A (p ++ [X]) = kb := ⟨_, rfl⟩
      rw [hkb] at hy0 lk
      obtain ⟨fn, tmps, assign, body, hy, hR⟩ := hy0
      have HX : Hid ((nmOf F p)[k]? = some x ∧ nmX x = X ∧ F (p ++ [X]) = some ndk ∧ d = d' + 1 ∧ A (p ++ [X]) = kb ∧ P2.size + 300 * (d' + 1) ≤ 100000000) := ⟨hx, hX, hndk, hd', hkb, by omega⟩
      clear hx hX hndk hd' hkb hTr hmm hks ek hxk hgc hB1 z1 z2 hats hxs hN hB
      gi_wp2_with fail
      refine hR.mono ?_
      rintro e W3 ⟨rfl, J3, hz3, hk3⟩
      have HJ3 : Hid (J (posP F d p at' k + 1) W3 ∧ Wr.heap.size ≤ W3.heap.size ∧ ∀ k o, B ≤ k → Wr.heap[k]? = some o → ¬ isSt o → W3.heap[k]? = some o) := ⟨J3, hz3, hk3⟩
      clear hR hy J3 hz3 hk3 c1 c2 m2 lk c16 c27 hs1 hs2 hP1 hP2
      gi_wp2_with fail
      refine ⟨trivial, (callsIn_wide.2 (below_any kb P2 W3)).mono ?_⟩
      rintro e W4 ⟨rfl, hW4⟩
      have HW4 : Hid (W4 = (W3.alloc (.cells #[ptr kb] 57)).alloc (.cells #[.string P2] 9)) := hW4
      clear hW4
      gi_wp2_with fail
      refine range_any rfl (fun _ _ => by kernel_rfl) (by omega) ?_
      intro fn rec hrec
      have HREC : Hid (∀ st, rec st = _) := hrec
      clear hrec
      obtain ⟨hx, hX, hndk, hd', hkb, hP2s⟩ := HX.out
      have hW4 := HW4.out
      have h43 : W4.heap.size = W3.heap.size + 2 := by rw [hW4]; simp
      have hB3 : B ≤ W3.heap.size := (HT.out _ W3 HJ3.out.1).1
      obtain ⟨D, hD⟩ : ∃ D, W4.heap.size = D := ⟨_, rfl⟩
      obtain ⟨W5, hW5⟩ : ∃ W5, (W4.alloc (.deferred (some []))).alloc (.loop (rec .ready)) = W5 := ⟨_, rfl⟩
      rw [hD, hW5]
      have B34 : Below W3.heap.size W3 W4 := by rw [hW4]; exact (below_alloc _ _).trans ((below_alloc _ _).mono (below_alloc _ _).size)
      have B45 : Below W4.heap.size W4 W5 := by rw [← hW5]; exact (below_alloc _ _).trans ((below_alloc _ _).mono (below_alloc _ _).size)
      have z5 : W5.heap.size = D + 2 := by rw [← hW5]; simp [hD]
      have b0 : W5.heap[W3.heap.size]? = some (.cells #[ptr kb] 57) := by
        rw [B45.block _ (by omega), hW4]
        exact ((below_alloc (W3.alloc (.cells #[ptr kb] 57)) _).block _ (by simp)).trans (heap_alloc_new _ _)
      have b1 : W5.heap[W3.heap.size + 1]? = some (.cells #[.string P2] 9) := by
        rw [B45.block _ (by omega), hW4]
        have := heap_alloc_new (W3.alloc (.cells #[ptr kb] 57)) (.cells #[.string P2] 9)
        simpa using this
      have b2 : W5.heap[D]? = some (.deferred (some [])) := by
        rw [← hW5]
        exact ((below_alloc (W4.alloc (.deferred (some []))) _).block _ (by simp [hD])).trans (by rw [← hD]; exact heap_alloc_new _ _)
      have b3 : W5.heap[D + 1]? = some (.loop (rec .ready)) := by
        rw [← hW5]
        have := heap_alloc_new (W4.alloc (.deferred (some []))) (.loop (rec .ready))
        simpa [hD] using this
      have hB1 := HW1.out.1
      have hk5 : ∀ j o, B ≤ j → W1.heap[j]? = some o → ¬ isSt o → W5.heap[j]? = some o := fun j o h1 h2 h3 => by
        have h4 := HS.out.2.1
        have h5 := HJ3.out.2.1
        have h6 := (Array.getElem?_eq_some_iff.1 h2).1
        exact (B45.block j (by omega)).trans ((B34.block j (by omega)).trans (HJ3.out.2.2 j o h1 (HS.out.2.2.1 j o h1 h2 h3) h3))
      have J5 : J (posP F d p at' k + 1) W5 := HJ.out _ W4 W5 (HJ.out _ W3 W4 HJ3.out.1 (Chw.of_below B34)) (Chw.of_below B45)
      have hW1s := HS.out.2.1
      have hW3s := HJ3.out.2.1
      have HROW : Hid (∀ i y, (rowsP F (d' + 1) (p ++ [X]) P2)[i]? = some y → (rowsP F (d + 1) p at')[posP F d p at' k + 1 + i]? = some y) := fun i y hy => by
        have := (rowsP_at F d p at' hx).2 i y
        rw [HJT.out, hX, hd'] at this
        rw [hd'] at *
        exact this hy
      have ih := (HP.out.2.2.2.2 d' hd') (p ++ [X]) ndk P2 W3.heap.size (W3.heap.size + 1) (D + 1) W5.heap.size
        (fun i Wx => J (posP F d p at' k + 1 + i) Wx ∧ Wx.heap[D + 1]? = some (.loop (rec .ready)) ∧ W5.heap.size ≤ Wx.heap.size ∧ ∀ j o, B ≤ j → W5.heap[j]? = some o → ¬ isSt o → ¬ j = D + 1 → Wx.heap[j]? = some o) W5 hndk
        (fun r hr => by
          have := HP.out.2.1 (X :: r) (by simp; omega)
          simpa using this) hP2s
        (fun i Wx Wy h hb => ⟨HJ.out _ Wx Wy h.1 (hb.mono (by omega)), hb.block _ _ h.2.1 (.inl (by omega)), Nat.le_trans h.2.2.1 hb.size, fun j o h1 h2 h3 h4 => hb.block j o (h.2.2.2 j o h1 h2 h3 h4) (.inl (Array.getElem?_eq_some_iff.1 h2).1)⟩)
        (fun i Wx h => ⟨h.2.2.1, (HT.out _ Wx h.1).2.1, by rw [cell_of_row _ _ _ _ _ _ (h.2.2.2 W3.heap.size _ hB3 b0 (fun ⟨_, _, h⟩ => by cases h) (by omega)), hkb]; rfl, by rw [cell_of_row _ _ _ _ _ _ (h.2.2.2 (W3.heap.size + 1) _ (by omega) b1 (fun ⟨_, _, h⟩ => by cases h) (by omega))]; rfl⟩)
        ?hy rfl ⟨J5, b3, Nat.le_refl _, fun _ _ _ h _ _ => h⟩
      case hy =>
        rintro m i y Wx hyr ⟨j1, j2, j3, j4⟩
        obtain ⟨Wz, hWz⟩ : ∃ Wz, Wx.putObj (D + 1) (.loop (rec .busy)) = Wz := ⟨_, rfl⟩
        have hzo : ∀ j, ¬ j = D + 1 → Wz.heap[j]? = Wx.heap[j]? := fun j h => by rw [← hWz]; exact World.putObj_heap_other h
        have hzs : Wz.heap.size = Wx.heap.size := by rw [← hWz]; simp [World.putObj]
        have hzl : Wz.heap[D + 1]? = some (.loop (rec .busy)) := by rw [← hWz]; exact World.putObj_heap_same (by omega)
        have JZ : J (posP F d p at' k + 1 + i) Wz := HJ.out _ Wx Wz j1 (by rw [← hWz]; exact Chw.put j2 (by omega) _)
        have cB : Wz.cell? ⟨B, 0, none⟩ = some (.func (.yield L) #[] #[]) := by
          rw [cell_of_row _ _ _ _ _ _ ((hzo B (by omega)).trans (j4 B _ (Nat.le_refl _) (hk5 B _ (Nat.le_refl _) HW1.out.2.2.1 (fun ⟨_, _, h⟩ => by cases h)) (fun ⟨_, _, h⟩ => by cases h) (by omega)))]; rfl
        have hy1 := HY.out (m - 1) (posP F d p at' k + 1 + i) y Wz (HROW.out i y hyr) JZ
        obtain ⟨T, Q⟩ := y
        simp only at hy1
        obtain ⟨AQ, hAQ⟩ : ∃ AQ, A Q = AQ := ⟨_, rfl⟩
        rw [hAQ] at hy1
        obtain ⟨fn1, tmps1, assign1, body1, hy2, hR1⟩ := hy1
        have HZ : Hid ((∀ j, ¬ j = D + 1 → Wz.heap[j]? = Wx.heap[j]?) ∧ Wz.heap.size = Wx.heap.size ∧ Wz.heap[D + 1]? = some (.loop (rec .busy)) ∧ W5.heap.size ≤ Wx.heap.size ∧ (∀ j o, B ≤ j → W5.heap[j]? = some o → ¬ isSt o → ¬ j = D + 1 → Wx.heap[j]? = some o) ∧ B ≤ D ∧ W5.heap.size = D + 2) := ⟨hzo, hzs, hzl, j3, j4, by omega, z5⟩
        refine yield_any HREC.out j2 rfl ?_
        simp only [hAQ]
        clear HREC HROW hzo hzs hzl JZ hyr j1 j3 j4 b0 b1 b2 b3 J5 hk5 hB1 hW1s hW3s z5 B34 B45 hB3 h43 hD hW5 hW4 HW4 HX hx hX hndk hd' hkb hP2s HS hAQ
        gi_wp2_with fail
        refine ⟨j2, ?_⟩
        rw [hWz]
        clear hWz
        gi_wp2_with fail
        refine ⟨(fun h => by cases h), (show RoundIn (Fence.wide.inRound (D + 1)) (m - 1) Tryz.prog L fn1 tmps1 assign1 body1 Wz _ from hR1).mono ?_⟩
        rintro e W6 ⟨rfl, J6, hz6, hk6⟩
        have H6 : Hid (W6.heap[D + 1]? = some (.loop (rec .busy)) ∧ (J (posP F d p at' k + 1 + (i + 1)) (W6.putObj (D + 1) (.loop (rec .ready))) ∧ (W6.putObj (D + 1) (.loop (rec .ready))).heap[D + 1]? = some (.loop (rec .ready)) ∧ W5.heap.size ≤ W6.heap.size ∧ ∀ j o, B ≤ j → W5.heap[j]? = some o → ¬ isSt o → ¬ j = D + 1 → (W6.putObj (D + 1) (.loop (rec .ready))).heap[j]? = some o) ∧ Kpy W5.heap.size Wx (W6.putObj (D + 1) (.loop (rec .ready)))) := by
          obtain ⟨y1, y2, y3, y4, y5, y6, y7⟩ := HZ.out
          have hl6 : W6.heap[D + 1]? = some (.loop (rec .busy)) := hk6 (D + 1) _ (by omega) y3 (fun ⟨_, _, h⟩ => by cases h)
          obtain ⟨Wv, hWv⟩ : ∃ Wv, W6.putObj (D + 1) (.loop (rec .ready)) = Wv := ⟨_, rfl⟩
          have hvo : ∀ j, ¬ j = D + 1 → Wv.heap[j]? = W6.heap[j]? := fun j h => by rw [← hWv]; exact World.putObj_heap_other h
          have hvs : Wv.heap.size = W6.heap.size := by rw [← hWv]; simp [World.putObj]
          have hvl : Wv.heap[D + 1]? = some (.loop (rec .ready)) := by rw [← hWv]; exact World.putObj_heap_same (by omega)
          rw [hWv]
          refine ⟨hl6, ⟨?_, hvl, by omega, fun j o h1 h2 h3 h4 => (hvo j h4).trans (hk6 j o h1 ((y1 j h4).trans (y5 j o h1 h2 h3 h4)) h3)⟩, by omega, fun j o h1 h2 h3 => (hvo j (by omega)).trans (hk6 j o (by omega) ((y1 j (by omega)).trans h2) h3)⟩
          have J6' : J (posP F d p at' k + 1 + (i + 1)) W6 := by have := J6; rwa [Nat.add_assoc (posP F d p at' k + 1)] at this
          exact HJ.out _ W6 Wv J6' (by rw [← hWv]; exact Chw.put hl6 (by omega) _)
        clear HZ J6 hz6 hk6 hR1 hy2 cB
        gi_wp2_with fail
        exact H6.out
      refine (show CallsIn Fence.wide (5 - 1) Tryz.prog 101 #[.func (.yield (D + 1)) #[] #[], .pointer (some ⟨W3.heap.size, 0, none⟩), .pointer (some ⟨W3.heap.size + 1, 0, none⟩)] W5 _ from callsIn_wide.2 ih).mono ?_
      rintro e W7 ⟨⟨v, rfl⟩, ⟨j1, j2, j3, j4⟩, hz7⟩
      refine ⟨⟨v, rfl⟩, j2, ?_⟩
      obtain ⟨W8, hW8⟩ : ∃ W8, W7.putObj (D + 1) (.loop (rec .exhausted)) = W8 := ⟨_, rfl⟩
      have HL : Hid (J (posP F d p at' (k + 1)) W8 ∧ W1.heap.size ≤ W8.heap.size ∧ (∀ j o, B ≤ j → W1.heap[j]? = some o → ¬ isSt o → W8.heap[j]? = some o) ∧ (D :: ds).Nodup ∧ ∀ E ∈ D :: ds, W1.heap.size ≤ E ∧ W8.heap[E]? = some (.deferred (some []))) := by
        have hvo : ∀ j, ¬ j = D + 1 → W8.heap[j]? = W7.heap[j]? := fun j h => by rw [← hW8]; exact World.putObj_heap_other h
        have hvs : W8.heap.size = W7.heap.size := by rw [← hW8]; simp [World.putObj]
        have hpos := posP_next F d p at' hx
        rw [hX, HJT.out, hd'] at hpos
        rw [hd'] at j1 ⊢
        have hds : ∀ E ∈ ds, W1.heap.size ≤ E ∧ E < Wr.heap.size := fun E hE => ⟨(HS.out.2.2.2.2 E hE).1, (Array.getElem?_eq_some_iff.1 (HS.out.2.2.2.2 E hE).2).1⟩
        refine ⟨?_, by omega, (fun j o h1 h2 h3 => by have h4 := (Array.getElem?_eq_some_iff.1 h2).1; exact (hvo j (by omega)).trans (j4 j o h1 (hk5 j o h1 h2 h3) h3 (by omega))), List.nodup_cons.2 ⟨fun h => by have := (hds D h).2; omega, HS.out.2.2.2.1⟩, fun E hE => ?_⟩
        · rw [hpos]
          exact HJ.out _ W7 W8 j1 (by rw [← hW8]; exact Chw.put j2 (by omega) _)
        · rcases List.mem_cons.1 hE with rfl | hE
          · exact ⟨by omega, (hvo E (by omega)).trans (j4 E _ (by omega) b2 (fun ⟨_, _, h⟩ => by cases h) (by omega))⟩
          · obtain ⟨h1, h2⟩ := hds E hE
            refine ⟨h1, (hvo E (by omega)).trans (j4 E _ (by omega) ((B45.block E (by omega)).trans ((B34.block E (by omega)).trans (HJ3.out.2.2 E _ (by omega) (HS.out.2.2.2.2 E hE).2 (fun ⟨_, _, h⟩ => by cases h)))) (fun ⟨_, _, h⟩ => by cases h) (by omega))⟩
      rw [hW8]
      have wk : IntKind.i64.wrap ((k : Int) + 1) = (k : Int) + 1 := by rw [IntKind.wrap_i64]; omega
      clear HREC HROW j1 j2 j3 j4 hz7 ih b0 b1 b2 b3 J5 hk5 hB1 hW1s hW3s z5 B34 B45 hB3 h43 hW5 hW4 HW4 HX hx hX hndk hd' hkb hP2s HS hW8 HJ3 HJT
      gi_wp2_with fail
      refine ⟨⟨k + 1, D :: ds, _, _, _, _, _, _, _, _, _, _, _, _, _, _, _, _, _, _, _, _, _, _, _, _, _, _, _, _, _, _, _, _, _, _, rfl, by omega, HL.out⟩, ?_⟩
      simp [intOf]
      omega
    · have q1 : ¬ (k : Int) < N := by omega
      have hkN : k = N := by omega
      gi_wp2_with fail
      show LeavesInM _ _ _ _ _ _ _ _ _
      refine leaves_marks ds Wr HS.out.2.2.2.1 (fun D hD => (HS.out.2.2.2.2 D hD).2) (fun W' e1 e2 e3 e4 e5 => ?_)
      have hJ' : J (rowsP F (d + 1) p at').length W' := by
        have h1 := HS.out.1
        rw [hkN, ← hN, posP_end] at h1
        refine HJ.out _ Wr W' h1 ⟨e2, e3, e4, by omega, fun j o hj hm => ?_⟩
        by_cases hd : j ∈ ds
        · have h3 := HS.out.2.2.2.2 j hd
          have h4 := HW1.out.1
          rw [h3.2] at hj
          cases hj
          rcases hm with hm | hm
          · omega
          · exact absurd (.inr ⟨_, rfl⟩) hm
        · exact (e5 j hd).trans hj
      refine ⟨.tuple #[], by simp [results, Tryz.f101, go_sem], ⟨_, rfl⟩, hJ', ?_⟩
      have := HW1.out.1
      have := HS.out.2.1
      omega
theorem below_all {t : Nat} {F : Pth → Option Nd} {A : Pth → Nat} {O : Nat → Option (Pth × Nat)} {bl ino : Int} {K : Nat} (hK : K ≤ 100000) : ∀ d, BelOk t F A O bl ino K d
  | 0 => below_in hK 0 (fun d' h => by omega)
  | d + 1 => below_in hK (d + 1) (fun d' h => by
    obtain rfl : d' = d := by omega
    exact below_all hK d')
end Go.Proofs.YtlnjnimenihhnaaGreatDoor

/-
  A tree in memory: what stands at each path.
-/
import Derived.Test.YtlnjnimenihhnaaGreatDoorTMap
import Derived.Test.YtlnjnimenihhnaaGreatDoorDBytes
import Derived.Test.YtlnjnimenihhnaaGreatDoorPUnder
import Derived.Test.YtlnjnimenihhnaaGreatDoorTInode
import Derived.Laws.MakeOwn
import Derived.BigQuiet
import Derived.Deep.QuietTactic
import Derived.BigRegion
namespace Go.Proofs.YtlnjnimenihhnaaGreatDoor
open Go.RowKit Go.Maps

/-- A file's bytes, or a directory's slots and names. -/
inductive Nd where
  | file (bs : List Int)
  | dir (s : Nat) (ns : List ByteArray)
def Nd.has : Nd → ByteArray → Prop
  | .file _, _ => False
  | .dir _ ns, nm => nm ∈ ns
abbrev Pth := List ByteArray
abbrev ptr (b : Nat) : Value := .pointer (some ⟨b, 0, none⟩)
/-- What stands where, each node's block, whose a block is. -/
structure Gs where
  F : Pth → Option Nd
  A : Pth → Nat
  O : Nat → Option (Pth × Nat)
def inB (nm : ByteArray) : List ByteArray → Bool
  | [] => false
  | x :: r => decide (nm = x) || inB nm r
theorem inB_iff (nm : ByteArray) : ∀ ns, inB nm ns = true ↔ nm ∈ ns
  | [] => by simp [inB]
  | x :: r => by simp [inB, inB_iff nm r]
theorem inB_not {nm : ByteArray} {ns : List ByteArray} (h : ¬ nm ∈ ns) : inB nm ns = false := by
  cases e : inB nm ns
  · rfl
  · exact absurd ((inB_iff _ _).1 e) h
def kidF (A : Pth → Nat) (p : Pth) (ns : List ByteArray) : ByteArray → Option Value := fun nm => if inB nm ns = true then some (ptr (A (p ++ [nm]))) else none

/-- A node in memory. -/
def NdM (w : World) (A : Pth → Nat) (O : Nat → Option (Pth × Nat)) (p : Pth) : Nd → Prop
  | .file bs => w.cell? ⟨A p, 0, none⟩ = some (.bool true) ∧ (∃ v, w.cell? ⟨A p, 1, none⟩ = some v ∧ w.ownsRow 0 5 1 v bs.length (bcells bs) ∧ ∀ b, v.ownBlock = some b → O b = some (p, 2)) ∧ w.cell? ⟨A p, 2, none⟩ = some (.map none) ∧ w.cell? ⟨A p, 3, none⟩ = some (.int .i64 0)
  | .dir s ns => w.cell? ⟨A p, 0, none⟩ = some (.bool false) ∧ w.cell? ⟨A p, 1, none⟩ = some (.slice none 0 0) ∧ (∃ m, w.cell? ⟨A p, 2, none⟩ = some (.map (some m)) ∧ O m = some (p, 1) ∧ SMap w m ns.length (kidF A p ns)) ∧ w.cell? ⟨A p, 3, none⟩ = some (.int .i64 s)

theorem own_far {S : Nat → Prop} {w w' : World} {N n : Nat} {u : Value} {xs : List Value} (h : w.ownsRow N 5 1 u n xs) (hc : Chg S w w') (hS : ∀ b, u.ownBlock = some b → ¬ S b) : w'.ownsRow N 5 1 u n xs := by
  refine ⟨h.1, ?_⟩
  rcases h.2 with h | ⟨g, cap, cur, rfl, hb, hg, r⟩
  · exact .inl h
  · refine .inr ⟨g, cap, cur, rfl, hb, ?_, r⟩
    rw [hc.block g (by
      by_cases hlt : g < w.heap.size
      · exact hlt
      · simp [Array.getElem?_eq_none (Nat.le_of_not_lt hlt)] at hg) (hS g rfl)]
    exact hg

theorem NdM.kept {S : Nat → Prop} {w w' : World} {A A' : Pth → Nat} {O O' : Nat → Option (Pth × Nat)} {p p' : Pth} {nd : Nd} (h : NdM w A O p nd) (hc : Chg S w w') (hown : O (A p) = some (p, 0)) (hS : ∀ b r, O b = some (p, r) → ¬ S b)
    (hA : A' p' = A p) (hK : ∀ nm, nd.has nm → A' (p' ++ [nm]) = A (p ++ [nm])) (hO : ∀ b r, O b = some (p, r) → O' b = some (p', r)) : NdM w' A' O' p' nd := by
  have hs := hS _ _ hown
  cases nd with
  | file bs =>
    obtain ⟨h0, ⟨v, h1, h2, h3⟩, h4, h5⟩ := h
    refine ⟨by rw [hA]; exact hc.cell h0 hs, ⟨v, by rw [hA]; exact hc.cell h1 hs, own_far h2 hc (fun b hb => hS b 2 (h3 b hb)), fun b hb => hO b 2 (h3 b hb)⟩, by rw [hA]; exact hc.cell h4 hs, by rw [hA]; exact hc.cell h5 hs⟩
  | dir s ns =>
    obtain ⟨h0, h1, ⟨m, h2, h3, h4⟩, h5⟩ := h
    refine ⟨by rw [hA]; exact hc.cell h0 hs, by rw [hA]; exact hc.cell h1 hs, ⟨m, by rw [hA]; exact hc.cell h2 hs, hO m 1 h3, ?_⟩, by rw [hA]; exact hc.cell h5 hs⟩
    refine (h4.kept (hc.block m h4.lt (hS m 1 h3))).ext (fun s _ => ?_)
    unfold kidF
    split
    · rename_i hm
      rw [hK s ((inB_iff _ _).1 hm)]
    · rfl

/-- A tree in memory: its struct is block t. -/
structure Tr (w : World) (t : Nat) (F : Pth → Option Nd) (A : Pth → Nat) (O : Nat → Option (Pth × Nat)) (bl ino : Int) (K : Nat) : Prop where
  root : A [] = t
  rdir : ∃ s ns, F [] = some (.dir s ns)
  lt : ∀ b x, O b = some x → b < w.heap.size
  own : ∀ p nd, F p = some nd → O (A p) = some (p, 0)
  nd : ∀ p nd, F p = some nd → NdM w A O p nd
  fr : ∀ p nd, F p = some nd → ∀ i, w.frozen? ⟨A p, i, none⟩ = false
  up : ∀ p nm, (F (p ++ [nm])).isSome = true → ∃ s ns, F p = some (.dir s ns) ∧ nm ∈ ns
  dn : ∀ p s ns nm, F p = some (.dir s ns) → nm ∈ ns → (F (p ++ [nm])).isSome = true
  nms : ∀ p s ns, F p = some (.dir s ns) → ns.Nodup ∧ (∀ nm ∈ ns, nameB nm = true) ∧ ns.length ≤ s ∧ s ≤ K
  fil : ∀ p bs, F p = some (.file bs) → bs.length ≤ 8458240 ∧ IsB bs
  cbl : w.cell? ⟨t, 4, none⟩ = some (.int .i64 bl)
  cin : w.cell? ⟨t, 5, none⟩ = some (.int .i64 ino)
  bb : 0 ≤ bl ∧ bl ≤ 20000 * K + 20000
  ib : 0 ≤ ino ∧ ino ≤ K + 256

theorem Tr.kept {S : Nat → Prop} {w w' : World} {t : Nat} {F : Pth → Option Nd} {A : Pth → Nat} {O : Nat → Option (Pth × Nat)} {bl ino : Int} {K : Nat} (h : Tr w t F A O bl ino K) (hc : Chg S w w') (hS : ∀ b x, O b = some x → ¬ S b) : Tr w' t F A O bl ino K := by
  obtain ⟨s, ns, hr⟩ := h.rdir
  have ht := hS _ _ (h.own _ _ hr)
  rw [h.root] at ht
  exact ⟨h.root, h.rdir, fun b x hb => Nat.lt_of_lt_of_le (h.lt b x hb) hc.size, h.own, fun p nd hp => (h.nd p nd hp).kept hc (h.own p nd hp) (fun b r hb => hS b _ hb) rfl (fun _ _ => rfl) (fun _ _ h => h), fun p nd hp i => (World.frozen?_of_block (hc.block _ (h.lt _ _ (h.own p nd hp)) (hS _ _ (h.own p nd hp)))).trans (h.fr p nd hp i), h.up, h.dn, h.nms, h.fil, hc.cell h.cbl ht, hc.cell h.cin ht, h.bb, h.ib⟩
theorem Tr.more {w : World} {t : Nat} {F : Pth → Option Nd} {A : Pth → Nat} {O : Nat → Option (Pth × Nat)} {bl ino : Int} {K K' : Nat} (h : Tr w t F A O bl ino K) (hk : K ≤ K') : Tr w t F A O bl ino K' :=
  ⟨h.root, h.rdir, h.lt, h.own, h.nd, h.fr, h.up, h.dn, fun p s ns hp => let ⟨a, b, c, d⟩ := h.nms p s ns hp; ⟨a, b, c, Nat.le_trans d hk⟩, h.fil, h.cbl, h.cin, ⟨h.bb.1, by have := h.bb.2; omega⟩, ⟨h.ib.1, by have := h.ib.2; omega⟩⟩
end Go.Proofs.YtlnjnimenihhnaaGreatDoor

namespace Go.Proofs.YtlnjnimenihhnaaGreatDoor
open Go.RowKit Go.Maps

/-- Free slots, as they are made. -/
theorem makeEs (n : Nat) (hn : n ≤ 100000) : ∃ o : Obj, (∀ w : World, (Instr.makeSlice 153 (.int .i64 (n : Int)) (.int .i64 (n : Int))).run Tryz.prog w = .ok (.slice (some ⟨w.heap.size, 0, none⟩) n n) (w.alloc o)) ∧ ∀ w : World, Es (w.alloc o) (.slice (some ⟨w.heap.size, 0, none⟩) n n) (List.replicate n En.fr) := by
  obtain ⟨i0, hi, hz0, hz1, hz2⟩ := info_parts infoE
  refine ⟨.cells (madeCells (Value.agg #[.string ⟨#[]⟩, .int .i64 0]).cells (n * 2)) 164, fun w => ?_, fun w => ?_⟩
  · have := run_make (P := Tryz.prog) w 153 164 i0 _ Tryz.underlying153 hi hz0 .i64 .i64 (n : Int) (n : Int) (by omega) (by omega) (by rw [hz2]; omega) (by omega)
    rw [hz1] at this
    exact this
  · refine ⟨_, n, by rw [List.length_replicate], by rw [List.length_replicate]; exact Nat.le_refl _, by unfold maxLen; omega, (fun h => by cases h), fun _ => ⟨w.heap.size, 0, rfl, fun j hj => ?_⟩⟩
    rw [List.length_replicate] at hj
    have e : (List.replicate n En.fr).getD j En.fr = En.fr := by simp [List.getD, hj]
    rw [e]
    have h2 : (Value.agg #[.string ⟨#[]⟩, .int .i64 0]).cells = #[.string ⟨#[]⟩, .int .i64 0] := rfl
    constructor
    · rw [cell_of_row _ _ _ _ _ _ (heap_alloc_new w _), h2]
      simp [madeCells, show j * 2 < n * 2 by omega]
    · rw [cell_of_row _ _ _ _ _ _ (heap_alloc_new w _), h2]
      simp [madeCells, show j * 2 + 1 < n * 2 by omega, show (j * 2 + 1) % 2 = 1 by omega]

/-- The blocks of so many slots. -/
def slB (n : Nat) : Int := allN (sizeS n)
theorem slB_bd (n : Nat) : 0 ≤ slB n ∧ slB n ≤ 20000 := allN_bd _
set_option maxHeartbeats 800000 in
theorem slotBlocks_any (n : Nat) (w : World) (hT : Tab w) (hn : n ≤ 100000) :
    Calls Tryz.prog 84 #[.int .i64 n] w fun e w' => e = .returned (.int .i64 (slB n)) ∧ Below w.heap.size w w' := by
  obtain ⟨o, ho, hE⟩ := makeEs n hn
  have ho1 := ho w
  have hE1 := hE w
  have B1 : Below w.heap.size w (w.alloc o) := (Below.refl _ _).alloc (Nat.le_refl _) _
  have hT1 : Tab (w.alloc o) := fun j hj => (Chg.ofBelowC B1).cell (hT j hj) (fun h => h)
  have hb := dbytes_any _ _ _ hT1 hE1 (by rw [List.length_replicate]; exact hn) (fun j hj => by
    have hj' : j < n := by simpa using hj
    simp [List.getD, hj', En.fr, ByteArray.size])
  rw [List.length_replicate] at hb
  go_enter Tryz.func84, Tryz.ntmps84
  go_wp2_with fail
  refine hb.mono ?_
  rintro e w1 ⟨g, rfl, _, _, B2⟩
  have hsz : sizeS n ≤ 16777216 := by unfold sizeS; omega
  have B3 := B1.trans (B2.mono B1.size)
  clear hb hE1 hE ho ho1 hT1 B1 B2
  go_wp2_with fail
  refine (all_any _ _).mono ?_
  rintro e w2 ⟨rfl, C4⟩
  have B5 := B3.trans ((C4.below (Nat.le_refl _) (fun _ h => h.elim)).mono B3.size)
  clear C4 B3
  go_wp2_with fail
  go_ret
  exact ⟨rfl, B5⟩

/-- The blocks of a node. -/
def Nd.blk : Nd → Int
  | .file bs => allN bs.length
  | .dir s _ => slB s
theorem Nd.blk_bd (nd : Nd) : 0 ≤ nd.blk ∧ nd.blk ≤ 20000 := by cases nd <;> exact allN_bd _
set_option maxHeartbeats 800000 in
theorem blocksF_any (b : Nat) (v : Value) (bs : List Int) (w : World) (h0 : w.cell? ⟨b, 0, none⟩ = some (.bool true)) (h1 : w.cell? ⟨b, 1, none⟩ = some v) (h2 : w.ownsRow 0 5 1 v bs.length (bcells bs)) :
    Calls Tryz.prog 56 #[ptr b] w fun e w' => e = .returned (.int .i64 (allN bs.length)) ∧ Below w.heap.size w w' := by
  obtain ⟨a, c, rfl⟩ : ∃ a c, v = .slice a bs.length c := by
    rcases h2.2 with ⟨rfl, h⟩ | ⟨g, cap, cur, rfl, _⟩
    · exact ⟨none, 0, by rw [h]⟩
    · exact ⟨_, _, rfl⟩
  clear h2
  go_enter Tryz.func56, Tryz.ntmps56
  go_wp2_with fail
  refine (all_any _ _).mono ?_
  rintro e w2 ⟨rfl, C4⟩
  have B5 := C4.below (Nat.le_refl _) (fun _ h => h.elim)
  clear C4
  go_wp2_with fail
  go_ret
  exact ⟨rfl, B5⟩
set_option maxHeartbeats 800000 in
theorem blocksD_any (b s : Nat) (w : World) (hT : Tab w) (h0 : w.cell? ⟨b, 0, none⟩ = some (.bool false)) (h1 : w.cell? ⟨b, 3, none⟩ = some (.int .i64 s)) (hs : s ≤ 100000) :
    Calls Tryz.prog 56 #[ptr b] w fun e w' => e = .returned (.int .i64 (slB s)) ∧ Below w.heap.size w w' := by
  go_enter Tryz.func56, Tryz.ntmps56
  go_wp2_with fail
  refine (slotBlocks_any _ _ hT hs).mono ?_
  rintro e w2 ⟨rfl, B⟩
  clear h0 h1
  go_wp2_with fail
  go_ret
  exact ⟨rfl, B⟩
/-- The blocks that a further name needs. -/
def furB (s n : Nat) : Int := if n < s then 0 else slB (s + 1) - slB s
theorem tab_below {w w' : World} (h : Tab w) (hb : Below w.heap.size w w') : Tab w' := fun j hj => (Chg.ofBelowC hb).cell (h j hj) (fun h => h)
theorem SMap.lenN {w : World} {m n : Nat} {f : ByteArray → Option Value} (h : SMap w m n f) (ty : TypeId) (k : Nat) :
    (Builtin.len_ #[54] ty #[.map (some m)]).run Tryz.prog (w.drewN k) = .ok (.int .i64 n) (w.drewN k) := (h.kept (w' := w.drewN k) rfl).len ty
set_option maxHeartbeats 1600000 in
set_option maxRecDepth 100000 in
theorem further_any (b s n m : Nat) (f : ByteArray → Option Value) (w : World) (hT : Tab w) (h2 : w.cell? ⟨b, 2, none⟩ = some (.map (some m))) (hm : SMap w m n f) (h1 : w.cell? ⟨b, 3, none⟩ = some (.int .i64 s)) (hs : s ≤ 90000) (hn : n ≤ s) :
    Calls Tryz.prog 52 #[ptr b] w fun e w' => e = .returned (.int .i64 (furB s n)) ∧ Below w.heap.size w w' := by
  have hl := hm.lenN 3
  unfold furB
  by_cases h : n < s
  · have q : (n : Int) < s := by omega
    rw [if_pos h]
    clear hm
    go_enter Tryz.func52, Tryz.ntmps52
    go_wp2_with fail
    go_quiet (fail)
    clear hl
    go_wp2_with fail
    go_ret
    exact ⟨rfl, rfl, rfl, rfl, Nat.le_refl _, fun _ _ => rfl⟩
  · have q : ¬ (n : Int) < s := by omega
    have q2 : decide (n < s) = false := by simpa using h
    rw [if_neg h]
    have b1 := slB_bd (s + 1)
    have b2 := slB_bd s
    have HC : ∀ wb, (wb.cell? ⟨b, 3, none⟩ = some (.int .i64 s) ∧ Hid (Below w.heap.size w wb)) → ∀ k : Nat, k ≤ 100000 → Hid (Calls Tryz.prog 84 #[.int .i64 k] wb fun e w' => e = .returned (.int .i64 (slB k)) ∧ w'.cell? ⟨b, 3, none⟩ = some (.int .i64 s) ∧ Hid (Below w.heap.size w w')) := by
      intro wb hS k hk
      refine (slotBlocks_any k wb (tab_below hT hS.2.out) hk).mono ?_
      rintro e w' ⟨rfl, B⟩
      exact ⟨rfl, (Chg.ofBelowC B).cell hS.1 (fun h => h), hS.2.out.trans (B.mono hS.2.out.size)⟩
    have HC1 : ∀ wb, (wb.cell? ⟨b, 3, none⟩ = some (.int .i64 s) ∧ Hid (Below w.heap.size w wb)) → Hid (Calls Tryz.prog 84 #[.int .i64 ((s : Int) + 1)] wb fun e w' => e = .returned (.int .i64 (slB (s + 1))) ∧ w'.cell? ⟨b, 3, none⟩ = some (.int .i64 s) ∧ Hid (Below w.heap.size w w')) := fun wb hS => by
      have := HC wb hS (s + 1) (by omega)
      simpa using this
    have HC2 := fun wb hS => HC wb hS s (by omega)
    obtain ⟨X, hX⟩ : ∃ X, slB (s + 1) = X := ⟨_, rfl⟩
    obtain ⟨Y, hY⟩ : ∃ Y, slB s = Y := ⟨_, rfl⟩
    rw [hX] at HC1 b1
    rw [hY] at HC2 b2
    rw [hX, hY]
    have wx : IntKind.i64.wrap (X - Y) = X - Y := by rw [IntKind.wrap_i64]; omega
    have wr : IntKind.i64.wrap ((s : Int) + 1) = s + 1 := by rw [IntKind.wrap_i64]; omega
    have B0 : ∀ k, Hid (Below w.heap.size w (w.drewN k).drew) := fun k => ⟨rfl, rfl, rfl, Nat.le_refl _, fun _ _ => rfl⟩
    have B9 : ∀ k, Hid (Below w.heap.size w (w.drewN k)) := fun k => ⟨rfl, rfl, rfl, Nat.le_refl _, fun _ _ => rfl⟩
    clear HC hX hY hm
    go_enter Tryz.func52, Tryz.ntmps52
    go_wp2_with fail
    go_quiet (fail)
    clear hl
    go_wp2_with fail
    go_region_held (fun w' => w'.cell? ⟨b, 3, none⟩ = some (.int .i64 s) ∧ Hid (Below w.heap.size w w')) (first | with_reducible assumption | exact ⟨h1, B0 _⟩ | exact ⟨h1, B9 _⟩)
      (first | (go_at_call 84; refine (HC1 _ (by first | with_reducible assumption | exact ⟨h1, B0 _⟩ | exact ⟨h1, B9 _⟩)).out.mono ?_; rintro e w5 ⟨rfl, hS5⟩) | (go_at_call 84; refine (HC2 _ (by first | with_reducible assumption | exact ⟨h1, B0 _⟩ | exact ⟨h1, B9 _⟩)).out.mono ?_; rintro e w5 ⟨rfl, hS5⟩))
    all_goals go_wp2_with fail
    all_goals go_ret
    all_goals exact ⟨by first | rfl | (simp only [wx]; rfl), hS5.2.out⟩
end Go.Proofs.YtlnjnimenihhnaaGreatDoor

namespace Go.Proofs.YtlnjnimenihhnaaGreatDoor
open Go.RowKit Go.Maps

theorem grown_chg {w w' : World} {m : Nat} (h : w.grownBy w' (some m)) : Chg (fun k => k = m) w w' := (Chg.ofGrown h).mono (fun _ _ e => (Option.some.inj e).symm)
/-- Only the cells C, the blocks S and new blocks are other than they were. -/
structure Upd (C : Nat → Nat → Prop) (S : Nat → Prop) (w w' : World) : Prop where
  chg : Chg (fun k => S k ∨ ∃ i, C k i) w w'
  cell : ∀ b i v, ¬ S b → ¬ C b i → w.cell? ⟨b, i, none⟩ = some v → w'.cell? ⟨b, i, none⟩ = some v
  fr : ∀ b i, b < w.heap.size → ¬ S b → w'.frozen? ⟨b, i, none⟩ = w.frozen? ⟨b, i, none⟩
theorem Upd.ofChg {S : Nat → Prop} {w w' : World} (h : Chg S w w') : Upd (fun _ _ => False) S w w' :=
  ⟨h.mono (fun _ _ h => .inl h), fun _b _i _v hS _ hv => h.cell hv hS, fun b _i hb hS => World.frozen?_of_block (h.block b hb hS)⟩
theorem Upd.refl (C : Nat → Nat → Prop) (S : Nat → Prop) (w : World) : Upd C S w w := ⟨Chg.refl _ _, fun _ _ _ _ _ h => h, fun _ _ _ _ => rfl⟩
theorem Upd.mono {C C' : Nat → Nat → Prop} {S S' : Nat → Prop} {w w' : World} (h : Upd C S w w') (hC : ∀ b i, C b i → C' b i) (hS : ∀ b, S b → S' b) : Upd C' S' w w' :=
  ⟨h.chg.mono (fun _ _ h => h.elim (fun h => .inl (hS _ h)) (fun ⟨i, h⟩ => .inr ⟨i, hC _ _ h⟩)), fun b i v h1 h2 hv => h.cell b i v (fun x => h1 (hS _ x)) (fun x => h2 (hC _ _ x)) hv, fun b i hb h1 => h.fr b i hb (fun x => h1 (hS _ x))⟩
theorem Upd.trans {C : Nat → Nat → Prop} {S : Nat → Prop} {a b c : World} (h : Upd C S a b) (k : Upd C S b c) : Upd C S a c :=
  ⟨h.chg.trans k.chg (fun _ _ h => h), fun x i v h1 h2 hv => k.cell x i v h1 h2 (h.cell x i v h1 h2 hv), fun x i hx h1 => (k.fr x i (Nat.lt_of_lt_of_le hx h.chg.size) h1).trans (h.fr x i hx h1)⟩
theorem Upd.setCell (w : World) (b i : Nat) (v : Value) : Upd (fun x j => x = b ∧ j = i) (fun _ => False) w (w.setCell ⟨b, i, none⟩ v) :=
  ⟨Chg.setCell _ _ _ (.inr ⟨i, rfl, rfl⟩), fun x j u _ h hu => (World.cell?_setCell_other _ _ _ _ (fun e => h (by injection e with e1 e2; exact ⟨e1.symm, e2.symm⟩))).trans hu, fun x j _ _ => World.frozen?_setCell _ _ _ _⟩
theorem Upd.below {C : Nat → Nat → Prop} {S : Nat → Prop} {w w' : World} (h : Below w.heap.size w w') : Upd C S w w' := (Upd.ofChg (Chg.ofBelowC h)).mono (fun _ _ h => h.elim) (fun _ h => h.elim)
theorem Upd.lt {C : Nat → Nat → Prop} {S : Nat → Prop} {w w' : World} (h : Upd C S w w') : w.heap.size ≤ w'.heap.size := h.chg.size
theorem Upd.smap {C : Nat → Nat → Prop} {S : Nat → Prop} {w w' : World} {m n : Nat} {f : ByteArray → Option Value} (h : Upd C S w w') (hm : SMap w m n f) (h1 : ¬ S m) (h2 : ∀ i, ¬ C m i) : SMap w' m n f :=
  hm.kept (h.chg.block m hm.lt (fun h => h.elim h1 (fun ⟨i, h⟩ => h2 i h)))
set_option maxHeartbeats 1600000 in
set_option maxRecDepth 100000 in
theorem ttake_any (b s n m : Nat) (nm : ByteArray) (v : Value) (f : ByteArray → Option Value) (w : World) (hnm : nm.size ≤ 256) (h2 : w.cell? ⟨b, 2, none⟩ = some (.map (some m))) (hm : SMap w m n f) (h3 : w.cell? ⟨b, 3, none⟩ = some (.int .i64 s)) (hf : f nm = none) (hn : n ≤ s) (hs : s ≤ 90000) (hbm : ¬ b = m) (hfr : ∀ i, w.frozen? ⟨b, i, none⟩ = false) :
    Calls Tryz.prog 85 #[ptr b, .string nm, v] w fun e w' => e = .returned (.tuple #[]) ∧ SMap w' m (n + 1) (updB f nm (some v)) ∧ Upd (fun x i => x = b ∧ i = 3) (fun k => k = m) w w' ∧ w'.cell? ⟨b, 3, none⟩ = some (.int .i64 (max s (n + 1) : Nat)) := by
  obtain ⟨w1, hr, hm1, hg, hsz⟩ := hm.store hnm (by omega) v
  rw [hf] at hm1
  simp only [Option.isSome_none, Bool.false_eq_true, if_false] at hm1
  have C1 := grown_chg hg
  have g2 := C1.cell h2 hbm
  have g3 := C1.cell h3 hbm
  have hbl : b < w.heap.size := World.block_lt_of_cell? w ⟨b, 2, none⟩ h2
  have fr3 : w1.frozen? ⟨b, 3, none⟩ = false := (World.frozen?_of_block (C1.block b hbl hbm)).trans (hfr 3)
  have hl := (hm1.kept (w' := w1.drew) rfl).len 3
  go_enter Tryz.func85, Tryz.ntmps85
  go_wp2_with fail
  clear h2 h3 hr
  go_region
  go_wp2_with fail
  go_end0
  have C2 : Chg (fun k => k = b) w1 (w1.setCell ⟨b, 3, none⟩ (.int .i64 (max (s : Int) (n + 1)))) := Chg.setCell _ _ _ rfl
  have U1 : Upd (fun x i => x = b ∧ i = 3) (fun k => k = m) w w1 := (Upd.ofChg C1).mono (fun _ _ h => h.elim) (fun _ h => h)
  have U2 : Upd (fun x i => x = b ∧ i = 3) (fun k => k = m) w1 (w1.setCell ⟨b, 3, none⟩ (.int .i64 (max (s : Int) (n + 1)))) := (Upd.setCell w1 b 3 _).mono (fun _ _ h => h) (fun _ h => h.elim)
  refine ⟨rfl, (hm1.kept (C2.block m hm1.lt (fun e => hbm e.symm))).kept rfl, (U1.trans U2).trans ((Upd.ofChg (Chg.drew (fun _ => False) _)).mono (fun _ _ h => h.elim) (fun _ h => h.elim)), ?_⟩
  have e : ((max s (n + 1) : Nat) : Int) = max (s : Int) (n + 1) := by omega
  rw [e]
  exact World.cell?_setCell_same _ _ _ g3
end Go.Proofs.YtlnjnimenihhnaaGreatDoor

namespace Go.Proofs.YtlnjnimenihhnaaGreatDoor
open Go.RowKit Go.Maps

/-- A spot in a box. -/
def Sp (w : World) (b : Nat) (u0 u1 u2 : Value) : Prop := w.heap[b]? = some (.cells #[u0, u1, u2] 69 (0, 0))
theorem Sp.c {w : World} {b : Nat} {u0 u1 u2 : Value} (h : Sp w b u0 u1 u2) : w.cell? ⟨b, 0, none⟩ = some u0 ∧ w.cell? ⟨b, 1, none⟩ = some u1 ∧ w.cell? ⟨b, 2, none⟩ = some u2 := by
  unfold Sp at h
  refine ⟨?_, ?_, ?_⟩ <;> · rw [cell_of_row _ _ _ _ _ _ h]; rfl
theorem Sp.lt {w : World} {b : Nat} {u0 u1 u2 : Value} (h : Sp w b u0 u1 u2) : b < w.heap.size := World.block_lt_of_cell? w ⟨b, 0, none⟩ h.c.1
theorem Sp.fr {w : World} {b : Nat} {u0 u1 u2 : Value} (h : Sp w b u0 u1 u2) (j : Nat) : w.frozen? ⟨b, j, none⟩ = false := by
  unfold Sp at h
  simp [World.frozen?, h]
theorem Sp.kept {S : Nat → Prop} {w w' : World} {b : Nat} {u0 u1 u2 : Value} (h : Sp w b u0 u1 u2) (hc : Chg S w w') (hn : ¬ S b) : Sp w' b u0 u1 u2 := (hc.block b h.lt hn).trans h
theorem Sp.put {w : World} {b : Nat} {u0 u1 u2 : Value} (h : Sp w b u0 u1 u2) (v0 v1 v2 : Value) : Sp ((((w.setCell ⟨b, 0, none⟩ v0).setCell ⟨b, 1, none⟩ v1).setCell ⟨b, 2, none⟩ v2)) b v0 v1 v2 ∧ Chg (fun k => k = b) w ((((w.setCell ⟨b, 0, none⟩ v0).setCell ⟨b, 1, none⟩ v1).setCell ⟨b, 2, none⟩ v2)) := by
  have g0 := heap_setCell_same w b 0 _ _ v0 h
  have g1 := heap_setCell_same _ b 1 _ _ v1 g0
  have g2 := heap_setCell_same _ b 2 _ _ v2 g1
  refine ⟨?_, ((Chg.setCell (S := fun k => k = b) w ⟨b, 0, none⟩ v0 rfl).trans (Chg.setCell (S := fun k => k = b) _ ⟨b, 1, none⟩ v1 rfl) (fun _ _ h => h)).trans (Chg.setCell (S := fun k => k = b) _ ⟨b, 2, none⟩ v2 rfl) (fun _ _ h => h)⟩
  unfold Sp
  rw [g2]
  rfl

/-- The error of a way. -/
def folA (F : Pth → Option Nd) : Pth → List ByteArray → Int
  | _, [] => 0
  | p, x :: r => match F p with
    | none => 8
    | some (.file _) => 11
    | some (.dir _ _) => folA F (p ++ [x]) r
def folE (F : Pth → Option Nd) (ns : Pth) : Int := folA F [] ns
def ndO (F : Pth → Option Nd) (A : Pth → Nat) (p : Pth) : Option Addr := (F p).map fun _ => ⟨A p, 0, none⟩
def upO (A : Pth → Nat) (ns : Pth) : Option Addr := if ns = [] then none else some ⟨A ns.dropLast, 0, none⟩
def lastN (ns : Pth) : ByteArray := ns.getLast?.getD ⟨#[]⟩
def spR (F : Pth → Option Nd) (A : Pth → Nat) (ns : Pth) : Value := if folE F ns = 0 then .agg #[.pointer (upO A ns), .string (lastN ns), .pointer (ndO F A ns)] else .agg #[.pointer none, .string ⟨#[]⟩, .pointer none]
theorem tk_next {ns : List ByteArray} {k : Nat} (h : k < ns.length) : ns.take (k + 1) = ns.take k ++ [ns.getD k ByteArray.empty] := by
  rw [List.take_add_one]; simp [List.getD, h]
theorem upO_next {A : Pth → Nat} {p : Pth} {x : ByteArray} : upO A (p ++ [x]) = some ⟨A p, 0, none⟩ := by simp [upO]
theorem lastN_next {p : Pth} {x : ByteArray} : lastN (p ++ [x]) = x := by simp [lastN]
/-- What a directory's map tells of a name. -/
theorem Tr.kid {w : World} {t : Nat} {F : Pth → Option Nd} {A : Pth → Nat} {O : Nat → Option (Pth × Nat)} {bl ino : Int} {K : Nat} (h : Tr w t F A O bl ino K) {p : Pth} {s : Nat} {kn : List ByteArray} (hF : F p = some (.dir s kn)) (x : ByteArray) :
    ((kidF A p kn) x).getD (.pointer none) = .pointer (ndO F A (p ++ [x])) := by
  unfold kidF ndO
  by_cases hx : x ∈ kn
  · rw [if_pos ((inB_iff _ _).2 hx)]
    obtain ⟨nd, hn⟩ := Option.isSome_iff_exists.1 (h.dn p s kn x hF hx)
    rw [hn]; rfl
  · rw [if_neg (by rw [inB_not hx]; simp)]
    cases hn : F (p ++ [x]) with
    | none => rfl
    | some nd =>
      obtain ⟨s', ns', h1, h2⟩ := h.up p x (by rw [hn]; rfl)
      rw [hF] at h1
      cases h1
      exact absurd h2 hx

set_option maxHeartbeats 3200000 in
set_option maxRecDepth 100000 in
theorem follow_any (v : Value) (ns : List ByteArray) (t : Nat) (F : Pth → Option Nd) (A : Pth → Nat) (O : Nat → Option (Pth × Nat)) (bl ino : Int) (K : Nat) (w : World) (h : Tr w t F A O bl ino K) (hv : Tx w v ns) (hl : ns.length ≤ 1000) (hsz : ∀ j, j < ns.length → (ns.getD j ByteArray.empty).size ≤ 256) :
    Calls Tryz.prog 48 #[ptr t, v] w fun e w' => e = .returned (.tuple #[spR F A ns, .int .i64 (folE F ns)]) ∧ Below w.heap.size w w' := by
  obtain ⟨a, c, rfl⟩ := hv.form
  have hro := h.root
  obtain ⟨s0, n0, hr0⟩ := h.rdir
  have H : Hid (Tr w t F A O bl ino K) := h
  clear h
  go_enter Tryz.func48, Tryz.ntmps48
  go_wp2_with fail
  go_loopw [15] (fun i wr => ∃ k : Nat, k ≤ ns.length ∧ i = .int .i64 k ∧ Hid (folE F ns = folA F (ns.take k) (ns.drop k)) ∧ Hid (Below w.heap.size w wr) ∧ Hid (Sp wr w.heap.size (.pointer none) (.string ⟨#[]⟩) (.pointer none)) ∧ Hid (Sp wr (w.heap.size + 1) (.pointer (upO A (ns.take k))) (.string (lastN (ns.take k))) (.pointer (ndO F A (ns.take k))))) (fun i _ => ns.length - (intOf i).toNat)
  case atStart =>
    refine ⟨0, Nat.zero_le _, rfl, rfl, ?_, ?_, ?_⟩
    · exact ((Below.refl _ _).alloc (Nat.le_refl _) _).alloc (by simp) _
    · exact (Below.heap_alloc _ _ _ (by simp)).trans (heap_alloc_new w _)
    · have e := heap_alloc_new (w.alloc (.cells #[.pointer none, .string ⟨#[]⟩, .pointer none] 69)) (.cells #[.pointer none, .string ⟨#[]⟩, .pointer (some ⟨t, 0, none⟩)] 69)
      show _ = _
      simp only [List.take_zero, upO, lastN, ndO, hr0, hro]
      simpa using e
  case round =>
    obtain ⟨k, hk, rfl, hE, hB, hR, hS⟩ := hrel
    have hT : Hid (Tr wr t F A O bl ino K) := H.out.kept (Chg.ofBelowC hB.out) (fun _ _ _ h => h)
    have hv' := hv.below hB.out
    obtain ⟨r0, r1, r2⟩ := hR.out.c
    obtain ⟨q0, q1, q2⟩ := hS.out.c
    have fR := hR.out.fr
    have fS := hS.out.fr
    by_cases hlt : k < ns.length
    · have z1 : (k : Int) < ns.length := by omega
      obtain ⟨b, off, rfl, hc⟩ := hv'.nth hlt
      have c1 := hc k hlt
      obtain ⟨x, hx⟩ : ∃ x, Hid (ns.getD k ByteArray.empty = x) := ⟨_, rfl⟩
      have hxs := hsz k hlt
      rw [hx.out] at c1 hxs
      clear hc hv' hsz hv hro hr0
      have hdr : ns.drop k = x :: ns.drop (k + 1) := by rw [← hx.out, List.drop_eq_getElem_cons hlt]; simp [List.getD, hlt]
      rw [hdr] at hE
      have htk := tk_next hlt
      rw [hx.out] at htk
      have HK : Hid (ns.take (k + 1) = ns.take k ++ [x]) := htk
      clear htk hdr
      obtain ⟨p, hp⟩ : ∃ p, Hid (ns.take k = p) := ⟨_, rfl⟩
      rw [hp.out] at hE hS q0 q1 q2 HK
      cases hF : F p with
      | none =>
        have he : Hid (folE F ns = 8) := by show _ = _; rw [hE.out]; simp [folA, hF]
        rw [show ndO F A p = none by simp [ndO, hF]] at q2
        clear hF hE
        go_wp2_with fail
        obtain ⟨s1, s2⟩ := hR.out.put (.pointer none) (.string ⟨#[]⟩) (.pointer none)
        try simp only [Exit.inBlock, Exit.then]
        generalize World.setCell _ ⟨w.heap.size, 2, none⟩ _ = w9 at *
        obtain ⟨d0, d1, d2⟩ := s1.c
        refine bodyPost_ret (v := .tuple #[.agg #[.pointer none, .string ⟨#[]⟩, .pointer none], .int .i64 8]) ?_ rfl ?_
        · simp [results, Tryz.results48, go_sem, d0, d1, d2]
        · refine ⟨?_, ?_⟩
          · rw [spR, he.out, if_neg (by decide)]
          · exact hB.out.trans (s2.below hB.out.size (fun k hk => by rw [hk]; exact Nat.le_refl _))
      | some nd =>
        rw [show ndO F A p = some ⟨A p, 0, none⟩ by simp [ndO, hF]] at q2
        have hM := hT.out.nd p nd hF
        cases nd with
        | file bs =>
          have he : Hid (folE F ns = 11) := by show _ = _; rw [hE.out]; simp [folA, hF]
          obtain ⟨m0, -⟩ := hM
          clear hF hE
          go_wp2_with fail
          obtain ⟨s1, s2⟩ := hR.out.put (.pointer none) (.string ⟨#[]⟩) (.pointer none)
          try simp only [Exit.inBlock, Exit.then]
          generalize World.setCell _ ⟨w.heap.size, 2, none⟩ _ = w9 at *
          obtain ⟨d0, d1, d2⟩ := s1.c
          refine bodyPost_ret (v := .tuple #[.agg #[.pointer none, .string ⟨#[]⟩, .pointer none], .int .i64 11]) ?_ rfl ?_
          · simp [results, Tryz.results48, go_sem, d0, d1, d2]
          · refine ⟨?_, ?_⟩
            · rw [spR, he.out, if_neg (by decide)]
            · exact hB.out.trans (s2.below hB.out.size (fun k hk => by rw [hk]; exact Nat.le_refl _))
        | dir s kn =>
          have he : Hid (folE F ns = folA F (p ++ [x]) (ns.drop (k + 1))) := by show _ = _; rw [hE.out]; simp [folA, hF]
          obtain ⟨m0, -, ⟨m, m2, -, hm⟩, -⟩ := hM
          have hL := (hm.kept (w' := wr.drew) rfl).look hxs
          rw [hT.out.kid hF x] at hL
          clear hF hE hm
          go_wp2_with fail
          go_region
          go_wp2_with fail
          go_roundw
          case rel =>
            obtain ⟨s1, s2⟩ := hS.out.put (.pointer (some ⟨A p, 0, none⟩)) (.string x) (.pointer (ndO F A (p ++ [x])))
            refine ⟨k + 1, by omega, by go_num, ?_, ?_, ?_, ?_⟩
            · show _ = _; rw [HK.out]; exact he.out
            · exact (hB.out.trans (s2.below hB.out.size (fun k hk => by rw [hk]; omega))).trans ⟨rfl, rfl, rfl, Nat.le_refl _, fun _ _ => rfl⟩
            · exact (hR.out.kept s2 (by omega)).trans rfl
            · show _ = _
              rw [HK.out, upO_next, lastN_next]; exact s1
          case measure => simp [intOf]; omega
    · have z1 : ¬ (k : Int) < ns.length := by omega
      have hke : k = ns.length := by omega
      have he : Hid (folE F ns = 0) := by show _ = _; rw [hE.out, hke]; simp [folA]
      have HT : Hid (ns.take k = ns) := by show _ = _; rw [hke]; simp
      rw [HT.out] at q0 q1 q2
      clear hE hke hv' hv hsz hro hr0
      go_wp2_with fail
      obtain ⟨s1, s2⟩ := hR.out.put (.pointer (upO A ns)) (.string (lastN ns)) (.pointer (ndO F A ns))
      try simp only [Exit.inBlock, Exit.then]
      generalize World.setCell _ ⟨w.heap.size, 2, none⟩ _ = w9 at *
      obtain ⟨d0, d1, d2⟩ := s1.c
      refine bodyPost_ret (v := .tuple #[.agg #[.pointer (upO A ns), .string (lastN ns), .pointer (ndO F A ns)], .int .i64 0]) ?_ rfl ?_
      · simp [results, Tryz.results48, go_sem, d0, d1, d2]
      · refine ⟨?_, ?_⟩
        · rw [spR, he.out, if_pos rfl]
        · exact hB.out.trans (s2.below hB.out.size (fun k hk => by rw [hk]; exact Nat.le_refl _))
end Go.Proofs.YtlnjnimenihhnaaGreatDoor

namespace Go.Proofs.YtlnjnimenihhnaaGreatDoor
open Go.RowKit Go.Maps

abbrev spO (u0 u1 u2 : Value) : Obj := .cells #[u0, u1, u2] 69
theorem Sp.alloc (w : World) (u0 u1 u2 : Value) : Sp (w.alloc (spO u0 u1 u2)) w.heap.size u0 u1 u2 := heap_alloc_new w _
theorem furB_bd (s n : Nat) : -20000 ≤ furB s n ∧ furB s n ≤ 20000 := by
  have h1 := slB_bd (s + 1)
  have h2 := slB_bd s
  unfold furB
  split <;> omega
theorem below_alloc (w : World) (o : Obj) : Below w.heap.size w (w.alloc o) := (Below.refl _ _).alloc (Nat.le_refl _) _
theorem below_drew (N : Nat) (w : World) : Below N w w.drew := ⟨rfl, rfl, rfl, Nat.le_refl _, fun _ _ => rfl⟩

set_option maxHeartbeats 3200000 in
set_option maxRecDepth 100000 in
theorem tput_any (t u m n s : Nat) (x : ByteArray) (f : ByteArray → Option Value) (nd : Value) (v : Value) (bl : Int) (w : World) (hT : Tab w) (hx : x.size ≤ 256) (cbl : w.cell? ⟨t, 4, none⟩ = some (.int .i64 bl)) (c2 : w.cell? ⟨u, 2, none⟩ = some (.map (some m))) (hm : SMap w m n f) (c3 : w.cell? ⟨u, 3, none⟩ = some (.int .i64 s)) (hf : f x = none) (hn : n ≤ s) (hs : s ≤ 80000) (htm : ¬ t = m) (hum : ¬ u = m) (frt : ∀ i, w.frozen? ⟨t, i, none⟩ = false) (fru : ∀ i, w.frozen? ⟨u, i, none⟩ = false) (hb0 : -1000000000000 ≤ bl) (hb1 : bl ≤ 1000000000000) :
    Calls Tryz.prog 53 #[ptr t, .agg #[ptr u, .string x, nd], v] w fun e w' => e = .returned (.tuple #[]) ∧ SMap w' m (n + 1) (updB f x (some v)) ∧ Upd (fun b i => (b = t ∧ i = 4) ∨ (b = u ∧ i = 3)) (fun k => k = m) w w' ∧ w'.cell? ⟨t, 4, none⟩ = some (.int .i64 (bl - furB s n)) ∧ w'.cell? ⟨u, 3, none⟩ = some (.int .i64 (max s (n + 1) : Nat)) := by
  have fb := furB_bd s n
  have A0 := below_alloc w (spO (ptr u) (.string x) nd)
  have S0 := Sp.alloc w (ptr u) (.string x) nd
  obtain ⟨wa, hwa⟩ : ∃ wa, Hid (w.alloc (spO (ptr u) (.string x) nd) = wa) := ⟨_, rfl⟩
  rw [hwa.out] at A0 S0
  have C0 := Chg.ofBelowC A0
  have g4 := C0.cell cbl (fun h => h)
  have g3 := C0.cell c3 (fun h => h)
  have g2 := C0.cell c2 (fun h => h)
  have gm := hm.kept (C0.block m hm.lt (fun h => h))
  have htl : t < w.heap.size := World.block_lt_of_cell? w ⟨t, 4, none⟩ cbl
  have hul : u < w.heap.size := World.block_lt_of_cell? w ⟨u, 2, none⟩ c2
  have frt0 : ∀ i, wa.frozen? ⟨t, i, none⟩ = false := fun i => (World.frozen?_of_block (C0.block t htl (fun h => h))).trans (frt i)
  have fru0 : ∀ i, wa.frozen? ⟨u, i, none⟩ = false := fun i => (World.frozen?_of_block (C0.block u hul (fun h => h))).trans (fru i)
  have hTa := tab_below hT A0
  obtain ⟨X, hX⟩ : ∃ X, Hid (furB s n = X) := ⟨_, rfl⟩
  rw [hX.out] at fb
  rw [hX.out]
  have HB : ∀ wb, Hid (Below wa.heap.size wa wb) → Hid (Calls Tryz.prog 52 #[ptr u] wb fun e w' => e = .returned (.int .i64 X) ∧ w'.cell? ⟨t, 4, none⟩ = some (.int .i64 bl) ∧ w'.frozen? ⟨t, 4, none⟩ = false ∧ Hid (Below wa.heap.size wa w')) := by
    intro wb hb
    have C1 := Chg.ofBelowC hb.out
    have h9 := further_any u s n m f wb (tab_below hTa hb.out) (C1.cell g2 (fun h => h)) (gm.kept (C1.block m gm.lt (fun h => h))) (C1.cell g3 (fun h => h)) (by omega) hn
    rw [hX.out] at h9
    refine h9.mono ?_
    rintro e w' ⟨rfl, B⟩
    have B2 := hb.out.trans (B.mono hb.out.size)
    exact ⟨rfl, (Chg.ofBelowC B2).cell g4 (fun h => h), (World.frozen?_of_block ((Chg.ofBelowC B2).block t (Nat.lt_of_lt_of_le htl A0.size) (fun h => h))).trans (frt0 4), B2⟩
  have D0 : Hid (Below wa.heap.size wa wa.drew) := below_drew _ _
  obtain ⟨s0, s1, s2⟩ := S0.c
  have HS0 : Hid (Sp wa w.heap.size (ptr u) (.string x) nd) := S0
  have HG : Hid (wa.cell? ⟨u, 3, none⟩ = some (.int .i64 s) ∧ wa.cell? ⟨u, 2, none⟩ = some (.map (some m)) ∧ SMap wa m n f ∧ Below w.heap.size w wa) := ⟨g3, g2, gm, A0⟩
  have fr4 := frt0 4
  have wx : IntKind.i64.wrap (bl - X) = bl - X := by rw [IntKind.wrap_i64]; omega
  have END : ∀ w5, w5.cell? ⟨t, 4, none⟩ = some (.int .i64 bl) → Hid (Below wa.heap.size wa w5) → ∀ w6, w5.setCell ⟨t, 4, none⟩ (.int .i64 (bl - X)) = w6 → w6.cell? ⟨w.heap.size, 0, none⟩ = some (ptr u) ∧ w6.cell? ⟨w.heap.size, 1, none⟩ = some (.string x) ∧ Hid (w6.cell? ⟨t, 4, none⟩ = some (.int .i64 (bl - X)) ∧ Upd (fun b i => b = t ∧ i = 4) (fun _ => False) w w6 ∧ w6.cell? ⟨u, 2, none⟩ = some (.map (some m)) ∧ w6.cell? ⟨u, 3, none⟩ = some (.int .i64 s) ∧ SMap w6 m n f ∧ ∀ i, w6.frozen? ⟨u, i, none⟩ = false) := by
    rintro w5 d4 HB5 w6 rfl
    have U5 : Upd (fun b i => b = t ∧ i = 4) (fun _ => False) w w5 := (Upd.below A0).trans (Upd.below HB5.out)
    have U6 := U5.trans ((Upd.setCell w5 t 4 (.int .i64 (bl - X))).mono (fun _ _ h => h) (fun _ h => h))
    have V6 : Upd (fun b i => b = t ∧ i = 4) (fun _ => False) wa (w5.setCell ⟨t, 4, none⟩ (.int .i64 (bl - X))) := (Upd.below HB5.out).trans ((Upd.setCell w5 t 4 (.int .i64 (bl - X))).mono (fun _ _ h => h) (fun _ h => h))
    exact ⟨V6.cell _ _ _ (fun h => h) (by omega) s0, V6.cell _ _ _ (fun h => h) (by omega) s1, World.cell?_setCell_same _ _ _ d4, U6, V6.cell _ _ _ (fun h => h) (by omega) g2, V6.cell _ _ _ (fun h => h) (by omega) g3, V6.smap gm (fun h => h) (by omega), fun i => (V6.fr u i (Nat.lt_of_lt_of_le hul A0.size) (fun h => h)).trans (fru0 i)⟩
  clear A0 S0 C0 g2 g3 gm hTa hT cbl c2 c3 hm frt
  go_enter Tryz.func53, Tryz.ntmps53
  go_wp2_with fail
  rw [hwa.out]
  go_region_with (first | (go_at_call 52; refine (HB _ (by first | exact D0)).out.mono ?_; clear HB; rintro e w5 ⟨rfl, d4, d5, HB5⟩))
  all_goals
    have hE := END w5 d4 HB5
    clear END d4 d5 HB5
    generalize w5.setCell ⟨t, 4, none⟩ (.int .i64 (bl - X)) = w6 at *
    obtain ⟨e0, e1, HE⟩ := hE w6 rfl
    clear hE
    go_wp2_with fail
    obtain ⟨e4, U6, e2, e3, em, ef⟩ := HE.out
    refine (ttake_any u s n m x v f w6 hx e2 em e3 hf hn (by omega) hum ef).mono ?_
    rintro e w7 ⟨rfl, hm7, U7, h7⟩
    clear HE e2 e3 em ef
    go_wp2_with fail
    go_end0
    refine ⟨rfl, hm7, (U6.mono (fun _ _ h => .inl h) (fun _ h => h.elim)).trans (U7.mono (fun _ _ h => .inr h) (fun _ h => h)), U7.cell _ _ _ htm (by omega) e4, h7⟩
end Go.Proofs.YtlnjnimenihhnaaGreatDoor

namespace Go.Proofs.YtlnjnimenihhnaaGreatDoor
open Go.RowKit Go.Maps

set_option maxHeartbeats 3200000 in
set_option maxRecDepth 100000 in
theorem tremove_any (t u m n q : Nat) (x : ByteArray) (f : ByteArray → Option Value) (bl ino B : Int) (w : World) (HK : ∀ wb, Below w.heap.size w wb → Calls Tryz.prog 56 #[ptr q] wb fun e w' => e = .returned (.int .i64 B) ∧ Below wb.heap.size wb w') (hx : x.size ≤ 256) (cbl : w.cell? ⟨t, 4, none⟩ = some (.int .i64 bl)) (cin : w.cell? ⟨t, 5, none⟩ = some (.int .i64 ino)) (c2 : w.cell? ⟨u, 2, none⟩ = some (.map (some m))) (hm : SMap w m n f) (hf : (f x).isSome = true) (htm : ¬ t = m) (hum : ¬ u = m) (frt : ∀ i, w.frozen? ⟨t, i, none⟩ = false) (hb0 : -1000000000000 ≤ bl) (hb1 : bl ≤ 1000000000000) (hi0 : -1000000000000 ≤ ino) (hi1 : ino ≤ 1000000000000) (hB : -20000 ≤ B ∧ B ≤ 20000) :
    Calls Tryz.prog 57 #[ptr t, .agg #[ptr u, .string x, ptr q]] w fun e w' => e = .returned (.tuple #[]) ∧ SMap w' m (n - 1) (updB f x none) ∧ Upd (fun b i => b = t ∧ (i = 4 ∨ i = 5)) (fun k => k = m) w w' ∧ w'.cell? ⟨t, 4, none⟩ = some (.int .i64 (bl + B)) ∧ w'.cell? ⟨t, 5, none⟩ = some (.int .i64 (ino + 1)) := by
  have A0 := below_alloc w (spO (ptr u) (.string x) (ptr q))
  have S0 := Sp.alloc w (ptr u) (.string x) (ptr q)
  obtain ⟨wa, hwa⟩ : ∃ wa, Hid (w.alloc (spO (ptr u) (.string x) (ptr q)) = wa) := ⟨_, rfl⟩
  rw [hwa.out] at A0 S0
  have C0 := Chg.ofBelowC A0
  have g4 := C0.cell cbl (fun h => h)
  have g5 := C0.cell cin (fun h => h)
  have g2 := C0.cell c2 (fun h => h)
  have gm := hm.kept (C0.block m hm.lt (fun h => h))
  have htl : t < w.heap.size := World.block_lt_of_cell? w ⟨t, 4, none⟩ cbl
  have frt0 : ∀ i, wa.frozen? ⟨t, i, none⟩ = false := fun i => (World.frozen?_of_block (C0.block t htl (fun h => h))).trans (frt i)
  have HB : ∀ wb, Hid (Below wa.heap.size wa wb) → Hid (Calls Tryz.prog 56 #[ptr q] wb fun e w' => e = .returned (.int .i64 B) ∧ w'.cell? ⟨t, 4, none⟩ = some (.int .i64 bl) ∧ w'.frozen? ⟨t, 4, none⟩ = false ∧ Hid (Below wa.heap.size wa w')) := by
    intro wb hb
    refine (HK wb (A0.trans (hb.out.mono A0.size))).mono ?_
    rintro e w' ⟨rfl, B⟩
    have B2 := hb.out.trans (B.mono hb.out.size)
    exact ⟨rfl, (Chg.ofBelowC B2).cell g4 (fun h => h), (World.frozen?_of_block ((Chg.ofBelowC B2).block t (Nat.lt_of_lt_of_le htl A0.size) (fun h => h))).trans (frt0 4), B2⟩
  have D0 : Hid (Below wa.heap.size wa wa.drew) := below_drew _ _
  obtain ⟨s0, s1, s2⟩ := S0.c
  have fr4 := frt0 4
  have wx : IntKind.i64.wrap (bl + B) = bl + B := by rw [IntKind.wrap_i64]; omega
  have wi : IntKind.i64.wrap (ino + 1) = ino + 1 := by rw [IntKind.wrap_i64]; omega
  have END : ∀ w5, w5.cell? ⟨t, 4, none⟩ = some (.int .i64 bl) → Hid (Below wa.heap.size wa w5) → ∀ w6, w5.setCell ⟨t, 4, none⟩ (.int .i64 (bl + B)) = w6 → w6.cell? ⟨t, 5, none⟩ = some (.int .i64 ino) ∧ w6.frozen? ⟨t, 5, none⟩ = false ∧ ∀ w7, w6.setCell ⟨t, 5, none⟩ (.int .i64 (ino + 1)) = w7 → w7.cell? ⟨w.heap.size, 0, none⟩ = some (ptr u) ∧ w7.cell? ⟨w.heap.size, 1, none⟩ = some (.string x) ∧ w7.cell? ⟨u, 2, none⟩ = some (.map (some m)) ∧ Hid (w7.cell? ⟨t, 4, none⟩ = some (.int .i64 (bl + B)) ∧ w7.cell? ⟨t, 5, none⟩ = some (.int .i64 (ino + 1)) ∧ Upd (fun b i => b = t ∧ (i = 4 ∨ i = 5)) (fun k => k = m) w w7 ∧ SMap w7 m n f) := by
    rintro w5 d4 HB5 w6 rfl
    have U5 : Upd (fun b i => b = t ∧ (i = 4 ∨ i = 5)) (fun k => k = m) w w5 := (Upd.below A0).trans (Upd.below HB5.out)
    have U6 := U5.trans ((Upd.setCell w5 t 4 (.int .i64 (bl + B))).mono (fun _ _ h => ⟨h.1, .inl h.2⟩) (fun _ h => h.elim))
    have V6 : Upd (fun b i => b = t ∧ (i = 4 ∨ i = 5)) (fun _ => False) wa (w5.setCell ⟨t, 4, none⟩ (.int .i64 (bl + B))) := (Upd.below HB5.out).trans ((Upd.setCell w5 t 4 (.int .i64 (bl + B))).mono (fun _ _ h => ⟨h.1, .inl h.2⟩) (fun _ h => h))
    have g5' : w5.cell? ⟨t, 5, none⟩ = some (.int .i64 ino) := (Chg.ofBelowC HB5.out).cell g5 (fun h => h)
    have g56 : (w5.setCell ⟨t, 4, none⟩ (.int .i64 (bl + B))).cell? ⟨t, 5, none⟩ = some (.int .i64 ino) := (Upd.setCell w5 t 4 _).cell _ _ _ (fun h => h) (by omega) g5'
    refine ⟨g56, (V6.fr t 5 (Nat.lt_of_lt_of_le htl A0.size) (fun h => h)).trans (frt0 5), ?_⟩
    rintro w7 rfl
    have W7 := Upd.setCell (w5.setCell ⟨t, 4, none⟩ (.int .i64 (bl + B))) t 5 (.int .i64 (ino + 1))
    have V7 := V6.trans (W7.mono (fun _ _ h => ⟨h.1, .inr h.2⟩) (fun _ h => h))
    exact ⟨V7.cell _ _ _ (fun h => h) (by omega) s0, V7.cell _ _ _ (fun h => h) (by omega) s1, V7.cell _ _ _ (fun h => h) (by omega) g2, W7.cell _ _ _ (fun h => h) (by omega) (World.cell?_setCell_same _ _ _ d4), World.cell?_setCell_same _ _ _ g56, U6.trans (W7.mono (fun _ _ h => ⟨h.1, .inr h.2⟩) (fun _ h => h.elim)), V7.smap gm (fun h => h) (by omega)⟩
  clear A0 S0 C0 g2 gm cbl cin c2 hm frt HK
  go_enter Tryz.func57, Tryz.ntmps57
  go_wp2_with fail
  rw [hwa.out]
  go_region_with (first | (go_at_call 56; refine (HB _ (by first | exact D0)).out.mono ?_; clear HB; rintro e w5 ⟨rfl, d4, d5, HB5⟩))
  all_goals
    have hE := END w5 d4 HB5
    clear END d4 d5 HB5
    generalize w5.setCell ⟨t, 4, none⟩ (.int .i64 (bl + B)) = w6 at *
    obtain ⟨e5, e6, HE⟩ := hE w6 rfl
    clear hE s0 s1 s2 frt0 fr4 g4 g5
    go_wp2_with fail
    generalize w6.setCell ⟨t, 5, none⟩ (.int .i64 (ino + 1)) = w7 at *
    obtain ⟨a0, a1, a2, HA⟩ := HE w7 rfl
    clear HE e5 e6
    obtain ⟨w8, hr, hm8, hg, hz⟩ := (HA.out.2.2.2.kept (w' := w7.drew) rfl).delete hx 0
    have HM : Hid (SMap w8 m (n - if (f x).isSome = true then 1 else 0) (updB f x none) ∧ w7.drew.grownBy w8 (some m)) := ⟨hm8, hg⟩
    clear hm8 hg hz
    go_region
    go_wp2_with fail
    go_end0
    obtain ⟨hm8, hg⟩ := HM.out
    obtain ⟨b4, b5, U7, -⟩ := HA.out
    rw [if_pos hf] at hm8
    have U8 : Upd (fun b i => b = t ∧ (i = 4 ∨ i = 5)) (fun k => k = m) w7 w8 := ((Upd.ofChg (Chg.drew (fun _ => False) w7)).mono (fun _ _ h => h.elim) (fun _ h => h.elim)).trans ((Upd.ofChg (grown_chg hg)).mono (fun _ _ h => h.elim) (fun _ h => h))
    have C8 := (Chg.drew (fun k => k = m) w7).trans (grown_chg hg) (fun _ _ h => h)
    exact ⟨rfl, hm8, U7.trans U8, C8.cell b4 htm, C8.cell b5 htm⟩
end Go.Proofs.YtlnjnimenihhnaaGreatDoor

namespace Go.Proofs.YtlnjnimenihhnaaGreatDoor
open Go.RowKit Go.Maps

/-- The error of a path. -/
def fiE (F : Pth → Option Nd) (s : ByteArray) : Int := if spE s = 0 then folE F (spN s) else spE s
theorem follow_ok {v : Value} {ns : List ByteArray} {t : Nat} {F : Pth → Option Nd} {A : Pth → Nat} {O : Nat → Option (Pth × Nat)} {bl ino : Int} {K : Nat} {w : World} (h : Tr w t F A O bl ino K) (hv : Tx w v ns) (hl : ns.length ≤ 1000) (hsz : ns.all nameB = true) (h0 : folE F ns = 0) :
    Calls Tryz.prog 48 #[ptr t, v] w fun e w' => e = .returned (.tuple #[.agg #[.pointer (upO A ns), .string (lastN ns), .pointer (ndO F A ns)], .int .i64 0]) ∧ Below w.heap.size w w' := by
  have := follow_any v ns t F A O bl ino K w h hv hl (fun j hj => by
    have := List.all_eq_true.1 hsz (ns.getD j ByteArray.empty) (by simp [List.getD, hj])
    have := nameB_parts this
    omega)
  rw [spR, h0, if_pos rfl] at this
  exact this
theorem follow_bad {v : Value} {ns : List ByteArray} {t : Nat} {F : Pth → Option Nd} {A : Pth → Nat} {O : Nat → Option (Pth × Nat)} {bl ino : Int} {K : Nat} {w : World} (h : Tr w t F A O bl ino K) (hv : Tx w v ns) (hl : ns.length ≤ 1000) (hsz : ns.all nameB = true) {c : Int} (h0 : folE F ns = c) (hc : ¬ c = 0) :
    Calls Tryz.prog 48 #[ptr t, v] w fun e w' => e = .returned (.tuple #[.agg #[.pointer none, .string ⟨#[]⟩, .pointer none], .int .i64 c]) ∧ Below w.heap.size w w' := by
  have := follow_any v ns t F A O bl ino K w h hv hl (fun j hj => by
    have := List.all_eq_true.1 hsz (ns.getD j ByteArray.empty) (by simp [List.getD, hj])
    have := nameB_parts this
    omega)
  rw [spR, h0, if_neg hc] at this
  exact this
set_option maxHeartbeats 1600000 in
theorem find_bad1 (s : ByteArray) (t : Nat) (n : Int) (w : World) (hs : s.size ≤ 3000) (hE : spE s = n) (hn : n = 5 ∨ n = 12) :
    Calls Tryz.prog 23 #[ptr t, .string s] w fun e w' => e = .returned (.tuple #[.agg #[.pointer none, .string ⟨#[]⟩, .pointer none], .int .i64 n]) ∧ Below w.heap.size w w' := by
  have A0 := below_alloc w (spO (.pointer none) (.string ⟨#[]⟩) (.pointer none))
  have S0 := Sp.alloc w (.pointer none) (.string ⟨#[]⟩) (.pointer none)
  obtain ⟨wa, hwa⟩ : ∃ wa, Hid (w.alloc (spO (.pointer none) (.string ⟨#[]⟩) (.pointer none)) = wa) := ⟨_, rfl⟩
  rw [hwa.out] at A0 S0
  have HA : Hid (Below w.heap.size w wa ∧ Sp wa w.heap.size (.pointer none) (.string ⟨#[]⟩) (.pointer none)) := ⟨A0, S0⟩
  clear A0 S0
  have hq : decide (n = 0) = false := by rcases hn with rfl | rfl <;> rfl
  have hq2 : ¬ n = 0 := by rcases hn with rfl | rfl <;> decide
  go_enter Tryz.func23, Tryz.ntmps23
  go_wp2_with fail
  rw [hwa.out]
  have hsp := split_any s wa hs
  rw [hE] at hsp
  refine hsp.mono ?_
  rintro e w1 ⟨v, rfl, hv, B1⟩
  have S1 := HA.out.2.kept (Chg.ofBelowC B1) (fun h => h)
  have B2 := HA.out.1.trans (B1.mono HA.out.1.size)
  obtain ⟨d0, d1, d2⟩ := S1.c
  have fr := S1.fr
  have HS : Hid (Sp w1 w.heap.size (.pointer none) (.string ⟨#[]⟩) (.pointer none) ∧ Below w.heap.size w w1) := ⟨S1, B2⟩
  clear hsp hv B1 S1 B2 hE HA hwa hn
  go_wp2_with fail
  obtain ⟨s1, s2⟩ := HS.out.1.put (.pointer none) (.string ⟨#[]⟩) (.pointer none)
  try simp only [Exit.inBlock, Exit.then]
  generalize World.setCell _ ⟨w.heap.size, 2, none⟩ _ = w9 at *
  obtain ⟨d0, d1, d2⟩ := s1.c
  refine bodyPost_ret (v := .tuple #[.agg #[.pointer none, .string ⟨#[]⟩, .pointer none], .int .i64 n]) ?_ rfl ?_
  · simp [results, Tryz.results23, go_sem, d0, d1, d2]
  · exact ⟨rfl, HS.out.2.trans (s2.below HS.out.2.size (fun k hk => by rw [hk]; exact Nat.le_refl _))⟩

set_option maxHeartbeats 1600000 in
theorem find_go (s : ByteArray) (t : Nat) (F : Pth → Option Nd) (A : Pth → Nat) (O : Nat → Option (Pth × Nat)) (bl ino : Int) (K : Nat) (o0 : Option Addr) (x1 : ByteArray) (o2 : Option Addr) (n : Int) (w : World) (h : Tr w t F A O bl ino K) (hs : s.size ≤ 3000) (hE : spE s = 0)
    (HF : ∀ wb v, Tr wb t F A O bl ino K → Tx wb v (spN s) → Calls Tryz.prog 48 #[ptr t, v] wb fun e w' => e = .returned (.tuple #[.agg #[.pointer o0, .string x1, .pointer o2], .int .i64 n]) ∧ Below wb.heap.size wb w') :
    Calls Tryz.prog 23 #[ptr t, .string s] w fun e w' => e = .returned (.tuple #[.agg #[.pointer o0, .string x1, .pointer o2], .int .i64 n]) ∧ Below w.heap.size w w' := by
  have A0 := below_alloc w (spO (.pointer none) (.string ⟨#[]⟩) (.pointer none))
  have S0 := Sp.alloc w (.pointer none) (.string ⟨#[]⟩) (.pointer none)
  obtain ⟨wa, hwa⟩ : ∃ wa, Hid (w.alloc (spO (.pointer none) (.string ⟨#[]⟩) (.pointer none)) = wa) := ⟨_, rfl⟩
  rw [hwa.out] at A0 S0
  have HA : Hid (Below w.heap.size w wa ∧ Sp wa w.heap.size (.pointer none) (.string ⟨#[]⟩) (.pointer none)) := ⟨A0, S0⟩
  clear A0 S0
  have HT : Hid (Tr w t F A O bl ino K) := h
  clear h
  go_enter Tryz.func23, Tryz.ntmps23
  go_wp2_with fail
  rw [hwa.out]
  have hsp := split_any s wa hs
  rw [hE] at hsp
  refine hsp.mono ?_
  rintro e w1 ⟨v, rfl, hv, B1⟩
  have S1 := HA.out.2.kept (Chg.ofBelowC B1) (fun h => h)
  have B2 := HA.out.1.trans (B1.mono HA.out.1.size)
  have HC := HF w1 v (HT.out.kept (Chg.ofBelowC B2) (fun _ _ _ h => h)) hv
  have HS : Hid (Sp w1 w.heap.size (.pointer none) (.string ⟨#[]⟩) (.pointer none) ∧ Below w.heap.size w w1) := ⟨S1, B2⟩
  have HCH : Hid (Calls Tryz.prog 48 #[ptr t, v] w1 fun e w' => e = .returned (.tuple #[.agg #[.pointer o0, .string x1, .pointer o2], .int .i64 n]) ∧ Below w1.heap.size w1 w') := HC
  clear hsp B1 S1 B2 hE HA hwa HT HF HC hv
  go_wp2_with fail
  refine HCH.out.mono ?_
  clear HCH
  rintro e w2 ⟨rfl, B3⟩
  have S1 := HS.out.1.kept (Chg.ofBelowC B3) (fun h => h)
  have B2 := HS.out.2.trans (B3.mono HS.out.2.size)
  obtain ⟨d0, d1, d2⟩ := S1.c
  have fr := S1.fr
  have HS2 : Hid (Sp w2 w.heap.size (.pointer none) (.string ⟨#[]⟩) (.pointer none) ∧ Below w.heap.size w w2) := ⟨S1, B2⟩
  clear S1 B2 B3 HS
  go_wp2_with fail
  obtain ⟨s1, s2⟩ := HS2.out.1.put (.pointer o0) (.string x1) (.pointer o2)
  try simp only [Exit.inBlock, Exit.then]
  generalize World.setCell _ ⟨w.heap.size, 2, none⟩ _ = w9 at *
  obtain ⟨d0, d1, d2⟩ := s1.c
  refine bodyPost_ret (v := .tuple #[.agg #[.pointer o0, .string x1, .pointer o2], .int .i64 n]) ?_ rfl ?_
  · simp [results, Tryz.results23, go_sem, d0, d1, d2]
  · exact ⟨rfl, HS2.out.2.trans (s2.below HS2.out.2.size (fun k hk => by rw [hk]; exact Nat.le_refl _))⟩
theorem spN_all {s : ByteArray} (h : spE s = 0) : (spN s).all nameB = true ∧ (spN s).length ≤ 8 := ⟨(sp_ok h).1, (sp_ok h).2.1⟩
theorem find_ok {s : ByteArray} {t : Nat} {F : Pth → Option Nd} {A : Pth → Nat} {O : Nat → Option (Pth × Nat)} {bl ino : Int} {K : Nat} {w : World} (h : Tr w t F A O bl ino K) (hs : s.size ≤ 3000) (hE : spE s = 0) (hF : folE F (spN s) = 0) :
    Calls Tryz.prog 23 #[ptr t, .string s] w fun e w' => e = .returned (.tuple #[.agg #[.pointer (upO A (spN s)), .string (lastN (spN s)), .pointer (ndO F A (spN s))], .int .i64 0]) ∧ Below w.heap.size w w' :=
  find_go s t F A O bl ino K _ _ _ 0 w h hs hE fun wb v hT hv => follow_ok hT hv (by have := spN_len s; omega) (spN_all hE).1 hF
theorem find_no {s : ByteArray} {t : Nat} {F : Pth → Option Nd} {A : Pth → Nat} {O : Nat → Option (Pth × Nat)} {bl ino : Int} {K : Nat} {w : World} (h : Tr w t F A O bl ino K) (hs : s.size ≤ 3000) {c : Int} (hE : fiE F s = c) (hc : ¬ c = 0) :
    Calls Tryz.prog 23 #[ptr t, .string s] w fun e w' => e = .returned (.tuple #[.agg #[.pointer none, .string ⟨#[]⟩, .pointer none], .int .i64 c]) ∧ Below w.heap.size w w' := by
  unfold fiE at hE
  by_cases h0 : spE s = 0
  · rw [if_pos h0] at hE
    exact find_go s t F A O bl ino K _ _ _ c w h hs h0 fun wb v hT hv => follow_bad hT hv (by have := spN_len s; omega) (spN_all h0).1 hE hc
  · rw [if_neg h0] at hE
    exact find_bad1 s t c w hs hE (by rcases spE_ways s with h | h | h <;> omega)

/-- The error of what stands at a path. -/
def thE (F : Pth → Option Nd) (s : ByteArray) : Int := if fiE F s = 0 then (if (F (spN s)).isSome = true then 0 else 8) else fiE F s
set_option maxHeartbeats 1600000 in
theorem there_go (s : ByteArray) (t : Nat) (o0 : Option Addr) (x1 : ByteArray) (o : Option Addr) (n r : Int) (p : Option Addr) (w : World) (hr : (n = 0 ∧ o = none ∧ r = 8 ∧ p = none) ∨ (n = 0 ∧ (∃ b, o = some ⟨b, 0, none⟩) ∧ r = 0 ∧ p = o) ∨ (¬ n = 0 ∧ r = n ∧ p = none))
    (HF : Calls Tryz.prog 23 #[ptr t, .string s] w fun e w' => e = .returned (.tuple #[.agg #[.pointer o0, .string x1, .pointer o], .int .i64 n]) ∧ Below w.heap.size w w') :
    Calls Tryz.prog 44 #[ptr t, .string s] w fun e w' => e = .returned (.tuple #[.pointer p, .int .i64 r]) ∧ Below w.heap.size w w' := by
  have HFH : Hid (Calls Tryz.prog 23 #[ptr t, .string s] w fun e w' => e = .returned (.tuple #[.agg #[.pointer o0, .string x1, .pointer o], .int .i64 n]) ∧ Below w.heap.size w w') := HF
  clear HF
  rcases hr with ⟨rfl, rfl, rfl, rfl⟩ | ⟨rfl, ⟨b, rfl⟩, rfl, rfl⟩ | ⟨hn, rfl, rfl⟩
  · go_enter Tryz.func44, Tryz.ntmps44
    go_wp2_with fail
    refine HFH.out.mono ?_
    clear HFH
    rintro e w2 ⟨rfl, B3⟩
    have B4 : Hid (Below w.heap.size w (w2.alloc (spO (.pointer o0) (.string x1) (.pointer none)))) := B3.alloc B3.size _
    clear B3
    go_wp2_with fail
    go_ret2
    exact ⟨rfl, B4.out⟩
  · go_enter Tryz.func44, Tryz.ntmps44
    go_wp2_with fail
    refine HFH.out.mono ?_
    clear HFH
    rintro e w2 ⟨rfl, B3⟩
    have B4 : Hid (Below w.heap.size w (w2.alloc (spO (.pointer o0) (.string x1) (.pointer (some ⟨b, 0, none⟩))))) := B3.alloc B3.size _
    clear B3
    go_wp2_with fail
    go_ret2
    exact ⟨rfl, B4.out⟩
  · have hq : decide (r = 0) = false := by simpa using hn
    go_enter Tryz.func44, Tryz.ntmps44
    go_wp2_with fail
    refine HFH.out.mono ?_
    clear HFH
    rintro e w2 ⟨rfl, B3⟩
    have B4 : Hid (Below w.heap.size w (w2.alloc (spO (.pointer o0) (.string x1) (.pointer o)))) := B3.alloc B3.size _
    clear B3
    go_wp2_with fail
    go_ret2
    exact ⟨rfl, B4.out⟩
theorem there_ok {s : ByteArray} {t : Nat} {F : Pth → Option Nd} {A : Pth → Nat} {O : Nat → Option (Pth × Nat)} {bl ino : Int} {K : Nat} {w : World} (h : Tr w t F A O bl ino K) (hs : s.size ≤ 3000) (hE : thE F s = 0) :
    (∃ nd, F (spN s) = some nd) ∧ Calls Tryz.prog 44 #[ptr t, .string s] w fun e w' => e = .returned (.tuple #[ptr (A (spN s)), .int .i64 0]) ∧ Below w.heap.size w w' := by
  unfold thE at hE
  by_cases h0 : fiE F s = 0
  · rw [if_pos h0] at hE
    have hE1 : (F (spN s)).isSome = true := by
      cases h : (F (spN s)).isSome
      · rw [h] at hE; simp at hE
      · rfl
    obtain ⟨nd, hnd⟩ := Option.isSome_iff_exists.1 hE1
    refine ⟨⟨nd, hnd⟩, ?_⟩
    have hs0 : spE s = 0 := by
      unfold fiE at h0
      by_cases g : spE s = 0
      · exact g
      · rw [if_neg g] at h0; exact h0
    have hf0 : folE F (spN s) = 0 := by unfold fiE at h0; rwa [if_pos hs0] at h0
    have := find_ok h hs hs0 hf0
    rw [show ndO F A (spN s) = some ⟨A (spN s), 0, none⟩ by simp [ndO, hnd]] at this
    exact there_go s t _ _ _ 0 0 _ w (.inr (.inl ⟨rfl, ⟨_, rfl⟩, rfl, rfl⟩)) this
  · rw [if_neg h0] at hE
    exact absurd hE h0
theorem there_no {s : ByteArray} {t : Nat} {F : Pth → Option Nd} {A : Pth → Nat} {O : Nat → Option (Pth × Nat)} {bl ino : Int} {K : Nat} {w : World} (h : Tr w t F A O bl ino K) (hs : s.size ≤ 3000) {c : Int} (hE : thE F s = c) (hc : ¬ c = 0) :
    Calls Tryz.prog 44 #[ptr t, .string s] w fun e w' => e = .returned (.tuple #[.pointer none, .int .i64 c]) ∧ Below w.heap.size w w' := by
  unfold thE at hE
  by_cases h0 : fiE F s = 0
  · rw [if_pos h0] at hE
    have hn : F (spN s) = none := by
      cases h : F (spN s) with
      | none => rfl
      | some x => rw [h] at hE; simp at hE; omega
    rw [hn] at hE
    simp at hE
    subst hE
    have hs0 : spE s = 0 := by
      unfold fiE at h0
      by_cases g : spE s = 0
      · exact g
      · rw [if_neg g] at h0; exact h0
    have hf0 : folE F (spN s) = 0 := by unfold fiE at h0; rwa [if_pos hs0] at h0
    have := find_ok h hs hs0 hf0
    rw [show ndO F A (spN s) = none by simp [ndO, hn]] at this
    exact there_go s t _ _ _ 0 8 _ w (.inl ⟨rfl, rfl, rfl, rfl⟩) this
  · rw [if_neg h0] at hE
    exact there_go s t _ _ _ c c _ w (.inr (.inr ⟨hc, rfl, rfl⟩)) (find_no h hs hE hc)
end Go.Proofs.YtlnjnimenihhnaaGreatDoor

/-
  A tree in memory: what stands at each path.
-/
import Derived.Test.YtdcmkcplklkfmaaDoorTMap
import Derived.Test.YtdcmkcplklkfmaaDoorDBytes
import Derived.Test.YtdcmkcplklkfmaaDoorPUnder
import Derived.Test.YtdcmkcplklkfmaaDoorTInode
namespace Go.Proofs.YtdcmkcplklkfmaaDoor
open Go.RowKit Go.Maps

/-- A file's bytes, or a directory's slots and names. -/
inductive Nd where
  | file (bs : List Int)
  | dir (s : Nat) (ns : List ByteArray)
def Nd.has : Nd → ByteArray → Prop
  | .file _, _ => False
  | .dir _ ns, nm => nm ∈ ns
abbrev Pth := List ByteArray
abbrev ptr (b : Nat) : Value := .pointer (some ⟨b, 0, none⟩)
/-- What stands where, each node's block, whose a block is. -/
structure Gs where
  F : Pth → Option Nd
  A : Pth → Nat
  O : Nat → Option (Pth × Nat)
def inB (nm : ByteArray) : List ByteArray → Bool
  | [] => false
  | x :: r => decide (nm = x) || inB nm r
theorem inB_iff (nm : ByteArray) : ∀ ns, inB nm ns = true ↔ nm ∈ ns
  | [] => by simp [inB]
  | x :: r => by simp [inB, inB_iff nm r]
theorem inB_not {nm : ByteArray} {ns : List ByteArray} (h : ¬ nm ∈ ns) : inB nm ns = false := by
  cases e : inB nm ns
  · rfl
  · exact absurd ((inB_iff _ _).1 e) h
def kidF (A : Pth → Nat) (p : Pth) (ns : List ByteArray) : ByteArray → Option Value := fun nm => if inB nm ns = true then some (ptr (A (p ++ [nm]))) else none

/-- A node in memory. -/
def NdM (w : World) (A : Pth → Nat) (O : Nat → Option (Pth × Nat)) (p : Pth) : Nd → Prop
  | .file bs => w.cell? ⟨A p, 0, none⟩ = some (.bool true) ∧ (∃ v, w.cell? ⟨A p, 1, none⟩ = some v ∧ w.ownsRow 0 5 1 v bs.length (bcells bs) ∧ ∀ b, v.ownBlock = some b → O b = some (p, 2)) ∧ w.cell? ⟨A p, 2, none⟩ = some (.map none) ∧ w.cell? ⟨A p, 3, none⟩ = some (.int .i64 0)
  | .dir s ns => w.cell? ⟨A p, 0, none⟩ = some (.bool false) ∧ w.cell? ⟨A p, 1, none⟩ = some (.slice none 0 0) ∧ (∃ m, w.cell? ⟨A p, 2, none⟩ = some (.map (some m)) ∧ O m = some (p, 1) ∧ SMap w m ns.length (kidF A p ns)) ∧ w.cell? ⟨A p, 3, none⟩ = some (.int .i64 s)

theorem own_far {S : Nat → Prop} {w w' : World} {N n : Nat} {u : Value} {xs : List Value} (h : w.ownsRow N 5 1 u n xs) (hc : Chg S w w') (hS : ∀ b, u.ownBlock = some b → ¬ S b) : w'.ownsRow N 5 1 u n xs := by
  refine ⟨h.1, ?_⟩
  rcases h.2 with h | ⟨g, cap, cur, rfl, hb, hg, r⟩
  · exact .inl h
  · refine .inr ⟨g, cap, cur, rfl, hb, ?_, r⟩
    rw [hc.block g (by
      by_cases hlt : g < w.heap.size
      · exact hlt
      · simp [Array.getElem?_eq_none (Nat.le_of_not_lt hlt)] at hg) (hS g rfl)]
    exact hg

theorem NdM.kept {S : Nat → Prop} {w w' : World} {A A' : Pth → Nat} {O O' : Nat → Option (Pth × Nat)} {p p' : Pth} {nd : Nd} (h : NdM w A O p nd) (hc : Chg S w w') (hown : O (A p) = some (p, 0)) (hS : ∀ b r, O b = some (p, r) → ¬ S b)
    (hA : A' p' = A p) (hK : ∀ nm, nd.has nm → A' (p' ++ [nm]) = A (p ++ [nm])) (hO : ∀ b r, O b = some (p, r) → O' b = some (p', r)) : NdM w' A' O' p' nd := by
  have hs := hS _ _ hown
  cases nd with
  | file bs =>
    obtain ⟨h0, ⟨v, h1, h2, h3⟩, h4, h5⟩ := h
    refine ⟨by rw [hA]; exact hc.cell h0 hs, ⟨v, by rw [hA]; exact hc.cell h1 hs, own_far h2 hc (fun b hb => hS b 2 (h3 b hb)), fun b hb => hO b 2 (h3 b hb)⟩, by rw [hA]; exact hc.cell h4 hs, by rw [hA]; exact hc.cell h5 hs⟩
  | dir s ns =>
    obtain ⟨h0, h1, ⟨m, h2, h3, h4⟩, h5⟩ := h
    refine ⟨by rw [hA]; exact hc.cell h0 hs, by rw [hA]; exact hc.cell h1 hs, ⟨m, by rw [hA]; exact hc.cell h2 hs, hO m 1 h3, ?_⟩, by rw [hA]; exact hc.cell h5 hs⟩
    refine (h4.kept (hc.block m h4.lt (hS m 1 h3))).ext (fun s _ => ?_)
    unfold kidF
    split
    · rename_i hm
      rw [hK s ((inB_iff _ _).1 hm)]
    · rfl

/-- A tree in memory: its struct is block t. -/
structure Tr (w : World) (t : Nat) (F : Pth → Option Nd) (A : Pth → Nat) (O : Nat → Option (Pth × Nat)) (bl ino : Int) (K : Nat) : Prop where
  root : A [] = t
  rdir : ∃ s ns, F [] = some (.dir s ns)
  lt : ∀ b x, O b = some x → b < w.heap.size
  own : ∀ p nd, F p = some nd → O (A p) = some (p, 0)
  nd : ∀ p nd, F p = some nd → NdM w A O p nd
  fr : ∀ p nd, F p = some nd → ∀ i, w.frozen? ⟨A p, i, none⟩ = false
  up : ∀ p nm, (F (p ++ [nm])).isSome = true → ∃ s ns, F p = some (.dir s ns) ∧ nm ∈ ns
  dn : ∀ p s ns nm, F p = some (.dir s ns) → nm ∈ ns → (F (p ++ [nm])).isSome = true
  nms : ∀ p s ns, F p = some (.dir s ns) → ns.Nodup ∧ (∀ nm ∈ ns, nameB nm = true) ∧ ns.length ≤ s ∧ s ≤ K
  fil : ∀ p bs, F p = some (.file bs) → bs.length ≤ 8458240 ∧ IsB bs
  cbl : w.cell? ⟨t, 4, none⟩ = some (.int .i64 bl)
  cin : w.cell? ⟨t, 5, none⟩ = some (.int .i64 ino)
  bb : 0 ≤ bl ∧ bl ≤ 20000 * K + 20000
  ib : 0 ≤ ino ∧ ino ≤ K + 256

theorem Tr.kept {S : Nat → Prop} {w w' : World} {t : Nat} {F : Pth → Option Nd} {A : Pth → Nat} {O : Nat → Option (Pth × Nat)} {bl ino : Int} {K : Nat} (h : Tr w t F A O bl ino K) (hc : Chg S w w') (hS : ∀ b x, O b = some x → ¬ S b) : Tr w' t F A O bl ino K := by
  obtain ⟨s, ns, hr⟩ := h.rdir
  have ht := hS _ _ (h.own _ _ hr)
  rw [h.root] at ht
  exact ⟨h.root, h.rdir, fun b x hb => Nat.lt_of_lt_of_le (h.lt b x hb) hc.size, h.own, fun p nd hp => (h.nd p nd hp).kept hc (h.own p nd hp) (fun b r hb => hS b _ hb) rfl (fun _ _ => rfl) (fun _ _ h => h), fun p nd hp i => (World.frozen?_of_block (hc.block _ (h.lt _ _ (h.own p nd hp)) (hS _ _ (h.own p nd hp)))).trans (h.fr p nd hp i), h.up, h.dn, h.nms, h.fil, hc.cell h.cbl ht, hc.cell h.cin ht, h.bb, h.ib⟩
theorem Tr.more {w : World} {t : Nat} {F : Pth → Option Nd} {A : Pth → Nat} {O : Nat → Option (Pth × Nat)} {bl ino : Int} {K K' : Nat} (h : Tr w t F A O bl ino K) (hk : K ≤ K') : Tr w t F A O bl ino K' :=
  ⟨h.root, h.rdir, h.lt, h.own, h.nd, h.fr, h.up, h.dn, fun p s ns hp => let ⟨a, b, c, d⟩ := h.nms p s ns hp; ⟨a, b, c, Nat.le_trans d hk⟩, h.fil, h.cbl, h.cin, ⟨h.bb.1, by have := h.bb.2; omega⟩, ⟨h.ib.1, by have := h.ib.2; omega⟩⟩
end Go.Proofs.YtdcmkcplklkfmaaDoor

/-
  The spots that lead to a block of a file: what way of package file makes.
-/
import Derived.Test.YthohgljlcfbpjaaGreatFSpot
import Derived.Test.YthohgljlcfbpjaaGreatFPlace
import Derived.Deep.RegionWith
import Derived.Deep.DeepCutAuto
namespace Go.Proofs.YthohgljlcfbpjaaGreat
open Go.RowKit Go.Maps

/-- The first block of bytes that is found by a key; by what it stands in. -/
def fst (k : Nat) : Nat := if k % 2 = 0 then k / 2 else if k = 1 then 8 else if k = 3 then 136 else 136 + 64 * (k - 5)
def wth (k : Nat) : Int := if fld k then -1 else (fst (par k) : Int)

/-- go tells the number at key k: one in the node, or one in a block whose number is in the node. -/
def GK (w : World) (Y : Nat → Prop) (nb q k : Nat) (go : Value) : Prop :=
  (fld k ∧ ∃ s, go = gF s ∧ FldAt w s ⟨nb, fo k, none⟩ ∧ Y s) ∨
  (¬ fld k ∧ fld (par k) ∧ ∃ s s', go = gE (s + 4) (s + 2) ∧ EntAt w s q (gF s') (idx k) ∧ (∀ b, s ≤ b → b ≤ s + 4 → Y b) ∧ FldAt w s' ⟨nb, fo (par k), none⟩ ∧ Y s')
/-- The closures of key k's spot. -/
def SpK (w : World) (Y : Nat → Prop) (nb q k : Nat) (g st : Value) : Prop :=
  (fld k ∧ ∃ s, g = gF s ∧ st = sF s ∧ FldAt w s ⟨nb, fo k, none⟩ ∧ Y s) ∨
  (¬ fld k ∧ ∃ s go, g = gE (s + 4) (s + 2) ∧ st = sE (s + 4) (s + 2) s ∧ EntAt w s q go (idx k) ∧ (∀ b, s ≤ b → b ≤ s + 4 → Y b) ∧ GK w Y nb q (par k) go)

theorem heap_new' {w : World} {o : Obj} {b : Nat} (h : b = w.heap.size) : (w.alloc o).heap[b]? = some o := h ▸ heap_alloc_new w o
theorem FldAt.new' (w : World) (a : Addr) (fi : Int) {s : Nat} (h : s = w.heap.size) : FldAt (fldW w a fi) s a := h ▸ FldAt.new w a fi
theorem EntAt.new' (w : World) (q : Nat) (fo wo : Int) (go so : Value) (i fi : Int) {s : Nat} (h : s = w.heap.size) : EntAt (entW w q fo wo go so i fi) s q go i := h ▸ EntAt.new w q fo wo go so i fi
theorem Chg.al {S : Nat → Prop} {w w' : World} (h : Chg S w w') (o : Obj) : Chg S w (w'.alloc o) := h.trans (Chg.alloc S w' o) (fun _ _ h => h)
theorem Chg.dr {S : Nat → Prop} {w w' : World} (h : Chg S w w') : Chg S w w'.drew := h.trans (Chg.drew S w') (fun _ _ h => h)
theorem Chg.fl {w w' : World} (h : Chg (fun _ => False) w w') (a : Addr) (fi : Int) : Chg (fun _ => False) w (fldW w' a fi) := h.trans (fldW_chg w' a fi) (fun _ _ h => h)
theorem Chg.en {w w' : World} (h : Chg (fun _ => False) w w') (q : Nat) (fo wo : Int) (go so : Value) (i fi : Int) : Chg (fun _ => False) w (entW w' q fo wo go so i fi) := h.trans (entW_chg w' q fo wo go so i fi) (fun _ _ h => h)
set_option maxHeartbeats 1600000 in
theorem way0 (q nb i : Nat) (w : World) (hi : i < 8) :
    Calls Tryz.prog 86 #[tI q, .pointer (some ⟨nb, 0, none⟩), .int .i64 (i : Int)] w fun e w' => ∃ b s, e = .returned (.slice (some ⟨b, 0, none⟩) 1 1) ∧ w.heap.size ≤ b ∧ w'.heap[b]? = some (.cells #[.int .i64 (i : Int), .int .i64 (-1), gF s, sF s] 114 (0, 0)) ∧ w.heap.size ≤ s ∧ s < b ∧ FldAt w' s ⟨nb, 3 + i, none⟩ ∧ Chg (fun _ => False) w w' := by
  have WH : Hid (Calls Tryz.prog 81 #[.int .i64 (i : Int)] w fun e w' => e = .returned (.tuple #[plV 0 (i : Int) 0, .int .i64 0]) ∧ w' = w.alloc (plO 137 0 (i : Int) 0)) := where_dir i w (by omega) (by omega)
  go_enter Tryz.func86, Tryz.ntmps86
  go_wp2_with fail
  refine WH.out.mono ?_
  clear WH
  rintro e w1 ⟨rfl, rfl⟩
  go_wp2_with fail
  go_region_with (first | (go_at_call 117; refine (field_any _ _ _).mono ?_; rintro e w2 ⟨rfl, rfl⟩))
  all_goals go_wp2
  all_goals go_ret
  all_goals
    refine ⟨w.heap.size + 4, w.heap.size + 2, by simp [Act.put], by omega, heap_new' (by simp), by omega, by omega, (FldAt.new' _ _ _ (by simp)).kept (Chg.alloc (fun _ => False) _ _) (fun h => h), ?_⟩
    exact ((((Chg.alloc (fun _ => False) w _).al _).dr).fl _ _).al _
/-- A spot in a box. -/
structure SpB (w : World) (b : Nat) (fi wi : Int) (g st : Value) : Prop where
  c0 : w.cell? ⟨b, 0, none⟩ = some (.int .i64 fi)
  c1 : w.cell? ⟨b, 1, none⟩ = some (.int .i64 wi)
  c2 : w.cell? ⟨b, 2, none⟩ = some g
  c3 : w.cell? ⟨b, 3, none⟩ = some st
theorem SpB.kept {S : Nat → Prop} {w w' : World} {b : Nat} {fi wi : Int} {g st : Value} (h : SpB w b fi wi g st) (hc : Chg S w w') (hn : ¬ S b) : SpB w' b fi wi g st := ⟨hc.cell h.c0 hn, hc.cell h.c1 hn, hc.cell h.c2 hn, hc.cell h.c3 hn⟩
/-- Behind the making of the first spot: ob is its box, s its closures' box, pb the place's box. -/
structure Way1 (w wc : World) (ob s pb : Nat) (a : Addr) (fi l A B : Int) : Prop where
  sp : SpB wc ob fi (-1) (gF s) (sF s)
  f : FldAt wc s a
  p0 : wc.cell? ⟨pb, 0, none⟩ = some (.int .i64 l)
  p1 : wc.cell? ⟨pb, 1, none⟩ = some (.int .i64 A)
  p2 : wc.cell? ⟨pb, 2, none⟩ = some (.int .i64 B)
  c : Chg (fun _ => False) w wc
  n : w.heap.size ≤ s
theorem Way1.dr {w wc : World} {ob s pb : Nat} {a : Addr} {fi l A B : Int} (h : Way1 w wc ob s pb a fi l A B) : Way1 w wc.drew ob s pb a fi l A B :=
  ⟨h.sp.kept (Chg.drew (fun _ => False) _) (fun h => h), h.f.kept (Chg.drew (fun _ => False) _) (fun h => h), (Chg.drew (fun _ => False) wc).cell h.p0 (fun h => h), (Chg.drew (fun _ => False) wc).cell h.p1 (fun h => h), (Chg.drew (fun _ => False) wc).cell h.p2 (fun h => h), h.c.dr, h.n⟩
theorem way1_b (w : World) (T : TypeId) (l A B fi : Int) (a : Addr) : Way1 w ((fldW ((w.alloc (plO T l A B)).alloc (plO T l A B)) a fi).alloc (spO fi (-1) (gF (w.heap.size + 2)) (sF (w.heap.size + 2)))) (w.heap.size + 4) (w.heap.size + 2) (w.heap.size + 1) a fi l A B := by
  refine ⟨⟨?_, ?_, ?_, ?_⟩, ?_, ?_, ?_, ?_, ?_, by omega⟩
  · rw [World.cell?_alloc_at _ _ _ _ (by simp)]; rfl
  · rw [World.cell?_alloc_at _ _ _ _ (by simp)]; rfl
  · rw [World.cell?_alloc_at _ _ _ _ (by simp)]; rfl
  · rw [World.cell?_alloc_at _ _ _ _ (by simp)]; rfl
  · exact (FldAt.new' _ _ _ (by simp)).kept (Chg.alloc (fun _ => False) _ _) (fun h => h)
  · rw [World.cell?_alloc_lt _ _ _ (by simp <;> omega), World.cell?_alloc_lt _ _ _ (by simp <;> omega), World.cell?_alloc_lt _ _ _ (by simp), World.cell?_alloc_at _ _ _ _ (by simp)]; rfl
  · rw [World.cell?_alloc_lt _ _ _ (by simp <;> omega), World.cell?_alloc_lt _ _ _ (by simp <;> omega), World.cell?_alloc_lt _ _ _ (by simp), World.cell?_alloc_at _ _ _ _ (by simp)]; rfl
  · rw [World.cell?_alloc_lt _ _ _ (by simp <;> omega), World.cell?_alloc_lt _ _ _ (by simp <;> omega), World.cell?_alloc_lt _ _ _ (by simp), World.cell?_alloc_at _ _ _ _ (by simp)]; rfl
  · exact (((Chg.alloc (fun _ => False) w _).al _).fl _ _).al _
theorem way1_a (w : World) (T : TypeId) (l A B fi : Int) (a : Addr) : Way1 w (((((w.alloc (plO T l A B)).alloc (plO T l A B)).alloc (spO fi (-1) (gF (w.heap.size + 3)) (sF (w.heap.size + 3)))).alloc (.cells #[.pointer (some a)] 167)).alloc (spO fi (-1) (gF (w.heap.size + 3)) (sF (w.heap.size + 3)))) (w.heap.size + 2) (w.heap.size + 3) (w.heap.size + 1) a fi l A B := by
  refine ⟨⟨?_, ?_, ?_, ?_⟩, ?_, ?_, ?_, ?_, ?_, by omega⟩
  · rw [World.cell?_alloc_lt _ _ _ (by simp <;> omega), World.cell?_alloc_lt _ _ _ (by simp), World.cell?_alloc_at _ _ _ _ (by simp)]; rfl
  · rw [World.cell?_alloc_lt _ _ _ (by simp <;> omega), World.cell?_alloc_lt _ _ _ (by simp), World.cell?_alloc_at _ _ _ _ (by simp)]; rfl
  · rw [World.cell?_alloc_lt _ _ _ (by simp <;> omega), World.cell?_alloc_lt _ _ _ (by simp), World.cell?_alloc_at _ _ _ _ (by simp)]; rfl
  · rw [World.cell?_alloc_lt _ _ _ (by simp <;> omega), World.cell?_alloc_lt _ _ _ (by simp), World.cell?_alloc_at _ _ _ _ (by simp)]; rfl
  · unfold FldAt
    rw [World.cell?_alloc_lt _ _ _ (by simp), World.cell?_alloc_at _ _ _ _ (by simp)]; rfl
  · rw [World.cell?_alloc_lt _ _ _ (by simp <;> omega), World.cell?_alloc_lt _ _ _ (by simp <;> omega), World.cell?_alloc_lt _ _ _ (by simp), World.cell?_alloc_at _ _ _ _ (by simp)]; rfl
  · rw [World.cell?_alloc_lt _ _ _ (by simp <;> omega), World.cell?_alloc_lt _ _ _ (by simp <;> omega), World.cell?_alloc_lt _ _ _ (by simp), World.cell?_alloc_at _ _ _ _ (by simp)]; rfl
  · rw [World.cell?_alloc_lt _ _ _ (by simp <;> omega), World.cell?_alloc_lt _ _ _ (by simp <;> omega), World.cell?_alloc_lt _ _ _ (by simp), World.cell?_alloc_at _ _ _ _ (by simp)]; rfl
  · exact ((((Chg.alloc (fun _ => False) w _).al _).al _).al _).al _
set_option maxHeartbeats 1600000 in
theorem way1 (q nb i : Nat) (w : World) (h8 : 8 ≤ i) (hi : i < 136) :
    Calls Tryz.prog 86 #[tI q, .pointer (some ⟨nb, 0, none⟩), .int .i64 (i : Int)] w fun e w' => ∃ b s s2, e = .returned (.slice (some ⟨b, 0, none⟩) 2 2) ∧ w.heap.size ≤ b ∧ w'.heap[b]? = some (.cells #[.int .i64 8, .int .i64 (-1), gF s, sF s, .int .i64 (i : Int), .int .i64 8, gE (s2 + 4) (s2 + 2), sE (s2 + 4) (s2 + 2) s2] 114 (0, 0)) ∧ w.heap.size ≤ s ∧ s < b ∧ w.heap.size ≤ s2 ∧ s2 + 4 < b ∧ FldAt w' s ⟨nb, 11, none⟩ ∧ EntAt w' s2 q (gF s) ((i : Int) - 8) ∧ Chg (fun _ => False) w w' := by
  have WH : Hid (Calls Tryz.prog 81 #[.int .i64 (i : Int)] w fun e w' => e = .returned (.tuple #[plV 1 ((i : Int) - 8) 0, .int .i64 0]) ∧ w' = w.alloc (plO 137 1 ((i : Int) - 8) 0)) := where_one i w (by omega) (by omega)
  have wr : IntKind.i64.wrap ((i : Int) - ((i : Int) - 8)) = 8 := by rw [IntKind.wrap_i64]; omega
  go_enter Tryz.func86, Tryz.ntmps86
  go_wp2_with fail
  refine WH.out.mono ?_
  clear WH
  rintro e w1 ⟨rfl, rfl⟩
  go_wp2_with fail
  go_cut [9] (fun x wc => ∃ ob s, x = .pointer (some ⟨ob, 0, none⟩) ∧ Way1 w wc ob s (w.heap.size + 1) ⟨nb, 11, none⟩ 8 1 ((i : Int) - 8) 0)
  case first =>
    go_region_with (first | (go_at_call 117; refine (field_any _ _ _).mono ?_; rintro e w2 ⟨rfl, rfl⟩))
    all_goals (go_wp2_with fail; go_meet; first | exact ⟨_, _, rfl, (way1_a w _ _ _ _ _ _).dr⟩ | exact ⟨_, _, rfl, (way1_b w _ _ _ _ _ _).dr⟩)
  case rest =>
    obtain ⟨ob, s, rfl, hw⟩ := hcut
    have k0 := hw.sp.c0
    have k1 := hw.sp.c1
    have k2 := hw.sp.c2
    have k3 := hw.sp.c3
    have k4 := hw.p0
    have k5 := hw.p1
    have k6 := hw.p2
    have HW : Hid (Way1 w wc ob s (w.heap.size + 1) ⟨nb, 11, none⟩ 8 1 ((i : Int) - 8) 0) := hw
    have hE := hw.sp.kept (((Chg.refl (fun _ => False) wc).dr).en q 8 (-1) (gF s) (sF s) ((i : Int) - 8) (i : Int)) (fun h => h)
    have l0 := hE.c0
    have l1 := hE.c1
    have l2 := hE.c2
    have l3 := hE.c3
    clear hw hE
    go_wp2_with fail
    go_region_with (first | (go_at_call 118; refine (entry_any q _ _ _ _ _ _ _).mono ?_; rintro e w2 ⟨rfl, rfl⟩))
    all_goals go_wp2
    all_goals go_ret
    all_goals
      have hsz := HW.out.c.size
      have hn := HW.out.n
      have hsl : s < wc.heap.size := World.block_lt_of_cell? wc _ HW.out.f
      refine ⟨wc.heap.size + 5, s, wc.heap.size, by simp [Act.put], by omega, heap_new' (by simp), hn, by omega, hsz, by omega, HW.out.f.kept ((((Chg.refl (fun _ => False) wc).dr).en _ _ _ _ _ _ _).al _) (fun h => h), (EntAt.new' _ _ _ _ _ _ _ _ (by simp)).kept (Chg.alloc (fun _ => False) _ _) (fun _ _ _ h => h), ?_⟩
      exact ((HW.out.c.dr).en _ _ _ _ _ _ _).al _
end Go.Proofs.YthohgljlcfbpjaaGreat

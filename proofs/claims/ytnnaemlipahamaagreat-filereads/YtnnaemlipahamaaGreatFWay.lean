/-
  The spots that lead to a block of a file: what way of package file makes.
-/
import Derived.Test.YtnnaemlipahamaaGreatFSpot
import Derived.Test.YtnnaemlipahamaaGreatFPlace
import Derived.Deep.RegionWith
import Derived.Deep.DeepCutAuto
import Derived.Deep.RegionHeld
namespace Go.Proofs.YtnnaemlipahamaaGreat
open Go.RowKit Go.Maps

/-- The first block of bytes that is found by a key; by what it stands in. -/
def fst (k : Nat) : Nat := if k % 2 = 0 then k / 2 else if k = 1 then 8 else if k = 3 then 136 else 136 + 64 * (k - 5)
def wth (k : Nat) : Int := if fld k then -1 else (fst (par k) : Int)

/-- go tells the number at key k: one in the node, or one in a block whose number is in the node. -/
def GK (w : World) (Y : Nat → Prop) (nb q k : Nat) (go : Value) : Prop :=
  (fld k ∧ ∃ s, go = gF s ∧ FldAt w s ⟨nb, fo k, none⟩ ∧ Y s) ∨
  (¬ fld k ∧ fld (par k) ∧ ∃ s s', go = gE (s + 4) (s + 2) ∧ EntAt w s q (gF s') (idx k) ∧ (∀ b, s ≤ b → b ≤ s + 4 → Y b) ∧ FldAt w s' ⟨nb, fo (par k), none⟩ ∧ Y s')
/-- The closures of key k's spot. -/
def SpK (w : World) (Y : Nat → Prop) (nb q k : Nat) (g st : Value) : Prop :=
  (fld k ∧ ∃ s, g = gF s ∧ st = sF s ∧ FldAt w s ⟨nb, fo k, none⟩ ∧ Y s) ∨
  (¬ fld k ∧ ∃ s go, g = gE (s + 4) (s + 2) ∧ st = sE (s + 4) (s + 2) s ∧ EntAt w s q go (idx k) ∧ (∀ b, s ≤ b → b ≤ s + 4 → Y b) ∧ GK w Y nb q (par k) go)

theorem heap_new' {w : World} {o : Obj} {b : Nat} (h : b = w.heap.size) : (w.alloc o).heap[b]? = some o := h ▸ heap_alloc_new w o
theorem FldAt.new' (w : World) (a : Addr) (fi : Int) {s : Nat} (h : s = w.heap.size) : FldAt (fldW w a fi) s a := h ▸ FldAt.new w a fi
theorem EntAt.new' (w : World) (q : Nat) (fo wo : Int) (go so : Value) (i fi : Int) {s : Nat} (h : s = w.heap.size) : EntAt (entW w q fo wo go so i fi) s q go i := h ▸ EntAt.new w q fo wo go so i fi
theorem Chg.al {S : Nat → Prop} {w w' : World} (h : Chg S w w') (o : Obj) : Chg S w (w'.alloc o) := h.trans (Chg.alloc S w' o) (fun _ _ h => h)
theorem Chg.dr {S : Nat → Prop} {w w' : World} (h : Chg S w w') : Chg S w w'.drew := h.trans (Chg.drew S w') (fun _ _ h => h)
theorem Chg.fl {w w' : World} (h : Chg (fun _ => False) w w') (a : Addr) (fi : Int) : Chg (fun _ => False) w (fldW w' a fi) := h.trans (fldW_chg w' a fi) (fun _ _ h => h)
theorem Chg.en {w w' : World} (h : Chg (fun _ => False) w w') (q : Nat) (fo wo : Int) (go so : Value) (i fi : Int) : Chg (fun _ => False) w (entW w' q fo wo go so i fi) := h.trans (entW_chg w' q fo wo go so i fi) (fun _ _ h => h)
set_option maxHeartbeats 1600000 in
theorem way0 (q nb i : Nat) (w : World) (hi : i < 8) :
    Calls Tryz.prog 83 #[tI q, .pointer (some ⟨nb, 0, none⟩), .int .i64 (i : Int)] w fun e w' => ∃ b s, e = .returned (.slice (some ⟨b, 0, none⟩) 1 1) ∧ w.heap.size ≤ b ∧ w'.heap[b]? = some (.cells #[.int .i64 (i : Int), .int .i64 (-1), gF s, sF s] 113 (0, 0)) ∧ w.heap.size ≤ s ∧ s < b ∧ FldAt w' s ⟨nb, 3 + i, none⟩ ∧ Chg (fun _ => False) w w' := by
  have WH : Hid (Calls Tryz.prog 106 #[.int .i64 (i : Int)] w fun e w' => e = .returned (.tuple #[plV 0 (i : Int) 0, .int .i64 0]) ∧ w' = w.alloc (plO 157 0 (i : Int) 0)) := where_dir i w (by omega) (by omega)
  go_enter Tryz.func83, Tryz.ntmps83
  go_wp2_with fail
  refine WH.out.mono ?_
  clear WH
  rintro e w1 ⟨rfl, rfl⟩
  go_wp2_with fail
  go_region_with (first | (go_at_call 115; refine (field_any _ _ _).mono ?_; rintro e w2 ⟨rfl, rfl⟩))
  all_goals go_wp2
  all_goals go_ret
  all_goals
    refine ⟨w.heap.size + 4, w.heap.size + 2, by simp [Act.put], by omega, heap_new' (by simp), by omega, by omega, (FldAt.new' _ _ _ (by simp)).kept (Chg.alloc (fun _ => False) _ _) (fun h => h), ?_⟩
    exact ((((Chg.alloc (fun _ => False) w _).al _).dr).fl _ _).al _
/-- A spot in a box. -/
structure SpB (w : World) (b : Nat) (fi wi : Int) (g st : Value) : Prop where
  c0 : w.cell? ⟨b, 0, none⟩ = some (.int .i64 fi)
  c1 : w.cell? ⟨b, 1, none⟩ = some (.int .i64 wi)
  c2 : w.cell? ⟨b, 2, none⟩ = some g
  c3 : w.cell? ⟨b, 3, none⟩ = some st
theorem SpB.kept {S : Nat → Prop} {w w' : World} {b : Nat} {fi wi : Int} {g st : Value} (h : SpB w b fi wi g st) (hc : Chg S w w') (hn : ¬ S b) : SpB w' b fi wi g st := ⟨hc.cell h.c0 hn, hc.cell h.c1 hn, hc.cell h.c2 hn, hc.cell h.c3 hn⟩
/-- Behind the making of the first spot: ob is its box, s its closures' box, pb the place's box. -/
structure Way1 (w wc : World) (ob s pb : Nat) (a : Addr) (fi l A B : Int) : Prop where
  sp : SpB wc ob fi (-1) (gF s) (sF s)
  f : FldAt wc s a
  p0 : wc.cell? ⟨pb, 0, none⟩ = some (.int .i64 l)
  p1 : wc.cell? ⟨pb, 1, none⟩ = some (.int .i64 A)
  p2 : wc.cell? ⟨pb, 2, none⟩ = some (.int .i64 B)
  c : Chg (fun _ => False) w wc
  n : w.heap.size ≤ s
theorem Way1.dr {w wc : World} {ob s pb : Nat} {a : Addr} {fi l A B : Int} (h : Way1 w wc ob s pb a fi l A B) : Way1 w wc.drew ob s pb a fi l A B :=
  ⟨h.sp.kept (Chg.drew (fun _ => False) _) (fun h => h), h.f.kept (Chg.drew (fun _ => False) _) (fun h => h), (Chg.drew (fun _ => False) wc).cell h.p0 (fun h => h), (Chg.drew (fun _ => False) wc).cell h.p1 (fun h => h), (Chg.drew (fun _ => False) wc).cell h.p2 (fun h => h), h.c.dr, h.n⟩
theorem way1_b (w : World) (T : TypeId) (l A B fi : Int) (a : Addr) : Way1 w ((fldW ((w.alloc (plO T l A B)).alloc (plO T l A B)) a fi).alloc (spO fi (-1) (gF (w.heap.size + 2)) (sF (w.heap.size + 2)))) (w.heap.size + 4) (w.heap.size + 2) (w.heap.size + 1) a fi l A B := by
  refine ⟨⟨?_, ?_, ?_, ?_⟩, ?_, ?_, ?_, ?_, ?_, by omega⟩
  · rw [World.cell?_alloc_at _ _ _ _ (by simp)]; rfl
  · rw [World.cell?_alloc_at _ _ _ _ (by simp)]; rfl
  · rw [World.cell?_alloc_at _ _ _ _ (by simp)]; rfl
  · rw [World.cell?_alloc_at _ _ _ _ (by simp)]; rfl
  · exact (FldAt.new' _ _ _ (by simp)).kept (Chg.alloc (fun _ => False) _ _) (fun h => h)
  · rw [World.cell?_alloc_lt _ _ _ (by simp <;> omega), World.cell?_alloc_lt _ _ _ (by simp <;> omega), World.cell?_alloc_lt _ _ _ (by simp), World.cell?_alloc_at _ _ _ _ (by simp)]; rfl
  · rw [World.cell?_alloc_lt _ _ _ (by simp <;> omega), World.cell?_alloc_lt _ _ _ (by simp <;> omega), World.cell?_alloc_lt _ _ _ (by simp), World.cell?_alloc_at _ _ _ _ (by simp)]; rfl
  · rw [World.cell?_alloc_lt _ _ _ (by simp <;> omega), World.cell?_alloc_lt _ _ _ (by simp <;> omega), World.cell?_alloc_lt _ _ _ (by simp), World.cell?_alloc_at _ _ _ _ (by simp)]; rfl
  · exact (((Chg.alloc (fun _ => False) w _).al _).fl _ _).al _
theorem way1_a (w : World) (T : TypeId) (l A B fi : Int) (a : Addr) : Way1 w (((((w.alloc (plO T l A B)).alloc (plO T l A B)).alloc (spO fi (-1) (gF (w.heap.size + 3)) (sF (w.heap.size + 3)))).alloc (.cells #[.pointer (some a)] 166)).alloc (spO fi (-1) (gF (w.heap.size + 3)) (sF (w.heap.size + 3)))) (w.heap.size + 2) (w.heap.size + 3) (w.heap.size + 1) a fi l A B := by
  refine ⟨⟨?_, ?_, ?_, ?_⟩, ?_, ?_, ?_, ?_, ?_, by omega⟩
  · rw [World.cell?_alloc_lt _ _ _ (by simp <;> omega), World.cell?_alloc_lt _ _ _ (by simp), World.cell?_alloc_at _ _ _ _ (by simp)]; rfl
  · rw [World.cell?_alloc_lt _ _ _ (by simp <;> omega), World.cell?_alloc_lt _ _ _ (by simp), World.cell?_alloc_at _ _ _ _ (by simp)]; rfl
  · rw [World.cell?_alloc_lt _ _ _ (by simp <;> omega), World.cell?_alloc_lt _ _ _ (by simp), World.cell?_alloc_at _ _ _ _ (by simp)]; rfl
  · rw [World.cell?_alloc_lt _ _ _ (by simp <;> omega), World.cell?_alloc_lt _ _ _ (by simp), World.cell?_alloc_at _ _ _ _ (by simp)]; rfl
  · unfold FldAt
    rw [World.cell?_alloc_lt _ _ _ (by simp), World.cell?_alloc_at _ _ _ _ (by simp)]; rfl
  · rw [World.cell?_alloc_lt _ _ _ (by simp <;> omega), World.cell?_alloc_lt _ _ _ (by simp <;> omega), World.cell?_alloc_lt _ _ _ (by simp), World.cell?_alloc_at _ _ _ _ (by simp)]; rfl
  · rw [World.cell?_alloc_lt _ _ _ (by simp <;> omega), World.cell?_alloc_lt _ _ _ (by simp <;> omega), World.cell?_alloc_lt _ _ _ (by simp), World.cell?_alloc_at _ _ _ _ (by simp)]; rfl
  · rw [World.cell?_alloc_lt _ _ _ (by simp <;> omega), World.cell?_alloc_lt _ _ _ (by simp <;> omega), World.cell?_alloc_lt _ _ _ (by simp), World.cell?_alloc_at _ _ _ _ (by simp)]; rfl
  · exact ((((Chg.alloc (fun _ => False) w _).al _).al _).al _).al _
set_option maxHeartbeats 1600000 in
theorem way1 (q nb i : Nat) (w : World) (h8 : 8 ≤ i) (hi : i < 136) :
    Calls Tryz.prog 83 #[tI q, .pointer (some ⟨nb, 0, none⟩), .int .i64 (i : Int)] w fun e w' => ∃ b s s2, e = .returned (.slice (some ⟨b, 0, none⟩) 2 2) ∧ w.heap.size ≤ b ∧ w'.heap[b]? = some (.cells #[.int .i64 8, .int .i64 (-1), gF s, sF s, .int .i64 (i : Int), .int .i64 8, gE (s2 + 4) (s2 + 2), sE (s2 + 4) (s2 + 2) s2] 113 (0, 0)) ∧ w.heap.size ≤ s ∧ s < b ∧ w.heap.size ≤ s2 ∧ s2 + 4 < b ∧ FldAt w' s ⟨nb, 11, none⟩ ∧ EntAt w' s2 q (gF s) ((i : Int) - 8) ∧ Chg (fun _ => False) w w' := by
  have WH : Hid (Calls Tryz.prog 106 #[.int .i64 (i : Int)] w fun e w' => e = .returned (.tuple #[plV 1 ((i : Int) - 8) 0, .int .i64 0]) ∧ w' = w.alloc (plO 157 1 ((i : Int) - 8) 0)) := where_one i w (by omega) (by omega)
  have wr : IntKind.i64.wrap ((i : Int) - ((i : Int) - 8)) = 8 := by rw [IntKind.wrap_i64]; omega
  go_enter Tryz.func83, Tryz.ntmps83
  go_wp2_with fail
  refine WH.out.mono ?_
  clear WH
  rintro e w1 ⟨rfl, rfl⟩
  go_wp2_with fail
  go_cut [9] (fun x wc => ∃ ob s, x = .pointer (some ⟨ob, 0, none⟩) ∧ Way1 w wc ob s (w.heap.size + 1) ⟨nb, 11, none⟩ 8 1 ((i : Int) - 8) 0)
  case first =>
    go_region_with (first | (go_at_call 115; refine (field_any _ _ _).mono ?_; rintro e w2 ⟨rfl, rfl⟩))
    all_goals (go_wp2_with fail; go_meet; first | exact ⟨_, _, rfl, (way1_a w _ _ _ _ _ _).dr⟩ | exact ⟨_, _, rfl, (way1_b w _ _ _ _ _ _).dr⟩)
  case rest =>
    obtain ⟨ob, s, rfl, hw⟩ := hcut
    have k0 := hw.sp.c0
    have k1 := hw.sp.c1
    have k2 := hw.sp.c2
    have k3 := hw.sp.c3
    have k4 := hw.p0
    have k5 := hw.p1
    have k6 := hw.p2
    have HW : Hid (Way1 w wc ob s (w.heap.size + 1) ⟨nb, 11, none⟩ 8 1 ((i : Int) - 8) 0) := hw
    have hE := hw.sp.kept (((Chg.refl (fun _ => False) wc).dr).en q 8 (-1) (gF s) (sF s) ((i : Int) - 8) (i : Int)) (fun h => h)
    have l0 := hE.c0
    have l1 := hE.c1
    have l2 := hE.c2
    have l3 := hE.c3
    clear hw hE
    go_wp2_with fail
    go_region_with (first | (go_at_call 116; refine (entry_any q _ _ _ _ _ _ _).mono ?_; rintro e w2 ⟨rfl, rfl⟩))
    all_goals go_wp2
    all_goals go_ret
    all_goals
      have hsz := HW.out.c.size
      have hn := HW.out.n
      have hsl : s < wc.heap.size := World.block_lt_of_cell? wc _ HW.out.f
      refine ⟨wc.heap.size + 5, s, wc.heap.size, by simp [Act.put], by omega, heap_new' (by simp), hn, by omega, hsz, by omega, HW.out.f.kept ((((Chg.refl (fun _ => False) wc).dr).en _ _ _ _ _ _ _).al _) (fun h => h), (EntAt.new' _ _ _ _ _ _ _ _ (by simp)).kept (Chg.alloc (fun _ => False) _ _) (fun _ _ _ h => h), ?_⟩
      exact ((HW.out.c.dr).en _ _ _ _ _ _ _).al _
end Go.Proofs.YtnnaemlipahamaaGreat

namespace Go.Proofs.YtnnaemlipahamaaGreat
open Go.RowKit Go.Maps

theorem spots_split {w' : World} {ob ib pb : Nat} {a b c d B : Int} {g st g2 st2 : Value} (h : SpB w' ob a b g st ∧ SpB w' ib c d g2 st2 ∧ w'.cell? ⟨pb, 2, none⟩ = some (.int .i64 B)) :
    w'.cell? ⟨ob, 0, none⟩ = some (.int .i64 a) ∧ w'.cell? ⟨ob, 1, none⟩ = some (.int .i64 b) ∧ w'.cell? ⟨ob, 2, none⟩ = some g ∧ w'.cell? ⟨ob, 3, none⟩ = some st ∧ w'.cell? ⟨ib, 0, none⟩ = some (.int .i64 c) ∧ w'.cell? ⟨ib, 1, none⟩ = some (.int .i64 d) ∧ w'.cell? ⟨ib, 2, none⟩ = some g2 ∧ w'.cell? ⟨ib, 3, none⟩ = some st2 ∧ w'.cell? ⟨pb, 2, none⟩ = some (.int .i64 B) :=
  ⟨h.1.c0, h.1.c1, h.1.c2, h.1.c3, h.2.1.c0, h.2.1.c1, h.2.1.c2, h.2.1.c3, h.2.2⟩
set_option maxHeartbeats 3200000 in
theorem way2 (q nb i A B : Nat) (w : World) (h8 : 136 ≤ i) (hi : i < 16520) (hA : A = (i - 136) / 128) (hB : B = (i - 136) % 128) :
    Calls Tryz.prog 83 #[tI q, .pointer (some ⟨nb, 0, none⟩), .int .i64 (i : Int)] w fun e w' => ∃ b s s2 s3, e = .returned (.slice (some ⟨b, 0, none⟩) 3 3) ∧ w.heap.size ≤ b ∧ w'.heap[b]? = some (.cells #[.int .i64 136, .int .i64 (-1), gF s, sF s, .int .i64 ((136 + 128 * A : Nat) : Int), .int .i64 136, gE (s2 + 4) (s2 + 2), sE (s2 + 4) (s2 + 2) s2, .int .i64 (i : Int), .int .i64 ((136 + 128 * A : Nat) : Int), gE (s3 + 4) (s3 + 2), sE (s3 + 4) (s3 + 2) s3] 113 (0, 0)) ∧ w.heap.size ≤ s ∧ s < b ∧ w.heap.size ≤ s2 ∧ s2 + 4 < b ∧ w.heap.size ≤ s3 ∧ s3 + 4 < b ∧ FldAt w' s ⟨nb, 12, none⟩ ∧ EntAt w' s2 q (gF s) (A : Int) ∧ EntAt w' s3 q (gE (s2 + 4) (s2 + 2)) (B : Int) ∧ Chg (fun _ => False) w w' := by
  have eA : ((i : Int) - 136) / 128 = (A : Int) := by omega
  have eB : ((i : Int) - 136) % 128 = (B : Int) := by omega
  have WH : Hid (Calls Tryz.prog 106 #[.int .i64 (i : Int)] w fun e w' => e = .returned (.tuple #[plV 2 (A : Int) (B : Int), .int .i64 0]) ∧ w' = w.alloc (plO 157 2 (A : Int) (B : Int))) := by
    have := where_two i w (by omega) (by omega)
    rw [eA, eB] at this
    exact this
  obtain ⟨F, hF⟩ : ∃ F, 136 + 128 * A = F := ⟨_, rfl⟩
  rw [hF]
  have w1 : IntKind.i64.wrap ((A : Int) * 128) = (A : Int) * 128 := by rw [IntKind.wrap_i64]; omega
  have w2 : IntKind.i64.wrap ((i : Int) - (A : Int) * 128) = (i : Int) - (A : Int) * 128 := by rw [IntKind.wrap_i64]; omega
  have w3 : IntKind.i64.wrap ((i : Int) - (A : Int) * 128 - (B : Int)) = 136 := by rw [IntKind.wrap_i64]; omega
  have w4 : (i : Int) - (B : Int) = (F : Int) := by omega
  have hFb : F < 100000 := by omega
  clear hA hB eA eB hF
  go_enter Tryz.func83, Tryz.ntmps83
  go_wp2_with fail
  refine WH.out.mono ?_
  clear WH
  rintro e w1 ⟨rfl, rfl⟩
  go_wp2_with fail
  go_cut [10] (fun x wc => ∃ ob s, x = .pointer (some ⟨ob, 0, none⟩) ∧ Way1 w wc ob s (w.heap.size + 1) ⟨nb, 12, none⟩ 136 2 (A : Int) (B : Int))
  case first =>
    go_region_with (first | (go_at_call 115; refine (field_any _ _ _).mono ?_; rintro e w2 ⟨rfl, rfl⟩))
    all_goals (go_wp2_with fail; go_meet; first | exact ⟨_, _, rfl, (way1_a w _ _ _ _ _ _).dr⟩ | exact ⟨_, _, rfl, (way1_b w _ _ _ _ _ _).dr⟩)
  case rest =>
    obtain ⟨ob, s, rfl, hw⟩ := hcut
    have k0 := hw.sp.c0
    have k1 := hw.sp.c1
    have k2 := hw.sp.c2
    have k3 := hw.sp.c3
    have k4 := hw.p0
    have k5 := hw.p1
    have k6 := hw.p2
    have HW : Hid (Way1 w wc ob s (w.heap.size + 1) ⟨nb, 12, none⟩ 136 2 (A : Int) (B : Int)) := hw
    clear hw w1 w2 w3
    go_wp2_with fail
    refine (entry_any q _ _ _ _ _ _ _).mono ?_
    rintro e w2 ⟨rfl, hw2⟩
    have hc2 : Chg (fun _ => False) wc w2 := hw2 ▸ entW_chg _ _ _ _ _ _ _ _
    have he2 : EntAt w2 wc.heap.size q (gF s) (A : Int) := hw2 ▸ EntAt.new _ _ _ _ _ _ _ _
    have hs2 : w2.heap.size = wc.heap.size + 5 := by rw [hw2]; exact entW_size _ _ _ _ _ _ _ _
    have ho := HW.out.sp.kept hc2 (fun h => h)
    obtain ⟨w3, hw3⟩ : ∃ w3, w2.alloc (spO (F : Int) 136 (gE (wc.heap.size + 4) (wc.heap.size + 2)) (sE (wc.heap.size + 4) (wc.heap.size + 2) wc.heap.size)) = w3 := ⟨_, rfl⟩
    have hc3 : Chg (fun _ => False) w2 w3 := hw3 ▸ Chg.alloc (fun _ => False) w2 _
    have ho3 := ho.kept hc3 (fun h => h)
    have hi3 : SpB w3 w2.heap.size (F : Int) 136 (gE (wc.heap.size + 4) (wc.heap.size + 2)) (sE (wc.heap.size + 4) (wc.heap.size + 2) wc.heap.size) := by
      rw [← hw3]
      refine ⟨?_, ?_, ?_, ?_⟩ <;> (rw [World.cell?_alloc_at _ _ _ _ rfl]; rfl)
    have q2 := (hc2.trans hc3 (fun _ _ h => h)).cell k6 (fun h => h)
    have HC2 : Hid (Chg (fun _ => False) w w3 ∧ EntAt w3 wc.heap.size q (gF s) (A : Int) ∧ FldAt w3 s ⟨nb, 12, none⟩ ∧ wc.heap.size + 5 ≤ w3.heap.size) := ⟨HW.out.c.trans (hc2.trans hc3 (fun _ _ h => h)) (fun _ _ h => h), he2.kept hc3 (fun _ _ _ h => h), HW.out.f.kept (hc2.trans hc3 (fun _ _ h => h)) (fun h => h), by have := hc3.size; omega⟩
    have HN : Hid (w.heap.size ≤ wc.heap.size ∧ w.heap.size ≤ s ∧ s < wc.heap.size) := ⟨HW.out.c.size, HW.out.n, World.block_lt_of_cell? wc _ HW.out.f⟩
    obtain ⟨ib, hib⟩ : ∃ ib, w2.heap.size = ib := ⟨_, rfl⟩
    have HIB : Hid (w2.heap.size = ib) := hib
    rw [hib] at hi3
    have hS : SpB w3 ob 136 (-1) (gF s) (sF s) ∧ SpB w3 ib (F : Int) 136 (gE (wc.heap.size + 4) (wc.heap.size + 2)) (sE (wc.heap.size + 4) (wc.heap.size + 2) wc.heap.size) ∧ w3.cell? ⟨w.heap.size + 1, 2, none⟩ = some (.int .i64 (B : Int)) := ⟨ho3, hi3, q2⟩
    obtain ⟨t, ht⟩ : ∃ t, wc.heap.size = t := ⟨_, rfl⟩
    have HW3 : Hid (w2.alloc (spO (F : Int) 136 (gE (t + 4) (t + 2)) (sE (t + 4) (t + 2) t)) = w3) := by rw [← ht]; exact hw3
    rw [ht] at hS HC2 HN
    have EN : Hid (Calls Tryz.prog 116 #[tI q, spV (F : Int) 136 (gE (t + 4) (t + 2)) (sE (t + 4) (t + 2) t), .int .i64 (B : Int), .int .i64 (i : Int)] w3.drew fun e w4 => ∃ s3, e = .returned (spV (i : Int) (F : Int) (gE (s3 + 4) (s3 + 2)) (sE (s3 + 4) (s3 + 2) s3)) ∧ (∀ w5, Chg (fun _ => False) w4 w5 → SpB w5 ob 136 (-1) (gF s) (sF s) ∧ SpB w5 ib (F : Int) 136 (gE (t + 4) (t + 2)) (sE (t + 4) (t + 2) t) ∧ w5.cell? ⟨w.heap.size + 1, 2, none⟩ = some (.int .i64 (B : Int))) ∧ Hid (EntAt w4 s3 q (gE (t + 4) (t + 2)) (B : Int) ∧ Chg (fun _ => False) w3 w4 ∧ w3.heap.size ≤ s3 ∧ s3 + 4 < w4.heap.size)) := by
      refine (entry_any q _ _ _ _ _ _ _).mono ?_
      rintro e w4 ⟨rfl, rfl⟩
      have hce := ((Chg.refl (fun _ => False) w3).dr).en q (F : Int) 136 (gE (t + 4) (t + 2)) (sE (t + 4) (t + 2) t) (B : Int) (i : Int)
      refine ⟨_, rfl, fun w5 h5 => ?_, EntAt.new _ _ _ _ _ _ _ _, hce, by simp, by simp⟩
      have h6 := hce.trans h5 (fun _ _ h => h)
      exact ⟨hS.1.kept h6 (fun h => h), hS.2.1.kept h6 (fun h => h), h6.cell hS.2.2 (fun h => h)⟩
    obtain ⟨⟨a0, a1, a2, a3⟩, ⟨b0, b1, b2, b3⟩, c0⟩ := hS
    clear hw2 hc2 he2 hs2 ho hw3 hc3 ho3 hi3 k0 k1 k2 k3 HW hib q2
    go_wp2_with fail
    rw [HIB.out]
    generalize hG : w2.alloc _ = w4
    obtain rfl : w3 = w4 := HW3.out.symm.trans (by rw [← hG, ← ht])
    clear HW3 HIB hG k4 k5 k6 ht
    go_region_held (fun w' => w'.cell? ⟨ob, 0, none⟩ = some (.int .i64 136) ∧ w'.cell? ⟨ob, 1, none⟩ = some (.int .i64 (-1)) ∧ w'.cell? ⟨ob, 2, none⟩ = some (gF s) ∧ w'.cell? ⟨ob, 3, none⟩ = some (sF s) ∧ w'.cell? ⟨ib, 0, none⟩ = some (.int .i64 (F : Int)) ∧ w'.cell? ⟨ib, 1, none⟩ = some (.int .i64 136) ∧ w'.cell? ⟨ib, 2, none⟩ = some (gE (t + 4) (t + 2)) ∧ w'.cell? ⟨ib, 3, none⟩ = some (sE (t + 4) (t + 2) t) ∧ w'.cell? ⟨w.heap.size + 1, 2, none⟩ = some (.int .i64 (B : Int)))
      (first | assumption | exact ⟨a0, a1, a2, a3, b0, b1, b2, b3, c0⟩ | exact HS (Chg.refl _ _) | exact HS (Chg.alloc _ _ _))
      (first | (go_at_call 116; refine EN.out.mono ?_; clear EN; rintro e w5 ⟨s3, rfl, hs5, HE⟩; have HS := fun {w6 : World} (h6 : Chg (fun _ => False) w5 w6) => spots_split (hs5 w6 h6); clear hs5))
    all_goals go_wp2
    all_goals go_ret
    all_goals
      obtain ⟨h1, h2, h3⟩ := HN.out
      obtain ⟨g1, g2, g3, g4⟩ := HC2.out
      obtain ⟨f1, f2, f3, f4⟩ := HE.out
      have g5 := g1.size
      refine ⟨w5.heap.size, s, t, s3, by simp, by omega, heap_new' rfl, h2, by omega, h1, by omega, by omega, by omega, g3.kept (f2.al _) (fun h => h), g2.kept (f2.al _) (fun _ _ _ h => h), f1.kept (Chg.alloc (fun _ => False) _ _) (fun _ _ _ h => h), ?_⟩
      exact (g1.trans f2 (fun _ _ h => h)).al _
end Go.Proofs.YtnnaemlipahamaaGreat

namespace Go.Proofs.YtnnaemlipahamaaGreat
open Go.RowKit Go.Maps

/-- The closure that begun hands over. -/
abbrev bgC (ib : Nat) : Value := .func (.func 84) #[] #[.pointer (some ⟨ib, 0, none⟩)]
theorem begun1_any (fi wi : Int) (g st : Value) (ib i : Nat) (w : World) (h : w.cell? ⟨ib, 0, none⟩ = some (.int .i64 (i : Int))) :
    Calls Tryz.prog 84 #[spV fi wi g st, .pointer (some ⟨ib, 0, none⟩)] w fun e w' => e = .returned (.bool (decide (fi < (i : Int)))) ∧ w' = w.alloc (spO fi wi g st) := by
  have h' := (Chg.alloc (fun _ => False) w (spO fi wi g st)).cell h (fun h => h)
  go_enter Tryz.func84, Tryz.ntmps84
  go_wp2
  go_ret
  exact ⟨rfl, rfl⟩

/-- A spot by its four parts. -/
structure Sp where
  fi : Int
  wi : Int
  g : Value
  st : Value
abbrev Sp.no : Sp := ⟨0, 0, .nilFunc, .nilFunc⟩
/-- Spot j of a row of cells is x. -/
structure SpEl (cur : Array Value) (j : Nat) (x : Sp) : Prop where
  c0 : cur[j * 4]? = some (.int .i64 x.fi)
  c1 : cur[j * 4 + 1]? = some (.int .i64 x.wi)
  c2 : cur[j * 4 + 2]? = some x.g
  c3 : cur[j * 4 + 3]? = some x.st
/-- Block b is a row of spots. -/
def SpR (w : World) (b : Nat) (cur : Array Value) : Prop := w.heap[b]? = some (.cells cur 113 (0, 0))
theorem SpR.kept {S : Nat → Prop} {w w' : World} {b : Nat} {cur : Array Value} (h : SpR w b cur) (hc : Chg S w w') (hn : ¬ S b) : SpR w' b cur := (hc.block b (lt_of_block h) hn).trans h
theorem SpR.cell {w : World} {b : Nat} {cur : Array Value} (h : SpR w b cur) {j : Nat} {x : Sp} (hx : SpEl cur j x) :
    w.cell? ⟨b, j * 4, none⟩ = some (.int .i64 x.fi) ∧ w.cell? ⟨b, j * 4 + 1, none⟩ = some (.int .i64 x.wi) ∧ w.cell? ⟨b, j * 4 + 2, none⟩ = some x.g ∧ w.cell? ⟨b, j * 4 + 3, none⟩ = some x.st := by
  refine ⟨?_, ?_, ?_, ?_⟩
  · rw [cell_of_row _ _ _ _ _ _ h]; exact hx.c0
  · rw [cell_of_row _ _ _ _ _ _ h]; exact hx.c1
  · rw [cell_of_row _ _ _ _ _ _ h]; exact hx.c2
  · rw [cell_of_row _ _ _ _ _ _ h]; exact hx.c3
theorem SpR.free {w : World} {b : Nat} {cur : Array Value} (h : SpR w b cur) (o : Nat) : w.frozen? ⟨b, o, none⟩ = false := frozen_of_row w b _ _ _ h

section
variable {w : World} {b ib i n c : Nat} {cur : Array Value} {l : Nat → Sp}
set_option maxHeartbeats 800000 in
theorem index_none (hr : SpR w b cur) (hl : ∀ j, j < n → SpEl cur j (l j)) (hi : w.cell? ⟨ib, 0, none⟩ = some (.int .i64 (i : Int))) (hd : ∀ j, j < n → ¬ (l j).fi < (i : Int)) (hn : n ≤ 3) (_hc : n ≤ c) :
    Calls Tryz.prog 114 #[.slice (some ⟨b, 0, none⟩) n c, bgC ib] w fun e w' => e = .returned (.int .i64 (-1)) ∧ Chg (fun _ => False) w w' := by
  have HR : Hid (SpR w b cur) := hr
  have HL : Hid (∀ j, j < n → SpEl cur j (l j)) := hl
  have HI : Hid (w.cell? ⟨ib, 0, none⟩ = some (.int .i64 (i : Int))) := hi
  have HD : Hid (∀ j, j < n → ¬ (l j).fi < (i : Int)) := hd
  clear hr hl hi hd
  go_enter Tryz.func114, Tryz.ntmps114
  go_wp2
  go_loopw [8] (fun x wr => ∃ k : Nat, k ≤ n ∧ x = .int .i64 (k : Int) ∧ Hid (Chg (fun _ => False) w wr)) (fun x _ => n - (intOf x).toNat)
  case atStart => exact ⟨0, by omega, rfl, Chg.refl _ _⟩
  case round =>
    obtain ⟨k, hk, rfl, HC⟩ := hrel
    by_cases hlt : k < n
    · have k1 : (k : Int) < (n : Int) := by omega
      obtain ⟨c0, c1, c2, c3⟩ := (HR.out.kept HC.out (fun h => h)).cell (HL.out k hlt)
      have HB : Hid _ := begun1_any (l k).fi (l k).wi (l k).g (l k).st ib i wr (HC.out.cell HI.out (fun h => h))
      have hdf : decide ((l k).fi < (i : Int)) = false := by simpa using HD.out k hlt
      rw [hdf] at HB
      generalize (l k).fi = fi at *
      generalize (l k).wi = wi at *
      generalize (l k).g = g at *
      generalize (l k).st = st at *
      go_wp2_with fail
      refine (show Calls _ _ _ _ _ from HB.out).mono ?_
      rintro e w2 ⟨rfl, hw2⟩
      have HC2 : Hid (Chg (fun _ => False) w w2) := HC.out.trans (hw2 ▸ Chg.alloc (fun _ => False) wr _) (fun _ _ h => h)
      clear hw2 HB
      go_wp2
      go_roundw
      case rel => exact ⟨k + 1, by omega, by go_num, HC2⟩
      case measure => simp [intOf]; omega
    · have k1 : ¬ ((k : Int) < (n : Int)) := by omega
      go_wp2
      go_ret
      exact ⟨rfl, HC.out⟩
set_option maxHeartbeats 800000 in
theorem index_zero (hr : SpR w b cur) (hl : SpEl cur 0 (l 0)) (hi : w.cell? ⟨ib, 0, none⟩ = some (.int .i64 (i : Int))) (hd : (l 0).fi < (i : Int)) (hn : 0 < n) (hn3 : n ≤ 3) (_hc : n ≤ c) :
    Calls Tryz.prog 114 #[.slice (some ⟨b, 0, none⟩) n c, bgC ib] w fun e w' => e = .returned (.int .i64 0) ∧ Chg (fun _ => False) w w' := by
  obtain ⟨c0, c1, c2, c3⟩ := hr.cell hl
  have HB : Hid _ := begun1_any (l 0).fi (l 0).wi (l 0).g (l 0).st ib i w hi
  have hdf : decide ((l 0).fi < (i : Int)) = true := by simpa using hd
  rw [hdf] at HB
  generalize (l 0).fi = fi at *
  generalize (l 0).wi = wi at *
  generalize (l 0).g = g at *
  generalize (l 0).st = st at *
  have k1 : (0 : Int) < (n : Int) := by omega
  simp only [Nat.zero_mul, Nat.zero_add] at c0 c1 c2 c3
  clear hr hl hi hd hdf
  go_enter Tryz.func114, Tryz.ntmps114
  go_wp2
  go_loopw [8] (fun x wr => x = .int .i64 0 ∧ wr = w) (fun _ _ => 0)
  case atStart => exact ⟨rfl, rfl⟩
  case round =>
    obtain ⟨rfl, rfl⟩ := hrel
    go_wp2_with fail
    refine (show Calls _ _ _ _ _ from HB.out).mono ?_
    rintro e w2 ⟨rfl, hw2⟩
    have HC2 : Hid (Chg (fun _ => False) wr w2) := hw2 ▸ Chg.alloc (fun _ => False) wr _
    clear hw2 HB
    go_wp2
    go_ret
    exact ⟨rfl, HC2.out⟩
end
end Go.Proofs.YtnnaemlipahamaaGreat

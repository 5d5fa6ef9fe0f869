/-
  slotBlocks, blocks, further of a node: contracts.
-/
import Derived.Test.YtdcmkcplklkfmaaDoorTMem
import Derived.Laws.MakeOwn
import Derived.BigQuiet
import Derived.Deep.QuietTactic
namespace Go.Proofs.YtdcmkcplklkfmaaDoor
open Go.RowKit Go.Maps

/-- Free slots, as they are made. -/
theorem makeEs (n : Nat) (hn : n ≤ 100000) : ∃ o : Obj, (∀ w : World, (Instr.makeSlice 107 (.int .i64 (n : Int)) (.int .i64 (n : Int))).run Tryd.prog w = .ok (.slice (some ⟨w.heap.size, 0, none⟩) n n) (w.alloc o)) ∧ ∀ w : World, Es (w.alloc o) (.slice (some ⟨w.heap.size, 0, none⟩) n n) (List.replicate n En.fr) := by
  obtain ⟨i0, hi, hz0, hz1, hz2⟩ := info_parts infoE
  refine ⟨.cells (madeCells (Value.agg #[.string ⟨#[]⟩, .int .i64 0]).cells (n * 2)) 118, fun w => ?_, fun w => ?_⟩
  · have := run_make (P := Tryd.prog) w 107 118 i0 _ Tryd.underlying107 hi hz0 .i64 .i64 (n : Int) (n : Int) (by omega) (by omega) (by rw [hz2]; omega) (by omega)
    rw [hz1] at this
    exact this
  · refine ⟨_, n, by rw [List.length_replicate], by rw [List.length_replicate]; exact Nat.le_refl _, by unfold maxLen; omega, (fun h => by cases h), fun _ => ⟨w.heap.size, 0, rfl, fun j hj => ?_⟩⟩
    rw [List.length_replicate] at hj
    have e : (List.replicate n En.fr).getD j En.fr = En.fr := by simp [List.getD, hj]
    rw [e]
    have h2 : (Value.agg #[.string ⟨#[]⟩, .int .i64 0]).cells = #[.string ⟨#[]⟩, .int .i64 0] := rfl
    constructor
    · rw [cell_of_row _ _ _ _ _ _ (heap_alloc_new w _), h2]
      simp [madeCells, show j * 2 < n * 2 by omega]
    · rw [cell_of_row _ _ _ _ _ _ (heap_alloc_new w _), h2]
      simp [madeCells, show j * 2 + 1 < n * 2 by omega, show (j * 2 + 1) % 2 = 1 by omega]

/-- The blocks of so many slots. -/
def slB (n : Nat) : Int := allN (sizeS n)
theorem slB_bd (n : Nat) : 0 ≤ slB n ∧ slB n ≤ 20000 := allN_bd _
set_option maxHeartbeats 800000 in
theorem slotBlocks_any (n : Nat) (w : World) (hT : Tab w) (hn : n ≤ 100000) :
    Calls Tryd.prog 55 #[.int .i64 n] w fun e w' => e = .returned (.int .i64 (slB n)) ∧ Below w.heap.size w w' := by
  obtain ⟨o, ho, hE⟩ := makeEs n hn
  have ho1 := ho w
  have hE1 := hE w
  have B1 : Below w.heap.size w (w.alloc o) := (Below.refl _ _).alloc (Nat.le_refl _) _
  have hT1 : Tab (w.alloc o) := fun j hj => (Chg.ofBelowC B1).cell (hT j hj) (fun h => h)
  have hb := dbytes_any _ _ _ hT1 hE1 (by rw [List.length_replicate]; exact hn) (fun j hj => by
    have hj' : j < n := by simpa using hj
    simp [List.getD, hj', En.fr, ByteArray.size])
  rw [List.length_replicate] at hb
  go_enter Tryd.func55, Tryd.ntmps55
  go_wp2_with fail
  refine hb.mono ?_
  rintro e w1 ⟨g, rfl, _, _, B2⟩
  have hsz : sizeS n ≤ 16777216 := by unfold sizeS; omega
  have B3 := B1.trans (B2.mono B1.size)
  clear hb hE1 hE ho ho1 hT1 B1 B2
  go_wp2_with fail
  refine (all_any _ _).mono ?_
  rintro e w2 ⟨rfl, C4⟩
  have B5 := B3.trans ((C4.below (Nat.le_refl _) (fun _ h => h.elim)).mono B3.size)
  clear C4 B3
  go_wp2_with fail
  go_ret
  exact ⟨rfl, B5⟩

/-- The blocks of a node. -/
def Nd.blk : Nd → Int
  | .file bs => allN bs.length
  | .dir s _ => slB s
theorem Nd.blk_bd (nd : Nd) : 0 ≤ nd.blk ∧ nd.blk ≤ 20000 := by cases nd <;> exact allN_bd _
set_option maxHeartbeats 800000 in
theorem blocksF_any (b : Nat) (v : Value) (bs : List Int) (w : World) (h0 : w.cell? ⟨b, 0, none⟩ = some (.bool true)) (h1 : w.cell? ⟨b, 1, none⟩ = some v) (h2 : w.ownsRow 0 5 1 v bs.length (bcells bs)) :
    Calls Tryd.prog 44 #[ptr b] w fun e w' => e = .returned (.int .i64 (allN bs.length)) ∧ Below w.heap.size w w' := by
  obtain ⟨a, c, rfl⟩ : ∃ a c, v = .slice a bs.length c := by
    rcases h2.2 with ⟨rfl, h⟩ | ⟨g, cap, cur, rfl, _⟩
    · exact ⟨none, 0, by rw [h]⟩
    · exact ⟨_, _, rfl⟩
  clear h2
  go_enter Tryd.func44, Tryd.ntmps44
  go_wp2_with fail
  refine (all_any _ _).mono ?_
  rintro e w2 ⟨rfl, C4⟩
  have B5 := C4.below (Nat.le_refl _) (fun _ h => h.elim)
  clear C4
  go_wp2_with fail
  go_ret
  exact ⟨rfl, B5⟩
set_option maxHeartbeats 800000 in
theorem blocksD_any (b s : Nat) (w : World) (hT : Tab w) (h0 : w.cell? ⟨b, 0, none⟩ = some (.bool false)) (h1 : w.cell? ⟨b, 3, none⟩ = some (.int .i64 s)) (hs : s ≤ 100000) :
    Calls Tryd.prog 44 #[ptr b] w fun e w' => e = .returned (.int .i64 (slB s)) ∧ Below w.heap.size w w' := by
  go_enter Tryd.func44, Tryd.ntmps44
  go_wp2_with fail
  refine (slotBlocks_any _ _ hT hs).mono ?_
  rintro e w2 ⟨rfl, B⟩
  clear h0 h1
  go_wp2_with fail
  go_ret
  exact ⟨rfl, B⟩
/-- The blocks that a further name needs. -/
def furB (s n : Nat) : Int := if n < s then 0 else slB (s + 1) - slB s
theorem tab_below {w w' : World} (h : Tab w) (hb : Below w.heap.size w w') : Tab w' := fun j hj => (Chg.ofBelowC hb).cell (h j hj) (fun h => h)
theorem SMap.lenN {w : World} {m n : Nat} {f : ByteArray → Option Value} (h : SMap w m n f) (ty : TypeId) (k : Nat) :
    (Builtin.len_ #[53] ty #[.map (some m)]).run Tryd.prog (w.drewN k) = .ok (.int .i64 n) (w.drewN k) := (h.kept (w' := w.drewN k) rfl).len ty
set_option maxHeartbeats 1600000 in
set_option maxRecDepth 100000 in
theorem further_any (b s n m : Nat) (f : ByteArray → Option Value) (w : World) (hT : Tab w) (h2 : w.cell? ⟨b, 2, none⟩ = some (.map (some m))) (hm : SMap w m n f) (h1 : w.cell? ⟨b, 3, none⟩ = some (.int .i64 s)) (hs : s ≤ 90000) (hn : n ≤ s) :
    Calls Tryd.prog 40 #[ptr b] w fun e w' => e = .returned (.int .i64 (furB s n)) ∧ Below w.heap.size w w' := by
  have hl := hm.lenN 3
  unfold furB
  by_cases h : n < s
  · have q : (n : Int) < s := by omega
    rw [if_pos h]
    clear hm
    go_enter Tryd.func40, Tryd.ntmps40
    go_wp2_with fail
    go_quiet (fail)
    clear hl
    go_wp2_with fail
    go_ret
    exact ⟨rfl, rfl, rfl, rfl, Nat.le_refl _, fun _ _ => rfl⟩
  · have q : ¬ (n : Int) < s := by omega
    have q2 : decide (n < s) = false := by simpa using h
    rw [if_neg h]
    have b1 := slB_bd (s + 1)
    have b2 := slB_bd s
    have HC : ∀ wb, (wb.cell? ⟨b, 3, none⟩ = some (.int .i64 s) ∧ Hid (Below w.heap.size w wb)) → ∀ k : Nat, k ≤ 100000 → Hid (Calls Tryd.prog 55 #[.int .i64 k] wb fun e w' => e = .returned (.int .i64 (slB k)) ∧ w'.cell? ⟨b, 3, none⟩ = some (.int .i64 s) ∧ Hid (Below w.heap.size w w')) := by
      intro wb hS k hk
      refine (slotBlocks_any k wb (tab_below hT hS.2.out) hk).mono ?_
      rintro e w' ⟨rfl, B⟩
      exact ⟨rfl, (Chg.ofBelowC B).cell hS.1 (fun h => h), hS.2.out.trans (B.mono hS.2.out.size)⟩
    have HC1 : ∀ wb, (wb.cell? ⟨b, 3, none⟩ = some (.int .i64 s) ∧ Hid (Below w.heap.size w wb)) → Hid (Calls Tryd.prog 55 #[.int .i64 ((s : Int) + 1)] wb fun e w' => e = .returned (.int .i64 (slB (s + 1))) ∧ w'.cell? ⟨b, 3, none⟩ = some (.int .i64 s) ∧ Hid (Below w.heap.size w w')) := fun wb hS => by
      have := HC wb hS (s + 1) (by omega)
      simpa using this
    have HC2 := fun wb hS => HC wb hS s (by omega)
    obtain ⟨X, hX⟩ : ∃ X, slB (s + 1) = X := ⟨_, rfl⟩
    obtain ⟨Y, hY⟩ : ∃ Y, slB s = Y := ⟨_, rfl⟩
    rw [hX] at HC1 b1
    rw [hY] at HC2 b2
    rw [hX, hY]
    have wx : IntKind.i64.wrap (X - Y) = X - Y := by rw [IntKind.wrap_i64]; omega
    have wr : IntKind.i64.wrap ((s : Int) + 1) = s + 1 := by rw [IntKind.wrap_i64]; omega
    have B0 : ∀ k, Hid (Below w.heap.size w (w.drewN k).drew) := fun k => ⟨rfl, rfl, rfl, Nat.le_refl _, fun _ _ => rfl⟩
    have B9 : ∀ k, Hid (Below w.heap.size w (w.drewN k)) := fun k => ⟨rfl, rfl, rfl, Nat.le_refl _, fun _ _ => rfl⟩
    clear HC hX hY hm
    go_enter Tryd.func40, Tryd.ntmps40
    go_wp2_with fail
    go_quiet (fail)
    clear hl
    go_wp2_with fail
    go_region_held (fun w' => w'.cell? ⟨b, 3, none⟩ = some (.int .i64 s) ∧ Hid (Below w.heap.size w w')) (first | with_reducible assumption | exact ⟨h1, B0 _⟩ | exact ⟨h1, B9 _⟩)
      (first | (go_at_call 55; refine (HC1 _ (by first | with_reducible assumption | exact ⟨h1, B0 _⟩ | exact ⟨h1, B9 _⟩)).out.mono ?_; rintro e w5 ⟨rfl, hS5⟩) | (go_at_call 55; refine (HC2 _ (by first | with_reducible assumption | exact ⟨h1, B0 _⟩ | exact ⟨h1, B9 _⟩)).out.mono ?_; rintro e w5 ⟨rfl, hS5⟩))
    all_goals go_wp2_with fail
    all_goals go_ret
    all_goals exact ⟨by first | rfl | (simp only [wx]; rfl), hS5.2.out⟩
end Go.Proofs.YtdcmkcplklkfmaaDoor

/-
  twin of a node: contract.
-/
import Derived.Test.YtdcmkcplklkfmaaDoorTSub
import Derived.BigRegion
namespace Go.Proofs.YtdcmkcplklkfmaaDoor
open Go.RowKit Go.Maps Go.Sort

abbrev ndO5 (f : Bool) (v : Value) (mo : Option Nat) (s : Int) : Obj := .cells #[.bool f, v, .map mo, .int .i64 s] 55
set_option maxHeartbeats 400000 in
theorem clone_nil (w : World) : Calls Tryd.prog 34 #[.slice none 0 0] w fun e w' => e = .returned (.slice none 0 0) ∧ w' = w := by
  have hq := eq32_nil
  go_enter Tryd.func34, Tryd.ntmps34
  go_wp2
  go_ret
  exact ⟨rfl, rfl⟩
theorem below_alloc' {w w' : World} (h : Hid (Below w.heap.size w w')) (o : Obj) : Hid (Below w.heap.size w (w'.alloc o)) := Below.alloc h.out h.out.size o
set_option maxHeartbeats 1600000 in
theorem twin_file (b : Nat) (v : Value) (bs : List Int) (w : World) (c0 : w.cell? ⟨b, 0, none⟩ = some (.bool true)) (c1 : w.cell? ⟨b, 1, none⟩ = some v) (ho : w.ownsRow 0 5 1 v bs.length (bcells bs)) (c2 : w.cell? ⟨b, 2, none⟩ = some (.map none)) (c3 : w.cell? ⟨b, 3, none⟩ = some (.int .i64 0)) (hl : bs.length ≤ 1099511627776) :
    Calls Tryd.prog 19 #[ptr b] w fun e w' => ∃ u g, e = .returned (ptr g) ∧ Below w.heap.size w w' ∧ w.heap.size ≤ g ∧ w'.heap[g]? = some (ndO5 true u none 0) ∧ w'.ownsRow w.heap.size 5 1 u bs.length (bcells bs) := by
  have HC : ∀ wb, Hid (Below w.heap.size w wb) → Hid (Calls Tryd.prog 34 #[v] wb fun e w' => ∃ ua uc, e = .returned (.slice ua bs.length uc) ∧ Hid (Below w.heap.size w w') ∧ Hid (w'.ownsRow w.heap.size 5 1 (.slice ua bs.length uc) bs.length (bcells bs))) := by
    intro wb hb
    refine (cloneB_any v bs wb (Bs.ofOwns (own_far ho (Chg.ofBelowC hb.out) (fun _ _ h => h))) hl).mono ?_
    rintro e w' ⟨u, rfl, h1, h2⟩
    obtain ⟨ua, uc, rfl⟩ := own_form' h1
    exact ⟨ua, uc, rfl, hb.out.trans (h2.below hb.out.size (fun _ h => h.elim)), own_monoT h1 hb.out.size⟩
  have HS : ∀ w', Hid (Below w.heap.size w w') → (Hid (Below w.heap.size w w') ∧ w'.cell? ⟨b, 0, none⟩ = some (.bool true) ∧ w'.cell? ⟨b, 1, none⟩ = some v ∧ w'.cell? ⟨b, 3, none⟩ = some (.int .i64 0)) := fun w' hb => ⟨hb, (Chg.ofBelowC hb.out).cell c0 (fun h => h), (Chg.ofBelowC hb.out).cell c1 (fun h => h), (Chg.ofBelowC hb.out).cell c3 (fun h => h)⟩
  have B0 : ∀ k, Hid (Below w.heap.size w (w.drewN k).drew) := fun k => ⟨rfl, rfl, rfl, Nat.le_refl _, fun _ _ => rfl⟩
  have B9 : ∀ k, Hid (Below w.heap.size w (w.drewN k)) := fun k => ⟨rfl, rfl, rfl, Nat.le_refl _, fun _ _ => rfl⟩
  have B1 : Hid (Below w.heap.size w w.drew) := ⟨rfl, rfl, rfl, Nat.le_refl _, fun _ _ => rfl⟩
  have BA : ∀ w' o, Hid (Below w.heap.size w w') → Hid (Below w.heap.size w (w'.alloc o)) := fun w' o h => below_alloc' h o
  have END : ∀ w5, Hid (Below w.heap.size w w5) → ∀ (ua : Option Addr) (uc : Nat) w6, w5.alloc (ndO5 true (.slice ua bs.length uc) none 0) = w6 → w6.cell? ⟨b, 0, none⟩ = some (.bool true) ∧ w6.cell? ⟨b, 2, none⟩ = some (.map none) ∧ w6.heap[w5.heap.size]? = some (ndO5 true (.slice ua bs.length uc) none 0) ∧ Hid (Below w.heap.size w w6) := by
    rintro w5 HB ua uc w6 rfl
    have HB6 := BA w5 (ndO5 true (.slice ua bs.length uc) none 0) HB
    exact ⟨(Chg.ofBelowC HB6.out).cell c0 (fun h => h), (Chg.ofBelowC HB6.out).cell c2 (fun h => h), heap_alloc_new _ _, HB6⟩
  obtain ⟨a, c, rfl⟩ := own_form' ho
  clear ho c2
  go_enter Tryd.func19, Tryd.ntmps19
  go_wp2_with fail
  go_region_held (fun w' => (Hid (Below w.heap.size w w') ∧ w'.cell? ⟨b, 0, none⟩ = some (.bool true) ∧ w'.cell? ⟨b, 1, none⟩ = some (.slice a bs.length c) ∧ w'.cell? ⟨b, 3, none⟩ = some (.int .i64 0))) (exact HS _ (by first | with_reducible assumption | exact B1 | exact B0 _ | exact B9 _ | exact BA _ _ (by with_reducible assumption)))
    (first | (go_at_call 34; refine (HC _ (by first | with_reducible assumption | exact B1 | exact B0 _ | exact B9 _)).out.mono ?_; rintro e w5 ⟨ua, uc, rfl, HB5, HO5⟩))
  obtain ⟨w6, hw6⟩ : ∃ w6, w5.alloc (ndO5 true (.slice ua bs.length uc) none 0) = w6 := ⟨_, rfl⟩
  obtain ⟨g0, g2, hg, HB6⟩ := END w5 HB5 ua uc w6 hw6
  have HO6 : Hid (w6.ownsRow w.heap.size 5 1 (.slice ua bs.length uc) bs.length (bcells bs)) := by
    rw [← hw6]; exact own_keptT HO5.out (below_alloc _ _)
  have HQ : Hid (w6.heap[w5.heap.size]? = some (ndO5 true (.slice ua bs.length uc) none 0) ∧ w.heap.size ≤ w5.heap.size) := ⟨hg, HB5.out.size⟩
  rw [hw6]
  clear hw6 END HS B0 B9 B1 BA HC HB5 HO5 c0 c1 c3 hg
  have hrg := run_range_nilMap (P := Tryd.prog) w6 53 9 56 Tryd.underlying53
  have hnx : ∀ ty, (Instr.next (.pointer (some ⟨w6.heap.size, 0, none⟩)) false ty).run Tryd.prog (w6.alloc (.mapIter none 0 #[] 0)) = _ := fun ty => run_next_nilMap w6 ty 0 0 #[]
  go_wp2_with fail
  refine wp_loop_rounds 1 ?_
  rw [rounds_succ]
  go_wp2_with fail
  go_ret
  have B7 := below_alloc w6 (.mapIter none 0 #[] 0)
  exact ⟨_, _, rfl, HB6.out.trans (B7.mono HB6.out.size), HQ.out.2, ((Chg.ofBelowC B7).block _ (by
    by_cases hlt : w5.heap.size < w6.heap.size
    · exact hlt
    · have := HQ.out.1
      simp [Array.getElem?_eq_none (Nat.le_of_not_lt hlt)] at this) (fun h => h)).trans HQ.out.1, own_keptT HO6.out B7⟩
end Go.Proofs.YtdcmkcplklkfmaaDoor

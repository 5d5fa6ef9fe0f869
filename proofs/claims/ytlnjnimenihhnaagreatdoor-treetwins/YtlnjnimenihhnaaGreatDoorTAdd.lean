/-
  bytes.Clone, extend, cut: contracts.
-/
import Derived.Test.YtlnjnimenihhnaaGreatDoorTFind
import Derived.Deep.Cut
import Derived.BigQuiet
import Derived.Deep.QuietTactic
namespace Go.Proofs.YtlnjnimenihhnaaGreatDoor
open Go.RowKit Go.Maps

theorem eq32_nil (w : World) : (binOp .eql 33 (.slice none 0 0) (.slice none 0 0)).run Tryz.prog w = .ok (.bool true) w := by kernel_rfl
theorem eq32_some (a : Addr) (n c : Nat) (w : World) : (binOp .eql 33 (.slice (some a) n c) (.slice none 0 0)).run Tryz.prog w = .ok (.bool false) w := by kernel_rfl
set_option maxHeartbeats 400000 in
set_option maxRecDepth 100000 in
/-- bytes.Clone: new memory that holds the same. -/
theorem cloneB_any (v : Value) (xs : List Int) (w : World) (h : Bs w v xs) (hlen : xs.length ≤ 1099511627776) :
    Calls Tryz.prog 45 #[v] w fun e w' => ∃ u, e = .returned u ∧ w'.ownsRow w.heap.size 5 1 u xs.length (bcells xs) ∧ Chg (fun _ => False) w w' := by
  obtain ⟨i0, hi, hz0, hz1, hz2⟩ := info_parts cinfo5
  rcases h with ⟨rfl, rfl⟩ | ⟨a, c, rfl, hl, hm, hcell⟩
  · have hq := eq32_nil
    go_enter Tryz.func45, Tryz.ntmps45
    go_wp2
    go_ret
    exact ⟨_, rfl, World.ownsRow_nil _ _ _ _, Chg.refl _ _⟩
  · have h2 : Bs (w.alloc (.cells #[] 5)) (.slice (some a) xs.length c) xs := Bs.kept (.inr ⟨a, c, rfl, hl, hm, hcell⟩) (Chg.alloc (fun _ => False) w _) (fun _ _ _ _ _ h => h)
    obtain ⟨v', w', hr, ho, hg, hat⟩ := run_app (w.alloc (.cells #[] 5)) w.heap.size 33 33 i0 Tryz.underlying33 hi hz0 hz1 hz2 (.slice (some ⟨w.heap.size, 0, none⟩) 0 0) _ 0 [] xs (by simpa [bcells] using World.ownsRow_made (size := 1) w #[] 0 (Nat.le_refl _) (by simp [maxLen]) rfl) h2 (by simpa using hlen) (by simp)
    simp only [Nat.zero_add, List.nil_append] at ho
    have hc : Chg (fun _ => False) w w' := ⟨hg.os, hg.tape, hg.output, Nat.le_trans (by simp) hg.size, fun k hk _ => (hg.block k (by simp; omega) (by simp [Value.ownBlock]; omega)).trans (Below.heap_alloc w _ k hk)⟩
    clear h2 hg hat hcell hlen hm
    have hq := eq32_some a xs.length c
    go_enter Tryz.func45, Tryz.ntmps45
    go_wp2_with (at_builtin; go_must (refine Lib.wpList_append_run _ rfl (.tmp 5) (.tmp 6) 33 33 rfl _ _ rfl rfl v' w' hr ?_))
    go_ret
    exact ⟨v', rfl, ho, hc⟩
theorem Bs.form' {w : World} {v : Value} {xs : List Int} (h : Bs w v xs) : ∃ a c, v = .slice a xs.length c := by
  rcases h with ⟨rfl, rfl⟩ | ⟨a, c, rfl, _⟩
  · exact ⟨none, 0, rfl⟩
  · exact ⟨_, _, rfl⟩
theorem own_form' {w : World} {N n : Nat} {v : Value} {xs : List Value} (h : w.ownsRow N 5 1 v n xs) : ∃ a c, v = .slice a n c := by
  rcases h.2 with ⟨rfl, h2⟩ | ⟨g, cap, cur, rfl, _⟩
  · exact ⟨none, 0, by rw [h2]⟩
  · exact ⟨_, _, rfl⟩

theorem below_drewN (N k : Nat) (w : World) : Below N w (w.drewN k) := ⟨rfl, rfl, rfl, Nat.le_refl _, fun _ _ => rfl⟩
set_option maxHeartbeats 1600000 in
theorem extend_nil (t : Nat) (dv : Value) (w : World) :
    Calls Tryz.prog 26 #[ptr t, .pointer none, dv] w fun e w' => e = .returned (.int .i64 8) ∧ w' = w := by
  go_enter Tryz.func26, Tryz.ntmps26
  go_wp2_with fail
  go_ret
  exact ⟨rfl, rfl⟩
set_option maxHeartbeats 1600000 in
theorem extend_dir (t q : Nat) (dv : Value) (w : World) (c0 : w.cell? ⟨q, 0, none⟩ = some (.bool false)) :
    Calls Tryz.prog 26 #[ptr t, ptr q, dv] w fun e w' => e = .returned (.int .i64 10) ∧ w' = w := by
  go_enter Tryz.func26, Tryz.ntmps26
  go_wp2_with fail
  go_ret
  exact ⟨rfl, rfl⟩
set_option maxHeartbeats 1600000 in
theorem extend_long (t q : Nat) (v dv : Value) (bs ds : List Int) (w : World) (c0 : w.cell? ⟨q, 0, none⟩ = some (.bool true)) (c1 : w.cell? ⟨q, 1, none⟩ = some v) (ho : w.ownsRow 0 5 1 v bs.length (bcells bs)) (hd : Bs w dv ds) (hbs : bs.length ≤ 8458240) (hlong : 8458240 < bs.length + ds.length) :
    Calls Tryz.prog 26 #[ptr t, ptr q, dv] w fun e w' => e = .returned (.int .i64 5) ∧ Below w.heap.size w w' := by
  obtain ⟨a, c, rfl⟩ := own_form' ho
  obtain ⟨a2, c2, rfl⟩ := hd.form'
  generalize hn : bs.length = n at *
  generalize hk : ds.length = k at *
  have wr : IntKind.i64.wrap ((8458240 : Int) - n) = 8458240 - n := by rw [IntKind.wrap_i64]; omega
  have q1 : (8458240 : Int) - n < k := by omega
  have MS : Hid (∀ w, Calls Tryz.prog 54 #[] w fun e w' => e = .returned (.int .i64 8458240) ∧ w' = w) := most_any
  clear hn hk ho hd hbs hlong
  go_enter Tryz.func26, Tryz.ntmps26
  go_wp2_with fail
  go_quiet (first | (go_at_call 54; exact Calls.quiet_of_same (MS.out _)))
  all_goals go_wp2_with fail
  all_goals go_ret
  all_goals exact ⟨rfl, below_drewN _ _ _⟩
set_option maxHeartbeats 3200000 in
set_option maxRecDepth 100000 in
theorem extend_fit (t q : Nat) (v dv : Value) (bs ds : List Int) (bl : Int) (w : World) (c0 : w.cell? ⟨q, 0, none⟩ = some (.bool true)) (c1 : w.cell? ⟨q, 1, none⟩ = some v) (ho : w.ownsRow 0 5 1 v bs.length (bcells bs)) (hd : Bs w dv ds) (hlen : bs.length + ds.length ≤ 8458240) (cbl : w.cell? ⟨t, 4, none⟩ = some (.int .i64 bl)) (hb0 : -1000000000000 ≤ bl) (hb1 : bl ≤ 1000000000000) (frt : ∀ i, w.frozen? ⟨t, i, none⟩ = false) (frq : ∀ i, w.frozen? ⟨q, i, none⟩ = false)
    (hv : ∀ b, v.ownBlock = some b → ¬ b = t ∧ ¬ b = q) (hdt : ∀ a n c, dv = .slice (some a) n c → 0 < n → ¬ a.block = t) :
    Calls Tryz.prog 26 #[ptr t, ptr q, dv] w fun e w' => (bl < allN ((bs.length : Int) + ds.length) - allN bs.length ∧ e = .returned (.int .i64 7) ∧ Below w.heap.size w w') ∨
      (allN ((bs.length : Int) + ds.length) - allN bs.length ≤ bl ∧ e = .returned (.int .i64 0) ∧ ∃ v', w'.cell? ⟨q, 1, none⟩ = some v' ∧ w'.ownsRow 0 5 1 v' (bs.length + ds.length) (bcells (bs ++ ds)) ∧ (v'.ownBlock = v.ownBlock ∨ ∃ b, v'.ownBlock = some b ∧ w.heap.size ≤ b) ∧ Upd (fun b i => (b = t ∧ i = 4) ∨ (b = q ∧ i = 1)) (fun k => v.ownBlock = some k) w w' ∧ w'.cell? ⟨t, 4, none⟩ = some (.int .i64 (bl - (allN ((bs.length : Int) + ds.length) - allN bs.length)))) := by
  obtain ⟨i0, hi, hz0, hz1, hz2⟩ := info_parts cinfo5
  obtain ⟨a, c, rfl⟩ := own_form' ho
  obtain ⟨a2, c2, rfl⟩ := hd.form'
  have htl : t < w.heap.size := World.block_lt_of_cell? w ⟨t, 4, none⟩ cbl
  have hql : q < w.heap.size := World.block_lt_of_cell? w ⟨q, 1, none⟩ c1
  have bx := allN_bd ((bs.length : Int) + ds.length)
  have by' := allN_bd bs.length
  have B7 : Hid (∀ wb, Below w.heap.size w wb → Calls Tryz.prog 56 #[ptr q] wb fun e w' => e = .returned (.int .i64 (allN bs.length)) ∧ Below wb.heap.size wb w') := by
    intro wb hb
    exact blocksF_any q _ bs wb ((Chg.ofBelowC hb).cell c0 (fun h => h)) ((Chg.ofBelowC hb).cell c1 (fun h => h)) (own_far ho (Chg.ofBelowC hb) (fun _ _ h => h))
  have HH : Hid (w.ownsRow 0 5 1 (.slice a bs.length c) bs.length (bcells bs) ∧ Bs w (.slice a2 ds.length c2) ds ∧ (∀ b, (Value.slice a bs.length c).ownBlock = some b → ¬ b = t ∧ ¬ b = q) ∧ (∀ a n c, Value.slice a2 ds.length c2 = .slice (some a) n c → 0 < n → ¬ a.block = t) ∧ (∀ i, w.frozen? ⟨t, i, none⟩ = false) ∧ (∀ i, w.frozen? ⟨q, i, none⟩ = false)) := ⟨ho, hd, hv, hdt, frt, frq⟩
  have wr : IntKind.i64.wrap ((8458240 : Int) - bs.length) = 8458240 - bs.length := by rw [IntKind.wrap_i64]; omega
  have q1 : ¬ (8458240 : Int) - bs.length < ds.length := by omega
  have MS : Hid (∀ w, Calls Tryz.prog 54 #[] w fun e w' => e = .returned (.int .i64 8458240) ∧ w' = w) := most_any
  obtain ⟨X, hX⟩ : ∃ X, Hid (allN ((bs.length : Int) + ds.length) = X) := ⟨_, rfl⟩
  obtain ⟨Y, hY⟩ : ∃ Y, Hid (allN (bs.length : Int) = Y) := ⟨_, rfl⟩
  rw [hX.out] at bx
  rw [hY.out] at by' B7
  rw [hX.out, hY.out]
  have D0 : Hid (∀ k, Below w.heap.size w (w.drewN k)) := fun k => below_drewN _ _ _
  have W1 : Hid (w.cell? ⟨t, 4, none⟩ = some (.int .i64 bl) ∧ w.cell? ⟨q, 1, none⟩ = some (.slice a bs.length c)) := ⟨cbl, c1⟩
  clear ho hd hv hdt frt frq cbl
  go_enter Tryz.func26, Tryz.ntmps26
  go_wp2_with fail
  go_quiet (first | (go_at_call 54; exact Calls.quiet_of_same (MS.out _)))
  clear MS
  go_wp2_with fail
  · skip
    refine (all_any _ _).mono ?_
    rintro e w2 ⟨rfl, C2⟩
    rw [hX.out]
    have B2 : Hid (Below w.heap.size w w2) := (D0.out _).trans (C2.below (Nat.le_refl _) (fun _ h => h.elim))
    clear C2
    go_wp2_with fail
    refine (B7.out w2 B2.out).mono ?_
    rintro e w3 ⟨rfl, B3⟩
    have B4 : Hid (Below w.heap.size w w3) := B2.out.trans (B3.mono B2.out.size)
    have g4 := (Chg.ofBelowC B4.out).cell W1.out.1 (fun h => h)
    have fr4 : w3.frozen? ⟨t, 4, none⟩ = false := (World.frozen?_of_block ((Chg.ofBelowC B4.out).block t htl (fun h => h))).trans (HH.out.2.2.2.2.1 4)
    have wx : IntKind.i64.wrap (X - Y) = X - Y := by rw [IntKind.wrap_i64]; omega
    have wy : IntKind.i64.wrap (bl - (X - Y)) = bl - (X - Y) := by rw [IntKind.wrap_i64]; omega
    clear B3 B2 B7 c0 c1
    by_cases hf : bl < X - Y
    · go_wp2_with fail
      go_ret
      exact .inl ⟨hf, rfl, B4.out⟩
    · have U4 := Upd.setCell w3 t 4 (.int .i64 (bl - (X - Y)))
      have h4 := World.cell?_setCell_same w3 ⟨t, 4, none⟩ (.int .i64 (bl - (X - Y))) g4
      have g1 : (w3.setCell ⟨t, 4, none⟩ (.int .i64 (bl - (X - Y)))).cell? ⟨q, 1, none⟩ = some (.slice a bs.length c) := U4.cell _ _ _ (fun h => h) (by omega) ((Chg.ofBelowC B4.out).cell W1.out.2 (fun h => h))
      have U5 : Upd (fun b i => b = t ∧ i = 4) (fun _ => False) w (w3.setCell ⟨t, 4, none⟩ (.int .i64 (bl - (X - Y)))) := (Upd.below B4.out).trans U4
      go_upto_region 11 with fail
      generalize w3.setCell ⟨t, 4, none⟩ (.int .i64 (bl - (X - Y))) = w4 at *
      have hS : ∀ k, ¬ k = t → ¬ (False ∨ ∃ i, k = t ∧ i = 4) := fun k hk h => by rcases h with h | ⟨_, h, _⟩; exact h; exact hk h
      obtain ⟨v', w5, hr, ho5, hg5, hat⟩ := run_app (P := Tryz.prog) w4 0 33 33 i0 Tryz.underlying33 hi hz0 hz1 hz2 (.slice a bs.length c) (.slice a2 ds.length c2) bs.length bs ds (own_far HH.out.1 U5.chg (fun b hb => hS b (HH.out.2.2.1 b hb).1)) (HH.out.2.1.kept U5.chg (fun a n c e h0 => hS _ (HH.out.2.2.2.1 a n c e h0))) (by omega) (Nat.zero_le _)
      have C5 := Chg.ofGrown hg5
      have k1 := C5.cell g1 (fun e => (HH.out.2.2.1 q e).2 rfl)
      have k4 := C5.cell h4 (fun e => (HH.out.2.2.1 t e).1 rfl)
      have hq5 : ¬ (Value.slice a bs.length c).ownBlock = some q := fun e => (HH.out.2.2.1 q e).2 rfl
      have frq5 : w5.frozen? ⟨q, 1, none⟩ = false := ((Upd.ofChg C5).fr q 1 (Nat.lt_of_lt_of_le hql U5.lt) hq5).trans ((U5.fr q 1 hql (fun h => h)).trans (HH.out.2.2.2.2.2 1))
      obtain ⟨a5, c5, rfl⟩ := own_form' ho5
      have HO : Hid (w5.ownsRow 0 5 1 (.slice a5 (bs.length + ds.length) c5) (bs.length + ds.length) (bcells (bs ++ ds)) ∧ Chg (fun k => (Value.slice a bs.length c).ownBlock = some k) w4 w5 ∧ w4.heap.size ≤ w5.heap.size) := ⟨ho5, C5, hg5.size⟩
      have HU : Hid (Upd (fun b i => b = t ∧ i = 4) (fun _ => False) w w4) := U5
      have HAt : Hid ((Value.slice a5 (bs.length + ds.length) c5).ownBlock = (Value.slice a bs.length c).ownBlock ∨ (Value.slice a5 (bs.length + ds.length) c5).ownBlock = some w4.heap.size) := hat
      clear ho5 hg5 C5 U5 U4 hat hS
      go_wp2_with (at_builtin; go_must (refine Lib.wpList_append_run _ rfl (.tmp 58) (.tmp 59) 33 33 rfl _ _ rfl rfl _ w5 hr ?_))
      go_ret
      have US := Upd.setCell w5 q 1 (.slice a5 (bs.length + ds.length) c5)
      refine .inr ⟨by omega, rfl, .slice a5 (bs.length + ds.length) c5, World.cell?_setCell_same _ _ _ k1, ?_, ?_, ?_, ?_⟩
      · refine own_far HO.out.1 US.chg (fun b hb h => ?_)
        have hbq : b = q := by rcases h with h | ⟨_, h, _⟩; exact h.elim; exact h
        subst hbq
        rcases HAt.out with h | h
        · rw [h] at hb; exact (HH.out.2.2.1 b hb).2 rfl
        · rw [h] at hb; cases hb; have := HU.out.lt; omega
      · rcases HAt.out with h | h
        · exact .inl h
        · exact .inr ⟨_, h, HU.out.lt⟩
      · exact ((HU.out.mono (fun _ _ h => .inl h) (fun _ h => h.elim)).trans ((Upd.ofChg HO.out.2.1).mono (fun _ _ h => h.elim) (fun _ h => h))).trans (US.mono (fun _ _ h => .inr h) (fun _ h => h.elim))
      · exact US.cell _ _ _ (fun h => h) (by omega) k4
end Go.Proofs.YtlnjnimenihhnaaGreatDoor

namespace Go.Proofs.YtlnjnimenihhnaaGreatDoor
open Go.RowKit Go.Maps

set_option maxHeartbeats 1600000 in
theorem tcut_nil (t : Nat) (k : Int) (w : World) :
    Calls Tryz.prog 27 #[ptr t, .pointer none, .int .i64 k] w fun e w' => e = .returned (.int .i64 8) ∧ w' = w := by
  go_enter Tryz.func27, Tryz.ntmps27
  go_wp2_with fail
  go_ret
  exact ⟨rfl, rfl⟩
set_option maxHeartbeats 1600000 in
theorem tcut_dir (t q : Nat) (k : Int) (w : World) (c0 : w.cell? ⟨q, 0, none⟩ = some (.bool false)) :
    Calls Tryz.prog 27 #[ptr t, ptr q, .int .i64 k] w fun e w' => e = .returned (.int .i64 10) ∧ w' = w := by
  go_enter Tryz.func27, Tryz.ntmps27
  go_wp2_with fail
  go_ret
  exact ⟨rfl, rfl⟩
set_option maxHeartbeats 1600000 in
theorem tcut_arg (t q : Nat) (k : Int) (v : Value) (bs : List Int) (w : World) (c0 : w.cell? ⟨q, 0, none⟩ = some (.bool true)) (c1 : w.cell? ⟨q, 1, none⟩ = some v) (ho : w.ownsRow 0 5 1 v bs.length (bcells bs)) (hk : ¬ (0 ≤ k ∧ k ≤ bs.length)) :
    Calls Tryz.prog 27 #[ptr t, ptr q, .int .i64 k] w fun e w' => e = .returned (.int .i64 1) ∧ w' = w := by
  obtain ⟨a, c, rfl⟩ := own_form' ho
  clear ho
  by_cases h0 : k < 0
  · clear hk
    go_enter Tryz.func27, Tryz.ntmps27
    go_wp2_with fail
    go_ret
    exact ⟨rfl, rfl⟩
  · have h1 : (bs.length : Int) < k := by omega
    clear hk
    go_enter Tryz.func27, Tryz.ntmps27
    go_wp2_with fail
    go_ret
    exact ⟨rfl, rfl⟩
theorem Bs.front' {w : World} {a : Option Addr} {n c k : Nat} {xs : List Int} (h : Bs w (.slice a n c) xs) (hk : k ≤ xs.length) : Bs w (.slice a k c) (xs.take k) := by
  rcases h with ⟨e, rfl⟩ | ⟨a', c', e, h1, h2, h3⟩
  · cases e
    obtain rfl : k = 0 := by simpa using hk
    exact .inl ⟨rfl, rfl⟩
  · cases e
    refine .inr ⟨a', c, by simp; omega, by simp; omega, h2, fun j hj => ?_⟩
    have hj' : j < k ∧ j < xs.length := by simp at hj; omega
    rw [h3 j hj'.2]
    simp [List.getD, hj'.1]
set_option maxHeartbeats 3200000 in
set_option maxRecDepth 100000 in
theorem tcut_ok (t q k : Nat) (v : Value) (bs : List Int) (bl : Int) (w : World) (c0 : w.cell? ⟨q, 0, none⟩ = some (.bool true)) (c1 : w.cell? ⟨q, 1, none⟩ = some v) (ho : w.ownsRow 0 5 1 v bs.length (bcells bs)) (hk : k ≤ bs.length) (hlen : bs.length ≤ 8458240) (cbl : w.cell? ⟨t, 4, none⟩ = some (.int .i64 bl)) (hb0 : -1000000000000 ≤ bl) (hb1 : bl ≤ 1000000000000) (frt : ∀ i, w.frozen? ⟨t, i, none⟩ = false) (frq : ∀ i, w.frozen? ⟨q, i, none⟩ = false) (hv : ∀ b, v.ownBlock = some b → ¬ b = t ∧ ¬ b = q) :
    Calls Tryz.prog 27 #[ptr t, ptr q, .int .i64 k] w fun e w' => e = .returned (.int .i64 0) ∧ ∃ v', w'.cell? ⟨q, 1, none⟩ = some v' ∧ w'.ownsRow 0 5 1 v' k (bcells (bs.take k)) ∧ (∀ b, v'.ownBlock = some b → w.heap.size ≤ b) ∧ Upd (fun b i => (b = t ∧ i = 4) ∨ (b = q ∧ i = 1)) (fun _ => False) w w' ∧ w'.cell? ⟨t, 4, none⟩ = some (.int .i64 (bl + (allN bs.length - allN k))) := by
  have htl : t < w.heap.size := World.block_lt_of_cell? w ⟨t, 4, none⟩ cbl
  have hql : q < w.heap.size := World.block_lt_of_cell? w ⟨q, 1, none⟩ c1
  have bx := allN_bd (bs.length : Int)
  have by' := allN_bd (k : Int)
  have HB := Bs.ofOwns ho
  have B7 : ∀ wb, Hid (Below w.heap.size w wb) → Hid (Calls Tryz.prog 56 #[ptr q] wb fun e w' => e = .returned (.int .i64 (allN bs.length)) ∧ w'.cell? ⟨t, 4, none⟩ = some (.int .i64 bl) ∧ w'.frozen? ⟨t, 4, none⟩ = false ∧ Hid (Below w.heap.size w w')) := by
    intro wb hb
    refine (blocksF_any q _ bs wb ((Chg.ofBelowC hb.out).cell c0 (fun h => h)) ((Chg.ofBelowC hb.out).cell c1 (fun h => h)) (own_far ho (Chg.ofBelowC hb.out) (fun _ _ h => h))).mono ?_
    rintro e w' ⟨rfl, B⟩
    have B2 := hb.out.trans (B.mono hb.out.size)
    exact ⟨rfl, (Chg.ofBelowC B2).cell cbl (fun h => h), (World.frozen?_of_block ((Chg.ofBelowC B2).block t htl (fun h => h))).trans (frt 4), B2⟩
  have B8 : ∀ wb, Hid (Below w.heap.size w wb) → Hid (Calls Tryz.prog 55 #[.int .i64 k] wb fun e w' => e = .returned (.int .i64 (allN k)) ∧ w'.cell? ⟨t, 4, none⟩ = some (.int .i64 bl) ∧ w'.frozen? ⟨t, 4, none⟩ = false ∧ Hid (Below w.heap.size w w')) := by
    intro wb hb
    refine (all_any (k : Int) wb).mono ?_
    rintro e w' ⟨rfl, C⟩
    have B2 := hb.out.trans ((C.below (Nat.le_refl _) (fun _ h => h.elim)).mono hb.out.size)
    exact ⟨rfl, (Chg.ofBelowC B2).cell cbl (fun h => h), (World.frozen?_of_block ((Chg.ofBelowC B2).block t htl (fun h => h))).trans (frt 4), B2⟩
  obtain ⟨a, c, rfl⟩ := own_form' ho
  have hcap : bs.length ≤ c := by
    rcases HB with ⟨e, h⟩ | ⟨a', c', e, h1, _⟩
    · rw [h]; exact Nat.zero_le _
    · cases e; exact h1
  have HF := HB.front' hk
  obtain ⟨X, hX⟩ : ∃ X, Hid (allN (bs.length : Int) = X) := ⟨_, rfl⟩
  obtain ⟨Y, hY⟩ : ∃ Y, Hid (allN (k : Int) = Y) := ⟨_, rfl⟩
  rw [hX.out] at bx B7
  rw [hY.out] at by' B8
  rw [hX.out, hY.out]
  have D0 : Hid (Below w.heap.size w w.drew) := below_drew _ _
  have wx : IntKind.i64.wrap (X - Y) = X - Y := by rw [IntKind.wrap_i64]; omega
  have wy : IntKind.i64.wrap (bl + (X - Y)) = bl + (X - Y) := by rw [IntKind.wrap_i64]; omega
  have END : ∀ w5, w5.cell? ⟨t, 4, none⟩ = some (.int .i64 bl) → Hid (Below w.heap.size w w5) → ∀ w6, w5.setCell ⟨t, 4, none⟩ (.int .i64 (bl + (X - Y))) = w6 → w6.cell? ⟨q, 1, none⟩ = some (.slice a bs.length c) ∧ Hid (w6.cell? ⟨t, 4, none⟩ = some (.int .i64 (bl + (X - Y))) ∧ Upd (fun b i => b = t ∧ i = 4) (fun _ => False) w w6 ∧ Bs w6 (.slice a k c) (bs.take k) ∧ ∀ i, w6.frozen? ⟨q, i, none⟩ = false) := by
    rintro w5 d4 HB5 w6 rfl
    have U6 : Upd (fun b i => b = t ∧ i = 4) (fun _ => False) w (w5.setCell ⟨t, 4, none⟩ (.int .i64 (bl + (X - Y)))) := (Upd.below HB5.out).trans (Upd.setCell w5 t 4 (.int .i64 (bl + (X - Y))))
    refine ⟨U6.cell _ _ _ (fun h => h) (by omega) c1, World.cell?_setCell_same _ _ _ d4, U6, HF.kept U6.chg (fun a' n c' e h0 h => ?_), fun i => (U6.fr q i hql (fun h => h)).trans (frq i)⟩
    cases e
    rcases ho.2 with ⟨e, -⟩ | ⟨g, cap, cur, e, hb, hg, r⟩
    · cases e
    · cases e
      rcases h with h | ⟨_, h, _⟩
      · exact h
      · exact (hv g rfl).1 h
  have q2 : ¬ (bs.length : Int) < k := by omega
  have q3 : (k : Int) ≤ c := by omega
  have hkn : k ≤ c := by omega
  clear ho HB HF frt frq hv hcap
  have HC1 : Hid (w.cell? ⟨q, 1, none⟩ = some (.slice a bs.length c)) := c1
  go_enter Tryz.func27, Tryz.ntmps27
  go_wp2_with fail
  go_region_with (first | (go_at_call 56; refine (B7 _ (by first | exact D0 | assumption)).out.mono ?_; clear B7; rintro e w5 ⟨rfl, d4, d5, HB5⟩) | (go_at_call 55; refine (B8 _ (by first | exact D0 | assumption)).out.mono ?_; clear B8; rintro e w5 ⟨rfl, d4, d5, HB5⟩))
  all_goals
    have hE := END w5 d4 HB5
    clear END d4 d5 HB5
    generalize w5.setCell ⟨t, 4, none⟩ (.int .i64 (bl + (X - Y))) = w6 at *
    obtain ⟨e1, HE⟩ := hE w6 rfl
    clear hE c1 cbl c0
    go_wp2_with fail
    refine (cloneB_any _ (bs.take k) w6 HE.out.2.2.1 (by simp; omega)).mono ?_
    rintro e w7 ⟨u, rfl, ho7, C7⟩
    rw [List.length_take, Nat.min_eq_left hk] at ho7
    obtain ⟨a7, c7, rfl⟩ := own_form' ho7
    have k1 := C7.cell e1 (fun h => h)
    have k4 := C7.cell HE.out.1 (fun h => h)
    have f7 : w7.frozen? ⟨q, 1, none⟩ = false := ((Upd.ofChg C7).fr q 1 (Nat.lt_of_lt_of_le hql HE.out.2.1.lt) (fun h => h)).trans (HE.out.2.2.2 1)
    have HO : Hid (w7.ownsRow w6.heap.size 5 1 (.slice a7 k c7) k (bcells (bs.take k)) ∧ Chg (fun _ => False) w6 w7) := ⟨ho7, C7⟩
    clear e1 ho7 C7
    go_wp2_with fail
    go_ret
    have US := Upd.setCell w7 q 1 (.slice a7 k c7)
    have h6 := HE.out.2.1.lt
    have hown : ∀ b, (Value.slice a7 k c7).ownBlock = some b → w6.heap.size ≤ b := by
      intro b hb
      rcases HO.out.1.2 with ⟨e, -⟩ | ⟨g, cap, cur, e, hbb, _⟩
      · rw [e] at hb; cases hb
      · rw [e] at hb; cases hb; exact hbb
    refine ⟨rfl, .slice a7 k c7, World.cell?_setCell_same _ _ _ k1, ?_, fun b hb => Nat.le_trans h6 (hown b hb), ((HE.out.2.1.mono (fun _ _ h => .inl h) (fun _ h => h)).trans ((Upd.ofChg HO.out.2).mono (fun _ _ h => h.elim) (fun _ h => h))).trans (US.mono (fun _ _ h => .inr h) (fun _ h => h)), US.cell _ _ _ (fun h => h) (by omega) k4⟩
    refine own_far (own_monoT HO.out.1 (Nat.zero_le _)) US.chg (fun b hb h => ?_)
    have := hown b hb
    have hbq : b = q := by rcases h with h | ⟨_, h, _⟩; exact h.elim; exact h
    omega
end Go.Proofs.YtlnjnimenihhnaaGreatDoor

namespace Go.Proofs.YtlnjnimenihhnaaGreatDoor
open Go.RowKit Go.Maps

/-- One path's node set. -/
def setN (F : Pth → Option Nd) (p : Pth) (o : Option Nd) : Pth → Option Nd := fun q => if q = p then o else F q
theorem setN_same (F : Pth → Option Nd) (p : Pth) (o : Option Nd) : setN F p o p = o := by simp [setN]
theorem setN_other (F : Pth → Option Nd) {p q : Pth} (o : Option Nd) (h : ¬ q = p) : setN F p o q = F q := by simp [setN, h]
/-- The tree's struct is at block t: what it has become, and what else may have changed. -/
def TrTo (N : Nat) (w w' : World) (t : Nat) (O : Nat → Option (Pth × Nat)) (F' : Pth → Option Nd) (bl' ino' : Int) (K' : Nat) : Prop :=
  ∃ A' O', Tr w' t F' A' O' bl' ino' K' ∧ Chg (fun b => (O b).isSome = true) w w' ∧ ∀ b, (O' b).isSome = true → (O b).isSome = true ∨ N ≤ b
theorem TrTo.refl {N : Nat} {w : World} {t : Nat} {F : Pth → Option Nd} {A : Pth → Nat} {O : Nat → Option (Pth × Nat)} {bl ino : Int} {K K' : Nat} (h : Tr w t F A O bl ino K) (hk : K ≤ K') {w' : World} (hb : Below w.heap.size w w') : TrTo N w w' t O F bl ino K' :=
  ⟨A, O, (h.kept (Chg.ofBelowC hb) (fun _ _ _ h => h)).more hk, (Chg.ofBelowC hb).mono (fun _ _ h => h.elim), fun _ h => .inl h⟩
theorem TrTo.more {N : Nat} {w w' : World} {t : Nat} {F : Pth → Option Nd} {O : Nat → Option (Pth × Nat)} {bl ino : Int} {K K' : Nat} (h : TrTo N w w' t O F bl ino K) (hk : K ≤ K') : TrTo N w w' t O F bl ino K' := by
  obtain ⟨A, O', h1, h2⟩ := h
  exact ⟨A, O', h1.more hk, h2⟩

theorem NdM.keptU {C : Nat → Nat → Prop} {S : Nat → Prop} {w w' : World} {A A' : Pth → Nat} {O O' : Nat → Option (Pth × Nat)} {p p' : Pth} {nd : Nd} (h : NdM w A O p nd) (hU : Upd C S w w') (hown : O (A p) = some (p, 0)) (hc : ∀ i, i < 4 → ¬ C (A p) i) (hS : ∀ b r, O b = some (p, r) → ¬ S b) (hC : ∀ b r, O b = some (p, r) → ¬ r = 0 → ∀ i, ¬ C b i)
    (hA : A' p' = A p) (hK : ∀ nm, nd.has nm → A' (p' ++ [nm]) = A (p ++ [nm])) (hO : ∀ b r, O b = some (p, r) → O' b = some (p', r)) : NdM w' A' O' p' nd := by
  have hs := hS _ _ hown
  have hb : ∀ b r, O b = some (p, r) → ¬ r = 0 → ¬ (S b ∨ ∃ i, C b i) := fun b r h1 h2 h => h.elim (hS b r h1) (fun ⟨i, h⟩ => hC b r h1 h2 i h)
  cases nd with
  | file bs =>
    obtain ⟨h0, ⟨v, h1, h2, h3⟩, h4, h5⟩ := h
    refine ⟨by rw [hA]; exact hU.cell _ _ _ hs (hc 0 (by omega)) h0, ⟨v, by rw [hA]; exact hU.cell _ _ _ hs (hc 1 (by omega)) h1, own_far h2 hU.chg (fun b h => hb b 2 (h3 b h) (by omega)), fun b hb => hO b 2 (h3 b hb)⟩, by rw [hA]; exact hU.cell _ _ _ hs (hc 2 (by omega)) h4, by rw [hA]; exact hU.cell _ _ _ hs (hc 3 (by omega)) h5⟩
  | dir s ns =>
    obtain ⟨h0, h1, ⟨m, h2, h3, h4⟩, h5⟩ := h
    refine ⟨by rw [hA]; exact hU.cell _ _ _ hs (hc 0 (by omega)) h0, by rw [hA]; exact hU.cell _ _ _ hs (hc 1 (by omega)) h1, ⟨m, by rw [hA]; exact hU.cell _ _ _ hs (hc 2 (by omega)) h2, hO m 1 h3, ?_⟩, by rw [hA]; exact hU.cell _ _ _ hs (hc 3 (by omega)) h5⟩
    refine (h4.kept (hU.chg.block m h4.lt (hb m 1 h3 (by omega)))).ext (fun s _ => ?_)
    unfold kidF
    split
    · rename_i hm
      rw [hK s ((inB_iff _ _).1 hm)]
    · rfl
theorem Tr.inj {w : World} {t : Nat} {F : Pth → Option Nd} {A : Pth → Nat} {O : Nat → Option (Pth × Nat)} {bl ino : Int} {K : Nat} (h : Tr w t F A O bl ino K) {p q : Pth} {x y : Nd} (hp : F p = some x) (hq : F q = some y) (e : A p = A q) : p = q := by
  have h1 := h.own p x hp
  have h2 := h.own q y hq
  rw [e, h2] at h1
  cases h1; rfl
theorem Tr.atT {w : World} {t : Nat} {F : Pth → Option Nd} {A : Pth → Nat} {O : Nat → Option (Pth × Nat)} {bl ino : Int} {K : Nat} (h : Tr w t F A O bl ino K) : O t = some ([], 0) := by
  obtain ⟨s, ns, hr⟩ := h.rdir
  rw [← h.root]; exact h.own _ _ hr
theorem Tr.eqT {w : World} {t : Nat} {F : Pth → Option Nd} {A : Pth → Nat} {O : Nat → Option (Pth × Nat)} {bl ino : Int} {K : Nat} (h : Tr w t F A O bl ino K) {p : Pth} {r : Nat} {b : Nat} (hb : O b = some (p, r)) (e : b = t) : r = 0 := by
  rw [e, h.atT] at hb
  cases hb; rfl

/-- A file's bytes are others. -/
theorem Tr.data {w w' : World} {t : Nat} {F : Pth → Option Nd} {A : Pth → Nat} {O : Nat → Option (Pth × Nat)} {bl ino bl' : Int} {K K' : Nat} (h : Tr w t F A O bl ino K) (hk : K ≤ K') {p : Pth} {bs bs' : List Int} {v v' : Value} (hF : F p = some (.file bs)) (c1 : w.cell? ⟨A p, 1, none⟩ = some v)
    (hU : Upd (fun b i => (b = t ∧ i = 4) ∨ (b = A p ∧ i = 1)) (fun k => v.ownBlock = some k) w w') (k1 : w'.cell? ⟨A p, 1, none⟩ = some v') (ho : w'.ownsRow 0 5 1 v' bs'.length (bcells bs')) (hat : v'.ownBlock = v.ownBlock ∨ ∀ b, v'.ownBlock = some b → w.heap.size ≤ b) (k4 : w'.cell? ⟨t, 4, none⟩ = some (.int .i64 bl')) (hlen : bs'.length ≤ 8458240) (hB : IsB bs') (hbb : 0 ≤ bl' ∧ bl' ≤ 20000 * K' + 20000) :
    TrTo w.heap.size w w' t O (setN F p (some (.file bs'))) bl' ino K' := by
  have hM := h.nd p _ hF
  obtain ⟨m0, ⟨v0, m1, m2, m3⟩, m4, m5⟩ := hM
  rw [c1] at m1
  cases m1
  have hop := h.own p _ hF
  have hT := h.atT
  obtain ⟨s0, n0, hr0⟩ := h.rdir
  have hp0 : ¬ p = [] := fun e => by rw [e, hr0] at hF; cases hF
  have hvb : ∀ b, v'.ownBlock = some b → O b = some (p, 2) ∨ w.heap.size ≤ b := by
    intro b hb
    rcases hat with e | e
    · exact .inl (m3 b (by rw [← e]; exact hb))
    · exact .inr (e b hb)
  have hOk : ∀ b q r, O b = some (q, r) → (if v'.ownBlock = some b then some (p, 2) else O b) = some (q, r) := by
    intro b q r hb
    split
    · rename_i hx
      rcases hvb b hx with e | e
      · rw [hb] at e; cases e; rfl
      · have := h.lt b _ hb; omega
    · exact hb
  have hSp : ∀ k q r, v.ownBlock = some k → O k = some (q, r) → q = p ∧ r = 2 := fun k q r h1 h2 => by
    have := m3 k h1; rw [h2] at this; cases this; exact ⟨rfl, rfl⟩
  have hSA : ∀ q nd, F q = some nd → ¬ v.ownBlock = some (A q) := fun q nd hq e => by
    have := m3 _ e; rw [h.own q nd hq] at this; cases this
  refine ⟨A, fun b => if v'.ownBlock = some b then some (p, 2) else O b, ⟨h.root, ⟨s0, n0, by rw [setN_other _ _ (fun e => hp0 e.symm)]; exact hr0⟩, ?_, ?_, ?_, ?_, ?_, ?_, ?_, ?_, k4, ?_, hbb, ⟨h.ib.1, by have := h.ib.2; omega⟩⟩, ?_, ?_⟩
  · intro b x hb
    split at hb
    · rename_i hx
      rcases ho.2 with ⟨e, -⟩ | ⟨g, cap, cur, e, _, hg, _⟩
      · rw [e] at hx; cases hx
      · rw [e] at hx; cases hx
        by_cases hlt : g < w'.heap.size
        · exact hlt
        · simp [Array.getElem?_eq_none (Nat.le_of_not_lt hlt)] at hg
    · exact Nat.lt_of_lt_of_le (h.lt b x hb) hU.lt
  · intro q nd hq
    by_cases e : q = p
    · subst e; exact hOk _ _ _ hop
    · rw [setN_other _ _ e] at hq; exact hOk _ _ _ (h.own q nd hq)
  · intro q nd hq
    by_cases e : q = p
    · subst e
      rw [setN_same] at hq
      cases hq
      have hAt : ¬ A q = t := fun e => hp0 (h.inj hF hr0 (e.trans h.root.symm))
      have hs := hSA q _ hF
      refine ⟨hU.cell _ _ _ hs (by omega) m0, ⟨v', k1, ho, fun b hb => if_pos hb⟩, hU.cell _ _ _ hs (by omega) m4, hU.cell _ _ _ hs (by omega) m5⟩
    · rw [setN_other _ _ e] at hq
      refine (h.nd q nd hq).keptU hU (h.own q nd hq) (fun i hi => ?_) (fun b r hb hx => e (hSp b q r hx hb).1) (fun b r hb hr i => ?_) rfl (fun _ _ => rfl) (fun b r hb => hOk b q r hb)
      · rintro (⟨_, e4⟩ | ⟨e5, _⟩)
        · omega
        · exact e (h.inj hq hF e5)
      · rintro (⟨e4, _⟩ | ⟨e5, _⟩)
        · exact hr (h.eqT hb e4)
        · rw [e5, hop] at hb; cases hb; exact e rfl
  · intro q nd hq i
    have hq' : ∃ nd', F q = some nd' := by
      by_cases e : q = p
      · exact ⟨_, by rw [e]; exact hF⟩
      · exact ⟨nd, by rwa [setN_other _ _ e] at hq⟩
    obtain ⟨nd', hq'⟩ := hq'
    exact (hU.fr _ i (h.lt _ _ (h.own q nd' hq')) (hSA q nd' hq')).trans (h.fr q nd' hq' i)
  · intro q nm hq
    have hq' : (F (q ++ [nm])).isSome = true := by
      by_cases e : q ++ [nm] = p
      · rw [e, hF]; rfl
      · rwa [setN_other _ _ e] at hq
    obtain ⟨s, ns, h1, h2⟩ := h.up q nm hq'
    refine ⟨s, ns, ?_, h2⟩
    rw [setN_other]
    · exact h1
    · intro e; rw [e, hF] at h1; cases h1
  · intro q s ns nm hq hm
    have e : ¬ q = p := fun e => by rw [e, setN_same] at hq; cases hq
    rw [setN_other _ _ e] at hq
    by_cases e2 : q ++ [nm] = p
    · rw [e2, setN_same]; rfl
    · rw [setN_other _ _ e2]; exact h.dn q s ns nm hq hm
  · intro q s ns hq
    have e : ¬ q = p := fun e => by rw [e, setN_same] at hq; cases hq
    rw [setN_other _ _ e] at hq
    obtain ⟨a1, a2, a3, a4⟩ := h.nms q s ns hq
    exact ⟨a1, a2, a3, Nat.le_trans a4 hk⟩
  · intro q cs hq
    by_cases e : q = p
    · rw [e, setN_same] at hq; cases hq; exact ⟨hlen, hB⟩
    · rw [setN_other _ _ e] at hq; exact h.fil q cs hq
  · have hAt : ¬ t = A p := fun e => hp0 (h.inj hF hr0 (e.symm.trans h.root.symm))
    exact hU.cell _ _ _ (by have := hSA [] _ hr0; rwa [h.root] at this) (by omega) h.cin
  · refine hU.chg.mono (fun b _ hb => ?_)
    rcases hb with hb | ⟨i, (⟨hb, _⟩ | ⟨hb, _⟩)⟩
    · rw [m3 b hb]; rfl
    · rw [hb, hT]; rfl
    · rw [hb, hop]; rfl
  · intro b hb
    by_cases hx : v'.ownBlock = some b
    · rcases hvb b hx with e | e
      · left; rw [e]; rfl
      · exact .inr e
    · simp only [if_neg hx] at hb; exact .inl hb

theorem pth_ne (p : Pth) (x : ByteArray) : ¬ p = p ++ [x] := fun e => by
  have := congrArg List.length e
  simp at this
theorem pth_inj {p q : Pth} {x y : ByteArray} (h : p ++ [x] = q ++ [y]) : p = q ∧ x = y := by
  have := List.append_inj' h rfl
  exact ⟨this.1, by simpa using this.2⟩
/-- A directory has one name more: a new file or an empty directory. -/
theorem Tr.add {N : Nat} {w w' : World} {t : Nat} {F : Pth → Option Nd} {A : Pth → Nat} {O : Nat → Option (Pth × Nat)} {bl ino bl' ino' : Int} {K K' : Nat} (h : Tr w t F A O bl ino K) (hk : K + 1 ≤ K') {p : Pth} {x : ByteArray} {s m : Nat} {kn : List ByteArray} (hF : F p = some (.dir s kn)) (hx : ¬ x ∈ kn) (hnx : nameB x = true) (c2 : w.cell? ⟨A p, 2, none⟩ = some (.map (some m)))
    {b0 : Nat} {nd0 : Nd} {R : Nat → Option Nat} (hR0 : R b0 = some 0) (hRn : ∀ b r, R b = some r → O b = none ∧ b < w.heap.size ∧ N ≤ b) (hnd : nd0 = .file [] ∨ nd0 = .dir 0 [])
    (hN : NdM w (fun q => if q = p ++ [x] then b0 else A q) (fun b => match R b with | some r => some (p ++ [x], r) | none => O b) (p ++ [x]) nd0) (hfr : ∀ i, w.frozen? ⟨b0, i, none⟩ = false)
    (hU : Upd (fun b i => (b = t ∧ (i = 4 ∨ i = 5)) ∨ (b = A p ∧ i = 3)) (fun k => k = m) w w') (hm' : SMap w' m (kn.length + 1) (updB (kidF A p kn) x (some (ptr b0)))) (k3 : w'.cell? ⟨A p, 3, none⟩ = some (.int .i64 (max s (kn.length + 1) : Nat))) (k4 : w'.cell? ⟨t, 4, none⟩ = some (.int .i64 bl')) (k5 : w'.cell? ⟨t, 5, none⟩ = some (.int .i64 ino')) (hbb : 0 ≤ bl' ∧ bl' ≤ 20000 * K' + 20000) (hib : 0 ≤ ino' ∧ ino' ≤ K' + 256) :
    TrTo N w w' t O (setN (setN F p (some (.dir (max s (kn.length + 1)) (x :: kn)))) (p ++ [x]) (some nd0)) bl' ino' K' := by
  have hM := h.nd p _ hF
  obtain ⟨m0, m1, ⟨m9, m2, m3, m4⟩, m5⟩ := hM
  rw [c2] at m2
  cases m2
  have hop := h.own p _ hF
  have hT := h.atT
  obtain ⟨s0, n0, hr0⟩ := h.rdir
  obtain ⟨g, hg⟩ : ∃ g, g = p ++ [x] := ⟨_, rfl⟩
  have hgp : ¬ p = g := by rw [hg]; exact pth_ne p x
  have hFg : F g = none := by
    cases e : F g with
    | none => rfl
    | some y =>
      obtain ⟨s', ns', h1, h2⟩ := h.up p x (by rw [← hg, e]; rfl)
      rw [hF] at h1; cases h1; exact absurd h2 hx
  rw [← hg] at hN ⊢
  have hRO : ∀ b y, O b = some y → R b = none := fun b y hb => by
    cases e : R b with
    | none => rfl
    | some r => have := (hRn b r e).1; rw [hb] at this; cases this
  have hOk : ∀ b q r, O b = some (q, r) → (match R b with | some r => some (g, r) | none => O b) = some (q, r) := fun b q r hb => by rw [hRO b _ hb]; exact hb
  have hF'g : setN (setN F p (some (.dir (max s (kn.length + 1)) (x :: kn)))) g (some nd0) g = some nd0 := setN_same _ _ _
  have hF'p : setN (setN F p (some (.dir (max s (kn.length + 1)) (x :: kn)))) g (some nd0) p = some (.dir (max s (kn.length + 1)) (x :: kn)) := by rw [setN_other _ _ hgp, setN_same]
  have hF'q : ∀ q, ¬ q = g → ¬ q = p → setN (setN F p (some (.dir (max s (kn.length + 1)) (x :: kn)))) g (some nd0) q = F q := fun q h1 h2 => by rw [setN_other _ _ h1, setN_other _ _ h2]
  generalize setN (setN F p (some (.dir (max s (kn.length + 1)) (x :: kn)))) g (some nd0) = F' at *
  have hb0 := hRn b0 0 hR0
  have hOm : ∀ q nd, F q = some nd → ¬ A q = m := fun q nd hq e => by have := h.own q nd hq; rw [e, m3] at this; cases this
  have hg0 : ¬ [] = g := by rw [hg]; simp
  have hnm := h.nms p s kn hF
  refine ⟨fun q => if q = g then b0 else A q, fun b => match R b with | some r => some (g, r) | none => O b, ⟨?_, ?_, ?_, ?_, ?_, ?_, ?_, ?_, ?_, ?_, k4, k5, hbb, hib⟩, ?_, ?_⟩
  · show (if [] = g then b0 else A []) = t
    rw [if_neg hg0]; exact h.root
  · by_cases e : [] = p
    · exact ⟨_, _, by rw [e]; exact hF'p⟩
    · exact ⟨_, _, by rw [hF'q _ hg0 e]; exact hr0⟩
  · intro b y hb
    cases e : R b with
    | none => simp only [e] at hb; exact Nat.lt_of_lt_of_le (h.lt b y hb) hU.lt
    | some r => exact Nat.lt_of_lt_of_le (hRn b r e).2.1 hU.lt
  · intro q nd hq
    by_cases e : q = g
    · subst e; simp only [if_true, hR0]
    · simp only [if_neg e]
      by_cases e2 : q = p
      · rw [e2]; exact hOk _ _ _ hop
      · rw [hF'q q e e2] at hq; exact hOk _ _ _ (h.own q nd hq)
  · intro q nd hq
    by_cases e : q = g
    · subst e
      rw [hF'g] at hq
      cases hq
      refine hN.keptU hU (by simp only [if_true, hR0]) (fun i hi => ?_) (fun b r hb e => ?_) (fun b r hb hr i => ?_) rfl (fun _ _ => rfl) (fun _ _ h => h)
      · simp only [if_true]
        rintro (⟨e, _⟩ | ⟨e, _⟩)
        · rw [e, hT] at hb0; cases hb0.1
        · rw [e, hop] at hb0; cases hb0.1
      · rw [e, hRO m _ m3, m3] at hb; cases hb; exact hgp rfl
      · rintro (⟨e, _⟩ | ⟨e, _⟩)
        · rw [e, hRO t _ hT, hT] at hb; cases hb; exact hr rfl
        · rw [e, hRO _ _ hop, hop] at hb; cases hb; exact hr rfl
    · by_cases e2 : q = p
      · subst e2
        rw [hF'p] at hq
        cases hq
        have hs := hOm q _ hF
        refine ⟨?_, ?_, ⟨m, ?_, hOk _ _ _ m3, ?_⟩, ?_⟩
        · simp only [if_neg e]; exact hU.cell _ _ _ hs (by omega) m0
        · simp only [if_neg e]; exact hU.cell _ _ _ hs (by omega) m1
        · simp only [if_neg e]; exact hU.cell _ _ _ hs (by omega) c2
        · refine hm'.ext (fun nm _ => ?_)
          unfold kidF updB
          rw [show inB nm (x :: kn) = (decide (nm = x) || inB nm kn) from rfl]
          by_cases e3 : nm = x
          · simp only [e3, decide_true, Bool.true_or, if_true, ← hg]
          · have e4 : ¬ q ++ [nm] = g := fun e => e3 (pth_inj (e.trans hg)).2
            simp only [e3, decide_false, Bool.false_or, if_false, if_neg e4]
        · simp only [if_neg e]; exact k3
      · rw [hF'q q e e2] at hq
        refine (h.nd q nd hq).keptU hU (h.own q nd hq) (fun i hi => ?_) (fun b r hb hx => ?_) (fun b r hb hr i => ?_) (by simp only [if_neg e]) (fun nm _ => ?_) (fun b r hb => hOk b q r hb)
        · rintro (⟨_, e4⟩ | ⟨e5, _⟩)
          · omega
          · exact e2 (h.inj hq hF e5)
        · rw [hx, m3] at hb; cases hb; exact e2 rfl
        · rintro (⟨e4, _⟩ | ⟨e5, _⟩)
          · exact hr (h.eqT hb e4)
          · rw [e5, hop] at hb; cases hb; exact e2 rfl
        · have e4 : ¬ q ++ [nm] = g := fun e => e2 (pth_inj (e.trans hg)).1
          simp only [if_neg e4]
  · intro q nd hq i
    by_cases e : q = g
    · simp only [if_pos e]
      exact (hU.fr b0 i hb0.2.1 (fun e => by rw [e, m3] at hb0; cases hb0.1)).trans (hfr i)
    · simp only [if_neg e]
      obtain ⟨nd', hq'⟩ : ∃ nd', F q = some nd' := by
        by_cases e2 : q = p
        · exact ⟨_, by rw [e2]; exact hF⟩
        · exact ⟨nd, by rwa [hF'q q e e2] at hq⟩
      exact (hU.fr _ i (h.lt _ _ (h.own q nd' hq')) (hOm q nd' hq')).trans (h.fr q nd' hq' i)
  · intro q nm hq
    by_cases e : q ++ [nm] = g
    · obtain ⟨rfl, rfl⟩ := pth_inj (e.trans hg)
      exact ⟨_, _, hF'p, by simp⟩
    · have hq' : (F (q ++ [nm])).isSome = true := by
        by_cases e2 : q ++ [nm] = p
        · rw [e2, hF]; rfl
        · rwa [hF'q _ e e2] at hq
      obtain ⟨s', ns', h1, h2⟩ := h.up q nm hq'
      by_cases e2 : q = p
      · subst e2
        rw [hF] at h1; cases h1
        exact ⟨_, _, hF'p, by simp [h2]⟩
      · have e3 : ¬ q = g := fun e => by rw [e, hFg] at h1; cases h1
        exact ⟨s', ns', by rw [hF'q q e3 e2]; exact h1, h2⟩
  · intro q s' ns' nm hq hm
    have hsub : ∀ r, (F r).isSome = true → (F' r).isSome = true := fun r hr => by
      by_cases e : r = g
      · rw [e, hF'g]; rfl
      · by_cases e2 : r = p
        · rw [e2, hF'p]; rfl
        · rw [hF'q r e e2]; exact hr
    by_cases e : q = g
    · rw [e, hF'g] at hq
      rcases hnd with rfl | rfl
      · cases hq
      · cases hq; cases hm
    · by_cases e2 : q = p
      · rw [e2, hF'p] at hq
        cases hq
        rcases List.mem_cons.1 hm with rfl | hm
        · rw [e2, ← hg, hF'g]; rfl
        · rw [e2]; exact hsub _ (h.dn p s kn nm hF hm)
      · rw [hF'q q e e2] at hq; exact hsub _ (h.dn q s' ns' nm hq hm)
  · intro q s' ns' hq
    by_cases e : q = g
    · rw [e, hF'g] at hq
      rcases hnd with rfl | rfl
      · cases hq
      · cases hq; exact ⟨List.nodup_nil, (fun _ h => by cases h), Nat.le_refl _, Nat.zero_le _⟩
    · by_cases e2 : q = p
      · rw [e2, hF'p] at hq
        cases hq
        obtain ⟨a1, a2, a3, a4⟩ := hnm
        refine ⟨List.nodup_cons.2 ⟨hx, a1⟩, fun nm hm => ?_, by simp; omega, by omega⟩
        rcases List.mem_cons.1 hm with rfl | hm
        · exact hnx
        · exact a2 nm hm
      · rw [hF'q q e e2] at hq
        obtain ⟨a1, a2, a3, a4⟩ := h.nms q s' ns' hq
        exact ⟨a1, a2, a3, by omega⟩
  · intro q cs hq
    by_cases e : q = g
    · rw [e, hF'g] at hq
      rcases hnd with rfl | rfl
      · cases hq; exact ⟨by simp, fun x hx => by cases hx⟩
      · cases hq
    · by_cases e2 : q = p
      · rw [e2, hF'p] at hq; cases hq
      · rw [hF'q q e e2] at hq; exact h.fil q cs hq
  · refine hU.chg.mono (fun b _ hb => ?_)
    rcases hb with hb | ⟨i, (⟨hb, _⟩ | ⟨hb, _⟩)⟩
    · rw [hb, m3]; rfl
    · rw [hb, hT]; rfl
    · rw [hb, hop]; rfl
  · intro b hb
    cases e : R b with
    | none => simp only [e] at hb; exact .inl hb
    | some r => exact .inr (hRn b r e).2.2

/-- Names without one. -/
def dele (kn : List ByteArray) (x : ByteArray) : List ByteArray := kn.filter fun y => !decide (y = x)
theorem dele_mem {kn : List ByteArray} {x y : ByteArray} : y ∈ dele kn x ↔ ¬ y = x ∧ y ∈ kn := by simp [dele, and_comm]
theorem dele_nodup {kn : List ByteArray} (x : ByteArray) (h : kn.Nodup) : (dele kn x).Nodup := List.Pairwise.filter _ h
theorem dele_not {kn : List ByteArray} {x : ByteArray} (h : ¬ x ∈ kn) : dele kn x = kn := by
  refine List.filter_eq_self.2 (fun y hy => ?_)
  have : ¬ y = x := fun e => h (e ▸ hy)
  simp [this]
theorem dele_len : ∀ {kn : List ByteArray} {x : ByteArray}, kn.Nodup → x ∈ kn → (dele kn x).length = kn.length - 1
  | [], _, _, h => by cases h
  | y :: r, x, hd, h => by
    obtain ⟨h1, h2⟩ := List.nodup_cons.1 hd
    by_cases e : y = x
    · have e2 : dele (y :: r) x = dele r x := by simp [dele, e]
      rw [e2, dele_not (e ▸ h1)]; simp
    · have e2 : dele (y :: r) x = y :: dele r x := by simp [dele, e]
      have hr : x ∈ r := by
        rcases List.mem_cons.1 h with h | h
        · exact absurd h.symm e
        · exact h
      have hl := dele_len h2 hr
      have : 0 < r.length := List.length_pos_of_mem hr
      rw [e2]; simp; omega
theorem inB_dele {nm x : ByteArray} {kn : List ByteArray} : inB nm (dele kn x) = (!decide (nm = x) && inB nm kn) := by
  have h1 := inB_iff nm (dele kn x)
  have h2 := inB_iff nm kn
  by_cases e : nm = x
  · have : inB nm (dele kn x) = false := inB_not (fun h => (dele_mem.1 h).1 e)
    rw [this]; simp [e]
  · cases e2 : inB nm kn
    · have : inB nm (dele kn x) = false := inB_not (fun h => by rw [h2.2 (dele_mem.1 h).2] at e2; cases e2)
      rw [this]; simp
    · have : inB nm (dele kn x) = true := h1.2 (dele_mem.2 ⟨e, h2.1 e2⟩)
      rw [this]; simp [e]
/-- A name goes: a file, or a directory with no names. -/
theorem Tr.gone {N : Nat} {w w' : World} {t : Nat} {F : Pth → Option Nd} {A : Pth → Nat} {O : Nat → Option (Pth × Nat)} {bl ino bl' ino' : Int} {K K' : Nat} (h : Tr w t F A O bl ino K) (hk : K ≤ K') {p : Pth} {x : ByteArray} {s m : Nat} {kn : List ByteArray} (hF : F p = some (.dir s kn)) (c2 : w.cell? ⟨A p, 2, none⟩ = some (.map (some m)))
    (hx : x ∈ kn) (hlf : ∀ nm, F (p ++ [x] ++ [nm]) = none)
    (hU : Upd (fun b i => b = t ∧ (i = 4 ∨ i = 5)) (fun k => k = m) w w') (hm' : SMap w' m (kn.length - 1) (updB (kidF A p kn) x none)) (k4 : w'.cell? ⟨t, 4, none⟩ = some (.int .i64 bl')) (k5 : w'.cell? ⟨t, 5, none⟩ = some (.int .i64 ino')) (hbb : 0 ≤ bl' ∧ bl' ≤ 20000 * K' + 20000) (hib : 0 ≤ ino' ∧ ino' ≤ K' + 256) :
    Tr w' t (setN (setN F p (some (.dir s (dele kn x)))) (p ++ [x]) none) A O bl' ino' K' ∧ TrTo N w w' t O (setN (setN F p (some (.dir s (dele kn x)))) (p ++ [x]) none) bl' ino' K' := by
  have hM := h.nd p _ hF
  obtain ⟨m0, m1, ⟨m9, m2, m3, m4⟩, m5⟩ := hM
  rw [c2] at m2
  cases m2
  have hop := h.own p _ hF
  have hT := h.atT
  obtain ⟨s0, n0, hr0⟩ := h.rdir
  obtain ⟨g, hg⟩ : ∃ g, g = p ++ [x] := ⟨_, rfl⟩
  have hgp : ¬ p = g := by rw [hg]; exact pth_ne p x
  rw [← hg] at hlf ⊢
  have hF'g : setN (setN F p (some (.dir s (dele kn x)))) g none g = none := setN_same _ _ _
  have hF'p : setN (setN F p (some (.dir s (dele kn x)))) g none p = some (.dir s (dele kn x)) := by rw [setN_other _ _ hgp, setN_same]
  have hF'q : ∀ q, ¬ q = g → ¬ q = p → setN (setN F p (some (.dir s (dele kn x)))) g none q = F q := fun q h1 h2 => by rw [setN_other _ _ h1, setN_other _ _ h2]
  generalize setN (setN F p (some (.dir s (dele kn x)))) g none = F' at *
  have hOm : ∀ q nd, F q = some nd → ¬ A q = m := fun q nd hq e => by have := h.own q nd hq; rw [e, m3] at this; cases this
  have hg0 : ¬ [] = g := by rw [hg]; simp
  obtain ⟨a1, a2, a3, a4⟩ := h.nms p s kn hF
  have hold' : ∀ q nd, F' q = some nd → ∃ nd', F q = some nd' := fun q nd hq => by
    by_cases e : q = g
    · rw [e, hF'g] at hq; cases hq
    · by_cases e2 : q = p
      · exact ⟨_, by rw [e2]; exact hF⟩
      · exact ⟨nd, by rwa [hF'q q e e2] at hq⟩
  have HT : Tr w' t F' A O bl' ino' K' := by
    refine ⟨h.root, ?_, fun b y hb => Nat.lt_of_lt_of_le (h.lt b y hb) hU.lt, fun q nd hq => ?_, ?_, ?_, ?_, ?_, ?_, ?_, k4, k5, hbb, hib⟩
    · by_cases e : [] = p
      · exact ⟨_, _, by rw [e]; exact hF'p⟩
      · exact ⟨_, _, by rw [hF'q _ hg0 e]; exact hr0⟩
    · obtain ⟨nd', hq'⟩ := hold' q nd hq
      exact h.own q nd' hq'
    · intro q nd hq
      have e : ¬ q = g := fun e => by rw [e, hF'g] at hq; cases hq
      by_cases e2 : q = p
      · subst e2
        rw [hF'p] at hq
        cases hq
        have hs := hOm q _ hF
        refine ⟨hU.cell _ _ _ hs (by omega) m0, hU.cell _ _ _ hs (by omega) m1, ⟨m, hU.cell _ _ _ hs (by omega) c2, m3, ?_⟩, hU.cell _ _ _ hs (by omega) m5⟩
        rw [dele_len a1 hx]
        refine hm'.ext (fun nm _ => ?_)
        unfold kidF updB
        rw [inB_dele]
        by_cases e3 : nm = x
        · simp [e3]
        · simp [e3]
      · rw [hF'q q e e2] at hq
        refine (h.nd q nd hq).keptU hU (h.own q nd hq) (fun i hi => by omega) (fun b r hb hx => ?_) (fun b r hb hr i => ?_) rfl (fun nm _ => rfl) (fun b r hb => hb)
        · rw [hx, m3] at hb; cases hb; exact e2 rfl
        · rintro ⟨e4, _⟩
          exact hr (h.eqT hb e4)
    · intro q nd hq i
      obtain ⟨nd', hq'⟩ := hold' q nd hq
      exact (hU.fr _ i (h.lt _ _ (h.own q nd' hq')) (hOm q nd' hq')).trans (h.fr q nd' hq' i)
    · intro q nm hq
      have e : ¬ q ++ [nm] = g := fun e => by rw [e, hF'g] at hq; cases hq
      have hq' : (F (q ++ [nm])).isSome = true := by
        by_cases e2 : q ++ [nm] = p
        · rw [e2, hF]; rfl
        · rwa [hF'q _ e e2] at hq
      obtain ⟨s', ns', h1, h2⟩ := h.up q nm hq'
      have e3 : ¬ q = g := fun e => by rw [e, hlf nm] at hq'; cases hq'
      by_cases e2 : q = p
      · subst e2
        rw [hF] at h1; cases h1
        exact ⟨_, _, hF'p, dele_mem.2 ⟨fun e4 => e (by rw [e4, hg]), h2⟩⟩
      · exact ⟨s', ns', by rw [hF'q q e3 e2]; exact h1, h2⟩
    · intro q s' ns' nm hq hm
      have e : ¬ q = g := fun e => by rw [e, hF'g] at hq; cases hq
      have hsub : ∀ r, ¬ r = g → (F r).isSome = true → (F' r).isSome = true := fun r e hr => by
        by_cases e2 : r = p
        · rw [e2, hF'p]; rfl
        · rw [hF'q r e e2]; exact hr
      by_cases e2 : q = p
      · rw [e2, hF'p] at hq
        cases hq
        have := dele_mem.1 hm
        rw [e2]
        exact hsub _ (fun e => this.1 (pth_inj (e.trans hg)).2) (h.dn p s kn nm hF this.2)
      · rw [hF'q q e e2] at hq
        exact hsub _ (fun e => e2 (pth_inj (e.trans hg)).1) (h.dn q s' ns' nm hq hm)
    · intro q s' ns' hq
      have e : ¬ q = g := fun e => by rw [e, hF'g] at hq; cases hq
      by_cases e2 : q = p
      · rw [e2, hF'p] at hq
        cases hq
        have := dele_len a1 hx
        exact ⟨dele_nodup _ a1, fun nm hm => a2 nm (dele_mem.1 hm).2, by omega, by omega⟩
      · rw [hF'q q e e2] at hq
        obtain ⟨a1, a2, a3, a4⟩ := h.nms q s' ns' hq
        exact ⟨a1, a2, a3, by omega⟩
    · intro q cs hq
      have e : ¬ q = g := fun e => by rw [e, hF'g] at hq; cases hq
      by_cases e2 : q = p
      · rw [e2, hF'p] at hq; cases hq
      · rw [hF'q q e e2] at hq; exact h.fil q cs hq
  refine ⟨HT, A, O, HT, hU.chg.mono (fun b _ hb => ?_), fun b hb => .inl hb⟩
  rcases hb with hb | ⟨i, hb, _⟩
  · rw [hb, m3]; rfl
  · rw [hb, hT]; rfl
end Go.Proofs.YtlnjnimenihhnaaGreatDoor

namespace Go.Proofs.YtlnjnimenihhnaaGreatDoor
open Go.RowKit Go.Maps

/-- q is g, or below it. -/
abbrev Un (g q : Pth) : Prop := q.take g.length = g
theorem un_iff {g q : Pth} : Un g q ↔ ∃ r, q = g ++ r := by
  constructor
  · intro h
    exact ⟨q.drop g.length, by conv => lhs; rw [← List.take_append_drop g.length q]
                               rw [h]⟩
  · rintro ⟨r, rfl⟩
    simp [Un]
theorem un_self (g : Pth) : Un g g := un_iff.2 ⟨[], by simp⟩
theorem un_app (g r : Pth) : Un g (g ++ r) := un_iff.2 ⟨r, rfl⟩
theorem un_step {g q : Pth} {nm : ByteArray} (h : Un g (q ++ [nm])) : Un g q ∨ q ++ [nm] = g := by
  obtain ⟨r, hr⟩ := un_iff.1 h
  rcases List.eq_nil_or_concat r with rfl | ⟨r', y, rfl⟩
  · right; simpa using hr
  · left
    rw [List.concat_eq_append, ← List.append_assoc] at hr
    exact un_iff.2 ⟨r', (pth_inj hr).1⟩
theorem un_more {g q : Pth} (h : Un g q) (r : Pth) : Un g (q ++ r) := by
  obtain ⟨r', rfl⟩ := un_iff.1 h
  exact un_iff.2 ⟨r' ++ r, by simp⟩
theorem un_len {g q : Pth} (h : Un g q) : g.length ≤ q.length := by
  obtain ⟨r, rfl⟩ := un_iff.1 h
  simp
/-- What is at f, and below, is at g. -/
def graft (F : Pth → Option Nd) (f g : Pth) : Pth → Option Nd := fun q => if Un g q then F (f ++ q.drop g.length) else if Un f q then none else F q
theorem graft_at (F : Pth → Option Nd) (f g r : Pth) : graft F f g (g ++ r) = F (f ++ r) := by
  unfold graft
  rw [if_pos (un_app g r)]
  simp
theorem graft_none (F : Pth → Option Nd) {f g q : Pth} (h1 : ¬ Un g q) (h2 : Un f q) : graft F f g q = none := by
  unfold graft
  rw [if_neg h1, if_pos h2]
theorem graft_else (F : Pth → Option Nd) {f g q : Pth} (h1 : ¬ Un g q) (h2 : ¬ Un f q) : graft F f g q = F q := by
  unfold graft
  rw [if_neg h1, if_neg h2]
def graA (A : Pth → Nat) (f g : Pth) : Pth → Nat := fun q => if Un g q then A (f ++ q.drop g.length) else A q
theorem graA_at (A : Pth → Nat) (f g r : Pth) : graA A f g (g ++ r) = A (f ++ r) := by
  unfold graA
  rw [if_pos (un_app g r)]
  simp
theorem graA_else (A : Pth → Nat) {f g q : Pth} (h1 : ¬ Un g q) : graA A f g q = A q := by
  unfold graA
  rw [if_neg h1]
def graO (O : Nat → Option (Pth × Nat)) (f g : Pth) : Nat → Option (Pth × Nat) := fun b => (O b).map fun y => if Un f y.1 then (g ++ y.1.drop f.length, y.2) else y
theorem graO_at {O : Nat → Option (Pth × Nat)} {f g r : Pth} {b k : Nat} (h : O b = some (f ++ r, k)) : graO O f g b = some (g ++ r, k) := by
  unfold graO
  rw [h]
  simp [un_app f r]
theorem graO_else {O : Nat → Option (Pth × Nat)} {f g q : Pth} {b k : Nat} (h : O b = some (q, k)) (hq : ¬ Un f q) : graO O f g b = some (q, k) := by
  unfold graO
  rw [h]
  simp [hq]
theorem graO_some {O : Nat → Option (Pth × Nat)} {f g : Pth} {b : Nat} : (graO O f g b).isSome = (O b).isSome := by simp [graO]
theorem Tr.pre {w : World} {t : Nat} {F : Pth → Option Nd} {A : Pth → Nat} {O : Nat → Option (Pth × Nat)} {bl ino : Int} {K : Nat} (h : Tr w t F A O bl ino K) (p : Pth) : ∀ r : Pth, (F (p ++ r)).isSome = true → (F p).isSome = true := by
  have key : ∀ n (r : Pth), r.length = n → (F (p ++ r)).isSome = true → (F p).isSome = true := by
    intro n
    induction n with
    | zero =>
      intro r hr h1
      obtain rfl : r = [] := List.length_eq_zero_iff.1 hr
      simpa using h1
    | succ n ih =>
      intro r hr h1
      rcases List.eq_nil_or_concat r with rfl | ⟨r', x, rfl⟩
      · simp at hr
      · rw [List.concat_eq_append, ← List.append_assoc] at h1
        obtain ⟨s, ns, h2, _⟩ := h.up (p ++ r') x h1
        exact ih r' (by simpa using hr) (by rw [h2]; rfl)
  exact fun r => key r.length r rfl

/-- A node, and all below it, at another path. -/
theorem Tr.move {N : Nat} {w w' : World} {t : Nat} {F F2 : Pth → Option Nd} {A : Pth → Nat} {O : Nat → Option (Pth × Nat)} {bl ino bl' : Int} {K K' : Nat} (h : Tr w t F A O bl ino K) (hk : K ≤ K') {pf pg : Pth} {xf xg : ByteArray} {mf mg : Nat} (hf : (F (pf ++ [xf])).isSome = true) (hg : F (pg ++ [xg]) = none) (hpf : (F pf).isSome = true) (hpg : (F pg).isSome = true) (hfg : ¬ Un (pf ++ [xf]) (pg ++ [xg]))
    (hF2 : ∀ q, ¬ q = pf → ¬ q = pg → F2 q = F q) (hmf : O mf = some (pf, 1)) (hmg : O mg = some (pg, 1))
    (hD : ∀ Q, Q = pf ∨ Q = pg → ∃ s kn m, F2 Q = some (.dir s kn) ∧ kn.Nodup ∧ (∀ nm ∈ kn, nameB nm = true) ∧ kn.length ≤ s ∧ s ≤ K' ∧ (∀ nm, nm ∈ kn ↔ (Q ++ [nm] = pg ++ [xg] ∨ (¬ Q ++ [nm] = pf ++ [xf] ∧ (F (Q ++ [nm])).isSome = true))) ∧ w'.cell? ⟨A Q, 0, none⟩ = some (.bool false) ∧ w'.cell? ⟨A Q, 1, none⟩ = some (.slice none 0 0) ∧ w'.cell? ⟨A Q, 2, none⟩ = some (.map (some m)) ∧ w'.cell? ⟨A Q, 3, none⟩ = some (.int .i64 s) ∧ O m = some (Q, 1) ∧ SMap w' m kn.length (fun nm => if inB nm kn = true then some (ptr (A (if Q ++ [nm] = pg ++ [xg] then pf ++ [xf] else Q ++ [nm]))) else none))
    (hU : Upd (fun b i => (b = t ∧ i = 4) ∨ (b = A pg ∧ i = 3)) (fun k => k = mf ∨ k = mg) w w') (k4 : w'.cell? ⟨t, 4, none⟩ = some (.int .i64 bl')) (hbb : 0 ≤ bl' ∧ bl' ≤ 20000 * K' + 20000) :
    TrTo N w w' t O (graft F2 (pf ++ [xf]) (pg ++ [xg])) bl' ino K' := by
  have hT := h.atT
  obtain ⟨s0, n0, hr0⟩ := h.rdir
  obtain ⟨f, ef⟩ : ∃ f, f = pf ++ [xf] := ⟨_, rfl⟩
  obtain ⟨g, eg⟩ : ∃ g, g = pg ++ [xg] := ⟨_, rfl⟩
  rw [← ef] at hf hfg hD ⊢
  rw [← eg] at hg hfg hD ⊢
  have lf : f.length = pf.length + 1 := by rw [ef]; simp
  have lg : g.length = pg.length + 1 := by rw [eg]; simp
  -- where things are not
  have nfpf : ¬ Un f pf := fun e => by have := un_len e; omega
  have nfpg : ¬ Un f pg := fun e => hfg (by rw [eg]; exact un_more e _)
  have ngpg : ¬ Un g pg := fun e => by have := un_len e; omega
  have ngf : ¬ Un g f := fun e => by
    obtain ⟨r, hr⟩ := un_iff.1 e
    have := h.pre g r (by rw [← hr]; exact hf)
    rw [hg] at this; cases this
  have ngpf : ¬ Un g pf := fun e => ngf (by rw [ef]; exact un_more e _)
  have ng0 : ¬ Un g [] := fun e => by have : _ ≤ 0 := un_len e; omega
  have nf0 : ¬ Un f [] := fun e => by have : _ ≤ 0 := un_len e; omega
  have hfr2 : ∀ r, F2 (f ++ r) = F (f ++ r) := fun r => hF2 _ (fun e => nfpf (by rw [← e]; exact un_app f r)) (fun e => nfpg (by rw [← e]; exact un_app f r))
  have hsome2 : ∀ q, (F2 q).isSome = true ↔ (F q).isSome = true := fun q => by
    by_cases e1 : q = pf
    · obtain ⟨s, kn, m, h1, _⟩ := hD q (.inl e1)
      rw [h1, e1, hpf]; simp
    · by_cases e2 : q = pg
      · obtain ⟨s, kn, m, h1, _⟩ := hD q (.inr e2)
        rw [h1, e2, hpg]; simp
      · rw [hF2 q e1 e2]
  have hSome : ∀ p nd, F p = some nd → ¬ (A p = mf ∨ A p = mg) := fun p nd hp e => by
    have := h.own p nd hp
    rcases e with e | e <;> · rw [e] at this; first | (rw [hmf] at this; cases this) | (rw [hmg] at this; cases this)
  obtain ⟨ndg, hpg'⟩ := Option.isSome_iff_exists.1 hpg
  have hopg := h.own pg _ hpg'
  -- what a path of the new tree was
  have way : ∀ q nd, graft F2 f g q = some nd → (∃ r, q = g ++ r ∧ F (f ++ r) = some nd) ∨ (¬ Un g q ∧ ¬ Un f q ∧ F2 q = some nd) := fun q nd hq => by
    by_cases e1 : Un g q
    · obtain ⟨r, rfl⟩ := un_iff.1 e1
      rw [graft_at, hfr2] at hq
      exact .inl ⟨r, rfl, hq⟩
    · by_cases e2 : Un f q
      · rw [graft_none _ e1 e2] at hq; cases hq
      · rw [graft_else _ e1 e2] at hq
        exact .inr ⟨e1, e2, hq⟩
  have kc : ∀ p nd, F p = some nd → ¬ p = pg → ∀ i, i < 4 → ¬ ((A p = t ∧ i = 4) ∨ (A p = A pg ∧ i = 3)) := fun p nd hp hne i hi e => by
    rcases e with ⟨_, e⟩ | ⟨e, _⟩
    · omega
    · exact hne (h.inj hp hpg' e)
  have kS : ∀ p b r, O b = some (p, r) → ¬ p = pf → ¬ p = pg → ¬ (b = mf ∨ b = mg) := fun p b r hb n1 n2 e => by
    rcases e with e | e
    · rw [e, hmf] at hb; cases hb; exact n1 rfl
    · rw [e, hmg] at hb; cases hb; exact n2 rfl
  have kC : ∀ p b r, O b = some (p, r) → ¬ r = 0 → ∀ i, ¬ ((b = t ∧ i = 4) ∨ (b = A pg ∧ i = 3)) := fun p b r hb hr i e => by
    rcases e with ⟨e, _⟩ | ⟨e, _⟩
    · exact hr (h.eqT hb e)
    · rw [e, hopg] at hb; cases hb; exact hr rfl
  have HT : Tr w' t (graft F2 f g) (graA A f g) (graO O f g) bl' ino K' := by
    refine ⟨?_, ?_, ?_, ?_, ?_, ?_, ?_, ?_, ?_, ?_, k4, ?_, hbb, ⟨h.ib.1, by have := h.ib.2; omega⟩⟩
    · rw [graA_else A ng0]; exact h.root
    · rw [graft_else _ ng0 nf0]
      by_cases e : [] = pf ∨ [] = pg
      · obtain ⟨s, kn, m, h1, _⟩ := hD _ e
        exact ⟨s, kn, h1⟩
      · rw [hF2 _ (fun e1 => e (.inl e1)) (fun e2 => e (.inr e2))]
        exact ⟨_, _, hr0⟩
    · intro b y hb
      have : (O b).isSome = true := by rw [← graO_some (f := f) (g := g), hb]; rfl
      obtain ⟨z, hz⟩ := Option.isSome_iff_exists.1 this
      exact Nat.lt_of_lt_of_le (h.lt b z hz) hU.lt
    · intro q nd hq
      rcases way q nd hq with ⟨r, rfl, h1⟩ | ⟨n1, n2, h1⟩
      · rw [graA_at]; exact graO_at (h.own _ _ h1)
      · rw [graA_else A n1]
        obtain ⟨nd', h2⟩ := Option.isSome_iff_exists.1 ((hsome2 q).1 (by rw [h1]; rfl))
        exact graO_else (h.own _ _ h2) n2
    · intro q nd hq
      rcases way q nd hq with ⟨r, rfl, h1⟩ | ⟨n1, n2, h1⟩
      · have a1 : ¬ f ++ r = pf := fun e => nfpf (by rw [← e]; exact un_app f r)
        have a2 : ¬ f ++ r = pg := fun e => nfpg (by rw [← e]; exact un_app f r)
        exact (h.nd _ _ h1).keptU hU (h.own _ _ h1) (kc _ _ h1 a2) (fun b r' hb => kS _ b r' hb a1 a2) (fun b r' hb hr => kC _ b r' hb hr) (graA_at _ _ _ _) (fun nm _ => by rw [List.append_assoc, graA_at, List.append_assoc]) (fun b r' hb => graO_at hb)
      · have hst : ∀ nm, ¬ q ++ [nm] = g → graA A f g (q ++ [nm]) = A (q ++ [nm]) := fun nm e => graA_else A (fun e2 => (un_step e2).elim n1 e)
        by_cases e : q = pf ∨ q = pg
        · obtain ⟨s, kn, m, d1, -, -, -, -, -, d2, d3, d4, d5, d6, d7⟩ := hD q e
          rw [d1] at h1
          cases h1
          refine ⟨by rw [graA_else A n1]; exact d2, by rw [graA_else A n1]; exact d3, ⟨m, by rw [graA_else A n1]; exact d4, graO_else d6 n2, d7.ext (fun nm _ => ?_)⟩, by rw [graA_else A n1]; exact d5⟩
          unfold kidF
          by_cases e3 : q ++ [nm] = g
          · rw [if_pos e3, e3]
            have := graA_at A f g []
            simp only [List.append_nil] at this
            rw [this]
          · rw [if_neg e3, hst nm e3]
        · have e1 : ¬ q = pf := fun e1 => e (.inl e1)
          have e2 : ¬ q = pg := fun e1 => e (.inr e1)
          rw [hF2 q e1 e2] at h1
          refine (h.nd _ _ h1).keptU hU (h.own _ _ h1) (kc _ _ h1 e2) (fun b r' hb => kS _ b r' hb e1 e2) (fun b r' hb hr => kC _ b r' hb hr) (graA_else A n1) (fun nm _ => hst nm (fun e3 => e2 (pth_inj (e3.trans eg)).1)) (fun b r' hb => graO_else hb n2)
    · intro q nd hq i
      rcases way q nd hq with ⟨r, rfl, h1⟩ | ⟨n1, n2, h1⟩
      · rw [graA_at]; exact (hU.fr _ i (h.lt _ _ (h.own _ _ h1)) (hSome _ _ h1)).trans (h.fr _ _ h1 i)
      · rw [graA_else A n1]
        obtain ⟨nd', h2⟩ := Option.isSome_iff_exists.1 ((hsome2 q).1 (by rw [h1]; rfl))
        exact (hU.fr _ i (h.lt _ _ (h.own _ _ h2)) (hSome _ _ h2)).trans (h.fr _ _ h2 i)
    · intro q nm hq
      obtain ⟨nd, hq⟩ := Option.isSome_iff_exists.1 hq
      rcases way _ nd hq with ⟨r, hr, h1⟩ | ⟨n1, n2, h1⟩
      · rcases List.eq_nil_or_concat r with rfl | ⟨r', y, rfl⟩
        · rw [List.append_nil] at hr
          obtain ⟨rfl, rfl⟩ := pth_inj (hr.trans eg)
          rw [graft_else _ ngpg nfpg]
          obtain ⟨s, kn, m, d1, -, -, -, -, d2, -⟩ := hD q (.inr rfl)
          exact ⟨s, kn, d1, (d2 nm).2 (.inl eg.symm)⟩
        · rw [List.concat_eq_append, ← List.append_assoc] at hr h1
          obtain ⟨rfl, rfl⟩ := pth_inj hr
          obtain ⟨s, ns, h2, h3⟩ := h.up (f ++ r') nm (by rw [h1]; rfl)
          exact ⟨s, ns, by rw [graft_at, hfr2]; exact h2, h3⟩
      · have m1 : ¬ Un g q := fun e => n1 (un_more e _)
        have m2 : ¬ Un f q := fun e => n2 (un_more e _)
        have hFq : (F (q ++ [nm])).isSome = true := (hsome2 _).1 (by rw [h1]; rfl)
        rw [graft_else _ m1 m2]
        by_cases e : q = pf ∨ q = pg
        · obtain ⟨s, kn, m, d1, -, -, -, -, d2, -⟩ := hD q e
          exact ⟨s, kn, d1, (d2 nm).2 (.inr ⟨fun e => n2 (by rw [e]; exact un_self f), hFq⟩)⟩
        · rw [hF2 q (fun e1 => e (.inl e1)) (fun e1 => e (.inr e1))]
          exact h.up q nm hFq
    · intro q s ns nm hq hm
      rcases way _ _ hq with ⟨r, rfl, h1⟩ | ⟨n1, n2, h1⟩
      · rw [List.append_assoc, graft_at, hfr2, ← List.append_assoc]
        exact h.dn _ s ns nm h1 hm
      · by_cases e3 : q ++ [nm] = g
        · rw [e3]
          have := graft_at F2 f g []
          simp only [List.append_nil] at this
          rw [this]
          have := hfr2 []
          simp only [List.append_nil] at this
          rw [this]; exact hf
        · have m1 : ¬ Un g (q ++ [nm]) := fun e => (un_step e).elim n1 e3
          by_cases e : q = pf ∨ q = pg
          · obtain ⟨s', kn, m, d1, -, -, -, -, d2, -⟩ := hD q e
            rw [d1] at h1
            cases h1
            rcases (d2 nm).1 hm with e4 | ⟨e4, e5⟩
            · exact absurd e4 e3
            · rw [graft_else _ m1 (fun e => (un_step e).elim n2 e4)]
              exact (hsome2 _).2 e5
          · have e1 : ¬ q = pf := fun e1 => e (.inl e1)
            rw [hF2 q e1 (fun e1 => e (.inr e1))] at h1
            rw [graft_else _ m1 (fun e => (un_step e).elim n2 (fun e5 => e1 (pth_inj (e5.trans ef)).1))]
            exact (hsome2 _).2 (h.dn q s ns nm h1 hm)
    · intro q s ns hq
      rcases way _ _ hq with ⟨r, rfl, h1⟩ | ⟨n1, n2, h1⟩
      · obtain ⟨a1, a2, a3, a4⟩ := h.nms _ _ _ h1
        exact ⟨a1, a2, a3, by omega⟩
      · by_cases e : q = pf ∨ q = pg
        · obtain ⟨s', kn, m, d1, d2, d3, d4, d5, -⟩ := hD q e
          rw [d1] at h1
          cases h1
          exact ⟨d2, d3, d4, d5⟩
        · rw [hF2 q (fun e1 => e (.inl e1)) (fun e1 => e (.inr e1))] at h1
          obtain ⟨a1, a2, a3, a4⟩ := h.nms _ _ _ h1
          exact ⟨a1, a2, a3, by omega⟩
    · intro q cs hq
      rcases way _ _ hq with ⟨r, rfl, h1⟩ | ⟨n1, n2, h1⟩
      · exact h.fil _ _ h1
      · by_cases e : q = pf ∨ q = pg
        · obtain ⟨s', kn, m, d1, -⟩ := hD q e
          rw [d1] at h1
          cases h1
        · rw [hF2 q (fun e1 => e (.inl e1)) (fun e1 => e (.inr e1))] at h1
          exact h.fil _ _ h1
    · refine hU.cell _ _ _ ?_ (by omega) h.cin
      have := hSome _ _ hr0
      rwa [h.root] at this
  refine ⟨_, _, HT, hU.chg.mono (fun b _ hb => ?_), fun b hb => .inl (by rwa [graO_some] at hb)⟩
  rcases hb with (hb | hb) | ⟨i, (⟨hb, _⟩ | ⟨hb, _⟩)⟩
  · rw [hb, hmf]; rfl
  · rw [hb, hmg]; rfl
  · rw [hb, hT]; rfl
  · rw [hb, hopg]; rfl
end Go.Proofs.YtlnjnimenihhnaaGreatDoor

namespace Go.Proofs.YtlnjnimenihhnaaGreatDoor
open Go.RowKit Go.Maps

/-- A tree: what stands where, what is free. -/
structure Ts where
  F : Pth → Option Nd
  bl : Int
  ino : Int
/-- An act. -/
structure Ac where
  k : Int
  p : ByteArray
  q : ByteArray
  d : List Int
  n : Int
/-- Create, Mkdir. -/
def addR (T : Ts) (ns : Pth) (nd0 : Nd) : Int × Ts :=
  match T.F ns, T.F ns.dropLast with
  | some _, _ => (9, T)
  | none, some (.dir s kn) => if T.ino = 0 ∨ T.bl < furB s kn.length then (7, T) else (0, ⟨setN (setN T.F ns.dropLast (some (.dir (max s (kn.length + 1)) (lastN ns :: kn)))) ns (some nd0), T.bl - furB s kn.length, T.ino - 1⟩)
  | none, _ => (8, T)
/-- Append. -/
def extR (T : Ts) (ns : Pth) (d : List Int) : Int × Ts :=
  match T.F ns with
  | none => (8, T)
  | some (.dir _ _) => (10, T)
  | some (.file bs) => if 8458240 < bs.length + d.length then (5, T) else if T.bl < allN ((bs.length : Int) + d.length) - allN bs.length then (7, T) else (0, ⟨setN T.F ns (some (.file (bs ++ d))), T.bl - (allN ((bs.length : Int) + d.length) - allN bs.length), T.ino⟩)
/-- Cut. -/
def cutR (T : Ts) (ns : Pth) (n : Int) : Int × Ts :=
  match T.F ns with
  | none => (8, T)
  | some (.dir _ _) => (10, T)
  | some (.file bs) => if 0 ≤ n ∧ n ≤ bs.length then (0, ⟨setN T.F ns (some (.file (bs.take n.toNat))), T.bl + (allN bs.length - allN n.toNat), T.ino⟩) else (1, T)
/-- A file, or an empty directory, goes. -/
def goneT (T : Ts) (ns : Pth) : Ts :=
  match T.F ns, T.F ns.dropLast with
  | some nd, some (.dir s kn) => ⟨setN (setN T.F ns.dropLast (some (.dir s (dele kn (lastN ns))))) ns none, T.bl + nd.blk, T.ino + 1⟩
  | _, _ => T
/-- Unlink. -/
def unlR (T : Ts) (ns : Pth) : Int × Ts :=
  match T.F ns with
  | none => (8, T)
  | some (.dir _ _) => (10, T)
  | some (.file _) => (0, goneT T ns)
/-- Rmdir. -/
def rmdR (T : Ts) (ns : Pth) : Int × Ts :=
  match T.F ns with
  | none => (8, T)
  | some (.file _) => (11, T)
  | some (.dir _ kn) => if ns = [] ∨ ¬ kn = [] then (13, T) else (0, goneT T ns)
/-- A name moves, with all that is below it. -/
def movR (T : Ts) (f g : Pth) : Int × Ts :=
  match T.F f.dropLast, T.F g.dropLast with
  | some (.dir sf kf), some (.dir sg kg) =>
    if f.dropLast = g.dropLast then (0, ⟨graft (setN T.F g.dropLast (some (.dir sg (lastN g :: dele kg (lastN f))))) f g, T.bl, T.ino⟩)
    else if T.bl < furB sg kg.length then (7, T)
    else (0, ⟨graft (setN (setN T.F f.dropLast (some (.dir sf (dele kf (lastN f))))) g.dropLast (some (.dir (max sg (kg.length + 1)) (lastN g :: kg)))) f g, T.bl - furB sg kg.length, T.ino⟩)
  | _, _ => (8, T)
/-- A name moves over another one. -/
def repR (T : Ts) (f g : Pth) : Int × Ts :=
  match T.F f, T.F g with
  | some (.file _), some (.dir _ _) => (10, T)
  | some (.dir _ _), some (.file _) => (11, T)
  | some (.dir _ _), some (.dir _ kn) => if kn = [] then movR (goneT T g) f g else (13, T)
  | some (.file _), some (.file _) => movR (goneT T g) f g
  | _, _ => (8, T)
/-- Rename. -/
def renR (T : Ts) (a b : ByteArray) : Int × Ts :=
  if ¬ spE a = 0 then (spE a, T) else if ¬ spE b = 0 then (spE b, T) else if ¬ folE T.F (spN a) = 0 then (folE T.F (spN a), T)
  else if (T.F (spN a)).isSome = false then (8, T) else if spN a = [] ∨ spN b = [] then (13, T)
  else if ¬ folE T.F (spN b) = 0 then (folE T.F (spN b), T) else if spN a = spN b then (0, T) else if Un (spN a) (spN b) then (13, T)
  else if (T.F (spN b)).isSome = true then repR T (spN a) (spN b) else movR T (spN a) (spN b)
/-- Do. -/
def doR (T : Ts) (o : Ac) : Int × Ts :=
  if o.k < 1 ∨ 7 < o.k then (1, T) else if o.k = 7 then renR T o.p o.q else if ¬ fiE T.F o.p = 0 then (fiE T.F o.p, T)
  else if o.k = 1 then addR T (spN o.p) (.file []) else if o.k = 2 then addR T (spN o.p) (.dir 0 []) else if o.k = 3 then extR T (spN o.p) o.d
  else if o.k = 4 then cutR T (spN o.p) o.n else if o.k = 5 then unlR T (spN o.p) else rmdR T (spN o.p)

theorem pth_split {ns : Pth} (h : ¬ ns = []) : ns = ns.dropLast ++ [lastN ns] := by
  rcases List.eq_nil_or_concat ns with rfl | ⟨r, x, rfl⟩
  · exact absurd rfl h
  · simp [lastN]
theorem folA_dir (F : Pth → Option Nd) : ∀ (r p : Pth) (x : ByteArray), folA F p (r ++ [x]) = 0 → ∃ s kn, F (p ++ r) = some (.dir s kn)
  | [], p, x, h => by
    simp only [List.nil_append, folA] at h
    rw [List.append_nil]
    split at h
    · cases h
    · cases h
    · rename_i s kn e; exact ⟨s, kn, e⟩
  | y :: r, p, x, h => by
    simp only [List.cons_append, folA] at h
    split at h
    · cases h
    · cases h
    · obtain ⟨s, kn, e⟩ := folA_dir F r (p ++ [y]) x h
      exact ⟨s, kn, by simpa using e⟩
/-- What a way leads to stands in a directory. -/
theorem fol_dir {F : Pth → Option Nd} {ns : Pth} (h : folE F ns = 0) (h0 : ¬ ns = []) : ∃ s kn, F ns.dropLast = some (.dir s kn) := by
  rw [pth_split h0] at h
  have := folA_dir F ns.dropLast [] (lastN ns) h
  simpa using this
/-- A directory in memory. -/
theorem Tr.dirM {w : World} {t : Nat} {F : Pth → Option Nd} {A : Pth → Nat} {O : Nat → Option (Pth × Nat)} {bl ino : Int} {K : Nat} (h : Tr w t F A O bl ino K) {p : Pth} {s : Nat} {kn : List ByteArray} (hF : F p = some (.dir s kn)) :
    ∃ m, w.cell? ⟨A p, 0, none⟩ = some (.bool false) ∧ w.cell? ⟨A p, 1, none⟩ = some (.slice none 0 0) ∧ w.cell? ⟨A p, 2, none⟩ = some (.map (some m)) ∧ w.cell? ⟨A p, 3, none⟩ = some (.int .i64 s) ∧ O m = some (p, 1) ∧ SMap w m kn.length (kidF A p kn) ∧ ¬ t = m ∧ ∀ q nd, F q = some nd → ¬ A q = m := by
  obtain ⟨m0, m1, ⟨m, m2, m3, m4⟩, m5⟩ := h.nd p _ hF
  exact ⟨m, m0, m1, m2, m5, m3, m4, (fun e => by have := h.atT; rw [e, m3] at this; cases this), (fun q nd hq e => by have := h.own q nd hq; rw [e, m3] at this; cases this)⟩
theorem Tr.frT {w : World} {t : Nat} {F : Pth → Option Nd} {A : Pth → Nat} {O : Nat → Option (Pth × Nat)} {bl ino : Int} {K : Nat} (h : Tr w t F A O bl ino K) (i : Nat) : w.frozen? ⟨t, i, none⟩ = false := by
  obtain ⟨s, ns, hr⟩ := h.rdir
  rw [← h.root]; exact h.fr _ _ hr i
theorem kidF_none {A : Pth → Nat} {p : Pth} {kn : List ByteArray} {x : ByteArray} (h : ¬ x ∈ kn) : kidF A p kn x = none := by
  unfold kidF; rw [inB_not h]; simp
theorem kidF_some {A : Pth → Nat} {p : Pth} {kn : List ByteArray} {x : ByteArray} (h : x ∈ kn) : (kidF A p kn x).isSome = true := by
  unfold kidF; rw [(inB_iff _ _).2 h]; simp
theorem Tr.mem {w : World} {t : Nat} {F : Pth → Option Nd} {A : Pth → Nat} {O : Nat → Option (Pth × Nat)} {bl ino : Int} {K : Nat} (h : Tr w t F A O bl ino K) {p : Pth} {s : Nat} {kn : List ByteArray} (hF : F p = some (.dir s kn)) (x : ByteArray) : x ∈ kn ↔ (F (p ++ [x])).isSome = true := by
  refine ⟨h.dn p s kn x hF, fun hs => ?_⟩
  obtain ⟨s', ns', h1, h2⟩ := h.up p x hs
  rw [hF] at h1; cases h1; exact h2
end Go.Proofs.YtlnjnimenihhnaaGreatDoor

namespace Go.Proofs.YtlnjnimenihhnaaGreatDoor
open Go.RowKit Go.Maps

set_option maxHeartbeats 1600000 in
theorem add_exists (t q : Nat) (o : Option Addr) (x : ByteArray) (v : Value) (w : World) :
    Calls Tryz.prog 24 #[ptr t, .agg #[.pointer o, .string x, ptr q], v] w fun e w' => e = .returned (.int .i64 9) ∧ Below w.heap.size w w' := by
  go_enter Tryz.func24, Tryz.ntmps24
  go_wp2_with fail
  go_ret
  exact ⟨rfl, below_alloc _ _⟩
set_option maxHeartbeats 1600000 in
theorem add_full0 (t u : Nat) (x : ByteArray) (v : Value) (w : World) (cin : w.cell? ⟨t, 5, none⟩ = some (.int .i64 0)) :
    Calls Tryz.prog 24 #[ptr t, .agg #[ptr u, .string x, .pointer none], v] w fun e w' => e = .returned (.int .i64 7) ∧ Below w.heap.size w w' := by
  have A0 := below_alloc w (spO (ptr u) (.string x) (.pointer none))
  have S0 := Sp.alloc w (ptr u) (.string x) (.pointer none)
  obtain ⟨wa, hwa⟩ : ∃ wa, Hid (w.alloc (spO (ptr u) (.string x) (.pointer none)) = wa) := ⟨_, rfl⟩
  rw [hwa.out] at A0 S0
  have g5 := (Chg.ofBelowC A0).cell cin (fun h => h)
  obtain ⟨s0, s1, s2⟩ := S0.c
  have HB : Hid (Below w.heap.size w wa) := A0
  clear A0 S0 cin
  go_enter Tryz.func24, Tryz.ntmps24
  go_wp2_with fail
  rw [hwa.out]
  go_wp2_with fail
  go_region
  go_wp2_with fail
  go_ret
  exact ⟨rfl, HB.out.trans ((below_drew _ _).mono HB.out.size)⟩
set_option maxHeartbeats 3200000 in
set_option maxRecDepth 100000 in
theorem add_full (t u m n s : Nat) (x : ByteArray) (f : ByteArray → Option Value) (v : Value) (bl ino : Int) (w : World) (hT : Tab w) (cbl : w.cell? ⟨t, 4, none⟩ = some (.int .i64 bl)) (cin : w.cell? ⟨t, 5, none⟩ = some (.int .i64 ino)) (hi : ¬ ino = 0) (c2 : w.cell? ⟨u, 2, none⟩ = some (.map (some m))) (hm : SMap w m n f) (c3 : w.cell? ⟨u, 3, none⟩ = some (.int .i64 s)) (hn : n ≤ s) (hs : s ≤ 80000) (hq : bl < furB s n) :
    Calls Tryz.prog 24 #[ptr t, .agg #[ptr u, .string x, .pointer none], v] w fun e w' => e = .returned (.int .i64 7) ∧ Below w.heap.size w w' := by
  have fb := furB_bd s n
  have hid : decide (ino = 0) = false := by simpa using hi
  have hie : (ino == 0) = false := by simpa using hi
  have A0 := below_alloc w (spO (ptr u) (.string x) (.pointer none))
  have S0 := Sp.alloc w (ptr u) (.string x) (.pointer none)
  obtain ⟨wa, hwa⟩ : ∃ wa, Hid (w.alloc (spO (ptr u) (.string x) (.pointer none)) = wa) := ⟨_, rfl⟩
  rw [hwa.out] at A0 S0
  have C0 := Chg.ofBelowC A0
  have g4 := C0.cell cbl (fun h => h)
  have g5 := C0.cell cin (fun h => h)
  have g3 := C0.cell c3 (fun h => h)
  have g2 := C0.cell c2 (fun h => h)
  have gm := hm.kept (C0.block m hm.lt (fun h => h))
  have htl : t < w.heap.size := World.block_lt_of_cell? w ⟨t, 4, none⟩ cbl
  have hul : u < w.heap.size := World.block_lt_of_cell? w ⟨u, 2, none⟩ c2
  have hTa := tab_below hT A0
  obtain ⟨X, hX⟩ : ∃ X, Hid (furB s n = X) := ⟨_, rfl⟩
  rw [hX.out] at fb hq
  have HB : ∀ wb, Hid (Below wa.heap.size wa wb) → Hid (Calls Tryz.prog 52 #[ptr u] wb fun e w' => e = .returned (.int .i64 X) ∧ w'.cell? ⟨t, 4, none⟩ = some (.int .i64 bl) ∧ w'.cell? ⟨t, 5, none⟩ = some (.int .i64 ino) ∧ Hid (Below wa.heap.size wa w')) := by
    intro wb hb
    have C1 := Chg.ofBelowC hb.out
    have h9 := further_any u s n m f wb (tab_below hTa hb.out) (C1.cell g2 (fun h => h)) (gm.kept (C1.block m gm.lt (fun h => h))) (C1.cell g3 (fun h => h)) (by omega) hn
    rw [hX.out] at h9
    refine h9.mono ?_
    rintro e w' ⟨rfl, B⟩
    have B2 := hb.out.trans (B.mono hb.out.size)
    exact ⟨rfl, (Chg.ofBelowC B2).cell g4 (fun h => h), (Chg.ofBelowC B2).cell g5 (fun h => h), B2⟩
  have D0 : Hid (Below wa.heap.size wa wa.drew) := below_drew _ _
  have HS0 : Hid (Sp wa w.heap.size (ptr u) (.string x) (.pointer none)) := S0
  obtain ⟨s0, s1, s2⟩ := S0.c
  have HG : Hid (wa.cell? ⟨u, 3, none⟩ = some (.int .i64 s) ∧ wa.cell? ⟨u, 2, none⟩ = some (.map (some m)) ∧ SMap wa m n f ∧ Below w.heap.size w wa ∧ Tab wa) := ⟨g3, g2, gm, A0, hTa⟩
  clear A0 S0 C0 g2 g3 gm hTa hT cbl cin c2 c3 hm
  go_enter Tryz.func24, Tryz.ntmps24
  go_wp2_with fail
  rw [hwa.out]
  go_wp2_with fail
  go_region_with (first | (go_at_call 52; refine (HB _ (by first | exact D0)).out.mono ?_; clear HB; rintro e w5 ⟨rfl, d4, d5, HB5⟩))
  all_goals
    go_wp2_with fail
    go_ret
    exact ⟨rfl, HG.out.2.2.2.1.trans (HB5.out.mono HG.out.2.2.2.1.size)⟩
set_option maxHeartbeats 3200000 in
set_option maxRecDepth 100000 in
theorem add_ok (t u m n s : Nat) (x : ByteArray) (f : ByteArray → Option Value) (v : Value) (bl ino : Int) (w : World) (hT : Tab w) (hx : x.size ≤ 256) (cbl : w.cell? ⟨t, 4, none⟩ = some (.int .i64 bl)) (cin : w.cell? ⟨t, 5, none⟩ = some (.int .i64 ino)) (hi : ¬ ino = 0) (c2 : w.cell? ⟨u, 2, none⟩ = some (.map (some m))) (hm : SMap w m n f) (c3 : w.cell? ⟨u, 3, none⟩ = some (.int .i64 s)) (hn : n ≤ s) (hs : s ≤ 80000) (hf : f x = none) (htm : ¬ t = m) (hum : ¬ u = m) (frt : ∀ i, w.frozen? ⟨t, i, none⟩ = false) (fru : ∀ i, w.frozen? ⟨u, i, none⟩ = false) (hb0 : -1000000000000 ≤ bl) (hb1 : bl ≤ 1000000000000) (hi0 : -1000000000000 ≤ ino) (hi1 : ino ≤ 1000000000000) (hq : ¬ bl < furB s n) :
    Calls Tryz.prog 24 #[ptr t, .agg #[ptr u, .string x, .pointer none], v] w fun e w' => e = .returned (.int .i64 0) ∧ SMap w' m (n + 1) (updB f x (some v)) ∧ Upd (fun b i => (b = t ∧ (i = 4 ∨ i = 5)) ∨ (b = u ∧ i = 3)) (fun k => k = m) w w' ∧ w'.cell? ⟨t, 4, none⟩ = some (.int .i64 (bl - furB s n)) ∧ w'.cell? ⟨t, 5, none⟩ = some (.int .i64 (ino - 1)) ∧ w'.cell? ⟨u, 3, none⟩ = some (.int .i64 (max s (n + 1) : Nat)) := by
  have fb := furB_bd s n
  have hid : decide (ino = 0) = false := by simpa using hi
  have hie : (ino == 0) = false := by simpa using hi
  have A0 := below_alloc w (spO (ptr u) (.string x) (.pointer none))
  have S0 := Sp.alloc w (ptr u) (.string x) (.pointer none)
  obtain ⟨wa, hwa⟩ : ∃ wa, Hid (w.alloc (spO (ptr u) (.string x) (.pointer none)) = wa) := ⟨_, rfl⟩
  rw [hwa.out] at A0 S0
  have C0 := Chg.ofBelowC A0
  have g4 := C0.cell cbl (fun h => h)
  have g5 := C0.cell cin (fun h => h)
  have g3 := C0.cell c3 (fun h => h)
  have g2 := C0.cell c2 (fun h => h)
  have gm := hm.kept (C0.block m hm.lt (fun h => h))
  have htl : t < w.heap.size := World.block_lt_of_cell? w ⟨t, 4, none⟩ cbl
  have hul : u < w.heap.size := World.block_lt_of_cell? w ⟨u, 2, none⟩ c2
  have hTa := tab_below hT A0
  obtain ⟨X, hX⟩ : ∃ X, Hid (furB s n = X) := ⟨_, rfl⟩
  rw [hX.out] at fb hq
  have HB : ∀ wb, Hid (Below wa.heap.size wa wb) → Hid (Calls Tryz.prog 52 #[ptr u] wb fun e w' => e = .returned (.int .i64 X) ∧ w'.cell? ⟨t, 4, none⟩ = some (.int .i64 bl) ∧ w'.cell? ⟨t, 5, none⟩ = some (.int .i64 ino) ∧ Hid (Below wa.heap.size wa w')) := by
    intro wb hb
    have C1 := Chg.ofBelowC hb.out
    have h9 := further_any u s n m f wb (tab_below hTa hb.out) (C1.cell g2 (fun h => h)) (gm.kept (C1.block m gm.lt (fun h => h))) (C1.cell g3 (fun h => h)) (by omega) hn
    rw [hX.out] at h9
    refine h9.mono ?_
    rintro e w' ⟨rfl, B⟩
    have B2 := hb.out.trans (B.mono hb.out.size)
    exact ⟨rfl, (Chg.ofBelowC B2).cell g4 (fun h => h), (Chg.ofBelowC B2).cell g5 (fun h => h), B2⟩
  have D0 : Hid (Below wa.heap.size wa wa.drew) := below_drew _ _
  have HS0 : Hid (Sp wa w.heap.size (ptr u) (.string x) (.pointer none)) := S0
  obtain ⟨s0, s1, s2⟩ := S0.c
  have HG : Hid (wa.cell? ⟨u, 3, none⟩ = some (.int .i64 s) ∧ wa.cell? ⟨u, 2, none⟩ = some (.map (some m)) ∧ SMap wa m n f ∧ Below w.heap.size w wa ∧ Tab wa) := ⟨g3, g2, gm, A0, hTa⟩
  have frt0 : ∀ i, wa.frozen? ⟨t, i, none⟩ = false := fun i => (World.frozen?_of_block (C0.block t htl (fun h => h))).trans (frt i)
  have fru0 : ∀ i, wa.frozen? ⟨u, i, none⟩ = false := fun i => (World.frozen?_of_block (C0.block u hul (fun h => h))).trans (fru i)
  have wi : IntKind.i64.wrap (ino - 1) = ino - 1 := by rw [IntKind.wrap_i64]; omega
  have FR5 : ∀ w5, Hid (Below wa.heap.size wa w5) → w5.frozen? ⟨t, 5, none⟩ = false := fun w5 hb => (World.frozen?_of_block ((Chg.ofBelowC hb.out).block t (Nat.lt_of_lt_of_le htl HG.out.2.2.2.1.size) (fun h => h))).trans (frt0 5)
  have END : ∀ w5, w5.cell? ⟨t, 4, none⟩ = some (.int .i64 bl) → w5.cell? ⟨t, 5, none⟩ = some (.int .i64 ino) → Hid (Below wa.heap.size wa w5) → ∀ w6, w5.setCell ⟨t, 5, none⟩ (.int .i64 (ino - 1)) = w6 → w6.cell? ⟨w.heap.size, 0, none⟩ = some (ptr u) ∧ w6.cell? ⟨w.heap.size, 1, none⟩ = some (.string x) ∧ w6.cell? ⟨w.heap.size, 2, none⟩ = some (.pointer none) ∧ Hid (w6.cell? ⟨t, 5, none⟩ = some (.int .i64 (ino - 1)) ∧ w6.cell? ⟨t, 4, none⟩ = some (.int .i64 bl) ∧ Upd (fun b i => (b = t ∧ (i = 4 ∨ i = 5)) ∨ (b = u ∧ i = 3)) (fun k => k = m) w w6 ∧ w6.cell? ⟨u, 2, none⟩ = some (.map (some m)) ∧ w6.cell? ⟨u, 3, none⟩ = some (.int .i64 s) ∧ SMap w6 m n f ∧ (∀ i, w6.frozen? ⟨u, i, none⟩ = false) ∧ (∀ i, w6.frozen? ⟨t, i, none⟩ = false) ∧ Tab w6) := by
    rintro w5 d4 d5 HB5 w6 rfl
    have W6 := Upd.setCell w5 t 5 (.int .i64 (ino - 1))
    have V6 : Upd (fun b i => b = t ∧ i = 5) (fun _ => False) wa (w5.setCell ⟨t, 5, none⟩ (.int .i64 (ino - 1))) := (Upd.below HB5.out).trans W6
    have U6 : Upd (fun b i => b = t ∧ i = 5) (fun _ => False) w (w5.setCell ⟨t, 5, none⟩ (.int .i64 (ino - 1))) := (Upd.below HG.out.2.2.2.1).trans V6
    refine ⟨V6.cell _ _ _ (fun h => h) (by omega) s0, V6.cell _ _ _ (fun h => h) (by omega) s1, V6.cell _ _ _ (fun h => h) (by omega) s2, World.cell?_setCell_same _ _ _ d5, W6.cell _ _ _ (fun h => h) (by omega) d4, U6.mono (fun _ _ h => .inl ⟨h.1, .inr h.2⟩) (fun _ h => h.elim), V6.cell _ _ _ (fun h => h) (by omega) HG.out.2.1, V6.cell _ _ _ (fun h => h) (by omega) HG.out.1, V6.smap HG.out.2.2.1 (fun h => h) (by omega), fun i => (V6.fr u i (Nat.lt_of_lt_of_le hul HG.out.2.2.2.1.size) (fun h => h)).trans (fru0 i), fun i => (V6.fr t i (Nat.lt_of_lt_of_le htl HG.out.2.2.2.1.size) (fun h => h)).trans (frt0 i), fun j hj => V6.cell _ _ _ (fun h => h) ?_ (HG.out.2.2.2.2 j hj)⟩
    rintro ⟨e, e2⟩
    have e3 := HG.out.2.2.2.2 j hj
    rw [e, e2, g5] at e3
    cases e3
  clear A0 S0 C0 g2 g3 gm hTa hT cbl cin c2 c3 hm frt fru
  go_enter Tryz.func24, Tryz.ntmps24
  go_wp2_with fail
  rw [hwa.out]
  go_wp2_with fail
  go_region_with (first | (go_at_call 52; refine (HB _ (by first | exact D0)).out.mono ?_; clear HB; rintro e w5 ⟨rfl, d4, d5, HB5⟩))
  all_goals
    have hE := END w5 d4 d5 HB5
    have fr5 := FR5 w5 HB5
    clear END FR5 HB5 s0 s1 s2 frt0 fru0 g4 g5
    go_wp2_with fail
    generalize w5.setCell ⟨t, 5, none⟩ (.int .i64 (ino - 1)) = w6 at *
    obtain ⟨e0, e1, e2', HE⟩ := hE w6 rfl
    clear hE d4 d5 fr5
    go_wp2_with fail
    obtain ⟨e5, e4, U6, e2, e3, em, ef, et, eT⟩ := HE.out
    refine (tput_any t u m n s x f (.pointer none) v bl w6 eT hx e4 e2 em e3 hf hn hs htm hum et ef hb0 hb1).mono ?_
    rintro e w7 ⟨rfl, hm7, U7, h4, h3⟩
    rw [hX.out] at h4
    have HU : Hid (SMap w7 m (n + 1) (updB f x (some v)) ∧ Upd (fun b i => (b = t ∧ (i = 4 ∨ i = 5)) ∨ (b = u ∧ i = 3)) (fun k => k = m) w w7 ∧ w7.cell? ⟨t, 4, none⟩ = some (.int .i64 (bl - X)) ∧ w7.cell? ⟨t, 5, none⟩ = some (.int .i64 (ino - 1)) ∧ w7.cell? ⟨u, 3, none⟩ = some (.int .i64 (max s (n + 1) : Nat))) := ⟨hm7, U6.trans (U7.mono (fun _ _ h => h.elim (fun h => .inl ⟨h.1, .inl h.2⟩) .inr) (fun _ h => h)), h4, U7.cell _ _ _ htm (by omega) e5, h3⟩
    clear HE e5 e4 U6 e2 e3 em ef et eT hm7 U7 h4 h3 e0 e1 e2'
    go_wp2_with fail
    go_ret
    rw [hX.out]
    exact ⟨rfl, HU.out⟩
end Go.Proofs.YtlnjnimenihhnaaGreatDoor

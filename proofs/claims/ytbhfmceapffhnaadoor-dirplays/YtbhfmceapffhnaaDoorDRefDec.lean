/-
  Decode of the document's slots.
-/
import Derived.Test.YtbhfmceapffhnaaDoorDDec2
import Derived.Test.YtbhfmceapffhnaaDoorDRefEnc
import Derived.Test.YtbhfmceapffhnaaDoorDRefName
import Derived.Test.YtbhfmceapffhnaaDoorDNm
import Derived.Deep.RegionHeld3
import Derived.BigRegion
import Derived.Deep.Cut
namespace Go.Proofs.YtbhfmceapffhnaaDoor
open Go.RowKit

/-- An entry of the document's in a box. -/
def EnR (w : World) (r : Nat) (x : En) : Prop := w.heap[r]? = some (.cells #[.string x.nm, .int .i64 x.ino] 47 (0, 0))
theorem EnR.c0 {w : World} {r : Nat} {x : En} (h : EnR w r x) : w.cell? ⟨r, 0, none⟩ = some (.string x.nm) := cell_of_row w r 0 _ _ _ h
theorem EnR.c1 {w : World} {r : Nat} {x : En} (h : EnR w r x) : w.cell? ⟨r, 1, none⟩ = some (.int .i64 x.ino) := cell_of_row w r 1 _ _ _ h
theorem EnR.fr {w : World} {r : Nat} {x : En} (h : EnR w r x) (j : Nat) : w.frozen? ⟨r, j, none⟩ = false := by simp [World.frozen?, show w.heap[r]? = _ from h]
theorem EnR.put {w : World} {r : Nat} {x : En} (h : EnR w r x) (y : En) : EnR ((w.setCell ⟨r, 0, none⟩ (.string y.nm)).setCell ⟨r, 1, none⟩ (.int .i64 y.ino)) r y :=
  heap_setCell_same _ r 1 _ _ (.int .i64 y.ino) (heap_setCell_same w r 0 _ _ (.string y.nm) h)
theorem EnR.lt {w : World} {r : Nat} {x : En} (h : EnR w r x) : r < w.heap.size := lt_of_block h
theorem EnR.kept {S : Nat → Prop} {w w' : World} {r : Nat} {x : En} (h : EnR w r x) (hc : Chg S w w') (hn : ¬ S r) : EnR w' r x := (hc.block r h.lt hn).trans h
theorem below_dr {N : Nat} {w w' : World} (h : Below N w w') : Below N w w'.drew := ⟨h.os, h.tape, h.output, h.size, h.block⟩
theorem EnR.put0 {w : World} {r : Nat} {x : En} (h : EnR w r x) (s : ByteArray) : EnR (w.setCell ⟨r, 0, none⟩ (.string s)) r ⟨s, x.ino⟩ := heap_setCell_same w r 0 _ _ (.string s) h
theorem EnR.put1 {w : World} {r : Nat} {x : En} (h : EnR w r x) (i : Int) : EnR (w.setCell ⟨r, 1, none⟩ (.int .i64 i)) r ⟨x.nm, i⟩ := heap_setCell_same w r 1 _ _ (.int .i64 i) h
theorem tkn (xs : List Int) (n : Nat) (h : n ≤ xs.length) : tkV ⟨xs, 0⟩ n = xs.take n ∧ tkS ⟨xs, 0⟩ n = ⟨xs.drop n, 0⟩ := by
  unfold tkV tkS
  simp only [if_true]
  rw [if_neg (by omega), if_neg (by omega)]
  simp
theorem strT (xs ys : List Int) (hx : IsB xs) (hy : IsB ys) (b : Bool) (h : decide (xs = ys) = b) : ((strC xs).toList == (strC ys).toList) = b := by
  by_cases e : xs = ys
  · subst e; rw [← h]; simp
  · rw [strC_ne xs ys hx hy e, ← h]; simp [e]
/-- A name of 56 bytes is none. -/
theorem okX_long (bs : List Int) (_hB : IsB bs) (hl : bs.length = 64) (h : 56 < valB (bs.take 1)) : okX bs = false := by
  have hs : (takX bs).nm.size = 56 := by
    unfold takX takE
    rw [str_le, List.length_take, List.length_take, List.length_drop]
    omega
  have : nameB (takX bs).nm = false := by
    unfold nameB
    rw [hs]
    rfl
  unfold okX
  rw [this]; rfl
theorem ino_top (bs : List Int) (hB : IsB bs) : (takX bs).ino ≤ 65535 ∧ 0 ≤ (takX bs).ino := by
  unfold takX takE
  have := valB_bd ((bs.drop 2).take 2) ((hB.drop 2).take 2)
  have hl : ((bs.drop 2).take 2).length ≤ 2 := by rw [List.length_take]; omega
  have h2 : (256 : Int) ^ ((bs.drop 2).take 2).length ≤ 256 ^ 2 := by
    rcases (by omega : ((bs.drop 2).take 2).length = 0 ∨ ((bs.drop 2).take 2).length = 1 ∨ ((bs.drop 2).take 2).length = 2) with h | h | h <;> rw [h] <;> decide
  have h3 : (256 : Int) ^ 2 = 65536 := by decide
  constructor
  · show valB _ ≤ _; omega
  · exact this.1

set_option maxHeartbeats 6400000 in
set_option maxRecDepth 100000 in
theorem rdecode_any (v : Value) (bs : List Int) (w : World) (hb : Bs w v bs) (hB : IsB bs) (hl : bs.length ≤ 100000) :
    Calls Tryd.prog 32 #[v] w fun e w' => e = .returned (.tuple #[(decV bs).v, .int .i64 (decE bs)]) ∧ Below w.heap.size w w' := by
  obtain ⟨va, vc, rfl, hvc⟩ := hb.formC
  have NN : ∀ o, Below w.heap.size w (w.alloc o) := fun o => (Below.refl _ _).alloc (Nat.le_refl _) _
  have B0 := NN (.cells #[.string ⟨#[]⟩, .int .i64 0] 47)
  have E0 : EnR (w.alloc (.cells #[.string ⟨#[]⟩, .int .i64 0] 47)) w.heap.size En.fr := heap_alloc_new w _
  have fin : ∀ (w1 : World) (x y : En), EnR w1 w.heap.size x → Below w.heap.size w w1 → Hid (EnR ((w1.setCell ⟨w.heap.size, 0, none⟩ (.string y.nm)).setCell ⟨w.heap.size, 1, none⟩ (.int .i64 y.ino)) w.heap.size y ∧ Below w.heap.size w ((w1.setCell ⟨w.heap.size, 0, none⟩ (.string y.nm)).setCell ⟨w.heap.size, 1, none⟩ (.int .i64 y.ino))) := fun w1 x y h hb => ⟨h.put y, hb.trans (chg_two.below hb.size (fun k hk => by omega))⟩
  clear NN
  generalize hw0 : w.alloc (.cells #[.string ⟨#[]⟩, .int .i64 0] 47) = w0 at *
  have a0 := E0.c0
  have a1 := E0.c1
  have z0 := E0.fr 0
  have z1 := E0.fr 1
  go_enter Tryd.func32, Tryd.ntmps32
  by_cases h1 : bs.length < 64
  · have H := fin w0 _ En.fr E0 B0
    have R1 : Hid (decE bs = 2 ∧ decV bs = En.fr) := by
      have : decE bs = 2 := by unfold decE; rw [if_pos h1]
      exact ⟨this, by unfold decV; rw [if_neg (by rw [this]; omega)]⟩
    have g1 : (bs.length : Int) < 64 := by omega
    clear fin
    go_wp2_with fail
    generalize (w0.setCell ⟨w.heap.size, 0, none⟩ (.string ⟨#[]⟩)).setCell ⟨w.heap.size, 1, none⟩ (.int .i64 0) = w5 at *
    obtain ⟨E5, B5⟩ := H.out
    have c50 := E5.c0
    have c51 := E5.c1
    refine bodyPost_ret (v := .tuple #[(En.fr : En).v, .int .i64 2]) (by simp [results, Tryd.results32, go_sem, c50, c51]) rfl ⟨?_, B5⟩
    rw [R1.out.1, R1.out.2]
  by_cases h2 : 64 < bs.length
  · have H := fin w0 _ En.fr E0 B0
    have R1 : Hid (decE bs = 5 ∧ decV bs = En.fr) := by
      have : decE bs = 5 := by unfold decE; rw [if_neg h1, if_pos h2]
      exact ⟨this, by unfold decV; rw [if_neg (by rw [this]; omega)]⟩
    have g1 : ¬ ((bs.length : Int) < 64) := by omega
    have g2 : 64 < (bs.length : Int) := by omega
    clear fin
    go_wp2_with fail
    generalize (w0.setCell ⟨w.heap.size, 0, none⟩ (.string ⟨#[]⟩)).setCell ⟨w.heap.size, 1, none⟩ (.int .i64 0) = w5 at *
    obtain ⟨E5, B5⟩ := H.out
    have c50 := E5.c0
    have c51 := E5.c1
    refine bodyPost_ret (v := .tuple #[(En.fr : En).v, .int .i64 5]) (by simp [results, Tryd.results32, go_sem, c50, c51]) rfl ⟨?_, B5⟩
    rw [R1.out.1, R1.out.2]
  have h64 : bs.length = 64 := by omega
  have hb0 : Bs w0 (.slice va bs.length vc) bs := hb.under B0
  obtain ⟨oz, hmk, hM⟩ := makeM 64 (by omega)
  obtain ⟨T, hTT⟩ : ∃ T, Hid (strC bs = T) := ⟨_, rfl⟩
  obtain ⟨T0, hTT0⟩ : ∃ T0, Hid (strC (zeros 64) = T0) := ⟨_, rfl⟩
  have CB : Hid (∀ w', Below w0.heap.size w0 w' → (convert 52 9 (.slice va 64 vc)).run Tryd.prog w' = .ok (.string T) w') := fun w' h => by
    have := run_strC (hb0.under h)
    rw [hTT.out, h64] at this
    exact this
  have CZ : Hid (∀ w' : World, (convert 52 9 (.slice (some ⟨w'.heap.size, 0, none⟩) 64 64)).run Tryd.prog (w'.alloc oz) = .ok (.string T0) (w'.alloc oz)) := fun w' => by
    have := run_strC (hM w').bs
    rw [hTT0.out] at this
    exact this
  have CZd : Hid (∀ w' : World, (convert 52 9 (.slice (some ⟨w'.heap.size, 0, none⟩) 64 64)).run Tryd.prog (w'.alloc oz).drew = .ok (.string T0) (w'.alloc oz).drew) := fun w' => by
    have := run_strC (show Bs (w'.alloc oz).drew _ _ from (hM w').bs)
    rw [hTT0.out] at this
    exact this
  have hZB : IsB (zeros 64) := fun x hx => by have := List.eq_of_mem_replicate hx; omega
  have hmk' : ∀ w : World, (Instr.makeSlice 52 (.int .i64 64) (.int .i64 64)).run Tryd.prog w = .ok (.slice (some ⟨w.heap.size, 0, none⟩) 64 64) (w.alloc oz) := hmk
  clear hM hmk
  by_cases h3 : bs = zeros 64
  · have R1 : Hid (decE bs = 0 ∧ decV bs = En.fr) := by
      have : decE bs = 0 := by unfold decE; rw [if_neg h1, if_neg h2, if_pos h3]
      exact ⟨this, by unfold decV; rw [if_neg (by intro h; exact h.2 h3)]⟩
    have tz : (T.toList == T0.toList) = true := by rw [← hTT.out, ← hTT0.out]; exact strT bs (zeros 64) hB hZB true (by simp [h3])
    rw [h64]
    clear h3
    go_wp2_with fail
    refine wp_region_held_drew (S := (fun w' => (convert 52 9 (.slice va 64 vc)).run Tryd.prog w' = .ok (.string T) w')) (by kernel_rfl) (by first | exact CB.out _ (Below.refl _ _) | exact CB.out _ (by exact ⟨rfl, rfl, rfl, Nat.le_refl _, fun _ _ => rfl⟩)) (fun hHeld => ?_)
    refine wpAnyH_take (i := 0) (v := ?_) rfl (by kernel_rfl) (by kernel_rfl) (by kernel_rfl) (fun _ _ _ h => h) (Or.inl ⟨by rfl, ?_⟩) hHeld ?_
    rotate_left
    · (intro w hSw; (try dsimp only at hSw); go_simp; try with_reducible rfl)
    simp only [List.getElem_toArray, List.getElem_cons_zero, Act.put, List.setIfInBounds_toArray, List.set_cons_zero, List.set_cons_succ]
    refine wpAnyH_take (i := 1) (v := ?_) rfl (by kernel_rfl) (by kernel_rfl) (by kernel_rfl) (fun _ _ _ h => h) (Or.inl ⟨by rfl, ?_⟩) hHeld ?_
    rotate_left
    · (intro w hSw; (try dsimp only at hSw); go_simp; try with_reducible rfl)
    simp only [List.getElem_toArray, List.getElem_cons_succ, List.getElem_cons_zero, Act.put, List.setIfInBounds_toArray, List.set_cons_zero, List.set_cons_succ]
    refine wpAnyH_ready (rs := [2]) (by kernel_rfl) (by simp) ?_
    refine AllReadyH.cons rfl (fun K hK => ?_) AllReadyH.nil
    go_simp
    go_wp2_with fail
    have Bz : Below w0.heap.size w0 (w0.alloc oz).drew := below_dr ((Below.refl _ _).alloc (Nat.le_refl _) _)
    refine hK.out _ _ (CB.out _ Bz) (fun hHeld => ?_)
    clear hK K
    refine wpAnyH_ready (rs := [3]) (by kernel_rfl) (by simp) ?_
    refine AllReadyH.cons rfl (fun K hK => ?_) AllReadyH.nil
    go_simp
    rw [CZd.out w0]
    go_simp
    refine hK.out _ _ (CB.out _ Bz) (fun hHeld => ?_)
    clear hK K
    refine wpAnyH_take (i := 4) (v := ?_) rfl (by kernel_rfl) (by kernel_rfl) (by kernel_rfl) (fun _ _ _ h => h) (Or.inl ⟨by rfl, ?_⟩) hHeld ?_
    rotate_left
    · (intro w hSw; (try dsimp only at hSw); go_simp; try with_reducible rfl)
    simp only [List.getElem_toArray, List.getElem_cons_succ, List.getElem_cons_zero, Act.put, List.setIfInBounds_toArray, List.set_cons_zero, List.set_cons_succ]
    refine wpAnyH_done (by kernel_rfl) ?_ _
    have Bz2 := B0.trans (Bz.mono B0.size)
    have Ez := E0.kept (Chg.ofBelowC Bz) (fun h => h)
    generalize (w0.alloc oz).drew = w6 at *
    have a60 := Ez.c0
    have a61 := Ez.c1
    have z60 := Ez.fr 0
    have z61 := Ez.fr 1
    clear hHeld
    have H := fin w6 _ En.fr Ez Bz2
    clear fin
    go_wp2_with fail
    generalize (w6.setCell ⟨w.heap.size, 0, none⟩ (.string ⟨#[]⟩)).setCell ⟨w.heap.size, 1, none⟩ (.int .i64 0) = w5 at *
    obtain ⟨E5, B5⟩ := H.out
    have c50 := E5.c0
    have c51 := E5.c1
    refine bodyPost_ret (v := .tuple #[(En.fr : En).v, .int .i64 0]) (by simp [results, Tryd.results32, go_sem, c50, c51]) rfl ⟨?_, B5⟩
    rw [R1.out.1, R1.out.2]
  have tz : (T.toList == T0.toList) = false := by rw [← hTT.out, ← hTT0.out]; exact strT bs (zeros 64) hB hZB false (by simp [h3])
  rw [h64]
  go_wp2_with fail
  refine wp_region_held_drew (S := (fun w' => (convert 52 9 (.slice va 64 vc)).run Tryd.prog w' = .ok (.string T) w')) (by kernel_rfl) (by first | exact CB.out _ (Below.refl _ _) | exact CB.out _ (by exact ⟨rfl, rfl, rfl, Nat.le_refl _, fun _ _ => rfl⟩)) (fun hHeld => ?_)
  refine wpAnyH_take (i := 0) (v := ?_) rfl (by kernel_rfl) (by kernel_rfl) (by kernel_rfl) (fun _ _ _ h => h) (Or.inl ⟨by rfl, ?_⟩) hHeld ?_
  rotate_left
  · (intro w hSw; (try dsimp only at hSw); go_simp; try with_reducible rfl)
  simp only [List.getElem_toArray, List.getElem_cons_zero, Act.put, List.setIfInBounds_toArray, List.set_cons_zero, List.set_cons_succ]
  refine wpAnyH_take (i := 1) (v := ?_) rfl (by kernel_rfl) (by kernel_rfl) (by kernel_rfl) (fun _ _ _ h => h) (Or.inl ⟨by rfl, ?_⟩) hHeld ?_
  rotate_left
  · (intro w hSw; (try dsimp only at hSw); go_simp; try with_reducible rfl)
  simp only [List.getElem_toArray, List.getElem_cons_succ, List.getElem_cons_zero, Act.put, List.setIfInBounds_toArray, List.set_cons_zero, List.set_cons_succ]
  refine wpAnyH_ready (rs := [2]) (by kernel_rfl) (by simp) ?_
  refine AllReadyH.cons rfl (fun K hK => ?_) AllReadyH.nil
  go_simp
  go_wp2_with fail
  have Bz : Below w0.heap.size w0 (w0.alloc oz).drew := below_dr ((Below.refl _ _).alloc (Nat.le_refl _) _)
  refine hK.out _ _ (CB.out _ Bz) (fun hHeld => ?_)
  clear hK K
  refine wpAnyH_ready (rs := [3]) (by kernel_rfl) (by simp) ?_
  refine AllReadyH.cons rfl (fun K hK => ?_) AllReadyH.nil
  go_simp
  rw [CZd.out w0]
  go_simp
  refine hK.out _ _ (CB.out _ Bz) (fun hHeld => ?_)
  clear hK K
  refine wpAnyH_take (i := 4) (v := ?_) rfl (by kernel_rfl) (by kernel_rfl) (by kernel_rfl) (fun _ _ _ h => h) (Or.inl ⟨by rfl, ?_⟩) hHeld ?_
  rotate_left
  · (intro w hSw; (try dsimp only at hSw); go_simp; try with_reducible rfl)
  simp only [List.getElem_toArray, List.getElem_cons_succ, List.getElem_cons_zero, Act.put, List.setIfInBounds_toArray, List.set_cons_zero, List.set_cons_succ]
  refine wpAnyH_done (by kernel_rfl) ?_ _
  have Bz2 := B0.trans (Bz.mono B0.size)
  have Ez := E0.kept (Chg.ofBelowC Bz) (fun h => h)
  generalize (w0.alloc oz).drew = w6 at *
  have a60 := Ez.c0
  have a61 := Ez.c1
  have z60 := Ez.fr 0
  have z61 := Ez.fr 1
  clear hHeld
  have hOP := refOpen_any w6.heap.size (.slice va bs.length vc) bs w6 (hb.under Bz2) hB (Nat.le_refl _) (by omega)
  rw [h64] at hOP
  clear a0 a1 z0 z1 tz CZ CZd hmk' hZB hTT0
  by_cases h4 : openE bs ≠ 0
  · have R1 : Hid (decE bs = openE bs ∧ decV bs = En.fr) := by
      have : decE bs = openE bs := by unfold decE; rw [if_neg h1, if_neg h2, if_neg h3, if_pos h4]
      exact ⟨this, by unfold decV; rw [if_neg (by rw [this]; intro h; exact h4 h.1)]⟩
    have h4' : ¬ openE bs = 0 := h4
    generalize openE bs = oe at *
    generalize openV bs = ov at *
    clear hb hb0 h3 h4
    go_wp2_with fail
    refine hOP.mono ?_
    rintro e w1 ⟨u1, rfl, h5⟩
    have B1 : Below w.heap.size w w1 := Bz2.trans (h5.2.1.below Bz2.size (fun _ h => h.elim))
    have E1 := Ez.kept h5.2.1 (fun h => h)
    have H := fin w1 _ En.fr E1 B1
    have a10 := E1.c0
    have a11 := E1.c1
    have z10 := E1.fr 0
    have z11 := E1.fr 1
    clear fin hOP h5
    go_wp2_with fail
    generalize (w1.setCell ⟨w.heap.size, 0, none⟩ (.string ⟨#[]⟩)).setCell ⟨w.heap.size, 1, none⟩ (.int .i64 0) = w5 at *
    obtain ⟨E5, B5⟩ := H.out
    have c50 := E5.c0
    have c51 := E5.c1
    refine bodyPost_ret (v := .tuple #[(En.fr : En).v, .int .i64 oe]) (by simp [results, Tryd.results32, go_sem, c50, c51]) rfl ⟨?_, B5⟩
    rw [R1.out.1, R1.out.2]
  have h4' : openE bs = 0 := by omega
  have hov : openV bs = bs.take 60 := by unfold openV; rw [if_pos h4', h64]
  have hbl : (bs.take 60).length = 60 := by rw [List.length_take]; omega
  have hsp := split4 (bs.take 60) hbl
  have hX1 : (bs.take 60).take 1 = bs.take 1 := by rw [List.take_take]; rfl
  have hX3 : ((bs.take 60).drop 2).take 2 = (bs.drop 2).take 2 := by rw [List.drop_take, List.take_take]; rfl
  have hX4 : ((bs.take 60).drop 4).take 56 = (bs.drop 4).take 56 := by rw [List.drop_take, List.take_take]; rfl
  have hBt : IsB (bs.take 60) := hB.take 60
  have hnm := takX_nm bs
  have hlong := okX_long bs hB h64
  have hino := ino_top bs hB
  rw [h4', hov] at hOP
  have hdE : Hid (decE bs = if okX bs then 0 else 3) := by unfold decE; rw [Hid, if_neg h1, if_neg h2, if_neg h3, if_neg h4]
  have hdV : Hid (decV bs = if decE bs = 0 then takX bs else En.fr) := by
    unfold decV
    by_cases h : decE bs = 0
    · rw [Hid, if_pos ⟨h, h3⟩, if_pos h]
    · rw [Hid, if_neg (fun q => h q.1), if_neg h]
  have hok : okX bs = (nameB (takX bs).nm && decide (1 ≤ (takX bs).ino ∧ (takX bs).ino ≤ 65535) && decide (encB (takX bs) = bs)) := rfl
  clear h1 h2 h4 hov
  go_wp2_with fail
  refine hOP.mono ?_
  rintro e w1 ⟨u1, rfl, h5⟩
  have B1 : Below w.heap.size w w1 := Bz2.trans (h5.2.1.below Bz2.size (fun _ h => h.elim))
  have E1 := Ez.kept h5.2.1 (fun h => h)
  obtain ⟨ua1, uc1, rfl⟩ := cown_slice h5.1
  have bu1 := Bs.ofOwns h5.1
  have hu1 := h5.2.2
  rw [hbl] at bu1 hu1 ⊢
  clear hOP h5 a60 a61 z60 z61 Ez
  have hlu : ∀ a n c, Value.slice ua1 60 uc1 = .slice (some a) n c → 0 < n → a.block < w1.heap.size := by
    intro a n c e h0
    rcases bu1 with ⟨e2, _⟩ | ⟨a2, c2, e2, _, _, hc2⟩
    · rw [e2] at e; cases e
    · rw [e2] at e
      injection e with e3 e4
      injection e3 with e3
      subst e3
      have := World.block_lt_of_cell? w1 _ (hc2 0 (by omega))
      rw [add_block] at this
      exact this
  have B2 := B1.alloc B1.size (.cells #[.slice ua1 60 uc1, .int .i64 0, .int .i64 0] 98)
  have E2 := E1.kept (Chg.alloc (fun _ => False) w1 (.cells #[.slice ua1 60 uc1, .int .i64 0, .int .i64 0] 98)) (fun h => h)
  have r2 : RR w1.heap.size (w1.alloc (.cells #[.slice ua1 60 uc1, .int .i64 0, .int .i64 0] 98)) w1.heap.size (.slice ua1 60 uc1) (bs.take 60) 0 0 :=
    ⟨Nat.le_refl _, heap_alloc_new w1 _, bu1.kept (Chg.alloc (fun _ => False) w1 _) (fun _ _ _ _ _ h => h), fun a n c e h0 => by have := hlu a n c e h0; omega, Nat.zero_le _⟩
  have s2 : Sim ⟨bs.take 60, 0⟩ (bs.take 60) 0 0 := ⟨rfl, fun _ => rfl, fun h => absurd rfl h⟩
  have hEw : w.heap.size < w1.heap.size := E1.lt
  have HLU : Hid (∀ a n c, Value.slice ua1 60 uc1 = .slice (some a) n c → 0 < n → a.block < w1.heap.size) := hlu
  clear bu1 hu1 hlu E1
  go_wp2_with fail
  generalize w1.alloc (.cells #[.slice ua1 60 uc1, .int .i64 0, .int .i64 0] 98) = w2 at *
  generalize w1.heap.size = q at *
  have t1 := tkn (bs.take 60) 1 (by omega)
  have t2 := tkn ((bs.take 60).drop 1) 1 (by rw [List.length_drop]; omega)
  have t3 := tkn (((bs.take 60).drop 1).drop 1) 2 (by rw [List.length_drop, List.length_drop]; omega)
  have e2 : ((bs.take 60).drop 1).drop 1 = (bs.take 60).drop 2 := by rw [List.drop_drop]
  have e4 : ((bs.take 60).drop 2).drop 2 = (bs.take 60).drop 4 := by rw [List.drop_drop]
  rw [e2] at t2 t3
  rw [e4] at t3
  refine (refNumber q q 0 _ (bs.take 60) 0 ⟨bs.take 60, 0⟩ 1 _ r2 s2 (by omega) hBt (by omega)).mono ?_
  rintro e w3 ⟨rfl, at3, f3, r3, s3, c3⟩
  rw [show ((1 : Nat) : Int) = 1 from rfl] at s3 ⊢
  rw [show tkS ⟨bs.take 60, 0⟩ 1 = _ from t1.2] at s3
  rw [show tkV ⟨bs.take 60, 0⟩ 1 = _ from t1.1, hX1]
  obtain rfl : 0 = f3 := s3.1
  have B3 : Below w.heap.size w w3 := B2.trans (c3.below B2.size (fun k hk => by omega))
  have E3 := E2.kept c3 (by omega)
  clear r2 s2 c3 E2 B2
  obtain ⟨A, hA, hA1⟩ : ∃ A : Nat, valB (bs.take 1) = (A : Int) ∧ A < 256 := ⟨(valB (bs.take 1)).toNat, by have := valB_bd (bs.take 1) (hB.take 1); omega, by have := valB_bd (bs.take 1) (hB.take 1); rw [show (bs.take 1).length = 1 by rw [List.length_take]; omega] at this; omega⟩
  rw [hA]
  go_wp2_with fail
  refine (refNumber q q at3 _ (bs.take 60) 0 ⟨(bs.take 60).drop 1, 0⟩ 1 _ r3 s3 (by omega) hBt (by omega)).mono ?_
  rintro e w4 ⟨rfl, at4, f4, r4, s4, c4⟩
  rw [show ((1 : Nat) : Int) = 1 from rfl] at s4 ⊢
  rw [show tkS ⟨(bs.take 60).drop 1, 0⟩ 1 = _ from t2.2] at s4
  obtain rfl : 0 = f4 := s4.1
  have B4 : Below w.heap.size w w4 := B3.trans (c4.below B3.size (fun k hk => by omega))
  have E4 := E3.kept c4 (by omega)
  clear r3 s3 c4 E3 B3
  generalize valB (tkV ⟨(bs.take 60).drop 1, 0⟩ 1) = jn at *
  have B5 := B4.alloc B4.size (.cells #[.string ⟨#[]⟩, .int .i64 0] 47)
  have E5 := E4.kept (Chg.alloc (fun _ => False) w4 (.cells #[.string ⟨#[]⟩, .int .i64 0] 47)) (fun h => h)
  have S5 : EnR (w4.alloc (.cells #[.string ⟨#[]⟩, .int .i64 0] 47)) w4.heap.size En.fr := heap_alloc_new w4 _
  have r5 := r4.kept (Chg.alloc (fun _ => False) w4 (.cells #[.string ⟨#[]⟩, .int .i64 0] 47)) (fun h => h) (fun _ _ _ _ _ h => h)
  have hq4 : q < w4.heap.size := r4.lt
  clear r4 E4 B4
  go_wp2_with fail
  generalize w4.alloc (.cells #[.string ⟨#[]⟩, .int .i64 0] 47) = w5 at *
  generalize w4.heap.size = p at *
  refine (refNumber q q at4 _ (bs.take 60) 0 ⟨(bs.take 60).drop 2, 0⟩ 2 _ r5 s4 (by omega) hBt (by omega)).mono ?_
  rintro e w6' ⟨rfl, at6, f6, r6, s6, c6⟩
  rw [show ((2 : Nat) : Int) = 2 from rfl] at s6 ⊢
  rw [show tkS ⟨(bs.take 60).drop 2, 0⟩ 2 = _ from t3.2] at s6
  rw [show tkV ⟨(bs.take 60).drop 2, 0⟩ 2 = _ from t3.1, hX3]
  obtain rfl : 0 = f6 := s6.1
  have hat : at6 = 4 := by
    have h1 := congrArg List.length (s6.2.1 rfl)
    have h2 := r6.pl
    rw [List.length_drop, List.length_drop, hbl] at h1
    rw [hbl] at h2
    omega
  subst hat
  have B6 : Below w.heap.size w w6' := B5.trans (c6.below B5.size (fun k hk => by omega))
  have E6 := E5.kept c6 (by omega)
  have S6 := S5.kept c6 (by omega)
  have p60 := S6.c1
  have f61 := S6.fr 1
  obtain ⟨I, hI⟩ : ∃ I, Hid (valB ((bs.drop 2).take 2) = I) := ⟨_, rfl⟩
  rw [hI.out]
  clear r5 s4 c6 E5 S5 B5 s6
  have cp : Chg (fun k => k = p) w6' (w6'.setCell ⟨p, 1, none⟩ (.int .i64 I)) := Chg.setCell (S := fun k => k = p) _ _ _ rfl
  have S7 := S6.put1 I
  have E7 := E6.kept cp (by omega)
  have r7 := r6.kept cp (by omega) (fun a n c e h0 => by have := HLU.out a n c e h0; omega)
  have B7 : Below w.heap.size w (w6'.setCell ⟨p, 1, none⟩ (.int .i64 I)) := B6.trans (cp.below B6.size (fun k hk => by omega))
  clear r6 E6 S6 B6 cp
  go_wp2_with fail
  generalize w6'.setCell ⟨p, 1, none⟩ (.int .i64 I) = w7 at *
  clear p60 f61
  have FX := refFixed_ok q q 4 56 _ (bs.take 60) w7 r7 (by omega) (by omega)
  rw [hX4] at FX
  refine FX.mono ?_
  rintro e w8 ⟨u8, rfl, r8, c8, o8, n8⟩
  obtain ⟨g8, cap8, rfl⟩ := own_form o8 (by omega)
  have B8 : Below w.heap.size w w8 := B7.trans (c8.below B7.size (fun k hk => by omega))
  have E8 := E7.kept c8 (by omega)
  have S8 := S7.kept c8 (by omega)
  have hcap : 56 ≤ cap8 := by
    rcases o8.2 with ⟨h, _⟩ | ⟨g', cap', cur, e1, _, _, h5, _⟩
    · cases h
    · injection e1 with _ _ e3
      omega
  have bsu := Bs.ofOwns o8
  clear FX r7 r8 c8 o8 n8 E7 S7 B7
  have a80 := E8.c0
  have a81 := E8.c1
  have z80 := E8.fr 0
  have z81 := E8.fr 1
  by_cases h56 : 56 < A
  · have d3 : decE bs = 3 := by rw [hdE.out, hlong (by rw [hA]; omega)]; rfl
    have R1 : Hid (decE bs = 3 ∧ decV bs = En.fr) := ⟨d3, by rw [hdV.out, if_neg (by rw [d3]; omega)]⟩
    have H := fin w8 _ En.fr E8 B8
    have k56 : 56 < (A : Int) := by omega
    clear fin d3 hlong hA
    go_wp2_with fail
    generalize (w8.setCell ⟨w.heap.size, 0, none⟩ (.string ⟨#[]⟩)).setCell ⟨w.heap.size, 1, none⟩ (.int .i64 0) = w5 at *
    obtain ⟨E5, B5⟩ := H.out
    have c50 := E5.c0
    have c51 := E5.c1
    refine bodyPost_ret (v := .tuple #[(En.fr : En).v, .int .i64 3]) (by simp [results, Tryd.results32, go_sem, c50, c51]) rfl ⟨?_, B5⟩
    rw [R1.out.1, R1.out.2]
  have bk := Bs.low (k := A) bsu (by omega)
  have rk := run_strC bk
  have HX : Hid (takX bs = ⟨strC (((bs.drop 4).take 56).take A), I⟩) := by
    rw [Hid, ← hI.out]
    unfold takX takE
    rw [hA]
    congr 2
    congr 1
    omega
  obtain ⟨t, ht⟩ : ∃ t, Hid (strC (((bs.drop 4).take 56).take A) = t) := ⟨_, rfl⟩
  rw [ht.out] at rk HX
  have s80 := S8.c0
  have f80 := S8.fr 0
  have cp : Chg (fun k => k = p) w8 (w8.setCell ⟨p, 0, none⟩ (.string t)) := Chg.setCell (S := fun k => k = p) _ _ _ rfl
  have S9 := S8.put0 t
  have E9 := E8.kept cp (by omega)
  have B9 : Below w.heap.size w (w8.setCell ⟨p, 0, none⟩ (.string t)) := B8.trans (cp.below B8.size (fun k hk => by omega))
  have k56 : ¬ (56 < (A : Int)) := by omega
  have k57 : (A : Int) ≤ 56 := by omega
  rw [HX.out] at hnm hino hok hdV
  clear bk bsu cp hlong hA E8 S8 B8
  go_upto_region 19 with fail
  generalize w8.setCell ⟨p, 0, none⟩ (.string t) = w9 at *
  clear a80 a81 z80 z81 s80 f80 rk
  have CW : Hid (∀ w', Below w.heap.size w w' → (convert 52 9 (.slice va 64 vc)).run Tryd.prog w' = .ok (.string T) w') := fun w' h => by
    have := run_strC (hb.under h)
    rw [hTT.out, h64] at this
    exact this
  have bad : ∀ (w7 : World), EnR w7 w.heap.size En.fr → Below w.heap.size w w7 → okX bs = false → Hid (decE bs = 3 ∧ decV bs = En.fr) ∧ Hid (EnR ((w7.setCell ⟨w.heap.size, 0, none⟩ (.string ⟨#[]⟩)).setCell ⟨w.heap.size, 1, none⟩ (.int .i64 0)) w.heap.size En.fr ∧ Below w.heap.size w ((w7.setCell ⟨w.heap.size, 0, none⟩ (.string ⟨#[]⟩)).setCell ⟨w.heap.size, 1, none⟩ (.int .i64 0))) := by
    intro w7 h7 hb7 e
    have d3 : decE bs = 3 := by rw [hdE.out, e]; rfl
    exact ⟨⟨d3, by rw [hdV.out, if_neg (by rw [d3]; omega)]⟩, fin w7 _ En.fr h7 hb7⟩
  have Bd := below_dr B9
  have S90 : w9.drew.cell? ⟨p, 0, none⟩ = some (.string t) := S9.c0
  have S91 : w9.drew.cell? ⟨p, 1, none⟩ = some (.int .i64 I) := S9.c1
  have Sx : w9.drew.cell? ⟨p, 0, none⟩ = some (.string t) ∧ w9.drew.cell? ⟨p, 1, none⟩ = some (.int .i64 I) ∧ (convert 52 9 (.slice va 64 vc)).run Tryd.prog w9.drew = .ok (.string T) w9.drew := ⟨S90, S91, CW.out _ Bd⟩
  have Ed : EnR w9.drew w.heap.size En.fr := E9
  have Sd : EnR w9.drew p ⟨t, I⟩ := S9
  have hTd : Below w.heap.size w w9.drew := Bd
  have hnm2 : Hid (t.size ≤ 56) := hnm
  have HdE := hdE
  have HdV := hdV
  clear hnm h3 hdE hdV hX1 hX3 hX4 t1 t2 t3 e2 e4 hsp hBt CB

  refine wp_region_held_drew (S := (fun w' => w'.cell? ⟨p, 0, none⟩ = some (.string t) ∧ w'.cell? ⟨p, 1, none⟩ = some (.int .i64 I) ∧ (convert 52 9 (.slice va 64 vc)).run Tryd.prog w' = .ok (.string T) w')) (by kernel_rfl) Sx (fun hHeld => ?_)
  refine wpAnyH_take (i := 0) (v := ?_) rfl (by kernel_rfl) (by kernel_rfl) (by kernel_rfl) (fun _ _ _ h => h) (Or.inl ⟨by rfl, ?_⟩) hHeld ?_
  rotate_left
  · (intro w hSw; (try dsimp only at hSw); go_simp; try with_reducible rfl)
  simp only [List.getElem_toArray, List.getElem_cons_zero, Act.put, List.setIfInBounds_toArray, List.set_cons_zero, List.set_cons_succ]
  refine wpAnyH_take (i := 1) (v := ?_) rfl (by kernel_rfl) (by kernel_rfl) (by kernel_rfl) (fun _ _ _ h => h) (Or.inl ⟨by rfl, ?_⟩) hHeld ?_
  rotate_left
  · (intro w hSw; (try dsimp only at hSw); go_simp; try with_reducible rfl)
  simp only [List.getElem_toArray, List.getElem_cons_succ, List.getElem_cons_zero, Act.put, List.setIfInBounds_toArray, List.set_cons_zero, List.set_cons_succ]
  refine wpAnyH_ready (rs := [2]) (by kernel_rfl) (by simp) ?_
  refine AllReadyH.cons rfl (fun K hK => ?_) AllReadyH.nil
  go_simp
  cases n1 : nameB t with
  | false =>
    obtain ⟨R1, H⟩ := bad w9.drew Ed Bd (by rw [hok, n1]; rfl)
    have N1 : Hid (nameB t = false) := n1
    clear bad fin n1 hok
    go_wp2_with (go_at_call 28; refine (rname_any t false _ N1).mono ?_; rintro e w10 ⟨rfl, rfl⟩)
    refine hK.out _ _ Sx (fun hHeld => ?_)
    clear hK K
    refine wpAnyH_take (i := 3) (v := ?_) rfl (by kernel_rfl) (by kernel_rfl) (by kernel_rfl) (fun _ _ _ h => h) (Or.inl ⟨by rfl, ?_⟩) hHeld ?_
    rotate_left
    · (intro w hSw; (try dsimp only at hSw); go_simp; try with_reducible rfl)
    simp only [List.getElem_toArray, List.getElem_cons_succ, List.getElem_cons_zero, Act.put, List.setIfInBounds_toArray, List.set_cons_zero, List.set_cons_succ]
    refine wpAnyH_take (i := 4) (v := ?_) rfl (by kernel_rfl) (by kernel_rfl) (by kernel_rfl) (fun _ _ _ h => h) (Or.inl ⟨by rfl, ?_⟩) hHeld ?_
    rotate_left
    · (intro w hSw; (try dsimp only at hSw); go_simp; try with_reducible rfl)
    simp only [List.getElem_toArray, List.getElem_cons_succ, List.getElem_cons_zero, Act.put, List.setIfInBounds_toArray, List.set_cons_zero, List.set_cons_succ]
    refine wpAnyH_take (i := 5) (v := undef) rfl (by kernel_rfl) (by kernel_rfl) (by kernel_rfl) (fun _ _ _ h => h) (Or.inr ⟨by rfl, rfl⟩) hHeld ?_
    simp only [List.getElem_toArray, List.getElem_cons_succ, List.getElem_cons_zero, Act.put, List.setIfInBounds_toArray, List.set_cons_zero, List.set_cons_succ]
    refine wpAnyH_take (i := 6) (v := undef) rfl (by kernel_rfl) (by kernel_rfl) (by kernel_rfl) (fun _ _ _ h => h) (Or.inr ⟨by rfl, rfl⟩) hHeld ?_
    simp only [List.getElem_toArray, List.getElem_cons_succ, List.getElem_cons_zero, Act.put, List.setIfInBounds_toArray, List.set_cons_zero, List.set_cons_succ]
    refine wpAnyH_take (i := 7) (v := undef) rfl (by kernel_rfl) (by kernel_rfl) (by kernel_rfl) (fun _ _ _ h => h) (Or.inr ⟨by rfl, rfl⟩) hHeld ?_
    simp only [List.getElem_toArray, List.getElem_cons_succ, List.getElem_cons_zero, Act.put, List.setIfInBounds_toArray, List.set_cons_zero, List.set_cons_succ]
    refine wpAnyH_take (i := 8) (v := ?_) rfl (by kernel_rfl) (by kernel_rfl) (by kernel_rfl) (fun _ _ _ h => h) (Or.inl ⟨by rfl, ?_⟩) hHeld ?_
    rotate_left
    · (intro w hSw; (try dsimp only at hSw); go_simp; try with_reducible rfl)
    simp only [List.getElem_toArray, List.getElem_cons_succ, List.getElem_cons_zero, Act.put, List.setIfInBounds_toArray, List.set_cons_zero, List.set_cons_succ]
    refine wpAnyH_take (i := 9) (v := ?_) rfl (by kernel_rfl) (by kernel_rfl) (by kernel_rfl) (fun _ _ _ h => h) (Or.inl ⟨by rfl, ?_⟩) hHeld ?_
    rotate_left
    · (intro w hSw; (try dsimp only at hSw); go_simp; try with_reducible rfl)
    simp only [List.getElem_toArray, List.getElem_cons_succ, List.getElem_cons_zero, Act.put, List.setIfInBounds_toArray, List.set_cons_zero, List.set_cons_succ]
    refine wpAnyH_take (i := 10) (v := undef) rfl (by kernel_rfl) (by kernel_rfl) (by kernel_rfl) (fun _ _ _ h => h) (Or.inr ⟨by rfl, rfl⟩) hHeld ?_
    simp only [List.getElem_toArray, List.getElem_cons_succ, List.getElem_cons_zero, Act.put, List.setIfInBounds_toArray, List.set_cons_zero, List.set_cons_succ]
    refine wpAnyH_take (i := 11) (v := undef) rfl (by kernel_rfl) (by kernel_rfl) (by kernel_rfl) (fun _ _ _ h => h) (Or.inr ⟨by rfl, rfl⟩) hHeld ?_
    simp only [List.getElem_toArray, List.getElem_cons_succ, List.getElem_cons_zero, Act.put, List.setIfInBounds_toArray, List.set_cons_zero, List.set_cons_succ]
    refine wpAnyH_take (i := 12) (v := undef) rfl (by kernel_rfl) (by kernel_rfl) (by kernel_rfl) (fun _ _ _ h => h) (Or.inr ⟨by rfl, rfl⟩) hHeld ?_
    simp only [List.getElem_toArray, List.getElem_cons_succ, List.getElem_cons_zero, Act.put, List.setIfInBounds_toArray, List.set_cons_zero, List.set_cons_succ]
    refine wpAnyH_take (i := 13) (v := undef) rfl (by kernel_rfl) (by kernel_rfl) (by kernel_rfl) (fun _ _ _ h => h) (Or.inr ⟨by rfl, rfl⟩) hHeld ?_
    simp only [List.getElem_toArray, List.getElem_cons_succ, List.getElem_cons_zero, Act.put, List.setIfInBounds_toArray, List.set_cons_zero, List.set_cons_succ]
    refine wpAnyH_take (i := 14) (v := undef) rfl (by kernel_rfl) (by kernel_rfl) (by kernel_rfl) (fun _ _ _ h => h) (Or.inr ⟨by rfl, rfl⟩) hHeld ?_
    simp only [List.getElem_toArray, List.getElem_cons_succ, List.getElem_cons_zero, Act.put, List.setIfInBounds_toArray, List.set_cons_zero, List.set_cons_succ]
    refine wpAnyH_take (i := 15) (v := undef) rfl (by kernel_rfl) (by kernel_rfl) (by kernel_rfl) (fun _ _ _ h => h) (Or.inr ⟨by rfl, rfl⟩) hHeld ?_
    simp only [List.getElem_toArray, List.getElem_cons_succ, List.getElem_cons_zero, Act.put, List.setIfInBounds_toArray, List.set_cons_zero, List.set_cons_succ]
    refine wpAnyH_take (i := 16) (v := ?_) rfl (by kernel_rfl) (by kernel_rfl) (by kernel_rfl) (fun _ _ _ h => h) (Or.inl ⟨by rfl, ?_⟩) hHeld ?_
    rotate_left
    · (intro w hSw; (try dsimp only at hSw); go_simp; try with_reducible rfl)
    simp only [List.getElem_toArray, List.getElem_cons_succ, List.getElem_cons_zero, Act.put, List.setIfInBounds_toArray, List.set_cons_zero, List.set_cons_succ]
    refine wpAnyH_done (by kernel_rfl) ?_ _
    have a90 := Ed.c0
    have a91 := Ed.c1
    have z90 := Ed.fr 0
    have z91 := Ed.fr 1
    clear hHeld Sx S90 S91
    generalize w9.drew = w11 at *
    go_wp2_with fail
    generalize (w11.setCell ⟨w.heap.size, 0, none⟩ (.string ⟨#[]⟩)).setCell ⟨w.heap.size, 1, none⟩ (.int .i64 0) = w5 at *
    obtain ⟨E5, B5⟩ := H.out
    have c50 := E5.c0
    have c51 := E5.c1
    refine bodyPost_ret (v := .tuple #[(En.fr : En).v, .int .i64 3]) (by simp [results, Tryd.results32, go_sem, c50, c51]) rfl ⟨?_, B5⟩
    rw [R1.out.1, R1.out.2]
  | true =>
    have N1 : Hid (nameB t = true) := n1
    by_cases n2 : I < 1
    · obtain ⟨R1, H⟩ := bad w9.drew Ed Bd (by rw [hok, n1]; have : decide (1 ≤ I ∧ I ≤ 65535) = false := decide_eq_false (by omega); rw [this]; rfl)
      clear bad fin n1 hok
      go_wp2_with (go_at_call 28; refine (rname_any t true _ N1).mono ?_; rintro e w10 ⟨rfl, rfl⟩)
      refine hK.out _ _ Sx (fun hHeld => ?_)
      clear hK K
      refine wpAnyH_take (i := 3) (v := ?_) rfl (by kernel_rfl) (by kernel_rfl) (by kernel_rfl) (fun _ _ _ h => h) (Or.inl ⟨by rfl, ?_⟩) hHeld ?_
      rotate_left
      · (intro w hSw; (try dsimp only at hSw); go_simp; try with_reducible rfl)
      simp only [List.getElem_toArray, List.getElem_cons_succ, List.getElem_cons_zero, Act.put, List.setIfInBounds_toArray, List.set_cons_zero, List.set_cons_succ]
      refine wpAnyH_take (i := 4) (v := ?_) rfl (by kernel_rfl) (by kernel_rfl) (by kernel_rfl) (fun _ _ _ h => h) (Or.inl ⟨by rfl, ?_⟩) hHeld ?_
      rotate_left
      · (intro w hSw; (try dsimp only at hSw); go_simp; try with_reducible rfl)
      simp only [List.getElem_toArray, List.getElem_cons_succ, List.getElem_cons_zero, Act.put, List.setIfInBounds_toArray, List.set_cons_zero, List.set_cons_succ]
      refine wpAnyH_take (i := 5) (v := ?_) rfl (by kernel_rfl) (by kernel_rfl) (by kernel_rfl) (fun _ _ _ h => h) (Or.inl ⟨by rfl, ?_⟩) hHeld ?_
      rotate_left
      · (intro w hSw; (try dsimp only at hSw); go_simp; try with_reducible rfl)
      simp only [List.getElem_toArray, List.getElem_cons_succ, List.getElem_cons_zero, Act.put, List.setIfInBounds_toArray, List.set_cons_zero, List.set_cons_succ]
      refine wpAnyH_take (i := 6) (v := ?_) rfl (by kernel_rfl) (by kernel_rfl) (by kernel_rfl) (fun _ _ _ h => h) (Or.inl ⟨by rfl, ?_⟩) hHeld ?_
      rotate_left
      · (intro w hSw; (try dsimp only at hSw); go_simp; try with_reducible rfl)
      simp only [List.getElem_toArray, List.getElem_cons_succ, List.getElem_cons_zero, Act.put, List.setIfInBounds_toArray, List.set_cons_zero, List.set_cons_succ]
      refine wpAnyH_take (i := 7) (v := ?_) rfl (by kernel_rfl) (by kernel_rfl) (by kernel_rfl) (fun _ _ _ h => h) (Or.inl ⟨by rfl, ?_⟩) hHeld ?_
      rotate_left
      · (intro w hSw; (try dsimp only at hSw); go_simp; try with_reducible rfl)
      simp only [List.getElem_toArray, List.getElem_cons_succ, List.getElem_cons_zero, Act.put, List.setIfInBounds_toArray, List.set_cons_zero, List.set_cons_succ]
      refine wpAnyH_take (i := 8) (v := ?_) rfl (by kernel_rfl) (by kernel_rfl) (by kernel_rfl) (fun _ _ _ h => h) (Or.inl ⟨by rfl, ?_⟩) hHeld ?_
      rotate_left
      · (intro w hSw; (try dsimp only at hSw); go_simp; try with_reducible rfl)
      simp only [List.getElem_toArray, List.getElem_cons_succ, List.getElem_cons_zero, Act.put, List.setIfInBounds_toArray, List.set_cons_zero, List.set_cons_succ]
      refine wpAnyH_take (i := 9) (v := ?_) rfl (by kernel_rfl) (by kernel_rfl) (by kernel_rfl) (fun _ _ _ h => h) (Or.inl ⟨by rfl, ?_⟩) hHeld ?_
      rotate_left
      · (intro w hSw; (try dsimp only at hSw); go_simp; try with_reducible rfl)
      simp only [List.getElem_toArray, List.getElem_cons_succ, List.getElem_cons_zero, Act.put, List.setIfInBounds_toArray, List.set_cons_zero, List.set_cons_succ]
      refine wpAnyH_take (i := 10) (v := undef) rfl (by kernel_rfl) (by kernel_rfl) (by kernel_rfl) (fun _ _ _ h => h) (Or.inr ⟨by rfl, rfl⟩) hHeld ?_
      simp only [List.getElem_toArray, List.getElem_cons_succ, List.getElem_cons_zero, Act.put, List.setIfInBounds_toArray, List.set_cons_zero, List.set_cons_succ]
      refine wpAnyH_take (i := 11) (v := undef) rfl (by kernel_rfl) (by kernel_rfl) (by kernel_rfl) (fun _ _ _ h => h) (Or.inr ⟨by rfl, rfl⟩) hHeld ?_
      simp only [List.getElem_toArray, List.getElem_cons_succ, List.getElem_cons_zero, Act.put, List.setIfInBounds_toArray, List.set_cons_zero, List.set_cons_succ]
      refine wpAnyH_take (i := 12) (v := undef) rfl (by kernel_rfl) (by kernel_rfl) (by kernel_rfl) (fun _ _ _ h => h) (Or.inr ⟨by rfl, rfl⟩) hHeld ?_
      simp only [List.getElem_toArray, List.getElem_cons_succ, List.getElem_cons_zero, Act.put, List.setIfInBounds_toArray, List.set_cons_zero, List.set_cons_succ]
      refine wpAnyH_take (i := 13) (v := undef) rfl (by kernel_rfl) (by kernel_rfl) (by kernel_rfl) (fun _ _ _ h => h) (Or.inr ⟨by rfl, rfl⟩) hHeld ?_
      simp only [List.getElem_toArray, List.getElem_cons_succ, List.getElem_cons_zero, Act.put, List.setIfInBounds_toArray, List.set_cons_zero, List.set_cons_succ]
      refine wpAnyH_take (i := 14) (v := undef) rfl (by kernel_rfl) (by kernel_rfl) (by kernel_rfl) (fun _ _ _ h => h) (Or.inr ⟨by rfl, rfl⟩) hHeld ?_
      simp only [List.getElem_toArray, List.getElem_cons_succ, List.getElem_cons_zero, Act.put, List.setIfInBounds_toArray, List.set_cons_zero, List.set_cons_succ]
      refine wpAnyH_take (i := 15) (v := undef) rfl (by kernel_rfl) (by kernel_rfl) (by kernel_rfl) (fun _ _ _ h => h) (Or.inr ⟨by rfl, rfl⟩) hHeld ?_
      simp only [List.getElem_toArray, List.getElem_cons_succ, List.getElem_cons_zero, Act.put, List.setIfInBounds_toArray, List.set_cons_zero, List.set_cons_succ]
      refine wpAnyH_take (i := 16) (v := ?_) rfl (by kernel_rfl) (by kernel_rfl) (by kernel_rfl) (fun _ _ _ h => h) (Or.inl ⟨by rfl, ?_⟩) hHeld ?_
      rotate_left
      · (intro w hSw; (try dsimp only at hSw); go_simp; try with_reducible rfl)
      simp only [List.getElem_toArray, List.getElem_cons_succ, List.getElem_cons_zero, Act.put, List.setIfInBounds_toArray, List.set_cons_zero, List.set_cons_succ]
      refine wpAnyH_done (by kernel_rfl) ?_ _
      have a90 := Ed.c0
      have a91 := Ed.c1
      have z90 := Ed.fr 0
      have z91 := Ed.fr 1
      clear hHeld Sx S90 S91
      generalize w9.drew = w11 at *
      go_wp2_with fail
      generalize (w11.setCell ⟨w.heap.size, 0, none⟩ (.string ⟨#[]⟩)).setCell ⟨w.heap.size, 1, none⟩ (.int .i64 0) = w5 at *
      obtain ⟨E5, B5⟩ := H.out
      have c50 := E5.c0
      have c51 := E5.c1
      refine bodyPost_ret (v := .tuple #[(En.fr : En).v, .int .i64 3]) (by simp [results, Tryd.results32, go_sem, c50, c51]) rfl ⟨?_, B5⟩
      rw [R1.out.1, R1.out.2]
    · go_wp2_with (go_at_call 28; refine (rname_any t true _ N1).mono ?_; rintro e w10 ⟨rfl, rfl⟩)
      refine hK.out _ _ Sx (fun hHeld => ?_)
      clear hK K
      have n2d : decide (I < 1) = false := decide_eq_false (by omega)
      refine wpAnyH_take (i := 3) (v := ?_) rfl (by kernel_rfl) (by kernel_rfl) (by kernel_rfl) (fun _ _ _ h => h) (Or.inl ⟨by rfl, ?_⟩) hHeld ?_
      rotate_left
      · (intro w hSw; (try dsimp only at hSw); go_simp; try with_reducible rfl)
      simp only [List.getElem_toArray, List.getElem_cons_succ, List.getElem_cons_zero, Act.put, List.setIfInBounds_toArray, List.set_cons_zero, List.set_cons_succ]
      refine wpAnyH_take (i := 4) (v := ?_) rfl (by kernel_rfl) (by kernel_rfl) (by kernel_rfl) (fun _ _ _ h => h) (Or.inl ⟨by rfl, ?_⟩) hHeld ?_
      rotate_left
      · (intro w hSw; (try dsimp only at hSw); go_simp; try with_reducible rfl)
      simp only [List.getElem_toArray, List.getElem_cons_succ, List.getElem_cons_zero, Act.put, List.setIfInBounds_toArray, List.set_cons_zero, List.set_cons_succ]
      refine wpAnyH_take (i := 5) (v := ?_) rfl (by kernel_rfl) (by kernel_rfl) (by kernel_rfl) (fun _ _ _ h => h) (Or.inl ⟨by rfl, ?_⟩) hHeld ?_
      rotate_left
      · (intro w hSw; (try dsimp only at hSw); go_simp; try with_reducible rfl)
      simp only [List.getElem_toArray, List.getElem_cons_succ, List.getElem_cons_zero, Act.put, List.setIfInBounds_toArray, List.set_cons_zero, List.set_cons_succ]
      refine wpAnyH_take (i := 6) (v := ?_) rfl (by kernel_rfl) (by kernel_rfl) (by kernel_rfl) (fun _ _ _ h => h) (Or.inl ⟨by rfl, ?_⟩) hHeld ?_
      rotate_left
      · (intro w hSw; (try dsimp only at hSw); go_simp; try with_reducible rfl)
      simp only [List.getElem_toArray, List.getElem_cons_succ, List.getElem_cons_zero, Act.put, List.setIfInBounds_toArray, List.set_cons_zero, List.set_cons_succ]
      refine wpAnyH_take (i := 7) (v := ?_) rfl (by kernel_rfl) (by kernel_rfl) (by kernel_rfl) (fun _ _ _ h => h) (Or.inl ⟨by rfl, ?_⟩) hHeld ?_
      rotate_left
      · (intro w hSw; (try dsimp only at hSw); go_simp; try with_reducible rfl)
      simp only [List.getElem_toArray, List.getElem_cons_succ, List.getElem_cons_zero, Act.put, List.setIfInBounds_toArray, List.set_cons_zero, List.set_cons_succ]
      refine wpAnyH_take (i := 8) (v := ?_) rfl (by kernel_rfl) (by kernel_rfl) (by kernel_rfl) (fun _ _ _ h => h) (Or.inl ⟨by rfl, ?_⟩) hHeld ?_
      rotate_left
      · (intro w hSw; (try dsimp only at hSw); go_simp; try with_reducible rfl)
      simp only [List.getElem_toArray, List.getElem_cons_succ, List.getElem_cons_zero, Act.put, List.setIfInBounds_toArray, List.set_cons_zero, List.set_cons_succ]
      refine wpAnyH_take (i := 9) (v := ?_) rfl (by kernel_rfl) (by kernel_rfl) (by kernel_rfl) (fun _ _ _ h => h) (Or.inl ⟨by rfl, ?_⟩) hHeld ?_
      rotate_left
      · (intro w hSw; (try dsimp only at hSw); go_simp; try with_reducible rfl)
      simp only [List.getElem_toArray, List.getElem_cons_succ, List.getElem_cons_zero, Act.put, List.setIfInBounds_toArray, List.set_cons_zero, List.set_cons_succ]
      refine wpAnyH_take (i := 10) (v := ?_) rfl (by kernel_rfl) (by kernel_rfl) (by kernel_rfl) (fun _ _ _ h => h) (Or.inl ⟨by rfl, ?_⟩) hHeld ?_
      rotate_left
      · (intro w hSw; (try dsimp only at hSw); go_simp; try with_reducible rfl)
      simp only [List.getElem_toArray, List.getElem_cons_succ, List.getElem_cons_zero, Act.put, List.setIfInBounds_toArray, List.set_cons_zero, List.set_cons_succ]
      refine wpAnyH_take (i := 13) (v := ?_) rfl (by kernel_rfl) (by kernel_rfl) (by kernel_rfl) (fun _ _ _ h => h) (Or.inl ⟨by rfl, ?_⟩) hHeld ?_
      rotate_left
      · (intro w hSw; (try dsimp only at hSw); go_simp; try with_reducible rfl)
      simp only [List.getElem_toArray, List.getElem_cons_succ, List.getElem_cons_zero, Act.put, List.setIfInBounds_toArray, List.set_cons_zero, List.set_cons_succ]
      refine wpAnyH_take (i := 14) (v := ?_) rfl (by kernel_rfl) (by kernel_rfl) (by kernel_rfl) (fun _ _ _ h => h) (Or.inl ⟨by rfl, ?_⟩) hHeld ?_
      rotate_left
      · (intro w hSw; (try dsimp only at hSw); go_simp; try with_reducible rfl)
      simp only [List.getElem_toArray, List.getElem_cons_succ, List.getElem_cons_zero, Act.put, List.setIfInBounds_toArray, List.set_cons_zero, List.set_cons_succ]
      refine wpAnyH_ready (rs := [11]) (by kernel_rfl) (by simp) ?_
      refine AllReadyH.cons rfl (fun K hK => ?_) AllReadyH.nil
      go_simp
      have hen := encB_isB ⟨t, I⟩
      refine (rencode_any ⟨t, I⟩ w9.drew.heap.size w9.drew (Nat.le_refl _) (by show t.size ≤ _; have := hnm2.out; omega)).mono ?_
      rintro e w12 ⟨y12, rfl, h12⟩
      have B12 : Below w.heap.size w w12 := Bd.trans (h12.2.1.below Bd.size (fun _ h => h.elim))
      have E12 := Ed.kept h12.2.1 (fun h => h)
      have S12 := Sd.kept h12.2.1 (fun h => h)
      have R12 := run_strC (Bs.ofOwns h12.1)
      obtain ⟨T2, hT2⟩ : ∃ T2, Hid (strC (encB ⟨t, I⟩) = T2) := ⟨_, rfl⟩
      rw [hT2.out] at R12
      have Sy : w12.cell? ⟨p, 0, none⟩ = some (.string t) ∧ w12.cell? ⟨p, 1, none⟩ = some (.int .i64 I) ∧ (convert 52 9 (.slice va 64 vc)).run Tryd.prog w12 = .ok (.string T) w12 := ⟨S12.c0, S12.c1, CW.out _ B12⟩
      clear h12 Sx Ed Sd S90 S91
      refine hK.out _ _ Sy (fun hHeld => ?_)
      clear hK K
      have n2i : decide (1 ≤ I ∧ I ≤ 65535) = true := decide_eq_true (by omega)
      refine wpAnyH_ready (rs := [12]) (by kernel_rfl) (by simp) ?_
      refine AllReadyH.cons rfl (fun K hK => ?_) AllReadyH.nil
      go_simp
      try (rw [R12]; go_simp)
      refine hK.out _ _ Sy (fun hHeld => ?_)
      clear hK K
      have a90 := E12.c0
      have a91 := E12.c1
      have z90 := E12.fr 0
      have z91 := E12.fr 1
      cases n3 : decide (encB ⟨t, I⟩ = bs) with
      | false =>
        obtain ⟨R1, H⟩ := bad w12 E12 B12 (by rw [hok, n1, n2i, n3]; rfl)
        have TE : (T2.toList == T.toList) = false := by rw [← hT2.out, ← hTT.out]; exact strT _ _ hen hB false n3
        clear bad fin n1 hok n3
        refine wpAnyH_take (i := 15) (v := ?_) rfl (by kernel_rfl) (by kernel_rfl) (by kernel_rfl) (fun _ _ _ h => h) (Or.inl ⟨by rfl, ?_⟩) hHeld ?_
        rotate_left
        · (intro w hSw; (try dsimp only at hSw); go_simp; try with_reducible rfl)
        simp only [List.getElem_toArray, List.getElem_cons_succ, List.getElem_cons_zero, Act.put, List.setIfInBounds_toArray, List.set_cons_zero, List.set_cons_succ]
        refine wpAnyH_take (i := 16) (v := ?_) rfl (by kernel_rfl) (by kernel_rfl) (by kernel_rfl) (fun _ _ _ h => h) (Or.inl ⟨by rfl, ?_⟩) hHeld ?_
        rotate_left
        · (intro w hSw; (try dsimp only at hSw); go_simp; try with_reducible rfl)
        simp only [List.getElem_toArray, List.getElem_cons_succ, List.getElem_cons_zero, Act.put, List.setIfInBounds_toArray, List.set_cons_zero, List.set_cons_succ]
        refine wpAnyH_done (by kernel_rfl) ?_ _
        clear hHeld Sy
        go_wp2_with fail
        generalize (w12.setCell ⟨w.heap.size, 0, none⟩ (.string ⟨#[]⟩)).setCell ⟨w.heap.size, 1, none⟩ (.int .i64 0) = w5 at *
        obtain ⟨E5, B5⟩ := H.out
        have c50 := E5.c0
        have c51 := E5.c1
        refine bodyPost_ret (v := .tuple #[(En.fr : En).v, .int .i64 3]) (by simp [results, Tryd.results32, go_sem, c50, c51]) rfl ⟨?_, B5⟩
        rw [R1.out.1, R1.out.2]
      | true =>
        have d0 : decE bs = 0 := by rw [HdE.out, hok, n1, n2i, n3]; rfl
        have R1 : Hid (decE bs = 0 ∧ decV bs = ⟨t, I⟩) := ⟨d0, by rw [HdV.out, if_pos d0]⟩
        have H := fin w12 _ ⟨t, I⟩ E12 B12
        have TE : (T2.toList == T.toList) = true := by rw [← hT2.out, ← hTT.out]; exact strT _ _ hen hB true n3
        have s120 := S12.c0
        have s121 := S12.c1
        clear bad fin n1 hok n3 d0
        refine wpAnyH_take (i := 15) (v := ?_) rfl (by kernel_rfl) (by kernel_rfl) (by kernel_rfl) (fun _ _ _ h => h) (Or.inl ⟨by rfl, ?_⟩) hHeld ?_
        rotate_left
        · (intro w hSw; (try dsimp only at hSw); go_simp; try with_reducible rfl)
        simp only [List.getElem_toArray, List.getElem_cons_succ, List.getElem_cons_zero, Act.put, List.setIfInBounds_toArray, List.set_cons_zero, List.set_cons_succ]
        refine wpAnyH_take (i := 16) (v := ?_) rfl (by kernel_rfl) (by kernel_rfl) (by kernel_rfl) (fun _ _ _ h => h) (Or.inl ⟨by rfl, ?_⟩) hHeld ?_
        rotate_left
        · (intro w hSw; (try dsimp only at hSw); go_simp; try with_reducible rfl)
        simp only [List.getElem_toArray, List.getElem_cons_succ, List.getElem_cons_zero, Act.put, List.setIfInBounds_toArray, List.set_cons_zero, List.set_cons_succ]
        refine wpAnyH_done (by kernel_rfl) ?_ _
        clear hHeld Sy
        go_wp2_with fail
        generalize (w12.setCell ⟨w.heap.size, 0, none⟩ (.string t)).setCell ⟨w.heap.size, 1, none⟩ (.int .i64 I) = w5 at *
        obtain ⟨E5, B5⟩ := H.out
        have c50 := E5.c0
        have c51 := E5.c1
        refine bodyPost_ret (v := .tuple #[(⟨t, I⟩ : En).v, .int .i64 0]) (by simp [results, Tryd.results32, go_sem, c50, c51]) rfl ⟨?_, B5⟩
        rw [R1.out.1, R1.out.2]
end Go.Proofs.YtbhfmceapffhnaaDoor

/-
  take of package dir; bytes.Equal.
-/
import Derived.Test.YtbhfmceapffhnaaDoorDArr
import Derived.Test.YtbhfmceapffhnaaDoorKFlip
import Derived.Deep.RegionWith
import Derived.Deep.DrawnRows
namespace Go.Proofs.YtbhfmceapffhnaaDoor
open Go.RowKit

/-- An entry in a box. -/
def EnB (w : World) (r : Nat) (x : En) : Prop := w.heap[r]? = some (.cells #[.string x.nm, .int .i64 x.ino] 57 (0, 0))
theorem EnB.c0 {w : World} {r : Nat} {x : En} (h : EnB w r x) : w.cell? ⟨r, 0, none⟩ = some (.string x.nm) := cell_of_row w r 0 _ _ _ h
theorem EnB.c1 {w : World} {r : Nat} {x : En} (h : EnB w r x) : w.cell? ⟨r, 1, none⟩ = some (.int .i64 x.ino) := cell_of_row w r 1 _ _ _ h
theorem EnB.fr {w : World} {r : Nat} {x : En} (h : EnB w r x) (j : Nat) : w.frozen? ⟨r, j, none⟩ = false := by simp [World.frozen?, show w.heap[r]? = _ from h]
theorem EnB.put {w : World} {r : Nat} {x : En} (h : EnB w r x) (y : En) : EnB ((w.setCell ⟨r, 0, none⟩ (.string y.nm)).setCell ⟨r, 1, none⟩ (.int .i64 y.ino)) r y :=
  heap_setCell_same _ r 1 _ _ (.int .i64 y.ino) (heap_setCell_same w r 0 _ _ (.string y.nm) h)
theorem EnB.lt {w : World} {r : Nat} {x : En} (h : EnB w r x) : r < w.heap.size := lt_of_block h
theorem EnB.kept {S : Nat → Prop} {w w' : World} {r : Nat} {x : En} (h : EnB w r x) (hc : Chg S w w') (hn : ¬ S r) : EnB w' r x := (hc.block r h.lt hn).trans h
theorem chg_two {w : World} {g i j : Nat} {a b : Value} : Chg (fun k => k = g) w ((w.setCell ⟨g, i, none⟩ a).setCell ⟨g, j, none⟩ b) :=
  (Chg.setCell (S := fun k => k = g) w ⟨g, i, none⟩ a rfl).trans (Chg.setCell (S := fun k => k = g) _ ⟨g, j, none⟩ b rfl) (fun _ _ h => h)
/-- The entry that bytes lay: a: its name's length, c: its inode, d: its name. -/
def takE (a c d : List Int) : En := ⟨strC (d.take (min (valB a) 56).toNat), valB c⟩

set_option maxHeartbeats 1600000 in
set_option maxRecDepth 100000 in
theorem take_en (p : Nat) (v : Value) (a b c d : List Int) (w : World) (hr : RdS p w p v ⟨a ++ (b ++ (c ++ d)), 0⟩) (hB : IsB (a ++ (b ++ (c ++ d)))) (ha : a.length = 1) (hb : b.length = 1) (hc : c.length = 2) (hd : d.length = 56) :
    Calls Tryd.prog 51 #[.pointer (some ⟨p, 0, none⟩)] w fun e w' => e = .returned (takE a c d).v ∧ Below p w w' := by
  have hBa : IsB a := fun x hx => hB x (by simp [hx])
  have hBd : IsB d := fun x hx => hB x (by simp [hx])
  have hB1 : IsB (b ++ (c ++ d)) := fun x hx => hB x (List.mem_append_right _ hx)
  have hB2 : IsB (c ++ d) := fun x hx => hB1 x (List.mem_append_right _ hx)
  have hB3 : IsB d := hBd
  have hlt := hr.lt
  go_enter Tryd.func51, Tryd.ntmps51
  go_wp2_with fail
  have hp := hr.le
  have B0 : Below w.heap.size w (w.alloc (.cells #[.string ⟨#[]⟩, .int .i64 0] 57)) := (Below.refl _ _).alloc (Nat.le_refl _) _
  have r0 := hr.kept (Chg.ofBelowC B0) (fun h => h) (fun _ _ _ _ _ h => h)
  have o0 := heap_alloc_new w (.cells #[.string ⟨#[]⟩, .int .i64 0] 57)
  have z0 : w.heap.size < (w.alloc (.cells #[.string ⟨#[]⟩, .int .i64 0] 57)).heap.size := by simp
  have C0 : Chg (fun k => k = p) w (w.alloc (.cells #[.string ⟨#[]⟩, .int .i64 0] 57)) := Chg.alloc _ _ _
  generalize w.alloc (.cells #[.string ⟨#[]⟩, .int .i64 0] 57) = w0 at *
  have t1 := tk_app a (b ++ (c ++ d)) 1 (by omega)
  have t2 := tk_app b (c ++ d) 1 (by omega)
  have t3 := tk_app c d 2 (by omega)
  have t4 := tk_app d [] 56 (by omega)
  rw [List.append_nil] at t4
  have f4 : fxI ⟨d, 0⟩ 56 = ⟨d, 0⟩ := by unfold fxI; rw [if_neg (by omega)]
  refine (ru8_any p p v ⟨a ++ (b ++ (c ++ d)), 0⟩ _ r0 hB).mono ?_
  rintro e w1 ⟨rfl, v1, h1⟩
  rw [t1.1]
  rw [t1.2] at h1
  have C1 := C0.trans h1.chg (fun _ _ h => h)
  have K1 := h1.chg
  have r1 := h1.rd
  clear h1 r0 C0
  obtain ⟨A, hA, hA1⟩ : ∃ A : Nat, Hid (valB a = (A : Int)) ∧ A < 256 := ⟨(valB a).toNat, by have := valB_bd a hBa; rw [Hid]; omega, by have := valB_bd a hBa; rw [ha] at this; omega⟩
  rw [hA.out]
  go_wp2_with fail
  refine (ru8_any p p v1 ⟨b ++ (c ++ d), 0⟩ _ r1 hB1).mono ?_
  rintro e w2 ⟨rfl, v2, h2⟩
  rw [t2.2] at h2
  rw [t2.1]
  have C2 := C1.trans h2.chg (fun _ _ h => h)
  have K2 := K1.trans h2.chg (fun _ _ h => h)
  have r2 := h2.rd
  clear h2 r1 C1 K1
  go_wp2_with fail
  refine (ru16_any p p v2 ⟨c ++ d, 0⟩ _ r2 hB2).mono ?_
  rintro e w3 ⟨rfl, v3, h3⟩
  rw [t3.2] at h3
  rw [t3.1]
  have C3 := C2.trans h3.chg (fun _ _ h => h)
  have K3 := K2.trans h3.chg (fun _ _ h => h)
  have r3 := h3.rd
  clear h3 r2 C2 K2
  generalize hI : valB c = I at *
  go_wp2_with fail
  refine (rfixed_any p p v3 ⟨d, 0⟩ 56 _ r3 (by show d.length ≤ _; omega)).mono ?_
  rintro e w4 ⟨u, rfl, ⟨v4, h4⟩, o4, n4⟩
  rw [f4] at h4 o4
  rw [t4.1] at o4
  have C4 := C3.trans h4.chg (fun _ _ h => h)
  have K4 := K3.trans h4.chg (fun _ _ h => h)
  clear h4 r3 C3 K3 n4
  rw [hd] at o4
  obtain ⟨g, cap, rfl⟩ := own_form o4 (by omega)
  have bsu := Bs.ofOwns o4
  have hob : EnB w4 w.heap.size En.fr := by
    show w4.heap[w.heap.size]? = _
    rw [K4.block _ z0 (by omega)]; exact o0
  have b0 : w4.cell? ⟨w.heap.size, 0, none⟩ = some (.string ⟨#[]⟩) := hob.c0
  have b1 : w4.cell? ⟨w.heap.size, 1, none⟩ = some (.int .i64 0) := hob.c1
  have fz0 := hob.fr 0
  have fz1 := hob.fr 1
  have hcap : 56 ≤ cap := by
    rcases o4.2 with ⟨h, _⟩ | ⟨g', cap', cur, e1, _, _, h5, _⟩
    · cases h
    · injection e1 with _ _ e3
      omega
  have fin : ∀ t, Hid (∀ w5, (w4.setCell ⟨w.heap.size, 0, none⟩ (.string t)).setCell ⟨w.heap.size, 1, none⟩ (.int .i64 I) = w5 → EnB w5 w.heap.size ⟨t, I⟩ ∧ Below p w w5) := by
    rintro t w5 rfl
    refine ⟨hob.put ⟨t, I⟩, ?_⟩
    exact (C4.below (by omega) (fun k hk => by omega)).trans (chg_two.below (by have := C4.size; omega) (fun k hk => by omega))
  by_cases h56 : A ≤ 56
  · have bk := Bs.low (k := A) bsu (by omega)
    have rk := run_strC bk
    have HT : Hid (strC (d.take A) = strC (d.take (min (valB a) 56).toNat)) := by rw [Hid, hA.out]; congr 2; omega
    generalize strC (d.take A) = t at *
    have kk1 : (A : Int) ≤ 56 := by omega
    have kk2 : min (A : Int) 56 = (A : Int) := by omega
    have F := fin t
    clear fin o4 bsu bk f4 t1 t2 t3 t4 hB hBa hBd hB1 hB2 hB3 hob
    go_wp2_with fail
    generalize (w4.setCell ⟨w.heap.size, 0, none⟩ (.string t)).setCell ⟨w.heap.size, 1, none⟩ (.int .i64 I) = w5 at *
    obtain ⟨E5, B5⟩ := F.out w5 rfl
    have c50 := E5.c0
    have c51 := E5.c1
    refine bodyPost_ret (v := (⟨t, I⟩ : En).v) (by simp [results, Tryd.results51, go_sem, c50, c51]) rfl ⟨?_, B5⟩
    unfold takE
    rw [← HT.out, hI]
  · have bk := Bs.low (k := 56) bsu (by omega)
    have rk := run_strC bk
    have HT : Hid (strC (d.take 56) = strC (d.take (min (valB a) 56).toNat)) := by rw [Hid, hA.out]; congr 2; omega
    generalize strC (d.take 56) = t at *
    have kk1 : ¬ ((A : Int) ≤ 56) := by omega
    have kk2 : min (A : Int) 56 = 56 := by omega
    have F := fin t
    clear fin o4 bsu bk f4 t1 t2 t3 t4 hB hBa hBd hB1 hB2 hB3 hob
    go_wp2_with fail
    generalize (w4.setCell ⟨w.heap.size, 0, none⟩ (.string t)).setCell ⟨w.heap.size, 1, none⟩ (.int .i64 I) = w5 at *
    obtain ⟨E5, B5⟩ := F.out w5 rfl
    have c50 := E5.c0
    have c51 := E5.c1
    refine bodyPost_ret (v := (⟨t, I⟩ : En).v) (by simp [results, Tryd.results51, go_sem, c50, c51]) rfl ⟨?_, B5⟩
    unfold takE
    rw [← HT.out, hI]
end Go.Proofs.YtbhfmceapffhnaaDoor

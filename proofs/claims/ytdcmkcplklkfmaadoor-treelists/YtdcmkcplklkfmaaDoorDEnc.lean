/-
  Encode of package dir.
-/
import Derived.Test.YtdcmkcplklkfmaaDoorDPut
import Derived.Test.YtdcmkcplklkfmaaDoorKSeal
import Derived.Laws.IdiomStrings
namespace Go.Proofs.YtdcmkcplklkfmaaDoor
open Go.RowKit

/-- A text's bytes. -/
def nmB (s : ByteArray) : List Int := s.data.toList.map fun b => (b.toNat : Int)
theorem nmB_len (s : ByteArray) : (nmB s).length = s.size := by simp [nmB]
theorem nmB_isB (s : ByteArray) : IsB (nmB s) := by
  intro x hx
  obtain ⟨b, _, rfl⟩ := List.mem_map.1 hx
  have := b.toNat_lt
  omega
/-- What is sealed of an entry. -/
def frontE (e : En) : List Int := leTo (e.nm.size : Int) 1 ++ leTo 0 1 ++ leTo e.ino 2 ++ fixB (nmB e.nm) 56
/-- An entry's bytes. -/
def encB (e : En) : List Int := frontE e ++ leTo (sumV (frontE e)) 4
theorem frontE_len (e : En) : (frontE e).length = 60 := by
  have h : (min (56 : Int) 65536).toNat = 56 := by decide
  simp [frontE, leTo_len, fixB_len, h]
theorem encB_len (e : En) : (encB e).length = 64 := by
  simp [encB, frontE_len, leTo_len]
theorem isB_fixB {bs : List Int} (h : IsB bs) (n : Int) : IsB (fixB bs n) := by
  unfold fixB
  refine isB_app (h.take _) ?_
  intro x hx
  have := List.eq_of_mem_replicate hx
  omega
theorem frontE_isB (e : En) : IsB (frontE e) := isB_app (isB_app (isB_app (isB_leTo _ _) (isB_leTo _ _)) (isB_leTo _ _)) (isB_fixB (nmB_isB _) _)
theorem encB_isB (e : En) : IsB (encB e) := isB_app (frontE_isB e) (isB_leTo _ _)
theorem fixB_cut (bs : List Int) (k : Nat) (hk : k = min bs.length 56) : fixB (bs.take k) 56 = fixB bs 56 := by
  subst hk
  unfold fixB
  have e1 : (min (56 : Int) 65536).toNat = 56 := by decide
  rw [e1, List.take_take, List.length_take]
  by_cases h : bs.length ≤ 56
  · rw [Nat.min_eq_left h, Nat.min_eq_right h, Nat.min_self, List.take_of_length_le (Nat.le_refl _), List.take_of_length_le h]
  · rw [Nat.min_eq_right (by omega : 56 ≤ bs.length), Nat.min_self, Nat.min_eq_left (by omega : 56 ≤ bs.length)]
    congr 1
    have : 56 - bs.length = 0 := by omega
    rw [this]

/-- []byte(s). -/
theorem convS (s : ByteArray) (w : World) (hs : s.size ≤ 1000000000) : ∃ u w', (convert 9 33 (.string s)).run Tryd.prog w = .ok u w' ∧ Bs w' u (nmB s) ∧ Below w.heap.size w w' := by
  have hr := run_bytes_of_string (P := Tryd.prog) w 9 33 5 s Tryd.underlying9 Tryd.underlying33 Tryd.underlying5
  refine ⟨_, _, hr, .inr ⟨⟨w.heap.size, 0, none⟩, _, by rw [nmB_len], ?_, ?_, fun j hj => ?_⟩, ?_⟩
  · rw [nmB_len]; exact grownCap_ge w s.size 0 5
  · exact grownCap_le_maxLen w s.size 0 5 (by unfold maxLen; omega)
  · have hj' : j < s.size := by rw [← nmB_len]; exact hj
    have ad : (⟨w.heap.size, 0, none⟩ : Addr).add j = ⟨w.heap.size, j, none⟩ := by unfold Addr.add; split <;> simp_all
    rw [ad, cell_of_row _ w.heap.size _ _ _ _ (heap_alloc_new w.drew _)]
    have hd : j < s.data.size := hj'
    unfold bytesRow
    rw [Array.getElem?_append_left (by simpa using hd)]
    have e1 : s.data[j]? = some s.data[j] := Array.getElem?_eq_getElem hd
    have e2 : (nmB s).getD j 0 = (s.data[j].toNat : Int) := by
      unfold nmB
      simp [List.getD, e1]
    rw [e2, Array.getElem?_map, e1]
    rfl
  · exact ((Chg.drew (fun _ => False) w).below (Nat.le_refl _) (fun _ h => h.elim)).alloc (Nat.le_refl _) _
theorem nmB_extract (s : ByteArray) (_h : 56 ≤ s.size) : nmB (s.extract 0 56) = (nmB s).take 56 := by
  unfold nmB
  rw [← List.map_take]
  congr 1
  simp [ByteArray.data_extract]

set_option maxHeartbeats 1600000 in
set_option maxRecDepth 100000 in
theorem encode_any (x : En) (N : Nat) (w : World) (hT : Tab w) (hN : N ≤ w.heap.size) (hs : x.nm.size ≤ 1000000000) :
    Calls Tryd.prog 73 #[x.v] w fun e w' => ∃ u, e = .returned u ∧ FreshN N w w' u (encB x) := by
  have hN0 : 0 < w.heap.size := by have := World.block_lt_of_cell? w _ (hT 0 (by omega)); simpa using this
  have L := leTo_len
  have HF : Hid (frontE x = [] ++ leTo (x.nm.size : Int) 1 ++ leTo 0 1 ++ leTo x.ino 2 ++ fixB (nmB x.nm) 56) := by simp [Hid, frontE]
  go_enter Tryd.func73, Tryd.ntmps73
  go_wp2_with fail
  have B0 : Below w.heap.size w (w.alloc (.cells #[.string x.nm, .int .i64 x.ino] 118)) := (Below.refl _ _).alloc (Nat.le_refl _) _
  have z0 : w.heap.size < (w.alloc (.cells #[.string x.nm, .int .i64 x.ino] 118)).heap.size := by simp
  have a0 : (w.alloc (.cells #[.string x.nm, .int .i64 x.ino] 118)).cell? ⟨w.heap.size, 0, none⟩ = some (.string x.nm) := by
    rw [cell_of_row _ w.heap.size _ _ _ _ (heap_alloc_new w _)]; rfl
  have b0 : (w.alloc (.cells #[.string x.nm, .int .i64 x.ino] 118)).cell? ⟨w.heap.size, 1, none⟩ = some (.int .i64 x.ino) := by
    rw [cell_of_row _ w.heap.size _ _ _ _ (heap_alloc_new w _)]; rfl
  generalize w.alloc (.cells #[.string x.nm, .int .i64 x.ino] 118) = w0 at *
  refine (newWriter_any w0.heap.size w0 (Nat.le_refl _)).mono ?_
  rintro e w1 ⟨rfl, a1, hw1⟩
  have B1 : Below w0.heap.size w0 w1 := by rw [hw1]; exact (Below.refl _ _).alloc (Nat.le_refl _) _
  have k1 := (B1.cell (p := ⟨w.heap.size, 0, none⟩) z0).trans a0
  clear hw1
  go_wp2_with fail
  refine (u8_any w0.heap.size _ (x.nm.size : Int) _ _ _ a1 (by simp)).mono ?_
  rintro e w2 ⟨rfl, v2, h2⟩
  have B2 := B1.trans (h2.belowW a1)
  have a2 := h2.wr
  clear a1 B1 k1 h2
  go_wp2_with fail
  refine (u8_any w0.heap.size _ 0 _ _ _ a2 (by simp [L])).mono ?_
  rintro e w3 ⟨rfl, v3, h3⟩
  have B3 := B2.trans (h3.belowW a2)
  have a3 := h3.wr
  have k3 := (B3.cell (p := ⟨w.heap.size, 1, none⟩) z0).trans b0
  clear a2 B2 h3
  go_wp2_with fail
  refine (u16_any w0.heap.size _ x.ino _ _ _ a3 (by simp [L])).mono ?_
  rintro e w4 ⟨rfl, v4, h4⟩
  have B4 := B3.trans (h4.belowW a3)
  have a4 := h4.wr
  have k4 := (B4.cell (p := ⟨w.heap.size, 0, none⟩) z0).trans a0
  clear a3 B3 k3 h4
  generalize hX : [] ++ leTo (x.nm.size : Int) 1 ++ leTo 0 1 ++ leTo x.ino 2 = X at *
  have hXl : X.length = 4 := by rw [← hX]; simp [L]
  have hXB : IsB X := by rw [← hX]; exact isB_app (isB_app (isB_app (fun _ h => by cases h) (isB_leTo _ _)) (isB_leTo _ _)) (isB_leTo _ _)
  clear hX L
  have fin : ∀ (w6 : World) (v6 : Value), WrT 144 w0.heap.size w6 w0.heap.size v6 (frontE x) → Below w0.heap.size w0 w6 → Hid (Calls Tryd.prog 90 #[.pointer (some ⟨w0.heap.size, 0, none⟩)] w6 fun e w7 => ∃ u, e = .returned u ∧ Hid (Calls Tryd.prog 89 #[u] w7 fun e w8 => ∃ y, e = .returned y ∧ FreshN N w w8 y (encB x))) := by
    intro w6 v6 a6 B6
    refine (done_any w0.heap.size _ _ _ _ a6 (by rw [frontE_len]; omega)).mono ?_
    rintro e w7 ⟨u, rfl, h7⟩
    refine ⟨u, rfl, ?_⟩
    have B7 : Below w0.heap.size w0 w7 := B6.trans ((h7.2.1.below B6.size (fun _ h => h.elim)))
    have c7 : Chg (fun _ => False) w w7 := (Chg.ofBelowC (B0.trans (B7.mono B0.size)))
    have t7 : Tab w7 := fun j hj => c7.cell (hT j hj) (fun h => h)
    refine (seal_any w.heap.size u (frontE x) w7 (Bs.ofOwns h7.1) (frontE_isB x) t7 c7.size (by rw [frontE_len]; omega)).mono ?_
    rintro e w8 ⟨y, rfl, h8⟩
    refine ⟨y, rfl, own_monoC h8.1 hN, c7.trans h8.2.1 (fun _ _ h => h), fun k hk => Nat.le_trans c7.size (h8.2.2 k hk)⟩
  by_cases h56 : x.nm.size ≤ 56
  · obtain ⟨u, w5, hr5, b5, B5⟩ := convS x.nm w4 hs
    have a5 := a4.keep (Chg.ofBelowC B5) (fun k h => h)
    have Bn5 := B4.trans (B5.mono B4.size)
    have g1 : (x.nm.size : Int) ≤ 56 := by omega
    have g2 : min (x.nm.size : Int) 56 = (x.nm.size : Int) := by omega
    go_wp2_with fail
    refine (fixed_any w0.heap.size _ _ u 56 X (nmB x.nm) _ a5 b5 (by omega)).mono ?_
    rintro e w6 ⟨rfl, v6, h6⟩
    have B6 := Bn5.trans (h6.belowW a5)
    have a6 := h6.wr
    rw [← HF.out] at a6
    have H := fin w6 v6 a6 B6
    clear fin h6 a5 b5 B5 Bn5 hr5 a4 B4 k4
    go_wp2_with fail
    refine (show Calls _ _ _ _ _ from H.out).mono ?_
    rintro e w7 ⟨y, rfl, H7⟩
    go_wp2_with fail
    refine (show Calls _ _ _ _ _ from H7.out).mono ?_
    rintro e w8 ⟨y8, rfl, H8⟩
    go_wp2_with fail
    go_ret
    exact ⟨y8, rfl, H8⟩
  · obtain ⟨u, w5, hr5, b5, B5⟩ := convS (x.nm.extract 0 56) w4 (by rw [ByteArray.size_extract]; omega)
    rw [nmB_extract x.nm (by omega)] at b5
    have a5 := a4.keep (Chg.ofBelowC B5) (fun k h => h)
    have Bn5 := B4.trans (B5.mono B4.size)
    have g1 : ¬ ((x.nm.size : Int) ≤ 56) := by omega
    have g2 : min (x.nm.size : Int) 56 = 56 := by omega
    have g3 : 56 ≤ x.nm.size := by omega
    have g4 : (56 : Int) ≤ x.nm.size := by omega
    have HF2 : Hid (frontE x = X ++ fixB ((nmB x.nm).take 56) 56) := by rw [Hid, HF.out, fixB_cut (nmB x.nm) 56 (by rw [nmB_len]; omega)]
    go_wp2_with fail
    refine (fixed_any w0.heap.size _ _ u 56 X _ _ a5 b5 (by omega)).mono ?_
    rintro e w6 ⟨rfl, v6, h6⟩
    have B6 := Bn5.trans (h6.belowW a5)
    have a6 := h6.wr
    rw [← HF2.out] at a6
    have H := fin w6 v6 a6 B6
    clear fin h6 a5 b5 B5 Bn5 hr5 a4 B4 k4
    go_wp2_with fail
    refine (show Calls _ _ _ _ _ from H.out).mono ?_
    rintro e w7 ⟨y, rfl, H7⟩
    go_wp2_with fail
    refine (show Calls _ _ _ _ _ from H7.out).mono ?_
    rintro e w8 ⟨y8, rfl, H8⟩
    go_wp2_with fail
    go_ret
    exact ⟨y8, rfl, H8⟩
end Go.Proofs.YtdcmkcplklkfmaaDoor

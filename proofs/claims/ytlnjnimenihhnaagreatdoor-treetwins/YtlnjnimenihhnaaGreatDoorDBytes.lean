/-
  Encode of package dir.
-/
import Derived.Test.YtlnjnimenihhnaaGreatDoorDPut
import Derived.Test.YtlnjnimenihhnaaGreatDoorTInode
import Derived.Laws.IdiomStrings
import Derived.Laws.IdiomCopy
import Derived.Handy
import Derived.Deep.RegionHeld
namespace Go.Proofs.YtlnjnimenihhnaaGreatDoor
open Go.RowKit

/-- A text's bytes. -/
def nmB (s : ByteArray) : List Int := s.data.toList.map fun b => (b.toNat : Int)
theorem nmB_len (s : ByteArray) : (nmB s).length = s.size := by simp [nmB]
theorem nmB_isB (s : ByteArray) : IsB (nmB s) := by
  intro x hx
  obtain ⟨b, _, rfl⟩ := List.mem_map.1 hx
  have := b.toNat_lt
  omega
/-- What is sealed of an entry. -/
def frontE (e : En) : List Int := leTo (e.nm.size : Int) 1 ++ leTo 0 1 ++ leTo e.ino 2 ++ fixB (nmB e.nm) 56
/-- An entry's bytes. -/
def encB (e : En) : List Int := frontE e ++ leTo (sumV (frontE e)) 4
theorem frontE_len (e : En) : (frontE e).length = 60 := by
  have h : (min (56 : Int) 65536).toNat = 56 := by decide
  simp [frontE, leTo_len, fixB_len, h]
theorem encB_len (e : En) : (encB e).length = 64 := by
  simp [encB, frontE_len, leTo_len]
theorem isB_fixB {bs : List Int} (h : IsB bs) (n : Int) : IsB (fixB bs n) := by
  unfold fixB
  refine isB_app (h.take _) ?_
  intro x hx
  have := List.eq_of_mem_replicate hx
  omega
theorem frontE_isB (e : En) : IsB (frontE e) := isB_app (isB_app (isB_app (isB_leTo _ _) (isB_leTo _ _)) (isB_leTo _ _)) (isB_fixB (nmB_isB _) _)
theorem fixB_cut (bs : List Int) (k : Nat) (hk : k = min bs.length 56) : fixB (bs.take k) 56 = fixB bs 56 := by
  subst hk
  unfold fixB
  have e1 : (min (56 : Int) 65536).toNat = 56 := by decide
  rw [e1, List.take_take, List.length_take]
  by_cases h : bs.length ≤ 56
  · rw [Nat.min_eq_left h, Nat.min_eq_right h, Nat.min_self, List.take_of_length_le (Nat.le_refl _), List.take_of_length_le h]
  · rw [Nat.min_eq_right (by omega : 56 ≤ bs.length), Nat.min_self, Nat.min_eq_left (by omega : 56 ≤ bs.length)]
    congr 1
    have : 56 - bs.length = 0 := by omega
    rw [this]

/-- []byte(s). -/
theorem convS (s : ByteArray) (w : World) (hs : s.size ≤ 1000000000) : ∃ u w', (convert 9 33 (.string s)).run Tryz.prog w = .ok u w' ∧ Bs w' u (nmB s) ∧ Below w.heap.size w w' := by
  have hr := run_bytes_of_string (P := Tryz.prog) w 9 33 5 s Tryz.underlying9 Tryz.underlying33 Tryz.underlying5
  refine ⟨_, _, hr, .inr ⟨⟨w.heap.size, 0, none⟩, _, by rw [nmB_len], ?_, ?_, fun j hj => ?_⟩, ?_⟩
  · rw [nmB_len]; exact grownCap_ge w s.size 0 5
  · exact grownCap_le_maxLen w s.size 0 5 (by unfold maxLen; omega)
  · have hj' : j < s.size := by rw [← nmB_len]; exact hj
    have ad : (⟨w.heap.size, 0, none⟩ : Addr).add j = ⟨w.heap.size, j, none⟩ := by unfold Addr.add; split <;> simp_all
    rw [ad, cell_of_row _ w.heap.size _ _ _ _ (heap_alloc_new w.drew _)]
    have hd : j < s.data.size := hj'
    unfold bytesRow
    rw [Array.getElem?_append_left (by simpa using hd)]
    have e1 : s.data[j]? = some s.data[j] := Array.getElem?_eq_getElem hd
    have e2 : (nmB s).getD j 0 = (s.data[j].toNat : Int) := by
      unfold nmB
      simp [List.getD, e1]
    rw [e2, Array.getElem?_map, e1]
    rfl
  · exact ((Chg.drew (fun _ => False) w).below (Nat.le_refl _) (fun _ h => h.elim)).alloc (Nat.le_refl _) _
theorem nmB_extract (s : ByteArray) (_h : 56 ≤ s.size) : nmB (s.extract 0 56) = (nmB s).take 56 := by
  unfold nmB
  rw [← List.map_take]
  congr 1
  simp [ByteArray.data_extract]

set_option maxHeartbeats 1600000 in
set_option maxRecDepth 100000 in
theorem encode_any (x : En) (N : Nat) (w : World) (hT : Tab w) (hN : N ≤ w.heap.size) (hs : x.nm.size ≤ 1000000000) :
    Calls Tryz.prog 108 #[x.v] w fun e w' => ∃ u, e = .returned u ∧ FreshN N w w' u (encB x) := by
  have hN0 : 0 < w.heap.size := by have := World.block_lt_of_cell? w _ (hT 0 (by omega)); simpa using this
  have L := leTo_len
  have HF : Hid (frontE x = [] ++ leTo (x.nm.size : Int) 1 ++ leTo 0 1 ++ leTo x.ino 2 ++ fixB (nmB x.nm) 56) := by simp [Hid, frontE]
  go_enter Tryz.func108, Tryz.ntmps108
  go_wp2_with fail
  have B0 : Below w.heap.size w (w.alloc (.cells #[.string x.nm, .int .i64 x.ino] 164)) := (Below.refl _ _).alloc (Nat.le_refl _) _
  have z0 : w.heap.size < (w.alloc (.cells #[.string x.nm, .int .i64 x.ino] 164)).heap.size := by simp
  have a0 : (w.alloc (.cells #[.string x.nm, .int .i64 x.ino] 164)).cell? ⟨w.heap.size, 0, none⟩ = some (.string x.nm) := by
    rw [cell_of_row _ w.heap.size _ _ _ _ (heap_alloc_new w _)]; rfl
  have b0 : (w.alloc (.cells #[.string x.nm, .int .i64 x.ino] 164)).cell? ⟨w.heap.size, 1, none⟩ = some (.int .i64 x.ino) := by
    rw [cell_of_row _ w.heap.size _ _ _ _ (heap_alloc_new w _)]; rfl
  generalize w.alloc (.cells #[.string x.nm, .int .i64 x.ino] 164) = w0 at *
  refine (newWriter_any w0.heap.size w0 (Nat.le_refl _)).mono ?_
  rintro e w1 ⟨rfl, a1, hw1⟩
  have B1 : Below w0.heap.size w0 w1 := by rw [hw1]; exact (Below.refl _ _).alloc (Nat.le_refl _) _
  have k1 := (B1.cell (p := ⟨w.heap.size, 0, none⟩) z0).trans a0
  clear hw1
  go_wp2_with fail
  refine (u8_any w0.heap.size _ (x.nm.size : Int) _ _ _ a1 (by simp)).mono ?_
  rintro e w2 ⟨rfl, v2, h2⟩
  have B2 := B1.trans (h2.belowW a1)
  have a2 := h2.wr
  clear a1 B1 k1 h2
  go_wp2_with fail
  refine (u8_any w0.heap.size _ 0 _ _ _ a2 (by simp [L])).mono ?_
  rintro e w3 ⟨rfl, v3, h3⟩
  have B3 := B2.trans (h3.belowW a2)
  have a3 := h3.wr
  have k3 := (B3.cell (p := ⟨w.heap.size, 1, none⟩) z0).trans b0
  clear a2 B2 h3
  go_wp2_with fail
  refine (u16_any w0.heap.size _ x.ino _ _ _ a3 (by simp [L])).mono ?_
  rintro e w4 ⟨rfl, v4, h4⟩
  have B4 := B3.trans (h4.belowW a3)
  have a4 := h4.wr
  have k4 := (B4.cell (p := ⟨w.heap.size, 0, none⟩) z0).trans a0
  clear a3 B3 k3 h4
  generalize hX : [] ++ leTo (x.nm.size : Int) 1 ++ leTo 0 1 ++ leTo x.ino 2 = X at *
  have hXl : X.length = 4 := by rw [← hX]; simp [L]
  have hXB : IsB X := by rw [← hX]; exact isB_app (isB_app (isB_app (fun _ h => by cases h) (isB_leTo _ _)) (isB_leTo _ _)) (isB_leTo _ _)
  clear hX L
  have fin : ∀ (w6 : World) (v6 : Value), WrT 189 w0.heap.size w6 w0.heap.size v6 (frontE x) → Below w0.heap.size w0 w6 → Hid (Calls Tryz.prog 125 #[.pointer (some ⟨w0.heap.size, 0, none⟩)] w6 fun e w7 => ∃ u, e = .returned u ∧ Hid (Calls Tryz.prog 124 #[u] w7 fun e w8 => ∃ y, e = .returned y ∧ FreshN N w w8 y (encB x))) := by
    intro w6 v6 a6 B6
    refine (done_any w0.heap.size _ _ _ _ a6 (by rw [frontE_len]; omega)).mono ?_
    rintro e w7 ⟨u, rfl, h7⟩
    refine ⟨u, rfl, ?_⟩
    have B7 : Below w0.heap.size w0 w7 := B6.trans ((h7.2.1.below B6.size (fun _ h => h.elim)))
    have c7 : Chg (fun _ => False) w w7 := (Chg.ofBelowC (B0.trans (B7.mono B0.size)))
    have t7 : Tab w7 := fun j hj => c7.cell (hT j hj) (fun h => h)
    refine (seal_any w.heap.size u (frontE x) w7 (Bs.ofOwns h7.1) (frontE_isB x) t7 c7.size (by rw [frontE_len]; omega)).mono ?_
    rintro e w8 ⟨y, rfl, h8⟩
    refine ⟨y, rfl, own_monoC h8.1 hN, c7.trans h8.2.1 (fun _ _ h => h), fun k hk => Nat.le_trans c7.size (h8.2.2 k hk)⟩
  by_cases h56 : x.nm.size ≤ 56
  · obtain ⟨u, w5, hr5, b5, B5⟩ := convS x.nm w4 hs
    have a5 := a4.keep (Chg.ofBelowC B5) (fun k h => h)
    have Bn5 := B4.trans (B5.mono B4.size)
    have g1 : (x.nm.size : Int) ≤ 56 := by omega
    have g2 : min (x.nm.size : Int) 56 = (x.nm.size : Int) := by omega
    go_wp2_with fail
    refine (fixed_any w0.heap.size _ _ u 56 X (nmB x.nm) _ a5 b5 (by omega)).mono ?_
    rintro e w6 ⟨rfl, v6, h6⟩
    have B6 := Bn5.trans (h6.belowW a5)
    have a6 := h6.wr
    rw [← HF.out] at a6
    have H := fin w6 v6 a6 B6
    clear fin h6 a5 b5 B5 Bn5 hr5 a4 B4 k4
    go_wp2_with fail
    refine (show Calls _ _ _ _ _ from H.out).mono ?_
    rintro e w7 ⟨y, rfl, H7⟩
    go_wp2_with fail
    refine (show Calls _ _ _ _ _ from H7.out).mono ?_
    rintro e w8 ⟨y8, rfl, H8⟩
    go_wp2_with fail
    go_ret
    exact ⟨y8, rfl, H8⟩
  · obtain ⟨u, w5, hr5, b5, B5⟩ := convS (x.nm.extract 0 56) w4 (by rw [ByteArray.size_extract]; omega)
    rw [nmB_extract x.nm (by omega)] at b5
    have a5 := a4.keep (Chg.ofBelowC B5) (fun k h => h)
    have Bn5 := B4.trans (B5.mono B4.size)
    have g1 : ¬ ((x.nm.size : Int) ≤ 56) := by omega
    have g2 : min (x.nm.size : Int) 56 = 56 := by omega
    have g3 : 56 ≤ x.nm.size := by omega
    have g4 : (56 : Int) ≤ x.nm.size := by omega
    have HF2 : Hid (frontE x = X ++ fixB ((nmB x.nm).take 56) 56) := by rw [Hid, HF.out, fixB_cut (nmB x.nm) 56 (by rw [nmB_len]; omega)]
    go_wp2_with fail
    refine (fixed_any w0.heap.size _ _ u 56 X _ _ a5 b5 (by omega)).mono ?_
    rintro e w6 ⟨rfl, v6, h6⟩
    have B6 := Bn5.trans (h6.belowW a5)
    have a6 := h6.wr
    rw [← HF2.out] at a6
    have H := fin w6 v6 a6 B6
    clear fin h6 a5 b5 B5 Bn5 hr5 a4 B4 k4
    go_wp2_with fail
    refine (show Calls _ _ _ _ _ from H.out).mono ?_
    rintro e w7 ⟨y, rfl, H7⟩
    go_wp2_with fail
    refine (show Calls _ _ _ _ _ from H7.out).mono ?_
    rintro e w8 ⟨y8, rfl, H8⟩
    go_wp2_with fail
    go_ret
    exact ⟨y8, rfl, H8⟩
end Go.Proofs.YtlnjnimenihhnaaGreatDoor

namespace Go.Proofs.YtlnjnimenihhnaaGreatDoor
open Go.RowKit

/-- v is a slice of bytes of its own, at the head of block g, that reads xs. -/
def Mp (w : World) (g : Nat) (v : Value) (xs : List Int) : Prop :=
  (v = .slice none 0 0 ∧ xs = []) ∨
  ∃ (c : Nat) (cur : Array Value) (ty : TypeId), v = .slice (some ⟨g, 0, none⟩) xs.length c ∧ w.heap[g]? = some (.cells cur ty (0, 0)) ∧ xs.length ≤ c ∧ c ≤ maxLen ∧ ∀ j, j < xs.length → cur[j]? = some (.int .u8 (xs.getD j 0))

theorem Mp.bs {w : World} {g : Nat} {v : Value} {xs : List Int} (h : Mp w g v xs) : Bs w v xs := by
  rcases h with h | ⟨c, cur, ty, rfl, hb, hl, hm, hc⟩
  · exact .inl h
  · refine .inr ⟨⟨g, 0, none⟩, c, rfl, hl, hm, fun j hj => ?_⟩
    have e : (⟨g, 0, none⟩ : Addr).add j = ⟨g, j, none⟩ := by simp [Addr.add_lit]
    rw [e, cell_of_row _ _ _ _ _ _ hb]
    exact hc j hj
theorem Mp.kept {S : Nat → Prop} {w w' : World} {g : Nat} {v : Value} {xs : List Int} (h : Mp w g v xs) (hc : Chg S w w') (hn : ¬ S g) : Mp w' g v xs := by
  rcases h with h | ⟨c, cur, ty, rfl, hb, hl, hm, hcc⟩
  · exact .inl h
  · refine .inr ⟨c, cur, ty, rfl, ?_, hl, hm, hcc⟩
    rw [hc.block g ?_ hn]
    · exact hb
    · exact (Array.getElem?_eq_some_iff.1 hb).1
theorem Bs.formB {w : World} {v : Value} {xs : List Int} (h : Bs w v xs) : ∃ a c, v = .slice a xs.length c ∧ xs.length ≤ c := by
  rcases h with ⟨rfl, rfl⟩ | ⟨a, c, rfl, hl, _, _⟩
  · exact ⟨none, 0, rfl, Nat.le_refl _⟩
  · exact ⟨some a, c, rfl, hl⟩
/-- One byte set. -/
theorem Mp.set {w : World} {g : Nat} {v : Value} {xs : List Int} (h : Mp w g v xs) {j : Nat} (hj : j < xs.length) (y : Int) : Mp (w.setCell ⟨g, j, none⟩ (.int .u8 y)) g v (xs.set j y) := by
  rcases h with ⟨rfl, rfl⟩ | ⟨c, cur, ty, rfl, hb, hl, hm, hc⟩
  · simp at hj
  · refine .inr ⟨c, _, ty, by simp, heap_setCell_same w g j _ _ (.int .u8 y) hb, by simpa using hl, hm, fun k hk => ?_⟩
    have hk' : k < xs.length := by simpa using hk
    have h0 := hc k hk'
    have hs : k < cur.size := (Array.getElem?_eq_some_iff.1 h0).1
    by_cases e : k = j
    · subst e
      simp [List.getD, hk', hs]
    · have e1 : (xs.set j y).getD k 0 = xs.getD k 0 := by simp [List.getD, List.getElem?_set_ne (Ne.symm e)]
      rw [e1, ← h0]
      simp [Ne.symm e]
theorem Mp.ofOwns {w : World} {N : Nat} {v : Value} {n : Nat} {xs : List Int} (h : w.ownsRow N 5 1 v n (bcells xs)) : ∃ g, Mp w g v xs ∧ (∀ b, v.ownBlock = some b → b = g) := by
  have hn : xs.length = n := by have := h.1; simpa [bcells] using this
  subst hn
  rcases h.2 with ⟨rfl, h0⟩ | ⟨g, cap, cur, rfl, hb, hg, hnc, hcm, hcs, htake⟩
  · exact ⟨0, .inl ⟨rfl, List.eq_nil_of_length_eq_zero h0⟩, fun b hb => by simp [Value.ownBlock] at hb⟩
  · refine ⟨g, .inr ⟨cap, cur, 5, rfl, hg, hnc, hcm, fun j hj => ?_⟩, fun b hb => by simpa [Value.ownBlock] using hb.symm⟩
    have h1 : (cur.toList.take (xs.length * 1))[j]? = (bcells xs)[j]? := by rw [htake]
    rw [List.getElem?_take_of_lt (by omega)] at h1
    rw [← Array.getElem?_toList, h1]
    simp [bcells, List.getD, hj]

theorem Mp.cellAt {w : World} {g : Nat} {v : Value} {xs : List Int} (h : Mp w g v xs) {j : Nat} (hj : j < xs.length) : w.cell? ⟨g, j, none⟩ = some (.int .u8 (xs.getD j 0)) := by
  rcases h with ⟨rfl, rfl⟩ | ⟨c, cur, ty, rfl, hb, hl, hm, hc⟩
  · simp at hj
  · rw [cell_of_row _ _ _ _ _ _ hb]
    exact hc j hj
/-- Bytes b in the place of as many from off on. -/
def splice (cs : List Int) (off : Nat) (b : List Int) : List Int := cs.take off ++ b ++ cs.drop (off + b.length)
theorem splice_len {cs : List Int} {off : Nat} {b : List Int} (h : off + b.length ≤ cs.length) : (splice cs off b).length = cs.length := by
  unfold splice
  simp only [List.length_append, List.length_take, List.length_drop]; omega
theorem splice_nil (cs : List Int) (off : Nat) : splice cs off [] = cs := by simp [splice]
theorem splice_get {cs : List Int} {off : Nat} {b : List Int} (h : off + b.length ≤ cs.length) (p : Nat) : (splice cs off b)[p]? = if off ≤ p ∧ p < off + b.length then b[p - off]? else cs[p]? := by
  unfold splice
  by_cases h1 : p < off
  · rw [if_neg (by omega), List.append_assoc, List.getElem?_append_left (by rw [List.length_take]; omega), List.getElem?_take_of_lt h1]
  · by_cases h2 : p < off + b.length
    · rw [if_pos ⟨by omega, h2⟩, List.getElem?_append_left (by rw [List.length_append, List.length_take]; omega), List.getElem?_append_right (by rw [List.length_take]; omega), List.length_take, Nat.min_eq_left (by omega)]
    · rw [if_neg (by omega), List.getElem?_append_right (by rw [List.length_append, List.length_take]; omega), List.length_append, List.length_take, Nat.min_eq_left (by omega), List.getElem?_drop, show off + b.length + (p - (off + b.length)) = p by omega]
def zeros (n : Nat) : List Int := List.replicate n 0
theorem zeros_len (n : Nat) : (zeros n).length = n := List.length_replicate
theorem bcells_nth {xs : List Int} {j : Nat} (h : j < xs.length) : (bcells xs)[j]? = some (.int .u8 (xs.getD j 0)) := by simp [bcells, List.getD, h]
theorem info5_parts : ∃ i, Tryz.prog.info? 5 = some i ∧ i.zero = some (.int .u8 0) ∧ i.size = 1 ∧ i.bytes = 1 := info_parts cinfo5
theorem made_bytes (n : Nat) : (madeCells (Value.int .u8 0).cells (n * 1)).toList = bcells (zeros n) := by
  rw [Nat.mul_one]
  apply List.ext_getElem
  · simp [size_madeCells, bcells, zeros]
  · intro i h1 h2
    simp [madeCells, Value.cells, bcells, zeros, Nat.mod_one]
/-- copy, under a name that the walk leaves shut. -/
def copyG := Builtin.copy_
theorem copyG_eq (a : Array TypeId) (t : TypeId) (vs : Array Value) : Builtin.copy_ a t vs = copyG a t vs := rfl
theorem bcells_len (xs : List Int) : (bcells xs).length = xs.length := by simp [bcells]
theorem run_copyM {w : World} {g o dl dc : Nat} {v u : Value} {xs ys : List Int} (ty : TypeId) (h : Mp w g v xs) (hu : Bs w u ys) (ho : o + min ys.length dl ≤ xs.length) :
    ∃ w', (copyG #[33, 33] ty #[.slice (some ⟨g, o, none⟩) dl dc, u]).run Tryz.prog w = .ok (.int .i64 ((min ys.length dl : Nat) : Int)) w' ∧ Mp w' g v (splice xs o (ys.take dl)) ∧ Chg (fun b => b = g) w w' := by
  obtain ⟨i0, hi, hz0, hz1, hz2⟩ := info5_parts
  have hs : (Tryz.prog.info? 5).map (·.size) = some 1 := by rw [hi]; simp [hz1]
  by_cases h0 : min ys.length dl = 0
  · have e : ys.take dl = [] := by
      apply List.eq_nil_of_length_eq_zero
      rw [List.length_take]; omega
    rw [e, splice_nil, h0]
    refine ⟨w, ?_, h, Chg.refl _ _⟩
    obtain ⟨a, c, rfl, hc⟩ := hu.formB
    have := run_copy_none (P := Tryz.prog) w 33 33 ty 5 (some ⟨g, o, none⟩) a dl dc ys.length c Tryz.underlying33 hs h0
    exact this
  · rcases hu with ⟨rfl, rfl⟩ | ⟨a, c, rfl, hl, hm, hcell⟩
    · simp at h0
    · rcases h with ⟨rfl, rfl⟩ | ⟨cv, cur, ty', rfl, hb, hl2, hm2, hcc⟩
      · rw [List.length_nil] at ho
        exact absurd (Nat.le_zero.1 (Nat.le_trans (Nat.le_add_left _ _) ho)) h0
      · have hsz : xs.length ≤ cur.size := by
          rcases Nat.eq_zero_or_pos xs.length with e | e
          · omega
          · have := hcc (xs.length - 1) (by omega)
            have := (Array.getElem?_eq_some_iff.1 this).1
            omega
        have hlen : (bcells (ys.take dl)).length = min ys.length dl := by rw [bcells_len, List.length_take]; omega
        have hr := run_copy_row Tryz.prog w 33 33 ty 5 g o dl dc a ys.length c cur ty' (bcells (ys.take dl)) Tryz.underlying33 hs hb hlen
          (fun j v hv => by
            obtain ⟨hj, rfl⟩ := bcells_get hv
            have hj2 : j < ys.length := by rw [List.length_take] at hj; omega
            have hj3 : j < dl := by rw [List.length_take] at hj; omega
            rw [hcell j hj2]
            simp [List.getD, List.getElem?_take_of_lt hj3]) (by rw [hlen]; omega) (bcells_one _)
        rw [hlen] at hr
        refine ⟨_, hr, .inr ⟨cv, _, ty', ?_, setRow_heap w g cur _ ty' _ hb, ?_, hm2, fun j hj => ?_⟩, ⟨rfl, rfl, rfl, by simp, fun k _ hk => setRow_other w g k _ (fun e => hk e)⟩⟩
        · rw [splice_len (by rw [List.length_take]; omega)]
        · rw [splice_len (by rw [List.length_take]; omega)]; exact hl2
        · rw [splice_len (by rw [List.length_take]; omega)] at hj
          have e1 := splice_get (cs := xs) (off := o) (b := ys.take dl) (by rw [List.length_take]; omega) j
          have e2 : (splice xs o (ys.take dl)).getD j 0 = ((splice xs o (ys.take dl))[j]?).getD 0 := by simp [List.getD]
          rw [e2, e1]
          have e3 : (cur.toList.take o ++ bcells (ys.take dl) ++ cur.toList.drop (o + min ys.length dl)).toArray[j]? = (cur.toList.take o ++ bcells (ys.take dl) ++ cur.toList.drop (o + min ys.length dl))[j]? := by simp
          rw [e3]
          have hto : (cur.toList.take o).length = o := by simp; omega
          have hty : (ys.take dl).length = min ys.length dl := by rw [List.length_take]; omega
          by_cases g1 : j < o
          · rw [if_neg (by omega), List.append_assoc, List.getElem?_append_left (by omega), List.getElem?_take_of_lt g1]
            have := hcc j (by omega)
            rw [← Array.getElem?_toList] at this
            rw [this]; simp [List.getD]
          · by_cases g2 : j < o + min ys.length dl
            · rw [if_pos (by omega), List.getElem?_append_left (by rw [List.length_append]; omega), List.getElem?_append_right (by omega), hto]
              have g3 : j - o < (ys.take dl).length := by omega
              rw [show (bcells (ys.take dl))[j - o]? = some (.int .u8 ((ys.take dl).getD (j - o) 0)) from bcells_nth g3]
              simp [List.getD]
            · rw [if_neg (by omega), List.getElem?_append_right (by rw [List.length_append]; omega), List.length_append, hto, hlen, List.getElem?_drop, show o + min ys.length dl + (j - (o + min ys.length dl)) = j by omega]
              have := hcc j (by omega)
              rw [← Array.getElem?_toList] at this
              rw [this]; simp [List.getD]


/-- Bytes 0, as they are made. -/
theorem makeM (z : Nat) (hz : z ≤ 16777216) : ∃ o : Obj, (∀ w : World, (Instr.makeSlice 33 (.int .i64 (z : Int)) (.int .i64 (z : Int))).run Tryz.prog w = .ok (.slice (some ⟨w.heap.size, 0, none⟩) z z) (w.alloc o)) ∧ ∀ w : World, Mp (w.alloc o) w.heap.size (.slice (some ⟨w.heap.size, 0, none⟩) z z) (zeros z) := by
  obtain ⟨i0, hi, hz0, hz1, hz2⟩ := info5_parts
  refine ⟨.cells (madeCells (Value.int .u8 0).cells (z * 1)) 5, fun w => ?_, fun w => ?_⟩
  · have := run_make (P := Tryz.prog) w 33 5 i0 (.int .u8 0) Tryz.underlying33 hi hz0 .i64 .i64 (z : Int) (z : Int) (by omega) (by omega) (by rw [hz2]; omega) (by omega)
    rw [hz1] at this
    exact this
  · refine .inr ⟨z, _, 5, by rw [zeros_len], heap_alloc_new w _, by rw [zeros_len]; exact Nat.le_refl _, by unfold maxLen; omega, fun j hj => ?_⟩
    rw [← Array.getElem?_toList, made_bytes]
    exact bcells_nth hj
end Go.Proofs.YtlnjnimenihhnaaGreatDoor

namespace Go.Proofs.YtlnjnimenihhnaaGreatDoor
open Go.RowKit
attribute [local go_sem ↓] copyG_eq

/-- A slot's bytes. -/
def slotB (e : En) : List Int := if 1 ≤ e.nm.size then encB e else zeros 64
theorem slotB_len (e : En) : (slotB e).length = 64 := by
  unfold slotB; split
  · exact encB_len e
  · exact zeros_len 64
/-- All slots' bytes, up to a whole block. -/
def bytesL (es : List En) : List Int := es.flatMap slotB ++ zeros (sizeS es.length - 64 * es.length)
theorem flat_len (es : List En) : (es.flatMap slotB).length = 64 * es.length := by
  induction es with
  | nil => rfl
  | cons e es ih => rw [List.flatMap_cons, List.length_append, ih, slotB_len, List.length_cons]; omega
theorem sizeS_le (n : Nat) : 64 * n ≤ sizeS n := by unfold sizeS; omega
/-- The first k slots' bytes in Z bytes. -/
def bytesK (es : List En) (Z k : Nat) : List Int := (es.take k).flatMap slotB ++ zeros (Z - 64 * k)
theorem bytesK_len (es : List En) (Z k : Nat) (hk : k ≤ es.length) (hZ : 64 * k ≤ Z) : (bytesK es Z k).length = Z := by
  unfold bytesK
  rw [List.length_append, flat_len, zeros_len, List.length_take]
  omega
theorem bytesK_all (es : List En) : bytesK es (sizeS es.length) es.length = bytesL es := by
  unfold bytesK bytesL; rw [List.take_of_length_le (Nat.le_refl _)]
theorem take_next (es : List En) (k : Nat) (hk : k < es.length) : es.take (k + 1) = es.take k ++ [es.getD k En.fr] := by
  rw [List.take_add_one]; simp [List.getD, hk]
theorem bytesK_step (es : List En) (Z k : Nat) (hk : k < es.length) (hZ : 64 * (k + 1) ≤ Z) : splice (bytesK es Z k) (64 * k) (slotB (es.getD k En.fr)) = bytesK es Z (k + 1) := by
  unfold splice bytesK
  have h1 : ((es.take k).flatMap slotB).length = 64 * k := by rw [flat_len, List.length_take]; omega
  rw [take_next es k hk, List.flatMap_append, List.take_left' h1, slotB_len]
  have e2 : (es.take k).flatMap slotB ++ zeros (Z - 64 * k) = ((es.take k).flatMap slotB ++ zeros 64) ++ zeros (Z - 64 * (k + 1)) := by
    rw [List.append_assoc]
    congr 1
    unfold zeros
    rw [List.replicate_append_replicate]
    congr 1
    omega
  have e3 : (((es.take k).flatMap slotB ++ zeros (Z - 64 * k)).drop (64 * k + 64)) = zeros (Z - 64 * (k + 1)) := by
    rw [e2, List.drop_left' (by rw [List.length_append, h1, zeros_len])]
  rw [e3]
  simp
theorem bytesK_free (es : List En) (Z k : Nat) (hk : k < es.length) (hZ : 64 * (k + 1) ≤ Z) (hf : (es.getD k En.fr).nm.size = 0) : bytesK es Z (k + 1) = bytesK es Z k := by
  unfold bytesK
  have e1 : slotB (es.getD k En.fr) = zeros 64 := by unfold slotB; rw [if_neg (by omega)]
  rw [take_next es k hk, List.flatMap_append, List.append_assoc]
  congr 1
  simp only [List.flatMap_cons, List.flatMap_nil, List.append_nil, e1]
  unfold zeros
  rw [List.replicate_append_replicate]
  congr 1
  omega
theorem bytesK_zero (es : List En) (Z : Nat) : bytesK es Z 0 = zeros Z := by simp [bytesK]

set_option maxHeartbeats 3200000 in
set_option maxRecDepth 100000 in
theorem dbytes_any (v : Value) (es : List En) (w : World) (hT : Tab w) (hv : Es w v es) (hl : es.length ≤ 100000) (hs : Hid (∀ j, j < es.length → (es.getD j En.fr).nm.size ≤ 1000000000)) :
    Calls Tryz.prog 99 #[v] w fun e w' => ∃ g, e = .returned (.slice (some ⟨g, 0, none⟩) (sizeS es.length) (sizeS es.length)) ∧ Mp w' g (.slice (some ⟨g, 0, none⟩) (sizeS es.length) (sizeS es.length)) (bytesL es) ∧ w.heap.size ≤ g ∧ Below w.heap.size w w' := by
  obtain ⟨a, c, rfl⟩ := hv.form
  have hZ0 : sizeS es.length ≤ 16777216 := by unfold sizeS; omega
  have hZ1 := sizeS_le es.length
  obtain ⟨o, hmk, hM⟩ := makeM (sizeS es.length) hZ0
  have HA : Hid (bytesK es (sizeS es.length) es.length = bytesL es) := bytesK_all es
  have SZ := size_any (.slice a es.length c) es w hv (by omega)
  generalize hZ : sizeS es.length = Z at *
  go_enter Tryz.func99, Tryz.ntmps99
  go_wp2_with fail
  refine SZ.mono ?_
  rintro e w1 ⟨rfl, rfl⟩
  go_wp2_with fail
  have M1 := hM w1
  have B1 : Below w1.heap.size w1 (w1.alloc o) := (Below.refl _ _).alloc (Nat.le_refl _) _
  have hg : w1.heap.size ≤ w1.heap.size := Nat.le_refl _
  rw [← bytesK_zero es Z] at M1
  generalize w1.alloc o = w2 at *
  clear hmk hM SZ
  clear hg
  go_loopw [11] (fun i wr => ∃ k : Nat, k ≤ es.length ∧ i = .int .i64 k ∧ Below w1.heap.size w1 wr ∧ Mp wr w1.heap.size (.slice (some ⟨w1.heap.size, 0, none⟩) Z Z) (bytesK es Z k)) (fun i _ => es.length - (intOf i).toNat)
  case atStart => exact ⟨0, Nat.zero_le _, rfl, B1, M1⟩
  case round =>
    clear M1 B1
    obtain ⟨k, hk, rfl, B, M⟩ := hrel
    by_cases hlt : k < es.length
    · have q1 : (k : Int) < es.length := by omega
      have hv' := hv.below B
      obtain ⟨b, off, rfl, hc⟩ := hv'.nth hlt
      obtain ⟨c1, c2⟩ := hc k hlt
      have hZk : 64 * (k + 1) ≤ Z := by omega
      have HST := bytesK_step es Z k hlt hZk
      have HFR := bytesK_free es Z k hlt hZk
      have hsk := hs.out k hlt
      obtain ⟨x, hx⟩ : ∃ x, Hid (es.getD k En.fr = x) := ⟨_, rfl⟩
      rw [hx.out] at c1 c2 HST HFR hsk
      clear hc hv' hx
      have B1 := B.alloc B.size (.cells #[.string x.nm, .int .i64 x.ino] 164)
      have M1 := M.kept (Chg.alloc (fun _ => False) wr (.cells #[.string x.nm, .int .i64 x.ino] 164)) (fun h => h)
      have hcell : (wr.alloc (.cells #[.string x.nm, .int .i64 x.ino] 164)).cell? ⟨wr.heap.size, 0, none⟩ = some (.string x.nm) := by
        rw [cell_of_row _ wr.heap.size _ _ _ _ (heap_alloc_new wr _)]; rfl
      have hcell1 : (wr.alloc (.cells #[.string x.nm, .int .i64 x.ino] 164)).cell? ⟨wr.heap.size, 1, none⟩ = some (.int .i64 x.ino) := by
        rw [cell_of_row _ wr.heap.size _ _ _ _ (heap_alloc_new wr _)]; rfl
      by_cases h0 : x.nm.size = 0
      · have g3 : x.nm = ⟨#[]⟩ := by
          obtain ⟨⟨⟨l⟩⟩, _⟩ := x
          have : l = [] := List.eq_nil_of_length_eq_zero h0
          simp [this]
        have HF : Hid (bytesK es Z (k + 1) = bytesK es Z k) := HFR h0
        have g0 : (x.nm.toList == []) = true := by rw [g3, ByteArray.toList_eq]; rfl
        clear HFR HST h0 g3 hcell1 hsk
        go_wp2_with fail
        go_roundw
        case rel => exact ⟨k + 1, by omega, by go_num, B1, by rw [HF.out]; exact M1⟩
        case measure => simp [intOf]; omega
      · have h1 : 1 ≤ x.nm.size := by omega
        have g0 : (x.nm.toList == []) = false := beq_eq_false_iff_ne.2 (str_some h1)
        have HS2 : Hid (splice (bytesK es Z k) (64 * k) (encB x) = bytesK es Z (k + 1)) := by
          have e : slotB x = encB x := by unfold slotB; rw [if_pos h1]
          rw [← e]; exact HST
        have hbl : (bytesK es Z k).length = Z := bytesK_len es Z k hk (by omega)
        have hT1 : Tab (wr.alloc (.cells #[.string x.nm, .int .i64 x.ino] 164)) := fun j hj => (Chg.ofBelowC B1).cell (hT j hj) (fun h => h)
        have EN : Hid (∀ wb, Chg (fun _ => False) (wr.alloc (.cells #[.string x.nm, .int .i64 x.ino] 164)) wb → Calls Tryz.prog 108 #[x.v] wb fun e w' => ∃ ua uc, e = .returned (.slice ua 64 uc) ∧ ∃ w3, (copyG #[33, 33] 3 #[.slice (some ⟨w1.heap.size, k * 64, none⟩) (Z - k * 64) (Z - k * 64), .slice ua 64 uc]).run Tryz.prog w' = .ok (.int .i64 64) w3 ∧ Hid (Below w1.heap.size w1 w3 ∧ Mp w3 w1.heap.size (.slice (some ⟨w1.heap.size, 0, none⟩) Z Z) (bytesK es Z (k + 1)))) := by
          intro wb hb
          refine (encode_any x wb.heap.size wb (fun j hj => hb.cell (hT1 j hj) (fun h => h)) (Nat.le_refl _) hsk).mono ?_
          rintro e w' ⟨u, rfl, h5⟩
          obtain ⟨ua, uc, rfl⟩ := cown_slice h5.1
          rw [encB_len]
          have bs := Bs.ofOwns h5.1
          rw [encB_len] at bs
          have M2 := (M1.kept hb (fun h => h)).kept h5.2.1 (fun h => h)
          obtain ⟨w3, hr, M3, c3⟩ := run_copyM (o := k * 64) (dl := Z - k * 64) (dc := Z - k * 64) 3 M2 bs (by rw [encB_len, hbl]; omega)
          rw [encB_len, Nat.min_eq_left (by omega)] at hr
          rw [List.take_of_length_le (by rw [encB_len]; omega), Nat.mul_comm k 64, HS2.out] at M3
          refine ⟨ua, uc, rfl, w3, hr, ?_, M3⟩
          have B2 : Below w1.heap.size w1 w' := (B1.trans (hb.below B1.size (fun _ h => h.elim))).trans (h5.2.1.below (Nat.le_trans B1.size hb.size) (fun _ h => h.elim))
          exact B2.trans (c3.below B2.size (fun k hk => by omega))
        clear HFR HST h0 h1 HS2 hbl hsk M M1 hT1 B B1
        have q2 : (k : Int) * 64 ≤ Z := by omega
        have q3 : ¬ Z = k * 64 := by omega
        have q4 : ¬ ((k : Int) * 64 < 0) := by omega
        have q5 : ((k : Int) * 64).toNat = k * 64 := by omega
        have q6 : IntKind.i64.wrap ((k : Int) * 64) = (k : Int) * 64 := by rw [IntKind.wrap_i64]; omega
        go_wp2_with fail
        go_region_with (first | (go_at_call 108; refine (EN.out _ (by first | exact Chg.refl _ _ | exact Chg.drew _ _ | exact Chg.drewN _ _ _)).mono ?_; rintro e w4 ⟨ua, uc, rfl, w3, hr, H3⟩))
        all_goals
          obtain ⟨B3, M3⟩ := H3.out
          clear H3 hr EN hcell hcell1 c1 c2 q2 q3 q4 q5 q6 g0
          go_wp2_with fail
          go_roundw
          case rel => exact ⟨k + 1, by omega, by go_num, B3, M3⟩
          case measure => simp [intOf]; omega
    · have q1 : ¬ (k : Int) < es.length := by omega
      obtain rfl : k = es.length := by omega
      rw [HA.out] at M
      clear HA
      go_wp2_with fail
      go_ret
      exact ⟨_, rfl, M, Nat.le_refl _, B⟩
end Go.Proofs.YtlnjnimenihhnaaGreatDoor

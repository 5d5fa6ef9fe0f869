/-
  The bytes of FileLarge, as lists; bytes that are filled one by one.
-/
import Derived.Test.YtnnaemlipahamaaGreatFPre
namespace Go.Proofs.YtnnaemlipahamaaGreat
open Go.RowKit Go.Maps

def lrg (i : Nat) : List Int := (List.range (512 * i)).map fun j => ((j / 512 + 1 : Nat) : Int)
def lrgP (i z : Nat) : List Int := (List.range z).map fun j => ((i + j / 512 + 1 : Nat) : Int)
theorem lrg_len (i : Nat) : (lrg i).length = 512 * i := by simp [lrg]
theorem lrgP_len (i z : Nat) : (lrgP i z).length = z := by simp [lrgP]
theorem lrg_app (i k : Nat) : lrg i ++ lrgP i (512 * k) = lrg (i + k) := by
  unfold lrg lrgP
  rw [Nat.mul_add, List.range_add, List.map_append, List.map_map]
  congr 1
  apply List.map_congr_left
  intro j _
  show ((i + j / 512 + 1 : Nat) : Int) = (((512 * i + j) / 512 + 1 : Nat) : Int)
  congr 1
  omega
theorem lrg_get {i j : Nat} (h : j < 512 * i) : (lrg i)[j]? = some ((j / 512 + 1 : Nat) : Int) := by
  unfold lrg
  rw [List.getElem?_map, List.getElem?_range h]
  rfl
theorem lrgP_by {i z : Nat} (h : i + z / 512 + 1 < 256) : IsBy (lrgP i z) := by
  intro y hy
  unfold lrgP at hy
  obtain ⟨j, hj, rfl⟩ := List.mem_map.1 hy
  rw [List.mem_range] at hj
  have : j / 512 ≤ z / 512 := Nat.div_le_div_right (by omega)
  omega
/-- z bytes, the first j filled. -/
def fil (i z j : Nat) : List Int := lrgP i j ++ zeros (z - j)
theorem fil_zero (i z : Nat) : fil i z 0 = zeros z := by unfold fil lrgP; simp
theorem fil_all (i z : Nat) : fil i z z = lrgP i z := by unfold fil; rw [Nat.sub_self]; simp [zeros]
theorem fil_len {i z j : Nat} (h : j ≤ z) : (fil i z j).length = z := by unfold fil; rw [List.length_append, lrgP_len, zeros_len]; omega
theorem fil_set {i z j : Nat} (h : j < z) : (fil i z j).set j ((i + j / 512 + 1 : Nat) : Int) = fil i z (j + 1) := by
  unfold fil
  rw [List.set_append_right _ _ (by rw [lrgP_len]; exact Nat.le_refl _), lrgP_len, Nat.sub_self]
  have e : zeros (z - j) = 0 :: zeros (z - (j + 1)) := by
    unfold zeros
    rw [show z - j = (z - (j + 1)) + 1 by omega, List.replicate_succ]
  rw [e, List.set_cons_zero]
  unfold lrgP
  rw [List.range_succ, List.map_append]
  simp
/-- Two bytes over a block's edge, or the last one. -/
theorem lrg_two {n i : Nat} (h : i < n) : ((lrg n).drop (512 * i + 511)).take 2 = if i + 1 < n then [((i + 1 : Nat) : Int), ((i + 2 : Nat) : Int)] else [((i + 1 : Nat) : Int)] := by
  have g1 := lrg_get (i := n) (j := 512 * i + 511) (by omega)
  rw [show (512 * i + 511) / 512 + 1 = i + 1 by omega] at g1
  have hl := lrg_len n
  have e1 : (lrg n).drop (512 * i + 511) = ((i + 1 : Nat) : Int) :: (lrg n).drop (512 * i + 511 + 1) := by
    rw [List.drop_eq_getElem_cons (by omega)]
    congr 1
    have := List.getElem?_eq_getElem (l := lrg n) (i := 512 * i + 511) (by omega)
    rw [this] at g1
    exact Option.some.inj g1
  rw [e1]
  split
  · rename_i h2
    have g2 := lrg_get (i := n) (j := 512 * i + 511 + 1) (by omega)
    rw [show (512 * i + 511 + 1) / 512 + 1 = i + 2 by omega] at g2
    rw [List.drop_eq_getElem_cons (by omega)]
    have := List.getElem?_eq_getElem (l := lrg n) (i := 512 * i + 511 + 1) (by omega)
    rw [this] at g2
    rw [Option.some.inj g2]
    rfl
  · rw [List.drop_eq_nil_of_le (by omega)]
    rfl
theorem makeNd (z : Nat) (hz : z ≤ 16777216) : ∃ o : Obj, (∀ w : World, (Instr.makeSlice 33 (.int .i64 (z : Int)) (.int .i64 (z : Int))).run Tryz.prog w = .ok (.slice (some ⟨w.heap.size, 0, none⟩) z z) (w.alloc o)) ∧ ∀ (w : World) (g : Nat), w.heap[g]? = some o → Mp w g (.slice (some ⟨g, 0, none⟩) z z) (zeros z) := by
  obtain ⟨i0, hi, hz0, hz1, hz2⟩ := info5_parts
  refine ⟨.cells (madeCells (Value.int .u8 0).cells (z * 1)) 5, fun w => ?_, fun w g hg => ?_⟩
  · have := run_make (P := Tryz.prog) w 33 5 i0 (.int .u8 0) Tryz.underlying33 hi hz0 .i64 .i64 (z : Int) (z : Int) (by omega) (by omega) (by rw [hz2]; omega) (by omega)
    rw [hz1] at this
    exact this
  · refine .inr ⟨z, _, _, by rw [zeros_len], hg, by rw [zeros_len]; exact Nat.le_refl _, by unfold maxLen; omega, fun j hj => ?_⟩
    rw [← Array.getElem?_toList, made_bytes]
    exact bcells_nth hj
theorem Mp.cells {w : World} {g z c : Nat} {xs : List Int} (h : Mp w g (.slice (some ⟨g, 0, none⟩) z c) xs) {j : Nat} (hj : j < xs.length) : w.cell? ⟨g, j, none⟩ = some (.int .u8 (xs.getD j 0)) ∧ w.frozen? ⟨g, j, none⟩ = false := by
  rcases h with ⟨e, _⟩ | ⟨c', cur, ty, e, hb, hl, hm, hcc⟩
  · cases e
  · exact ⟨by rw [cell_of_row _ _ _ _ _ _ hb]; exact hcc j hj, frozen_of_row _ _ _ _ _ hb⟩
end Go.Proofs.YtnnaemlipahamaaGreat

namespace Go.Proofs.YtnnaemlipahamaaGreat
open Go.RowKit Go.Maps

theorem numsK_len : ∀ m, m + (nums m).length = allM m
  | 0 => rfl
  | i + 1 => by
    have h := begunK_last i
    have h2 := begunK_len i
    have ih := numsK_len i
    rw [nums, List.length_append, List.length_dropLast]
    omega
theorem usedK_len (m : Nat) : (usedK m).length = allM m := by
  have := numsK_len m
  unfold usedK
  rw [List.length_append, List.length_map, List.length_range]
  omega
/-- Between two transactions: i blocks are written. -/
structure LgZ (p : Pm) (X : Nat → Prop) (U : Nat → Bool) (rx i c : Nat) (nd : Nd) (w : World) : Prop where
  st : ∃ s : Fm, Btw p X s U c w ∧ s.b0 = lrg i ∧ s.b1 = [] ∧ s.n0 = nd
  nd : NdB 29 w rx nd
  rx : X rx ∧ p.w0.heap.size ≤ rx ∧ rx ≠ p.bb ∧ rx ≠ p.pr ∧ rx ≠ p.g
  n : p.n = 200
/-- .. in one. -/
structure LgT (p : Pm) (X : Nat → Prop) (U : Nat → Bool) (rx i c q : Nat) (nd : Nd) (w : World) : Prop where
  st : ∃ s : Fm, Bgn p X s U c q w ∧ s.b0 = lrg i ∧ s.b1 = [] ∧ s.n0 = nd
  nd : NdB 29 w rx nd
  rx : X rx ∧ p.w0.heap.size ≤ rx ∧ rx ≠ p.bb ∧ rx ≠ p.pr ∧ rx ≠ p.g
  n : p.n = 200
/-- .. with the node in a box r. -/
structure LgC (p : Pm) (X : Nat → Prop) (U : Nat → Bool) (rx c q : Nat) (bs : List Int) (nd nd' : Nd) (r : Nat) (w : World) : Prop where
  st : ∃ (s : Fm) (L : List Nat), Inx p L (fun k => X k ∨ k = r) s U c q w ∧ 0 ∈ L ∧ s.b0 = bs ∧ s.b1 = [] ∧ s.n0 = nd'
  nd : NdB 29 w rx nd
  rx : X rx ∧ p.w0.heap.size ≤ rx ∧ rx ≠ p.bb ∧ rx ≠ p.pr ∧ rx ≠ p.g
  n : p.n = 200
  bx : X p.bb ∧ X p.pr ∧ X p.g ∧ ∀ b, b < p.w0.heap.size → X b
section
variable {p : Pm} {X : Nat → Prop} {U : Nat → Bool} {rx i c q r : Nat} {nd nd' : Nd} {bs : List Int} {w w' w3 wb : World}
theorem bb_cells {pl pr g n bb : Nat} {w0 : World} (h : Bz X w0 bb pl pr g n U w) : w.cell? ⟨bb, 0, none⟩ = some (.pointer (some ⟨pl, 0, none⟩)) ∧ w.cell? ⟨bb, 1, none⟩ = some (.int .i64 0) ∧ w.cell? ⟨bb, 2, none⟩ = some (.int .i64 1) ∧ w.cell? ⟨bb, 3, none⟩ = some (.int .i64 (n : Int)) ∧ w.cell? ⟨bb, 4, none⟩ = some (.pointer (some ⟨pr, 0, none⟩)) ∧ bb < w.heap.size := by
  have hb := h.bx
  refine ⟨?_, ?_, ?_, ?_, ?_, lt_of_block hb⟩ <;> (rw [cell_of_row _ _ _ _ _ _ hb]; rfl)
theorem LgZ.bz (h : LgZ p X U rx i c nd w) : Bz X p.w0 p.bb p.pl p.pr p.g p.n U w := by
  obtain ⟨s, h1, _⟩ := h.st
  exact h1.bz
theorem LgT.bz (h : LgT p X U rx i c q nd w) : Bz X p.w0 p.bb p.pl p.pr p.g p.n U w := by
  obtain ⟨s, h1, _⟩ := h.st
  exact h1.bz
theorem LgT.chg (h : LgT p X U rx i c q nd w) : Chg (fun _ => False) p.w0 w := by
  obtain ⟨s, h1, _⟩ := h.st
  exact h1.chg
theorem LgT.more (h : LgT p X U rx i c q nd w) (hc : Chg (fun _ => False) w w') : LgT p X U rx i c q nd w' := by
  obtain ⟨s, h1, h2⟩ := h.st
  exact ⟨⟨s, h1.more hc, h2⟩, h.nd.kept hc (fun h => h), h.rx, h.n⟩
theorem LgZ.begin (h : LgZ p X U rx i c nd w) (hc : c ≤ 1000) :
    Calls Tryz.prog 9 #[.pointer (some ⟨p.pl, 0, none⟩)] w fun e w' => ∃ q, e = .returned (.tuple #[.pointer (some ⟨q, 0, none⟩), .int .i64 0]) ∧ LgT p X U rx i c q nd w' := by
  obtain ⟨s, h1, h2⟩ := h.st
  refine (btw_begin h1 hc).mono ?_
  rintro e w' ⟨q, rfl, hb, hs⟩
  exact ⟨q, rfl, ⟨s, hb, h2⟩, (hs _ h.rx.1).trans h.nd, h.rx, h.n⟩
theorem lrgM (i : Nat) : blkC (512 * i) = i := by unfold blkC; omega
theorem LgT.append (k : Nat) (u : Value) (h : LgT p X U rx i c q nd w3) (hk : k ≤ 8) (hik : i + k ≤ 152) (hc : Chg (fun _ => False) w3 wb) (hb : Bs wb u (lrgP i (512 * k))) (hub : ∀ g, u.ownBlock = some g → w3.heap.size ≤ g ∧ g < wb.heap.size) :
    Calls Tryz.prog 15 #[.pointer (some ⟨q, 0, none⟩), PV 0 1 (200 : Nat), nd.v, u] wb fun e w5 => ∃ nd', e = .returned (.tuple #[nd'.v, .int .i64 0]) ∧ Sm X w3 w5 ∧ Ret w3 wb w5 (fun r w6 => LgC p X U rx c q (lrg (i + k)) nd nd' r w6) := by
  obtain ⟨s, h1, e0, e1, rfl⟩ := h.st
  have hn := h.n
  have l0 : s.b0.length = 512 * i := by rw [e0, lrg_len]
  have l1 : (lrgP i (512 * k)).length = 512 * k := lrgP_len _ _
  have m0 : blkC s.b0.length = i := by rw [l0, lrgM]
  have m1 : blkC (s.b0.length + (lrgP i (512 * k)).length) = i + k := by rw [l0, l1, ← Nat.mul_add, lrgM]
  have hL := appL_len p.n s.T s.B0 i (i + k) (by omega)
  have hst := allM_step (a := i) (b := i + k) (j := k) (by omega) (by omega)
  have h2 : Inx p (0 :: appL p.n s.T s.B0 i (i + k)) X s U c q w3 := h1.on (by rw [List.length_cons]; omega)
  have ha : allM (i + k) ≤ 200 := by
    unfold allM innM
    repeat' split
    all_goals omega
  rw [← hn]
  refine (in_box u h2 hc (List.mem_cons_self ..) hb (fun g hg _ => .inr (hub g hg)) (lrgP_by (by omega)) (by omega) (by rw [m1, e1, hn]; simpa [allM, innM, blkC] using ha) (fun x hx => ?_)).mono ?_
  · rw [m0, m1] at hx
    exact List.mem_cons_of_mem _ hx
  · rintro e w5 ⟨x, rfl, hr, hs5, _⟩
    have bz := h1.bz
    have fin : ∀ r w6, Inx p (0 :: appL p.n s.T s.B0 i (i + k)) (fun k => X k ∨ k = r) (s.app p.n (lrgP i (512 * k)) x) U c q w6 ∧ Sm X w3 w6 → LgC p X U rx c q (lrg (i + k)) s.n0 x r w6 := fun r w6 h6 =>
      ⟨⟨_, _, h6.1, List.mem_cons_self .., by show s.b0 ++ _ = _; rw [e0, lrg_app], e1, rfl⟩, (h6.2 _ h.rx.1).trans h.nd, h.rx, hn, bz.x.1, bz.x.2.1, bz.x.2.2.1, bz.old⟩
    exact ⟨x, rfl, hs5, hr.keep, fun w6 r a b c => fin r w6 (hr.old w6 r a b c), fun w6 r a b c => fin r w6 (hr.new w6 r a b c)⟩
theorem LgC.commit (h : LgC p X U rx c q (lrg i) nd nd' r w) (hr : NdB 29 w r nd') (hc : c ≤ 1000) :
    Calls Tryz.prog 14 #[.pointer (some ⟨q, 0, none⟩)] w fun e w7 => e = .returned (.int .i64 0) ∧ NdB 29 w7 r nd' ∧ NdB 29 w7 rx nd ∧ Hid (∀ w8, Chg (fun k => k = rx) w7 w8 → NdB 29 w8 rx nd' → LgZ p X U rx i (c + 1) nd' w8) := by
  obtain ⟨s, L, h1, h0, h2, h3, h4⟩ := h.st
  refine (in_commit h1 hc).mono ?_
  rintro e w7 ⟨rfl, hb, hs⟩
  refine ⟨rfl, (hs _ (.inr rfl)).trans hr, (hs _ (.inl h.rx.1)).trans h.nd, fun w8 c8 hn8 => ?_⟩
  have hb8 := hb.put (.inl h.rx.1) h.rx.2.1 h.rx.2.2 c8
  exact ⟨⟨s, hb8.less (fun _ h => .inl h) ⟨h.bx.1, h.bx.2.1, h.bx.2.2.1⟩ h.bx.2.2.2, h2, h3, h4⟩, hn8, h.rx, h.n⟩
theorem LgT.read (j : Nat) (h : LgT p X U rx i c q nd w) (hj : j < i) (hi : i ≤ 152) :
    Calls Tryz.prog 16 #[tI q, nd.v, .int .i64 (512 * (j : Int) + 511), .int .i64 2] w fun e w' => ∃ g cu, e = .returned (.tuple #[.slice (some ⟨g, 0, none⟩) (if j + 1 < i then 2 else 1) cu, .int .i64 0]) ∧ w'.cell? ⟨g, 0, none⟩ = some (.int .u8 ((j : Int) + 1)) ∧ (j + 1 < i → w'.cell? ⟨g, 1, none⟩ = some (.int .u8 ((j : Int) + 2))) ∧ Hid (LgT p X U rx i c q nd w') := by
  obtain ⟨s, h1, e0, e1, rfl⟩ := h.st
  have h2 : Inx p [0] X s U c q w := h1.on (by simp)
  have HA := in_read (512 * j + 511) 2 h2 (by simp) (by omega) (by omega)
  rw [show ((512 * j + 511 : Nat) : Int) = 512 * (j : Int) + 511 by omega] at HA
  refine HA.mono ?_
  rintro e w' ⟨u, rfl, hu⟩
  rw [e0, lrg_two hj] at hu
  have ho := hu.own
  have hm := h.more hu.chg
  have key : ∀ xs : List Int, w'.ownsRow w.heap.size 5 1 u xs.length (bcells xs) → 0 < xs.length → ∃ g cu, u = .slice (some ⟨g, 0, none⟩) xs.length cu ∧ ∀ k, k < xs.length → w'.cell? ⟨g, k, none⟩ = some (.int .u8 (xs.getD k 0)) := fun xs ho h0 => by
    rcases ho.2 with ⟨_, h'⟩ | ⟨g, cap, cur, e, hb, hg, hnc, hcm, hcs, htake⟩
    · omega
    · subst e
      refine ⟨g, cap, rfl, fun k hk => ?_⟩
      have := ho.cells (g := g) rfl k (.int .u8 (xs.getD k 0)) (by simp [bcells, hk])
      simpa [Addr.add_lit] using this
  by_cases hc : j + 1 < i
  · rw [if_pos hc] at ho
    obtain ⟨g, cu, rfl, hcell⟩ := key _ ho (by simp)
    refine ⟨g, cu, by rw [if_pos hc]; rfl, by simpa using hcell 0 (by simp), fun _ => by simpa using hcell 1 (by simp), hm⟩
  · rw [if_neg hc] at ho
    obtain ⟨g, cu, rfl, hcell⟩ := key _ ho (by simp)
    refine ⟨g, cu, by rw [if_neg hc]; rfl, by simpa using hcell 0 (by simp), fun h => absurd h hc, hm⟩
theorem LgT.sz (h : LgT p X U rx i c q nd w) : nd.sz = 512 * (i : Int) := by
  obtain ⟨s, h1, e0, e1, rfl⟩ := h.st
  have := h1.sz.1
  rw [e0, lrg_len] at this
  rw [this]; omega
theorem LgT.free (h : LgT p X U rx i c q nd w) :
    Calls Tryz.prog 11 #[PV 0 1 (200 : Nat), .pointer (some ⟨q, 0, none⟩)] w fun e w' => e = .returned (.tuple #[.int .i64 ((200 - allM i : Nat) : Int), .int .i64 0]) ∧ LgT p X U rx i c q nd w' := by
  obtain ⟨s, h1, e0, e1, rfl⟩ := h.st
  have h2 : Inx p [0] X s U c q w := h1.on (by simp)
  have hc := h2.cnt.1
  have HA := in_free h2 (by simp)
  rw [hc, e0, e1, lrg_len, lrgM, h.n] at HA
  refine HA.mono ?_
  rintro e w' ⟨rfl, hc⟩
  exact ⟨by simp [allM, innM, blkC], h.more hc⟩
theorem LgT.used (h : LgT p X U rx i c q nd w) :
    Calls Tryz.prog 20 #[tI q, nd.v] w fun e w' => ∃ a cu, e = .returned (.tuple #[.slice a (allM i) cu, .int .i64 0]) ∧ LgT p X U rx i c q nd w' := by
  obtain ⟨s, h1, e0, e1, rfl⟩ := h.st
  have h2 : Inx p [0] X s U c q w := h1.on (by simp)
  have HA := in_used h2 (by simp)
  refine HA.mono ?_
  rintro e w' ⟨u, rfl, hu, hc⟩
  have hl : ((usedK (blkC s.b0.length)).map s.B0).length = allM i := by rw [List.length_map, usedK_len, e0, lrg_len, lrgM]
  obtain ⟨a, cu, rfl⟩ : ∃ a cu, u = .slice a (allM i) cu := by
    rcases hu.2 with ⟨e, h0⟩ | ⟨g, cap, cur, e, _⟩
    · refine ⟨none, 0, ?_⟩
      have : (((usedK (blkC s.b0.length)).map s.B0).length) = 0 := by simpa using h0
      rw [e, ← hl, this]
    · exact ⟨_, cap, by rw [e, hl]⟩
  exact ⟨a, cu, rfl, h.more hc⟩
theorem LgT.cut (z : Nat) (h : LgT p X U rx i c q nd w3) (hz : z ≤ 512 * i) (_hi : i ≤ 152) (hc : Chg (fun _ => False) w3 wb) :
    Calls Tryz.prog 18 #[.pointer (some ⟨q, 0, none⟩), PV 0 1 (200 : Nat), nd.v, .int .i64 (z : Int)] wb fun e w5 => ∃ nd', e = .returned (.tuple #[nd'.v, .int .i64 0]) ∧ nd'.sz = (z : Int) ∧ Sm X w3 w5 ∧ Ret w3 wb w5 (fun r w6 => LgC p X U rx c q ((lrg i).take z) nd nd' r w6) := by
  obtain ⟨s, h1, e0, e1, rfl⟩ := h.st
  have hn := h.n
  have h2 : Inx p (0 :: cutL s.B0 (blkC z)) X s U c q w3 := h1.on (by simp [cutL])
  have l0 : s.b0.length = 512 * i := by rw [e0, lrg_len]
  rw [← hn]
  refine (cut_box z h2 hc (List.mem_cons_self ..) (by omega) (by omega) (fun x hx => List.mem_cons_of_mem _ hx)).mono ?_
  rintro e w5 ⟨x, rfl, hr, hs5, _⟩
  have bz := h1.bz
  have hsz : x.sz = (z : Int) := by
    have := (hr.new (w5.alloc (Nd.no.o 29)) w5.heap.size (Nat.le_refl _) (by simp) (Chg.alloc _ _ _)).1.sz.1
    have h3 : x.sz = ((s.b0.take z).length : Int) := this
    rw [h3, List.length_take]
    omega
  have fin : ∀ r w6, Inx p (0 :: cutL s.B0 (blkC z)) (fun k => X k ∨ k = r) (s.cut z x) U c q w6 ∧ Sm X w3 w6 → LgC p X U rx c q ((lrg i).take z) s.n0 x r w6 := fun r w6 h6 =>
    ⟨⟨_, _, h6.1, List.mem_cons_self .., by show s.b0.take z = _; rw [e0], e1, rfl⟩, (h6.2 _ h.rx.1).trans h.nd, h.rx, hn, bz.x.1, bz.x.2.1, bz.x.2.2.1, bz.old⟩
  exact ⟨x, rfl, hsz, hs5, hr.keep, fun w6 r a b c => fin r w6 (hr.old w6 r a b c), fun w6 r a b c => fin r w6 (hr.new w6 r a b c)⟩
theorem LgC.free {z : Nat} (h : LgC p X U rx c q ((lrg i).take z) nd nd' r w) (hz : z ≤ 512 * i) (hr : NdB 29 w r nd') (hw : p.w0 = w3) :
    Calls Tryz.prog 11 #[PV 0 1 (200 : Nat), .pointer (some ⟨q, 0, none⟩)] w fun e w' => e = .returned (.tuple #[.int .i64 ((200 - allM (blkC z) : Nat) : Int), .int .i64 0]) ∧ w'.cell? ⟨r, 2, none⟩ = some (.int .i64 nd'.sz) ∧ Hid (Chg (fun _ => False) w3 w') := by
  obtain ⟨s, L, h2, h0, e0, e1, rfl⟩ := h.st
  have hc := h2.cnt.1
  have HA := in_free h2 h0
  have hl : s.b0.length = z := by rw [e0, List.length_take, lrg_len]; omega
  rw [hc, hl, e1, h.n] at HA
  refine HA.mono ?_
  rintro e w' ⟨rfl, hc⟩
  have hcw := h2.chg.trans hc (fun _ _ h => h)
  rw [hw] at hcw
  exact ⟨by simp [allM, innM, blkC], (hr.kept hc (fun h => h)).at.c2, hcw⟩
end
end Go.Proofs.YtnnaemlipahamaaGreat

namespace Go.Proofs.YtnnaemlipahamaaGreat
open Go.RowKit Go.Maps

/-- One file, whose blocks are the first ones. -/
structure Fm.Pre (s : Fm) : Prop where
  one : s.b1 = []
  pre : ∀ j, s.T j = decide (j < allM (blkC s.b0.length))
  low : ∀ k, s.B0 k < 63
theorem Fm.Pre.none (x y : Nd) : (Fm.none x y).Pre := ⟨rfl, fun j => by simp [Fm.none, allM, innM, blkC], fun k => by simp [Fm.none]⟩
theorem Fm.Pre.app {s : Fm} (h : s.Pre) {n : Nat} {b : List Int} (x : Nd) (hn : allM (blkC (s.b0.length + b.length)) ≤ n) (h62 : allM (blkC (s.b0.length + b.length)) ≤ 62) : (s.app n b x).Pre := by
  have hle : blkC s.b0.length ≤ blkC (s.b0.length + b.length) := by unfold blkC; omega
  have hkl := keysTo_len (blkC s.b0.length) (blkC (s.b0.length + b.length) - blkC s.b0.length)
  rw [show blkC s.b0.length + (blkC (s.b0.length + b.length) - blkC s.b0.length) = blkC (s.b0.length + b.length) by omega] at hkl
  have hg := grw_pre 1 n (keysTo (blkC s.b0.length) (blkC (s.b0.length + b.length) - blkC s.b0.length)) (s.T, s.B0) _ h.pre (by omega)
  rw [hkl] at hg
  refine ⟨h.one, fun j => ?_, fun k => ?_⟩
  · show (grw 1 n (s.T, s.B0) _).1 j = decide (j < allM (blkC (s.b0 ++ b).length))
    rw [List.length_append]
    exact hg.1 j
  · show (grw 1 n (s.T, s.B0) _).2 k < 63
    by_cases hm : k ∈ keysTo (blkC s.b0.length) (blkC (s.b0.length + b.length) - blkC s.b0.length)
    · have := hg.2 k hm; omega
    · rw [grw_other _ _ _ _ _ hm]; exact h.low k
theorem Fm.Pre.put {s : Fm} (h : s.Pre) {off : Nat} {b : List Int} (hl : off + b.length ≤ s.b0.length) : (s.put off b).Pre := by
  refine ⟨h.one, fun j => ?_, h.low⟩
  show s.T j = decide (j < allM (blkC (splice s.b0 off b).length))
  rw [splice_len hl]
  exact h.pre j
section
variable {p : Pm} {K X : Nat → Prop} {s : Fm} {U : Nat → Bool} {q : Nat} {w w3 wb : World} {b : List Int}
theorem zero_63 : 0 ∈ List.range 63 := by rw [List.mem_range]; omega
theorem rd_box (u : Value) (h : Inx p (List.range 63) X s U 1 q w3) (hp : s.Pre) (hn : p.n = 120) (hc : Chg (fun _ => False) w3 wb) (hb : Bs wb u b) (hub : ∀ g, u.ownBlock = some g → 0 < b.length → X g) (hby : IsBy b) (hl : s.b0.length + b.length ≤ 18000) :
    Calls Tryz.prog 15 #[.pointer (some ⟨q, 0, none⟩), PV 0 1 (120 : Nat), s.n0.v, u] wb fun e w5 => ∃ x, e = .returned (.tuple #[x.v, .int .i64 0]) ∧ Sm X w3 w5 ∧ Hid (Ret w3 wb w5 (fun r w6 => ∃ s', Inx p (List.range 63) (fun k => X k ∨ k = r) s' U 1 q w6 ∧ s'.Pre ∧ s'.b0 = s.b0 ++ b ∧ s'.n0 = x ∧ Sm X w3 w6)) := by
  have hA : allM (blkC (s.b0.length + b.length)) ≤ 38 := by
    have : blkC (s.b0.length + b.length) ≤ 36 := by unfold blkC; omega
    unfold allM innM
    repeat' split
    all_goals omega
  have hpa := fun x => hp.app (n := 120) (b := b) x (by omega) (by omega)
  rw [← hn] at hpa
  have hL : ∀ y, y ∈ appL p.n s.T s.B0 (blkC s.b0.length) (blkC (s.b0.length + b.length)) → y ∈ List.range 63 := fun y hy => by
    rw [List.mem_range]
    unfold appL at hy
    rcases List.mem_append.1 hy with hy | hy
    · simp at hy
      rcases hy with rfl | rfl | rfl | rfl <;> exact hp.low _
    · obtain ⟨k, _, rfl⟩ := List.mem_map.1 hy
      exact (hpa Nd.no).low k
  rw [← hn]
  refine (in_box u h hc zero_63 hb (fun g hg h0 => .inl (hub g hg h0)) hby (by omega) (by rw [hp.one, hn]; simp [allM, innM, blkC] at hA ⊢; omega) hL).mono ?_
  rintro e w5 ⟨x, rfl, hr, hs5, _⟩
  refine ⟨x, rfl, hs5, hr.keep, fun w6 r a b' c => ?_, fun w6 r a b' c => ?_⟩
  · have := hr.old w6 r a b' c
    exact ⟨_, this.1, hpa x, rfl, rfl, this.2⟩
  · have := hr.new w6 r a b' c
    exact ⟨_, this.1, hpa x, rfl, rfl, this.2⟩
theorem rd_put (off : Nat) (u : Value) (h : Inx p (List.range 63) X s U 1 q w) (hp : s.Pre) (hz : off + b.length ≤ s.b0.length) (hb : Bs w u b) (hub : ∀ g, u.ownBlock = some g → 0 < b.length → X g) (hby : IsBy b) :
    Calls Tryz.prog 17 #[.pointer (some ⟨q, 0, none⟩), s.n0.v, .int .i64 (off : Int), u] w fun e w' => e = .returned (.int .i64 0) ∧ Hid (∃ s', Inx p (List.range 63) X s' U 1 q w' ∧ s'.Pre ∧ s'.b0 = splice s.b0 off b ∧ s'.n0 = s.n0 ∧ Sm X w w') := by
  refine (in_put off u h zero_63 hz hb hub hby (fun i _ _ => by rw [List.mem_range]; exact hp.low _)).mono ?_
  rintro e w' ⟨rfl, hi, hs⟩
  exact ⟨rfl, _, hi, hp.put hz, rfl, rfl, hs⟩
theorem rd_cut (z : Nat) (h : Inx p (List.range 63) X s U 1 q w3) (hp : s.Pre) (hn : p.n = 120) (hz : z ≤ s.b0.length) (hc : Chg (fun _ => False) w3 wb) :
    Calls Tryz.prog 18 #[.pointer (some ⟨q, 0, none⟩), PV 0 1 (120 : Nat), s.n0.v, .int .i64 (z : Int)] wb fun e w5 => ∃ x, e = .returned (.tuple #[x.v, .int .i64 0]) ∧ x.sz = (z : Int) ∧ Sm X w3 w5 ∧ Hid (Ret w3 wb w5 (fun r w6 => ∃ s', Inx p (List.range 63) (fun k => X k ∨ k = r) s' U 1 q w6 ∧ s'.b0 = s.b0.take z ∧ s'.n0 = x ∧ Sm X w3 w6)) := by
  rw [← hn]
  refine (cut_box z h hc zero_63 hz (by omega) (fun y hy => ?_)).mono ?_
  · rw [List.mem_range]
    unfold cutL at hy
    simp at hy
    rcases hy with rfl | rfl | rfl | rfl <;> exact hp.low _
  rintro e w5 ⟨x, rfl, hr, hs5, _⟩
  have hsz : x.sz = (z : Int) := by
    have := (hr.new (w5.alloc (Nd.no.o 29)) w5.heap.size (Nat.le_refl _) (by simp) (Chg.alloc _ _ _)).1.sz.1
    have h3 : x.sz = ((s.b0.take z).length : Int) := this
    rw [h3, List.length_take]
    omega
  refine ⟨x, rfl, hsz, hs5, hr.keep, fun w6 r a b' c => ?_, fun w6 r a b' c => ?_⟩
  · have := hr.old w6 r a b' c
    exact ⟨_, this.1, rfl, rfl, this.2⟩
  · have := hr.new w6 r a b' c
    exact ⟨_, this.1, rfl, rfl, this.2⟩
end
end Go.Proofs.YtnnaemlipahamaaGreat

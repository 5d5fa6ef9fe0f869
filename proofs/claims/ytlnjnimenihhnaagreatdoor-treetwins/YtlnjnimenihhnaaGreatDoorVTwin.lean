/-
  The document's tree: New, find, Stat, Read, List.
-/
import Derived.Test.YtlnjnimenihhnaaGreatDoorVDoAny
import Derived.Test.YtlnjnimenihhnaaGreatDoorTFew
import Derived.BigRegion
namespace Go.Proofs.YtlnjnimenihhnaaGreatDoor
open Go.RowKit Go.Maps

abbrev inOR (d : Bool) (s k : Int) : Obj := .cells #[.bool d, .int .i64 s, .int .i64 k] 88
def InR (w : World) (b : Nat) (u0 u1 u2 : Value) : Prop := w.heap[b]? = some (.cells #[u0, u1, u2] 88 (0, 0))
theorem InR.c {w : World} {b : Nat} {u0 u1 u2 : Value} (h : InR w b u0 u1 u2) : w.cell? ⟨b, 0, none⟩ = some u0 ∧ w.cell? ⟨b, 1, none⟩ = some u1 ∧ w.cell? ⟨b, 2, none⟩ = some u2 := by
  unfold InR at h
  refine ⟨?_, ?_, ?_⟩ <;> · rw [cell_of_row _ _ _ _ _ _ h]; rfl
theorem InR.fr {w : World} {b : Nat} {u0 u1 u2 : Value} (h : InR w b u0 u1 u2) (j : Nat) : w.frozen? ⟨b, j, none⟩ = false := by
  unfold InR at h
  simp [World.frozen?, h]
theorem InR.kept {S : Nat → Prop} {w w' : World} {b : Nat} {u0 u1 u2 : Value} (h : InR w b u0 u1 u2) (hc : Chg S w w') (hn : ¬ S b) : InR w' b u0 u1 u2 := (hc.block b (World.block_lt_of_cell? w ⟨b, 0, none⟩ h.c.1) hn).trans h
theorem InR.put {w : World} {b : Nat} {u0 u1 u2 : Value} (h : InR w b u0 u1 u2) (v0 v1 v2 : Value) : InR ((((w.setCell ⟨b, 0, none⟩ v0).setCell ⟨b, 1, none⟩ v1).setCell ⟨b, 2, none⟩ v2)) b v0 v1 v2 ∧ Chg (fun k => k = b) w ((((w.setCell ⟨b, 0, none⟩ v0).setCell ⟨b, 1, none⟩ v1).setCell ⟨b, 2, none⟩ v2)) := by
  have g0 := heap_setCell_same w b 0 _ _ v0 h
  have g1 := heap_setCell_same _ b 1 _ _ v1 g0
  have g2 := heap_setCell_same _ b 2 _ _ v2 g1
  refine ⟨?_, ((Chg.setCell (S := fun k => k = b) w ⟨b, 0, none⟩ v0 rfl).trans (Chg.setCell (S := fun k => k = b) _ ⟨b, 1, none⟩ v1 rfl) (fun _ _ h => h)).trans (Chg.setCell (S := fun k => k = b) _ ⟨b, 2, none⟩ v2 rfl) (fun _ _ h => h)⟩
  unfold InR
  rw [g2]
  rfl
theorem InR.alloc (w : World) (d : Bool) (s k : Int) : InR (w.alloc (inOR d s k)) w.heap.size (.bool d) (.int .i64 s) (.int .i64 k) := heap_alloc_new w _
def fdN (T : Ts) (num : Pth → Nat) (s : ByteArray) : Nat := if thE T.F s = 0 then num (spN s) else 0
theorem thE_split {F : Pth → Option Nd} {s : ByteArray} (h : thE F s = 0) : spE s = 0 := by
  unfold thE fiE at h
  by_cases h0 : spE s = 0
  · exact h0
  · rw [if_neg h0, if_neg h0] at h
    exact absurd h h0
section
variable {T : Ts} {R : Rs} {num : Pth → Nat} {K r q : Nat} {G : Nat → Prop} {w : World}
set_option maxHeartbeats 3200000 in
set_option maxRecDepth 100000 in
theorem rinfo_file {m : Nat} {bs : List Int} (hm : R.at m = .file bs) (h : Rt w r q G R) :
    Calls Tryz.prog 75 #[ptr r, .int .i64 (m : Nat)] w fun e w' => e = .returned (inV false bs.length 0) ∧ Below w.heap.size w w' := by
  have A0 := below_alloc w (inOR false 0 0)
  have I0 := InR.alloc w false 0 0
  obtain ⟨wa, hwa⟩ : ∃ wa, Hid (w.alloc (inOR false 0 0) = wa) := ⟨_, rfl⟩
  rw [hwa.out] at A0 I0
  obtain ⟨hml, cc, a1, d1, cL, c0, c1, c2, c3, _, _, _, _⟩ := (h.below A0).fileAt hm
  have q2 : (m : Int) < R.L.length := by omega
  obtain ⟨dz0, dz1, dz2⟩ := I0.c
  have fr := I0.fr
  have HA : Hid (Below w.heap.size w wa ∧ InR wa w.heap.size (.bool false) (.int .i64 0) (.int .i64 0)) := ⟨A0, I0⟩
  clear A0 I0 h
  go_enter Tryz.func75, Tryz.ntmps75
  go_upto_region 1 with fail
  rw [hwa.out]
  go_wp2_with fail
  obtain ⟨s1, s2⟩ := HA.out.2.put (.bool false) (.int .i64 bs.length) (.int .i64 0)
  try simp only [Exit.inBlock, Exit.then]
  generalize World.setCell _ ⟨w.heap.size, 2, none⟩ _ = w9 at *
  obtain ⟨e0, e1, e2⟩ := s1.c
  refine bodyPost_ret (v := inV false bs.length 0) ?_ rfl ?_
  · simp [results, Tryz.results75, go_sem, e0, e1, e2]
  · exact ⟨rfl, HA.out.1.trans (s2.below HA.out.1.size (fun k hk => by rw [hk]; exact Nat.le_refl _))⟩
set_option maxHeartbeats 3200000 in
set_option maxRecDepth 100000 in
theorem rinfo_dir {m : Nat} {es : List En} (hm : R.at m = .dir es) (hel : es.length ≤ 1000000) (h : Rt w r q G R) :
    Calls Tryz.prog 75 #[ptr r, .int .i64 (m : Nat)] w fun e w' => e = .returned (inV true 0 (namesL es).length) ∧ Below w.heap.size w w' := by
  have A0 := below_alloc w (inOR false 0 0)
  have I0 := InR.alloc w false 0 0
  obtain ⟨wa, hwa⟩ : ∃ wa, Hid (w.alloc (inOR false 0 0) = wa) := ⟨_, rfl⟩
  rw [hwa.out] at A0 I0
  obtain ⟨hml, cc, a1, d1, cL, c0, c1, c2, c3, hE, _, _⟩ := (h.below A0).dirAt hm
  have q2 : (m : Int) < R.L.length := by omega
  obtain ⟨dz0, dz1, dz2⟩ := I0.c
  have fr := I0.fr
  have HA : Hid (Below w.heap.size w wa ∧ InR wa w.heap.size (.bool false) (.int .i64 0) (.int .i64 0)) := ⟨A0, I0⟩
  have HN : Hid (Calls Tryz.prog 66 #[.slice a1 es.length d1] wa fun e w' => ∃ a c, e = .returned (.slice a (namesL es).length c) ∧ Below wa.heap.size wa w') := (rnames_any _ es wa hE (by omega)).mono (by
    rintro e w' ⟨u, rfl, ho, hb⟩
    obtain ⟨a, c, rfl⟩ := own_sl1 ho
    exact ⟨a, c, rfl, hb⟩)
  clear A0 I0 h hE dz0 dz1 dz2 fr
  go_enter Tryz.func75, Tryz.ntmps75
  go_upto_region 1 with fail
  rw [hwa.out]
  go_wp2_with fail
  refine HN.out.mono ?_
  clear HN
  rintro e w2 ⟨a2, c9, rfl, B2⟩
  have HZ : Hid (Below w.heap.size w w2 ∧ InR w2 w.heap.size (.bool false) (.int .i64 0) (.int .i64 0)) := ⟨HA.out.1.trans (B2.mono HA.out.1.size), HA.out.2.kept (Chg.ofBelowC B2) (fun h => h)⟩
  obtain ⟨dz0, dz1, dz2⟩ := HZ.out.2.c
  have fr := HZ.out.2.fr
  clear HA B2
  go_wp2_with fail
  obtain ⟨s1, s2⟩ := HZ.out.2.put (.bool true) (.int .i64 0) (.int .i64 (namesL es).length)
  try simp only [Exit.inBlock, Exit.then]
  generalize World.setCell _ ⟨w.heap.size, 2, none⟩ _ = w9 at *
  obtain ⟨e0, e1, e2⟩ := s1.c
  refine bodyPost_ret (v := inV true 0 (namesL es).length) ?_ rfl ?_
  · simp [results, Tryz.results75, go_sem, e0, e1, e2]
  · exact ⟨rfl, HZ.out.1.trans (s2.below HZ.out.1.size (fun k hk => by rw [hk]; exact Nat.le_refl _))⟩
end
end Go.Proofs.YtlnjnimenihhnaaGreatDoor

namespace Go.Proofs.YtlnjnimenihhnaaGreatDoor
open Go.RowKit Go.Maps
attribute [local go_sem ↓] appV_eq

abbrev rtO (v : Value) (b i : Int) : Obj := .cells #[v, .int .i64 b, .int .i64 i] 66
theorem rto_cells (w : World) (v : Value) (b i : Int) : (w.alloc (rtO v b i)).cell? ⟨w.heap.size, 0, none⟩ = some v ∧ (w.alloc (rtO v b i)).cell? ⟨w.heap.size, 1, none⟩ = some (.int .i64 b) ∧ (w.alloc (rtO v b i)).cell? ⟨w.heap.size, 2, none⟩ = some (.int .i64 i) ∧ ∀ j, (w.alloc (rtO v b i)).frozen? ⟨w.heap.size, j, none⟩ = false := by
  refine ⟨?_, ?_, ?_, fun j => ?_⟩
  · rw [cell_of_row _ w.heap.size _ _ _ _ (heap_alloc_new w _)]; rfl
  · rw [cell_of_row _ w.heap.size _ _ _ _ (heap_alloc_new w _)]; rfl
  · rw [cell_of_row _ w.heap.size _ _ _ _ (heap_alloc_new w _)]; rfl
  · have h : (w.alloc (rtO v b i)).heap[w.heap.size]? = some (rtO v b i) := heap_alloc_new w _
    unfold World.frozen?
    simp only [h]
    simp
/-- A tree made of a row of things. -/
theorem Rt.made {w : World} {q c : Nat} {G : Nat → Prop} {xs : List Rw} {L : List Th} (hq : q < w.heap.size) (ho : w.ownsRow 0 63 4 (.slice (some ⟨q, 0, none⟩) L.length c) L.length (rcells xs)) (hx : xs.length = L.length) (hM : ∀ k, k < L.length → ThM w G (xs.getD k Rw.z) (L.getD k .gone)) (hG : ∀ b, G b → b < w.heap.size) (hGq : ¬ G q) (b i : Int) :
    Rt (w.alloc (rtO (.slice (some ⟨q, 0, none⟩) L.length c) b i)) w.heap.size q G ⟨L, b, i⟩ := by
  obtain ⟨c0, c1, c2, c3⟩ := rto_cells w (.slice (some ⟨q, 0, none⟩) L.length c) b i
  have hc : Chg (fun _ => False) w (w.alloc (rtO (.slice (some ⟨q, 0, none⟩) L.length c) b i)) := Chg.alloc _ _ _
  refine ⟨by omega, fun h => by have := hG _ h; omega, hGq, fun b hb => by have := hG b hb; simp; omega, ⟨xs, c, c0, own_farC ho hc (fun h => h), hx, fun k hk => (hM k hk).kept hc (fun _ _ h => h) (fun _ h => h)⟩, c1, c2, c3⟩
section
variable {r : Nat} {w : World}
set_option maxHeartbeats 3200000 in
set_option maxRecDepth 100000 in
theorem rnew_ok (b i : Int) (hb0 : 0 ≤ b) (hb1 : b ≤ 16384) (hi0 : 1 ≤ i) (hi1 : i ≤ 256) :
    Calls Tryz.prog 8 #[.int .i64 b, .int .i64 i] w fun e w' => e = .returned (.tuple #[ptr (w.heap.size + 1), .int .i64 0]) ∧ Rt w' (w.heap.size + 1) w.heap.size (fun _ => False) ⟨[.dir []], b, i - 1⟩ ∧ Below w.heap.size w w' := by
  have q1 : ¬ b < 0 := by omega
  have q2 : ¬ 16384 < b := by omega
  have q3 : ¬ i < 1 := by omega
  have q4 : ¬ 256 < i := by omega
  have B1 := below_alloc w (thO true)
  have e1 : (w.alloc (thO true)).heap.size = w.heap.size + 1 := by simp
  have ho : (w.alloc (thO true)).ownsRow 0 63 4 (.slice (some ⟨w.heap.size, 0, none⟩) ([Th.dir []]).length 1) ([Th.dir []]).length (rcells [Rw.new true]) :=
    ⟨rfl, .inr ⟨w.heap.size, 1, _, rfl, Nat.zero_le _, heap_alloc_new w _, Nat.le_refl _, by decide, rfl, rfl⟩⟩
  have hR := Rt.made (G := fun _ => False) (by rw [e1]; omega) ho rfl (fun k hk => by
    have : k = 0 := by simp at hk; omega
    subst this
    exact newM _ _ true) (fun _ h => h.elim) (fun h => h) b (i - 1)
  rw [e1] at hR
  have B2 : Below w.heap.size w ((w.alloc (thO true)).alloc (rtO (.slice (some ⟨w.heap.size, 0, none⟩) 1 1) b (i - 1))) := B1.alloc B1.size _
  have HZ : Hid (∀ wz, ((w.alloc (thO true)).alloc (rtO (.slice (some ⟨w.heap.size, 0, none⟩) 1 1) b (i - 1))) = wz → Rt wz (w.heap.size + 1) w.heap.size (fun _ => False) ⟨[.dir []], b, i - 1⟩ ∧ Below w.heap.size w wz) := by
    rintro wz rfl
    exact ⟨hR, B2⟩
  clear hR B1 B2 ho e1
  go_enter Tryz.func8, Tryz.ntmps8
  go_wp2_with fail
  go_ret2
  obtain ⟨z1, z2⟩ := HZ.out _ rfl
  exact ⟨by simp, z1, z2⟩
end
end Go.Proofs.YtlnjnimenihhnaaGreatDoor

namespace Go.Proofs.YtlnjnimenihhnaaGreatDoor
open Go.RowKit Go.Maps
attribute [local go_sem ↓] appV_eq

set_option maxHeartbeats 3200000 in
set_option maxRecDepth 100000 in
theorem rtwin_any {r q : Nat} {G : Nat → Prop} {R : Rs} (w : World) (h : Rt w r q G R) (hl : R.L.length ≤ 100001) (h0 : 0 < R.L.length) :
    Calls Tryz.prog 15 #[ptr r] w fun e w' => ∃ r' q', e = .returned (ptr r') ∧ Hid (Rt w' r' q' G R ∧ w.heap.size ≤ r' ∧ w.heap.size ≤ q' ∧ Below w.heap.size w w') := by
  obtain ⟨xs, cap, c0, ho, hxl, hth⟩ := h.row
  have bE : Below w.heap.size w (w.alloc thE0) := below_alloc w _
  have bE' : Below w.heap.size w (w.alloc thE0).drew := ⟨bE.os, bE.tape, bE.output, bE.size, bE.block⟩
  have hxs : ∀ j u, (rcells xs)[j]? = some u → (w.alloc thE0).drew.cell? ⟨q, j, none⟩ = some u := fun j u hu => by
    have := ho.cells (g := q) rfl j u hu
    have ad : (⟨q, 0, none⟩ : Addr).add j = ⟨q, j, none⟩ := by unfold Addr.add; split <;> simp_all
    rw [ad] at this
    exact (Chg.ofBelowC bE').cell this (fun h => h)
  obtain ⟨g1, k1, w1, r1, o1, hg1, b1, _⟩ := run_appTh (w.alloc thE0).drew w.heap.size (.slice (some ⟨w.heap.size, 0, none⟩) 0 0) [] xs (lit_own4 w _ (Nat.le_refl _)) q cap hxs (by omega) (by simp; omega) bE'.size
  simp only [List.length_nil, Nat.zero_add, List.nil_append] at r1 o1
  rw [hxl] at r1 o1
  have b6 := bE'.trans b1
  have cB := h.cB
  have cI := h.cI
  have y0 := (Chg.ofBelowC bE).cell c0 (fun h => h)
  have y1 := (Chg.ofBelowC bE).cell cB (fun h => h)
  have y2 := (Chg.ofBelowC bE).cell cI (fun h => h)
  have z0 := (Chg.ofBelowC b6).cell c0 (fun h => h)
  have z1 := (Chg.ofBelowC b6).cell cB (fun h => h)
  have z2 := (Chg.ofBelowC b6).cell cI (fun h => h)
  have hlt := h.lt
  have hgl : g1 < w1.heap.size := by
    rcases o1.2 with ⟨h, _⟩ | ⟨g', cap', cur, e, hb, hg, _⟩
    · cases h
    · injection e with e1 e2 e3
      injection e1 with e1
      injection e1 with e1
      subst e1
      exact lt_of_block hg
  have hR := Rt.made (G := G) (L := R.L) (xs := xs) hgl (own_down o1 (Nat.zero_le _)) hxl (fun k hk => (hth k hk).kept (Chg.ofBelowC b6) (fun _ _ h => h) (fun _ h => h)) (fun b hb => Nat.lt_of_lt_of_le (h.gl b hb) b6.size) (fun hg => by have := h.gl g1 hg; omega) R.bl R.ino
  have HZ : Hid (Rt (w1.alloc (rtO (.slice (some ⟨g1, 0, none⟩) R.L.length k1) R.bl R.ino)) w1.heap.size g1 G R ∧ w.heap.size ≤ w1.heap.size ∧ w.heap.size ≤ g1 ∧ Below w.heap.size w (w1.alloc (rtO (.slice (some ⟨g1, 0, none⟩) R.L.length k1) R.bl R.ino))) := ⟨hR, b6.size, hg1, b6.alloc b6.size _⟩
  clear h ho hxl hth bE bE' hxs o1 hg1 b1 b6 hR hgl hlt
  go_enter Tryz.func15, Tryz.ntmps15
  go_wp2_with fail
  go_region
  all_goals
    go_wp2_with fail
    go_ret
    exact ⟨_, _, rfl, HZ⟩
end Go.Proofs.YtlnjnimenihhnaaGreatDoor

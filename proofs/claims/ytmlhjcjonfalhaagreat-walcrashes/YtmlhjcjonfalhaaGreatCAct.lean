/-
  act and step of the world of WalCrashes.
-/
import Derived.Test.YtmlhjcjonfalhaaGreatCAll
import Derived.Deep.RegionWith
namespace Go.Proofs.YtmlhjcjonfalhaaGreat.C
open Go.RowKit Go.Maps

section
variable {T : (Nat → List Int) → (Nat → Option (List Int)) → Nat → Prop} {Y : Nat → Prop} {wY : World} {dv mv cv : Value} {X : Nat → Prop} {w0 w w' : World} {pd pp pl q pr g : Nat} {tv : Value} {R : Rf} {lb lc db dc nb nc : Nat} {nv : Value} {f f' : Nat → List Int} {com own com' : Nat → Option (List Int)} {pend wrote N k : Nat} {live : Bool} {cs : List CutD}
/-- Other blocks are looked at, from now on. -/
theorem PlAt.reY {Y' : Nat → Prop} (h : PlAt Y wY dv mv cv X w0 w pp pl tv pr R lb lc db dc nb nc nv) (hy : ∀ b, Y' b → X b ∧ b ≠ pp ∧ ¬ RfB pr lb db nb R.op b ∧ b < w.heap.size) : PlAt Y' w dv mv cv X w0 w pp pl tv pr R lb lc db dc nb nc nv :=
  ⟨h.blk, h.rf, h.xp, h.xr, h.ne, hy, fun _ _ => rfl, h.nvk⟩
/-- The world's block alone was changed, and memory was made. -/
theorem PlAt.may {Y' : Nat → Prop} {mv' : Value} (h : PlAt Y wY dv mv cv X w0 w pp pl tv pr R lb lc db dc nb nc nv) (hc : Chg (fun b => b = pp) w w') (hb : w'.heap[pp]? = some (.cells #[dv, .pointer (some ⟨pl, 0, none⟩), tv, .pointer (some ⟨pr, 0, none⟩), mv', cv] 44 (0, 0)))
    (hy : ∀ b, Y' b → (X b ∧ b ≠ pp ∧ ¬ RfB pr lb db nb R.op b ∧ b < w.heap.size) ∨ (w.heap.size ≤ b ∧ b < w'.heap.size)) (hr : ∀ b, RfB pr lb db nb R.op b → b < w.heap.size) : PlAt Y' w' dv mv' cv (addX X w.heap.size w'.heap.size) w0 w' pp pl tv pr R lb lc db dc nb nc nv := by
  have hl : pp < w.heap.size := (Array.getElem?_eq_some_iff.1 h.blk).1
  have hz := hc.size
  refine ⟨hb, h.rf.kept hc (h.ne pr (.inl rfl)) (h.ne lb (.inr (.inl rfl))) (h.ne db (.inr (.inr (.inl rfl)))) (fun ho => h.ne nb (.inr (.inr (.inr ⟨ho, rfl⟩)))), ⟨.inl h.xp.1, h.xp.2⟩, fun b hb => ⟨.inl (h.xr b hb).1, (h.xr b hb).2⟩, h.ne, fun b hb => ?_, fun _ _ => rfl, (h.nvk.keptE hc (fun b e => .inl e)).xsub (fun b hb => .inl hb)⟩
  rcases hy b hb with ⟨h1, h2, h3, h4⟩ | ⟨h1, h2⟩
  · exact ⟨.inl h1, h2, h3, by omega⟩
  · exact ⟨.inr ⟨h1, h2⟩, by omega, fun e => by have := hr b e; omega, h2⟩
theorem Up.isOn (h : Up X w0 w pd pl tv f com pend live own wrote N) : Calls Tryz.prog 32 #[.pointer (some ⟨pd, 0, none⟩)] w fun e w' => e = .returned (.bool false) ∧ w' = w := by
  rcases h with ⟨_, _, h⟩ | ⟨q, _, h⟩
  · exact h.isOn
  · exact h.isOn
theorem Up.xlt (h : Up X w0 w pd pl tv f com pend live own wrote N) : ∀ b, X b → b < w.heap.size := by
  rcases h with ⟨_, _, h⟩ | ⟨q, _, h⟩
  · exact h.xlt
  · exact h.xlt
/-- The power is on, or it has gone. -/
def Ac2 (T : (Nat → List Int) → (Nat → Option (List Int)) → Nat → Prop) (Y : Nat → Prop) (wY : World) (mv cv : Value) (w0 : World) (pd pp k : Nat) (w : World) : Prop :=
  Pl (Tn T) Y wY (.pointer (some ⟨pd, 0, none⟩)) mv cv w0 w pd pp k ∨ PlOff T Y wY (.pointer (some ⟨pd, 0, none⟩)) mv cv w0 w pd pp k

set_option maxHeartbeats 3200000 in
set_option maxRecDepth 100000 in
theorem wact_any (d : ActD) (w : World) (h : Pl T Y wY (.pointer (some ⟨pd, 0, none⟩)) mv cv w0 w pd pp k) (hk : k < 1000) (hb : Bs w0 d.bv d.bs) (hl : d.bs.length ≤ 64) (hw : -9223372036854775808 ≤ d.n ∧ d.n ≤ 9223372036854775807) :
    Calls Tryz.prog 31 #[.pointer (some ⟨pp, 0, none⟩), .agg #[.int .i64 d.op, .int .i64 d.n, d.bv]] w fun e w' => e = .returned (.bool true) ∧ Ac2 T Y wY mv cv w0 pd pp (k + 1) w' := by
  obtain ⟨ba, bc, hbv, _⟩ := hb.form
  have k1 : Chg (fun _ => False) w (w.alloc (.cells #[.int .i64 d.op, .int .i64 d.n, d.bv] 52)) := Chg.alloc (fun _ => False) w _
  have k2 : Chg (fun _ => False) w (w.alloc (.cells #[.int .i64 d.op, .int .i64 d.n, d.bv] 52)).drew := k1.trans (Chg.drew (fun _ => False) _) (fun _ _ h => h)
  have ST := pstep_any d _ (h.more k2) hk hb hl hw
  obtain ⟨op, n, bv, bs⟩ := d
  dsimp only at ST hbv hl hw
  subst hbv
  have HS : Hid (Calls Tryz.prog 56 #[.pointer (some ⟨pp, 1, none⟩), .agg #[.int .i64 op, .int .i64 n, .slice ba bs.length bc]] (w.alloc (.cells #[.int .i64 op, .int .i64 n, .slice ba bs.length bc] 52)).drew fun e w' => ∃ b, e = .returned (.bool b) ∧ Hid ((b = true ∧ Pl (Tn T) Y wY (.pointer (some ⟨pd, 0, none⟩)) mv cv w0 w' pd pp (k + 1)) ∨ PlOff T Y wY (.pointer (some ⟨pd, 0, none⟩)) mv cv w0 w' pd pp (k + 1))) := ST.mono (by
    rintro e w' (⟨rfl, h⟩ | ⟨b, rfl, h⟩)
    · exact ⟨true, rfl, .inl ⟨rfl, h⟩⟩
    · exact ⟨b, rfl, .inr h⟩)
  clear ST k1 k2 h hb hl hw
  show Calls Tryz.prog 31 #[.pointer (some ⟨pp, 0, none⟩), .agg #[.int .i64 op, .int .i64 n, .slice ba bs.length bc]] w fun e w' => e = .returned (.bool true) ∧ Ac2 T Y wY mv cv w0 pd pp (k + 1) w'
  go_enter Tryz.func31, Tryz.ntmps31
  go_wp2_with fail
  go_region_with ((go_at_call 56; refine HS.out.mono ?_; clear HS; rintro e w2 ⟨b, rfl, HD⟩))
  rcases HD.out with ⟨rfl, h2⟩ | h2
  · have H2 : Hid (Ac2 T Y wY mv cv w0 pd pp (k + 1) w2) := .inl h2
    clear h2 HD
    go_wp2
    go_ret
    exact ⟨rfl, H2.out⟩
  · have H2 : Hid (Ac2 T Y wY mv cv w0 pd pp (k + 1) w2) := .inr h2
    obtain ⟨X, f0, com0, s0, pl, tv, pr, _, ho, hbk, _⟩ := h2
    have e0 : w2.cell? ⟨pp, 0, none⟩ = some (.pointer (some ⟨pd, 0, none⟩)) := by rw [cell_of_row _ _ _ _ _ _ hbk]; rfl
    have HO : Hid (Calls Tryz.prog 32 #[.pointer (some ⟨pd, 0, none⟩)] w2 fun e w' => e = .returned (.bool true) ∧ w' = w2) := ho.off
    clear ho hbk HD
    cases b with
    | true =>
      go_wp2
      go_ret
      exact ⟨rfl, H2.out⟩
    | false =>
      go_wp2_with fail
      refine HO.out.mono ?_
      rintro e w3 ⟨rfl, rfl⟩
      go_wp2
      go_ret
      exact ⟨rfl, H2.out⟩
end
end Go.Proofs.YtmlhjcjonfalhaaGreat.C

namespace Go.Proofs.YtmlhjcjonfalhaaGreat.C
open Go.RowKit Go.Maps

theorem info45 : (Tryz.prog.info? 45).map (fun i => (i.zero, i.size, i.bytes)) = some (some (.slice none 0 0), 1, 24) := by kernel_rfl
section
variable {T : (Nat → List Int) → (Nat → Option (List Int)) → Nat → Prop} {Y : Nat → Prop} {wY : World} {dv mv cv : Value} {X : Nat → Prop} {w0 w w' w3 w4 : World} {pd pp pl q pr g : Nat} {tv : Value} {R : Rf} {lb lc db dc nb nc : Nat} {nv : Value} {f f' : Nat → List Int} {com own com' : Nat → Option (List Int)} {pend wrote N k : Nat} {live : Bool} {cs : List CutD} {mb sb sd wb wc : Nat}
theorem Up.add (h : Up X w0 w pd pl tv f com pend live own wrote N) (hc : Chg (fun _ => False) w w') : Up (addX X w.heap.size w'.heap.size) w0 w' pd pl tv f com pend live own wrote N := by
  rcases h with ⟨e1, e2, h⟩ | ⟨q, e1, h⟩
  · exact .inl ⟨e1, e2, h.add hc⟩
  · exact .inr ⟨q, e1, h.add hc⟩
/-- A row of one is no row of seventy. -/
theorem one_not {a b : Nat} {x : Value} {ty : TypeId} {G : Nat → Value} (h : w.heap[a]? = some (.cells #[x] ty (0, 0))) (hr : Row w b 70 G) : b ≠ a := by
  intro e
  subst e
  obtain ⟨c, ty2, h1, h2, _⟩ := hr
  rw [h] at h1
  cases h1
  simp at h2
/-- What a step looks at, besides the play. -/
def Y3 (mb sb wb : Nat) (b : Nat) : Prop := b = mb ∨ b = sb ∨ b = wb
theorem wd_same (p4 : PlAt (Y3 mb sb wb) w3 (.pointer (some ⟨pd, 0, none⟩)) (.slice (some ⟨mb, 0, none⟩) 1 1) cv X w0 w4 pp pl tv pr R lb lc db dc nb nc nv) (u4 : Up X w0 w4 pd pl tv f com pend live own wrote (1000 + 128 * k)) (c4 : Cor R f com pend live own wrote) (hp : pend ≤ k) (hs : R.syncs ≤ k) (m3 : M1 w0 w3 mb sb sd f) (hcu : CutsAt w0 cv cs) (hfw : Few cs) : Wd w0 w4 pd pp k cs := by
  refine ⟨f, mb, sb, sd, cv, ⟨X, pl, tv, pr, R, lb, lc, db, dc, nb, nc, nv, f, com, pend, live, own, wrote, p4.reY (fun b hb => p4.y b ?_), u4, c4, hp, hs, rfl⟩, ⟨(p4.sn mb (.inl rfl)).trans m3.m, rowEq m3.r (p4.sn sb (.inr (.inl rfl))), m3.c, m3.lo⟩, hcu, hfw⟩
  rcases hb with e | e
  · exact .inl e
  · exact .inr (.inl e)
theorem wd_new (p4 : PlAt (Y3 mb sb wb) w3 (.pointer (some ⟨pd, 0, none⟩)) (.slice (some ⟨mb, 0, none⟩) 1 1) cv X w0 w4 pp pl tv pr R lb lc db dc nb nc nv) (u4 : Up X w0 w4 pd pl tv f com pend live own wrote (1000 + 128 * k)) (c4 : Cor R f com pend live own wrote) (hp : pend ≤ k) (hs : R.syncs ≤ k) (hr : Row w3 wb 70 (fun n => .string (strOf (f n)))) (hwc : 70 ≤ wc) (hcu : CutsAt w0 cv cs) (hfw : Few cs) :
    Wd w0 ((w4.setCell ⟨pp, 4, none⟩ (.slice (some ⟨w4.heap.size, 0, none⟩) 1 1)).alloc (.cells #[.slice (some ⟨wb, 0, none⟩) 70 wc] 45)) pd pp k cs := by
  have hl : pp < w4.heap.size := (Array.getElem?_eq_some_iff.1 p4.blk).1
  have k5 : Chg (fun b => b = pp) w4 (w4.setCell ⟨pp, 4, none⟩ (.slice (some ⟨w4.heap.size, 0, none⟩) 1 1)) := Chg.setCell _ _ _ rfl
  have b5 := heap_setCell_same w4 pp 4 _ 44 (.slice (some ⟨w4.heap.size, 0, none⟩) 1 1) p4.blk
  have z5 : (w4.setCell ⟨pp, 4, none⟩ (.slice (some ⟨w4.heap.size, 0, none⟩) 1 1)).heap.size = w4.heap.size := by simp
  obtain ⟨w5, hw5⟩ : ∃ w5, w4.setCell ⟨pp, 4, none⟩ (.slice (some ⟨w4.heap.size, 0, none⟩) 1 1) = w5 := ⟨_, rfl⟩
  rw [hw5] at k5 b5 z5 ⊢
  have k6 := Chg.alloc (fun _ => False) w5 (.cells #[.slice (some ⟨wb, 0, none⟩) 70 wc] 45)
  have m6 := heap_alloc_new w5 (.cells #[.slice (some ⟨wb, 0, none⟩) 70 wc] 45)
  have z6 := World.size_alloc w5 (.cells #[.slice (some ⟨wb, 0, none⟩) 70 wc] 45)
  obtain ⟨w6, hw6⟩ : ∃ w6, w5.alloc (.cells #[.slice (some ⟨wb, 0, none⟩) 70 wc] 45) = w6 := ⟨_, rfl⟩
  rw [hw6] at k6 m6 z6 ⊢
  rw [z5] at m6
  have kk : Chg (fun b => b = pp) w4 w6 := k5.trans k6 (fun _ _ h => h.elim)
  have b6 := (k6.block pp (by omega) (fun h => h)).trans b5
  have hx := u4.xlt
  have pm := p4.may (Y' := fun b => b = w4.heap.size ∨ b = wb) (mv' := .slice (some ⟨w4.heap.size, 0, none⟩) 1 1) kk (by simpa using b6) (fun b hb => by
    rcases hb with e | e
    · exact .inr ⟨by omega, by omega⟩
    · exact .inl (p4.y b (.inr (.inr e)))) (fun b hb => hx b (p4.xr b hb).1)
  have um := u4.ref kk (fun b _ e => e ▸ p4.xp)
  refine ⟨f, w4.heap.size, wb, wc, cv, ⟨_, pl, tv, pr, R, lb, lc, db, dc, nb, nc, nv, f, com, pend, live, own, wrote, pm, um, c4, hp, hs, rfl⟩, ⟨m6, ?_, hwc, ?_⟩, hcu, hfw⟩
  · exact (rowEq hr (p4.sn wb (.inr (.inr rfl)))).kept kk (p4.y wb (.inr (.inr rfl))).2.1
  · have := u4.chg.size; omega
/-- The power has gone: what open begins with. -/
theorem off_chain {pt : Nat} (h : PlOff T (Y3 mb sb wb) w3 (.pointer (some ⟨pd, 0, none⟩)) (.slice (some ⟨mb, 0, none⟩) 1 1) cv w0 w4 pd pp k) (hT : ∀ g c s, T g c s → g = f ∧ c = com) (m3 : M1 w0 w3 mb sb sd f) (hr : Row w3 wb 70 (fun n => .string (strOf (ovr f com n)))) (hwc : 70 ≤ wc) (hcu : CutsAt w0 cv cs) (hfw : Few cs) :
    w4.cell? ⟨pp, 0, none⟩ = some (.pointer (some ⟨pd, 0, none⟩)) ∧ Calls Tryz.prog 32 #[.pointer (some ⟨pd, 0, none⟩)] w4 (fun e w' => e = .returned (.bool true) ∧ w' = w4) ∧ (w4.alloc (.cells #[.slice (some ⟨wb, 0, none⟩) 70 wc] 45)).cell? ⟨pp, 4, none⟩ = some (.slice (some ⟨mb, 0, none⟩) 1 1) ∧ w4.cell? ⟨pp, 4, none⟩ = some (.slice (some ⟨mb, 0, none⟩) 1 1) ∧
    ∃ g gc w5 xr, (Builtin.append_ #[42, 42] 42 #[.slice (some ⟨mb, 0, none⟩) 1 1, .slice (some ⟨w4.heap.size, 0, none⟩) 1 1]).run Tryz.prog (w4.alloc (.cells #[.slice (some ⟨wb, 0, none⟩) 70 wc] 45)) = .ok (.slice (some ⟨g, 0, none⟩) 2 gc) w5 ∧
      w5.cell? ⟨pp, 4, none⟩ = some (.slice (some ⟨mb, 0, none⟩) 1 1) ∧ w5.cell? ⟨pp, 3, none⟩ = some (.pointer (some ⟨xr, 0, none⟩)) ∧ (∀ i, w5.frozen? ⟨pp, i, none⟩ = false) ∧
      ∃ X' f' x1 x2 x3, Hid (Ro X' w0 ((w5.setCell ⟨pp, 4, none⟩ (.slice (some ⟨g, 0, none⟩) 2 gc)).setCell ⟨pp, 3, none⟩ (.pointer (some ⟨pt, 0, none⟩))) pd pp f' cs x1 x2 x3 cv g gc sb sd wb wc f (ovr f com) (1000 + 128 * k)) := by
  obtain ⟨X, f0, com0, s0, pl, tv, pr, ht, ho, hb, hxp, hpp, hy, hsn⟩ := h
  obtain ⟨rfl, rfl⟩ := hT _ _ _ ht
  have bb : WBlk w4 pp pd (.pointer (some ⟨pl, 0, none⟩)) tv (.pointer (some ⟨pr, 0, none⟩)) (.slice (some ⟨mb, 0, none⟩) 1 1) cv := hb
  have k5 := Chg.alloc (fun _ => False) w4 (.cells #[.slice (some ⟨wb, 0, none⟩) 70 wc] 45)
  refine ⟨bb.c.1, ho.off, k5.cell bb.c.2.1 (fun h => h), bb.c.2.1, ?_⟩
  have hmb := hy mb (.inl rfl)
  have hsb := hy sb (.inr (.inl rfl))
  have hwb := hy wb (.inr (.inr rfl))
  have m4 : w4.heap[mb]? = some (.cells #[.slice (some ⟨sb, 0, none⟩) 70 sd] 45 (0, 0)) := (hsn mb (.inl rfl)).trans m3.m
  have r4 : Row w4 sb 70 (fun n => .string (strOf (f0 n))) := rowEq m3.r (hsn sb (.inr (.inl rfl)))
  have q4 : Row w4 wb 70 (fun n => .string (strOf (ovr f0 com0 n))) := rowEq hr (hsn wb (.inr (.inr rfl)))
  have ns := one_not m4 r4
  have nw := one_not m4 q4
  have lmb : mb < w4.heap.size := (Array.getElem?_eq_some_iff.1 m4).1
  have lpp := bb.lt
  have z5 := World.size_alloc w4 (.cells #[.slice (some ⟨wb, 0, none⟩) 70 wc] 45)
  obtain ⟨i45, hi, hz0, hz1, hz2⟩ := info_parts info45
  have hown : (w4.alloc (.cells #[.slice (some ⟨wb, 0, none⟩) 70 wc] 45)).ownsRow 0 45 1 (.slice (some ⟨mb, 0, none⟩) 1 1) 1 [.slice (some ⟨sb, 0, none⟩) 70 sd] :=
    ⟨rfl, .inr ⟨mb, 1, _, rfl, Nat.zero_le _, (k5.block mb lmb (fun h => h)).trans m4, Nat.le_refl _, by simp [maxLen], rfl, rfl⟩⟩
  obtain ⟨v', w5, hr5, ho5, hg5, _, hob⟩ := run_append_own_at (P := Tryz.prog) (w4.alloc (.cells #[.slice (some ⟨wb, 0, none⟩) 70 wc] 45)) 0 42 42 45 i45 (.slice none 0 0) 1 24 Tryz.underlying42 hi hz0 hz1 hz2 rfl (by decide) _ 1 _ hown ⟨w4.heap.size, 0, none⟩ 1 1 [.slice (some ⟨wb, 0, none⟩) 70 wc] rfl (cell_one_new w4 _ 45) (fun u hu => by rw [List.mem_singleton.1 hu]; rfl) (by simp [maxLen]) (by decide) (by simp)
  rcases ho5.2 with ⟨_, e⟩ | ⟨g, gc, cur, rfl, _, hgh, hnc, _, _, _⟩
  · omega
  have hgg : g = mb ∨ g = w4.heap.size + 1 := by
    rcases hob with e | e
    · left; simpa [Value.ownBlock] using e
    · right
      have : g = (w4.alloc (.cells #[.slice (some ⟨wb, 0, none⟩) 70 wc] 45)).heap.size := by simpa [Value.ownBlock] using e
      omega
  have hgl : g < w5.heap.size := (Array.getElem?_eq_some_iff.1 hgh).1
  have c5 : Chg (fun b => b = mb) w4 w5 := (k5.mono (fun _ _ h => h.elim)).trans (Chg.ofGrown hg5) (fun i _ e => by simpa [Value.ownBlock] using e.symm)
  have z45 := c5.size
  have npm : pp ≠ mb := fun e => hmb.2 e.symm
  have b5 : WBlk w5 pp pd (.pointer (some ⟨pl, 0, none⟩)) tv (.pointer (some ⟨pr, 0, none⟩)) (.slice (some ⟨mb, 0, none⟩) 1 1) cv := (c5.block pp lpp npm).trans bb
  refine ⟨g, gc, w5, pr, hr5, b5.c.2.1, by rw [cell_of_row _ _ _ _ _ _ b5]; rfl, fun i => frozen_of_row w5 _ _ _ _ b5, ?_⟩
  have e6 := heap_setCell_same w5 pp 4 _ 44 (.slice (some ⟨g, 0, none⟩) 2 gc) b5
  have e7 := heap_setCell_same _ pp 3 _ 44 (.pointer (some ⟨pt, 0, none⟩)) e6
  have k7 : Chg (fun b => b = pp) w5 ((w5.setCell ⟨pp, 4, none⟩ (.slice (some ⟨g, 0, none⟩) 2 gc)).setCell ⟨pp, 3, none⟩ (.pointer (some ⟨pt, 0, none⟩))) := (Chg.setCell (S := fun b => b = pp) _ _ _ rfl).trans (Chg.setCell (S := fun b => b = pp) _ _ _ rfl) (fun _ _ h => h)
  have z7 : ((w5.setCell ⟨pp, 4, none⟩ (.slice (some ⟨g, 0, none⟩) 2 gc)).setCell ⟨pp, 3, none⟩ (.pointer (some ⟨pt, 0, none⟩))).heap.size = w5.heap.size := by simp
  obtain ⟨w7, hw7⟩ : ∃ w7, (w5.setCell ⟨pp, 4, none⟩ (.slice (some ⟨g, 0, none⟩) 2 gc)).setCell ⟨pp, 3, none⟩ (.pointer (some ⟨pt, 0, none⟩)) = w7 := ⟨_, rfl⟩
  rw [hw7] at e7 k7 z7 ⊢
  have kk : Chg (fun b => b = mb ∨ b = pp) w4 w7 := (c5.mono (fun _ _ h => .inl h)).trans k7 (fun _ _ h => .inr h)
  have o7 := ho.refE kk (fun b _ e => by
    rcases e with e | e
    · exact ⟨e ▸ hmb.1, e ▸ m3.lo⟩
    · exact ⟨e ▸ hxp, e ▸ hpp⟩)
  have b7 : WBlk w7 pp pd (.pointer (some ⟨pl, 0, none⟩)) tv (.pointer (some ⟨pt, 0, none⟩)) (.slice (some ⟨g, 0, none⟩) 2 gc) cv := by unfold WBlk; simpa using e7
  have ngp : g ≠ pp := by
    rcases hgg with e | e
    · rw [e]; exact hmb.2
    · omega
  have hm2 : M2 (addX X w4.heap.size w7.heap.size) w7 pp g sb sd wb wc f0 (ovr f0 com0) := by
    refine ⟨?_, ((r4.kept c5 (fun e => ns e)).kept k7 (fun e => hsb.2 e)), ((q4.kept c5 (fun e => nw e)).kept k7 (fun e => hwb.2 e)), m3.c, hwc, ⟨?_, ngp⟩, ⟨.inl hsb.1, hsb.2⟩, ⟨.inl hwb.1, hwb.2⟩⟩
    · refine (Row.own (G := fun i => if i = 0 then .slice (some ⟨sb, 0, none⟩) 70 sd else .slice (some ⟨wb, 0, none⟩) 70 wc) ho5 (fun j hj => ?_)).kept k7 ngp
      match j, hj with
      | 0, _ => rfl
      | 1, _ => rfl
    · rcases hgg with e | e
      · rw [e]; exact .inl hmb.1
      · exact .inr ⟨by omega, by omega⟩
  rcases o7 with o7 | o7
  · exact ⟨_, f0, _, _, _, ⟨o7, .inl rfl, b7, hm2, hcu, hfw, ⟨.inl hxp, hpp⟩, hnc⟩⟩
  · exact ⟨_, ovr f0 com0, _, _, _, ⟨o7, .inr rfl, b7, hm2, hcu, hfw, ⟨.inl hxp, hpp⟩, hnc⟩⟩
end
end Go.Proofs.YtmlhjcjonfalhaaGreat.C

namespace Go.Proofs.YtmlhjcjonfalhaaGreat.C
open Go.RowKit Go.Maps

/-- What a step comes to. -/
def StTo (w0 : World) (pd pp k : Nat) (cs : List CutD) (w : World) : Prop := ∃ cs' k', Wd w0 w pd pp k' cs' ∧ cs'.length ≤ cs.length ∧ k' + cs'.length ≤ k + 2 + cs.length
section
variable {T : (Nat → List Int) → (Nat → Option (List Int)) → Nat → Prop} {Y : Nat → Prop} {wY : World} {dv mv cv : Value} {X : Nat → Prop} {w0 w w' w3 w4 : World} {pd pp pl q pr g : Nat} {tv : Value} {R : Rf} {lb lc db dc nb nc : Nat} {nv : Value} {f f' : Nat → List Int} {com own com' : Nat → Option (List Int)} {pend wrote N k : Nat} {live : Bool} {cs : List CutD} {mb sb sd wb wc : Nat}
/-- The state ahead of the act, the list copied and the twin made. -/
theorem ahead {w1 : World} (p1 : PlAt Y wY dv mv cv X w0 w pp pl tv pr R lb lc db dc nb nc nv) (u1 : Up X w0 w pd pl tv f com pend live own wrote (1000 + 128 * k)) (c1 : Cor R f com pend live own wrote) (b1 : pend ≤ k) (b2 : R.syncs ≤ k) (hc : Chg (fun _ => False) w w1) (h1 : w.heap.size ≤ wb) (h2 : wb < w1.heap.size) (hy : ∀ b, (b = mb ∨ b = sb) → Y b) :
    Pl (fun g c s => g = f ∧ c = com ∧ s = R.syncs) (Y3 mb sb wb) w1 dv mv cv w0 w1 pd pp k := by
  have hx := u1.xlt
  have hpl : pp < w.heap.size := hx pp p1.xp.1
  refine ⟨_, pl, tv, pr, R, lb, lc, db, dc, nb, nc, nv, f, com, pend, live, own, wrote, PlAt.reY ((p1.kept hc).xsub (X' := addX X w.heap.size w1.heap.size) (fun b hb => .inl hb)) (fun b hb => ?_), u1.add hc, c1, b1, b2, ⟨rfl, rfl, rfl⟩⟩
  have old : Y b → addX X w.heap.size w1.heap.size b ∧ b ≠ pp ∧ ¬ RfB pr lb db nb R.op b ∧ b < w1.heap.size := fun hb => ⟨.inl (p1.y b hb).1, (p1.y b hb).2.1, (p1.y b hb).2.2.1, by have := (p1.y b hb).2.2.2; have := hc.size; omega⟩
  rcases hb with e | e | e
  · exact old (hy b (.inl e))
  · exact old (hy b (.inr e))
  · exact ⟨.inr ⟨by omega, by omega⟩, by omega, fun hr => by have := hx b (p1.xr b hr).1; omega, by omega⟩

set_option maxHeartbeats 6400000 in
set_option maxRecDepth 100000 in
theorem wstep_any (d : ActD) (w : World) (h : Wd w0 w pd pp k cs) (hk : k < 800) (hcs : cs.length ≤ 20) (hb : Bs w0 d.bv d.bs) (hl : d.bs.length ≤ 64) (hw : -9223372036854775808 ≤ d.n ∧ d.n ≤ 9223372036854775807) :
    Calls Tryz.prog 10 #[.pointer (some ⟨pp, 0, none⟩), .agg #[.int .i64 d.op, .int .i64 d.n, d.bv]] w fun e w' => e = .returned (.bool true) ∧ StTo w0 pd pp k cs w' := by
  obtain ⟨ba, bc, hbv, _⟩ := hb.form
  have HD : Hid (Bs w0 d.bv d.bs ∧ d.bs.length ≤ 64 ∧ -9223372036854775808 ≤ d.n ∧ d.n ≤ 9223372036854775807) := ⟨hb, hl, hw⟩
  obtain ⟨f, mb, sb, sd, cv, ⟨X, pl, tv, pr, R, lb, lc, db, dc, nb, nc, nv, f', com, pend, live, own, wrote, p1, u1, c1, b1, b2, bT⟩, hM, hcu, hfw⟩ := h
  obtain rfl : f' = f := bT
  have HX : Hid (CutsAt w0 cv cs ∧ Few cs) := ⟨hcu, hfw⟩
  clear hb hl hw hcu hfw
  obtain ⟨op, n, bv, bs⟩ := d
  dsimp only at hbv
  subst hbv
  show Calls Tryz.prog 10 #[.pointer (some ⟨pp, 0, none⟩), .agg #[.int .i64 op, .int .i64 n, .slice ba bs.length bc]] w fun e w' => e = .returned (.bool true) ∧ StTo w0 pd pp k cs w'
  -- the act's block
  have k1 := Chg.alloc (fun _ => False) w (.cells #[.int .i64 op, .int .i64 n, .slice ba bs.length bc] 52)
  have z1 := World.size_alloc w (.cells #[.int .i64 op, .int .i64 n, .slice ba bs.length bc] 52)
  have g1 := heap_alloc_new w (.cells #[.int .i64 op, .int .i64 n, .slice ba bs.length bc] 52)
  obtain ⟨W1, hW1⟩ : ∃ W1, w.alloc (.cells #[.int .i64 op, .int .i64 n, .slice ba bs.length bc] 52) = W1 := ⟨_, rfl⟩
  rw [hW1] at k1 z1 g1
  have q1 := p1.kept k1
  -- was
  obtain ⟨wb, wc, w2, hr2, hwc, hro2, hc2, h21, h22⟩ := copy_strs (c := lc) q1.rf.l
  rw [z1, ← hW1] at hr2
  have ka := k1.trans (Chg.alloc (fun _ => False) W1 (.cells #[] 9)) (fun _ _ h => h)
  rw [← hW1] at ka
  have d3 := q1.c2
  have d6 := q1.rf.c6
  rw [← hW1] at d3 d6
  have a3 := ka.cell p1.c2 (fun h => h)
  have a0 := ka.cell p1.rf.c0 (fun h => h)
  have c2 := k1.trans hc2 (fun _ _ h => h)
  have q2 := p1.kept c2
  have e3 := q2.c2
  have HTw : Hid (Calls Tryz.prog 30 #[.pointer (some ⟨pr, 0, none⟩)] w2 fun e w' => ∃ pt, e = .returned (.pointer (some ⟨pt, 0, none⟩)) ∧ Chg (fun _ => False) w2 w') := twin_any w2 q2.rf q2.nvk
  have HK : Hid (PlAt (fun b => b = mb ∨ b = sb) w (.pointer (some ⟨pd, 0, none⟩)) (.slice (some ⟨mb, 0, none⟩) 1 1) cv X w0 w pp pl tv pr R lb lc db dc nb nc nv ∧ Up X w0 w pd pl tv f' com pend live own wrote (1000 + 128 * k) ∧ Cor R f' com pend live own wrote ∧ pend ≤ k ∧ R.syncs ≤ k ∧ M1 w0 w mb sb sd f' ∧ Chg (fun _ => False) w w2 ∧ Row w2 wb 70 (fun n => .string (R.L n)) ∧ W1.heap.size ≤ wb ∧ wb < w2.heap.size ∧ W1.heap.size = w.heap.size + 1) := ⟨p1, u1, c1, b1, b2, hM, c2, hro2, h21, h22, z1⟩
  have t0 : w2.cell? ⟨w.heap.size, 0, none⟩ = some (.int .i64 op) := by rw [cell_of_row _ _ _ _ _ _ ((hc2.block w.heap.size (by omega) (fun h => h)).trans g1)]; rfl
  have t1 : w2.cell? ⟨w.heap.size, 1, none⟩ = some (.int .i64 n) := by rw [cell_of_row _ _ _ _ _ _ ((hc2.block w.heap.size (by omega) (fun h => h)).trans g1)]; rfl
  have t2 : w2.cell? ⟨w.heap.size, 2, none⟩ = some (.slice ba bs.length bc) := by rw [cell_of_row _ _ _ _ _ _ ((hc2.block w.heap.size (by omega) (fun h => h)).trans g1)]; rfl
  clear p1 u1 c1 hM k1 z1 g1 q1 hc2 hro2 h21 h22 ka c2 q2 hW1 b1 b2
  go_enter Tryz.func10, Tryz.ntmps10
  go_wp2_with (at_builtin; go_must (refine Lib.wpList_append_run _ rfl _ _ _ _ rfl _ _ rfl rfl _ _ hr2 ?_; clear hr2))
  refine HTw.out.mono ?_
  rintro e w3 ⟨pt, rfl, hc3⟩
  clear HTw d3 d6 a3 a0 e3
  have u0 := hc3.cell t0 (fun h => h)
  have u1 := hc3.cell t1 (fun h => h)
  have u2 := hc3.cell t2 (fun h => h)
  have HA : Hid (Calls Tryz.prog 31 #[.pointer (some ⟨pp, 0, none⟩), .agg #[.int .i64 op, .int .i64 n, .slice ba bs.length bc]] w3 fun e w' => e = .returned (.bool true) ∧ Ac2 (fun g c s => g = f' ∧ c = com ∧ s = R.syncs) (Y3 mb sb wb) w3 (.slice (some ⟨mb, 0, none⟩) 1 1) cv w0 pd pp (k + 1) w') := by
    obtain ⟨p1, u1, c1, b1, b2, hM, c2, hro2, h21, h22, z1⟩ := HK.out
    have c3 := c2.trans hc3 (fun _ _ h => h)
    have hP := ahead (wb := wb) (mb := mb) (sb := sb) p1 u1 c1 b1 b2 c3 (by omega) (by have := hc3.size; omega) (fun b hb => hb)
    exact wact_any ⟨op, n, .slice ba bs.length bc, bs⟩ w3 hP (by omega) HD.out.1 HD.out.2.1 HD.out.2.2
  have HM : Hid (M1 w0 w3 mb sb sd f' ∧ Row w3 wb 70 (fun n => .string (strOf (ovr f' com n))) ∧ 70 ≤ wc) := by
    obtain ⟨p1, u1, c1, b1, b2, hM, c2, hro2, h21, h22, z1⟩ := HK.out
    have c3 := c2.trans hc3 (fun _ _ h => h)
    refine ⟨⟨(c3.block mb (Array.getElem?_eq_some_iff.1 hM.m).1 (fun h => h)).trans hM.m, hM.r.kept c3 (fun h => h), hM.c, hM.lo⟩, (hro2.kept hc3 (fun h => h)).congr (fun n hn => ?_), hwc⟩
    rw [c1.l n hn]
  obtain ⟨sy, hsy⟩ : ∃ s, R.syncs = s := ⟨_, rfl⟩
  have HSY : Hid (R.syncs = sy ∧ sy ≤ k) := ⟨hsy, by rw [← hsy]; exact HK.out.2.2.2.2.1⟩
  rw [hsy] at HA ⊢
  clear HK t0 t1 t2 hc3 hsy
  go_wp2_with fail
  refine HA.out.mono ?_
  rintro e w4 ⟨rfl, hA⟩
  clear HA u0 u1 u2
  rcases hA with hA | hA
  · obtain ⟨X4, pl4, tv4, pr4, R4, lb4, lc4, db4, dc4, nb4, nc4, nv4, f4, com4, pend4, live4, own4, wrote4, p4, u4, c4, e1, e2, f0, com0, s0, ⟨rfl, rfl, rfl⟩, hT⟩ := hA
    have d0 := p4.cd
    have d3 := p4.c2
    have d6 := p4.rf.c6
    have d4 := p4.cm
    have fr := p4.fr 4
    have HON : Hid (Calls Tryz.prog 32 #[.pointer (some ⟨pd, 0, none⟩)] w4 fun e w' => e = .returned (.bool false) ∧ w' = w4) := u4.isOn
    rcases hT with ⟨rfl, hs⟩ | ⟨rfl, hs⟩
    · have HQ : Hid (StTo w0 pd pp k cs w4) := ⟨cs, k + 1, wd_same p4 u4 c4 e1 e2 HM.out.1 HX.out.1 HX.out.2, Nat.le_refl _, by omega⟩
      rw [hs] at d6
      clear p4 u4 c4 hs HM HX
      go_wp2_with fail
      refine HON.out.mono ?_
      rintro e w5 ⟨rfl, rfl⟩
      go_wp2
      go_ret
      exact ⟨rfl, HQ.out⟩
    · have HQ : Hid (StTo w0 pd pp k cs ((w4.setCell ⟨pp, 4, none⟩ (.slice (some ⟨w4.heap.size, 0, none⟩) 1 1)).alloc (.cells #[.slice (some ⟨wb, 0, none⟩) 70 wc] 45))) := ⟨cs, k + 1, wd_new p4 u4 c4 e1 e2 HM.out.2.1 HM.out.2.2 HX.out.1 HX.out.2, Nat.le_refl _, by omega⟩
      have hl4 : pp < w4.heap.size := (Array.getElem?_eq_some_iff.1 p4.blk).1
      rw [hs] at d6
      have kd : decide ((s0 : Int) < ((s0 + 1 : Nat) : Int)) = true := by simp; omega
      clear p4 u4 c4 hs HM HX
      go_wp2_with fail
      refine HON.out.mono ?_
      rintro e w5 ⟨rfl, rfl⟩
      go_wp2
      all_goals
        go_ret
        exact ⟨rfl, HQ.out⟩
  · obtain ⟨d0, hoff, d4, d4', g, gc, w5, xr, hr5, q4, q3, qf, X', f9, x1, x2, x3, HR⟩ := off_chain (pt := pt) (cs := cs) hA (fun g c s h => ⟨h.1, h.2.1⟩) HM.out.1 HM.out.2.1 HM.out.2.2 HX.out.1 HX.out.2
    have HOF : Hid (Calls Tryz.prog 32 #[.pointer (some ⟨pd, 0, none⟩)] w4 fun e w' => e = .returned (.bool true) ∧ w' = w4) := hoff
    clear hA hoff HM HX
    go_wp2_with fail
    refine HOF.out.mono ?_
    rintro e w6 ⟨rfl, rfl⟩
    clear HOF
    go_wp2_with (at_builtin; go_must (refine Lib.wpList_append_run _ rfl _ _ _ _ rfl _ _ rfl rfl _ _ hr5 ?_; clear hr5))
    refine (wopen_any _ HR.out hcs (by omega)).mono ?_
    rintro e w7 ⟨rfl, cs', k', h1, h2, h3⟩
    have HQ : Hid (StTo w0 pd pp k cs w7) := ⟨cs', k', h1, h2, by omega⟩
    clear h1 h2 h3 HR
    go_wp2
    go_ret
    exact ⟨rfl, HQ.out⟩
end
end Go.Proofs.YtmlhjcjonfalhaaGreat.C

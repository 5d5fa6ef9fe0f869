/-
  Contract of Make of the document's log.
-/
import Derived.Test.YtkkmdmnjlncgfaaRef4
namespace Go.Proofs.Ytkkmdmnjlncgfaa
open Go.RowKit Go.Maps

theorem info4 : (Try.prog.info? 4).map (fun i => (i.zero, i.size, i.bytes)) = some (some (.bool false), 1, 1) := by kernel_rfl
/-- The document's log, fresh. -/
def rnew : Rf := ⟨fun _ => strOf (zeros 512), fun _ => false, 0, false, fun _ => ByteArray.empty, 0, 0⟩
/-- Make, behind n rounds. -/
structure MkAt (N pr : Nat) (w0 w : World) (z : ByteArray) (n : Nat) (vL vD : Value) : Prop where
  pN : pr < N
  p0 : w0.heap.size ≤ pr
  blk : w.heap[pr]? = some (.cells #[vL, vD, .int .i64 0, .bool false, .slice none 0 0, .int .i64 0, .int .i64 0] 46 (0, 0))
  l : w.ownsRow N 9 1 vL n (List.replicate n (.string z))
  d : w.ownsRow N 4 1 vD n (List.replicate n (.bool false))
  ne : ∀ g, vL.ownBlock = some g → vD.ownBlock ≠ some g
  le : N ≤ w.heap.size
  chg : Chg (fun _ => False) w0 w
theorem own_sl4 {w : World} {N n : Nat} {v : Value} {xs : List Value} (h : w.ownsRow N 4 1 v n xs) : ∃ a cap, v = .slice a n cap := by
  rcases h.2 with ⟨h, e⟩ | ⟨g, cap', _, h, _⟩
  · exact ⟨none, 0, by rw [h, e]⟩
  · exact ⟨_, cap', h⟩
theorem MkAt.setl {N pr : Nat} {w0 w w8 : World} {z : ByteArray} {n : Nat} {vL vD v' : Value} {E : Nat → Prop} (h : MkAt N pr w0 w z n vL vD) (hc : Chg E w w8) (hE : ∀ k, E k → N ≤ k) (ho : w8.ownsRow N 9 1 v' (n + 1) (List.replicate n (.string z) ++ [.string z])) (hd : ∀ g, vD.ownBlock = some g → ¬ E g) (_hne : ∀ g, v'.ownBlock = some g → vD.ownBlock ≠ some g) :
    (w8.heap[pr]? = some (.cells #[vL, vD, .int .i64 0, .bool false, .slice none 0 0, .int .i64 0, .int .i64 0] 46 (0, 0))) ∧
    (w8.setCell ⟨pr, 0, none⟩ v').heap[pr]? = some (.cells #[v', vD, .int .i64 0, .bool false, .slice none 0 0, .int .i64 0, .int .i64 0] 46 (0, 0)) ∧
    (w8.setCell ⟨pr, 0, none⟩ v').ownsRow N 9 1 v' (n + 1) (List.replicate (n + 1) (.string z)) ∧ (w8.setCell ⟨pr, 0, none⟩ v').ownsRow N 4 1 vD n (List.replicate n (.bool false)) ∧ N ≤ w8.heap.size ∧ Chg (fun _ => False) w0 (w8.setCell ⟨pr, 0, none⟩ v') := by
  have hp : ¬ E pr := fun e => by have := hE pr e; have := h.pN; omega
  have hl : pr < w.heap.size := (Array.getElem?_eq_some_iff.1 h.blk).1
  have b8 := (hc.block pr hl hp).trans h.blk
  have hcs : Chg (fun b => b = pr) w8 (w8.setCell ⟨pr, 0, none⟩ v') := Chg.setCell _ _ _ rfl
  refine ⟨b8, ?_, ?_, ?_, by have := hc.size; have := h.le; omega, ?_⟩
  · have := heap_setCell_same w8 pr 0 _ 46 v' b8
    simpa using this
  · rw [List.replicate_succ']
    exact own_same ho (fun g hg => hcs.block g (ho.lt g hg).2 (fun e => by have := (ho.lt g hg).1; have := h.pN; omega))
  · exact own_same h.d (fun g hg => by
      have hg8 : w8.heap[g]? = w.heap[g]? := hc.block g (h.d.lt g hg).2 (hd g hg)
      have hlt : g < w8.heap.size := by have := (h.d.lt g hg).2; have := hc.size; omega
      exact (hcs.block g hlt (fun e => by have := (h.d.lt g hg).1; have := h.pN; omega)).trans hg8)
  · exact (h.chg.trans hc (fun k hk e => by have := hE k e; have := h.p0; have := h.pN; omega)).trans hcs (fun k hk e => by have := h.p0; omega)

theorem MkAt.push {N pr : Nat} {w0 w : World} {z : ByteArray} {n : Nat} {vL vD : Value} (h : MkAt N pr w0 w z n vL vD) (hn : n < 100) :
    ∃ v' w8, (Builtin.append_ #[43, 43] 43 #[vL, .slice (some ⟨w.heap.size, 0, none⟩) 1 1]).run Try.prog (w.alloc (.cells #[.string z] 9)) = .ok v' w8 ∧ w8.cell? ⟨pr, 0, none⟩ = some vL ∧ w8.frozen? ⟨pr, 0, none⟩ = false ∧ w8.cell? ⟨pr, 1, none⟩ = some vD ∧
    ∃ v2 w10, (Builtin.append_ #[44, 44] 44 #[vD, .slice (some ⟨w8.heap.size, 0, none⟩) 1 1]).run Try.prog ((w8.setCell ⟨pr, 0, none⟩ v').alloc (.cells #[.bool false] 4)) = .ok v2 w10 ∧ w10.cell? ⟨pr, 1, none⟩ = some vD ∧ w10.frozen? ⟨pr, 1, none⟩ = false ∧ MkAt N pr w0 (w10.setCell ⟨pr, 1, none⟩ v2) z (n + 1) v' v2 := by
  obtain ⟨i9, hi9, hz90, hz91, hz92⟩ := info_parts info9
  obtain ⟨i4, hi4, hz40, hz41, hz42⟩ := info_parts info4
  have hle := h.le
  have hpN := h.pN
  have own7 : (w.alloc (.cells #[.string z] 9)).ownsRow N 9 1 vL n (List.replicate n (.string z)) := h.l.alloc _
  obtain ⟨v', w8, hr, ho8, hg8, _, hob⟩ := run_append_own_at (P := Try.prog) (w.alloc (.cells #[.string z] 9)) N 43 43 9 i9 (.string ByteArray.empty) 1 16 Try.underlying43 hi9 hz90 hz91 hz92 rfl (by decide) vL n _ own7 ⟨w.heap.size, 0, none⟩ 1 1 [.string z] rfl (cell_one_new w (.string z) 9) (fun u hu => by rw [List.mem_singleton.1 hu]; rfl) (by unfold maxLen; omega) (by omega) (by simp; omega)
  have hc8 : Chg (fun k => vL.ownBlock = some k) w w8 := ((Chg.alloc (fun _ => False) w _).mono (fun _ _ h => h.elim)).trans (Chg.ofGrown hg8) (fun _ _ h => h)
  obtain ⟨b8, g1, g2, g3, g4, g5⟩ := h.setl hc8 (fun k e => (h.l.lt k e).1) ho8 (fun g hg e => h.ne g e hg) (fun g hg e => by
    rcases hob with e1 | e1
    · exact h.ne g (e1 ▸ hg) e
    · rw [e1] at hg
      have h1 := (h.d.lt g e).2
      have h2 : (w.alloc (.cells #[.string z] 9)).heap.size = g := by injection hg
      simp at h2
      omega)
  have hne8 : ∀ g, v'.ownBlock = some g → vD.ownBlock ≠ some g := fun g hg e => by
    rcases hob with e1 | e1
    · exact h.ne g (e1 ▸ hg) e
    · rw [e1] at hg
      have h1 := (h.d.lt g e).2
      have h2 : (w.alloc (.cells #[.string z] 9)).heap.size = g := by injection hg
      simp at h2
      omega
  refine ⟨v', w8, hr, by rw [cell_of_row w8 pr 0 _ _ _ b8]; rfl, by simp [World.frozen?, b8], by rw [cell_of_row w8 pr 1 _ _ _ b8]; rfl, ?_⟩
  have hs9 : (w8.setCell ⟨pr, 0, none⟩ v').heap.size = w8.heap.size := World.size_setCell _ _ _
  obtain ⟨w9, hw9⟩ : ∃ w9, w8.setCell ⟨pr, 0, none⟩ v' = w9 := ⟨_, rfl⟩
  rw [hw9] at g1 g2 g3 g5 hs9 ⊢
  rw [← hs9] at g4 ⊢
  have own9 : (w9.alloc (.cells #[.bool false] 4)).ownsRow N 4 1 vD n (List.replicate n (.bool false)) := g3.alloc _
  obtain ⟨v2, w10, hr2, ho10, hg10, _, hob2⟩ := run_append_own_at (P := Try.prog) (w9.alloc (.cells #[.bool false] 4)) N 44 44 4 i4 (.bool false) 1 1 Try.underlying44 hi4 hz40 hz41 hz42 rfl (by decide) vD n _ own9 ⟨w9.heap.size, 0, none⟩ 1 1 [.bool false] rfl (cell_one_new w9 (.bool false) 4) (fun u hu => by rw [List.mem_singleton.1 hu]; rfl) (by unfold maxLen; omega) (by omega) (by simp; omega)
  have hc10 : Chg (fun k => vD.ownBlock = some k) w9 w10 := ((Chg.alloc (fun _ => False) w9 _).mono (fun _ _ h => h.elim)).trans (Chg.ofGrown hg10) (fun _ _ h => h)
  have hlp : pr < w9.heap.size := by omega
  have hnp : vD.ownBlock ≠ some pr := fun e => by have := (g3.lt pr e).1; omega
  have b10 := (hc10.block pr hlp hnp).trans g1
  have hcs : Chg (fun b => b = pr) w10 (w10.setCell ⟨pr, 1, none⟩ v2) := Chg.setCell _ _ _ rfl
  refine ⟨v2, w10, hr2, by rw [cell_of_row w10 pr 1 _ _ _ b10]; rfl, by simp [World.frozen?, b10], ⟨hpN, h.p0, ?_, ?_, ?_, ?_, ?_, ?_⟩⟩
  · have := heap_setCell_same w10 pr 1 _ 46 v2 b10
    simpa using this
  · exact own_same g2 (fun g hg => by
      have e10 : w10.heap[g]? = w9.heap[g]? := hc10.block g (g2.lt g hg).2 (hne8 g hg)
      have hlt : g < w10.heap.size := by have := (g2.lt g hg).2; have := hc10.size; omega
      exact (hcs.block g hlt (fun e => by have := (g2.lt g hg).1; omega)).trans e10)
  · rw [List.replicate_succ']
    exact own_same ho10 (fun g hg => hcs.block g (ho10.lt g hg).2 (fun e => by have := (ho10.lt g hg).1; omega))
  · intro g hg e
    rcases hob2 with e1 | e1
    · exact hne8 g hg (e1 ▸ e)
    · rw [e1] at e
      have h1 := (g2.lt g hg).2
      have h2 : (w9.alloc (.cells #[.bool false] 4)).heap.size = g := by injection e
      simp at h2
      omega
  · have h1 := hc10.size
    have h2 := hcs.size
    omega
  · exact (g5.trans hc10 (fun k hk e => by have := (g3.lt k e).1; have := h.p0; omega)).trans hcs (fun k hk e => by have := h.p0; omega)

theorem MkAt.done {N pr : Nat} {w0 w : World} {vL vD : Value} {m : Nat} (h : MkAt N pr w0 w (strOf (zeros 512)) m vL vD) (hm : m = 70) (h0 : w0.heap.size ≤ N) :
    ∃ lb lc db dc, RfAt w pr rnew lb lc db dc 0 0 (.slice none 0 0) ∧ Chg (fun _ => False) w0 w ∧ w0.heap.size ≤ pr ∧ w0.heap.size ≤ lb ∧ w0.heap.size ≤ db := by
  rcases h.l.2 with ⟨_, e⟩ | ⟨lb, lc, cur, e1, hb, hg, hnc, hcm, hcs, htake⟩
  · omega
  rcases h.d.2 with ⟨_, e⟩ | ⟨db, dc, cur2, e2, hb2, hg2, hnc2, hcm2, hcs2, htake2⟩
  · omega
  have hl := h.l
  have hd := h.d
  have hne := h.ne
  have hbk := h.blk
  have hpN := h.pN
  rw [e1] at hl hne hbk
  rw [e2] at hd hne hbk
  have hld : lb ≠ db := fun e => hne lb rfl (by rw [e]; rfl)
  have r1 : Row w lb m (fun _ => .string (strOf (zeros 512))) := Row.own hl (fun j hj => by rw [List.getElem?_replicate, if_pos hj])
  have r2 : Row w db m (fun _ => .bool false) := Row.own hd (fun j hj => by rw [List.getElem?_replicate, if_pos hj])
  subst hm
  have q1 : pr ≠ lb := by omega
  have q2 : pr ≠ db := by omega
  have key : ∀ R : Rf, R = rnew → RfAt w pr R lb lc db dc 0 0 (.slice none 0 0) := by
    intro R hR
    have e1 : R.L = fun _ => strOf (zeros 512) := by rw [hR]; simp only [rnew]
    have e2 : R.D = fun _ => false := by rw [hR]; simp only [rnew]
    have e3 : R.pend = 0 := by rw [hR]; simp only [rnew]
    have e4 : R.op = false := by rw [hR]; simp only [rnew]
    have e5 : R.wrote = 0 := by rw [hR]; simp only [rnew]
    have e6 : R.syncs = 0 := by rw [hR]; simp only [rnew]
    have hno : R.op = true → False := fun ho => by rw [e4] at ho; cases ho
    refine ⟨by rw [e3, e4, e5, e6]; exact hbk, by rw [e1]; exact r1, by rw [e2]; exact r2, fun ho => (hno ho).elim, ⟨_, _, _, rfl⟩, q1, q2, fun ho => (hno ho).elim, hld, fun ho => (hno ho).elim, hnc, hnc2⟩
  exact ⟨lb, lc, db, dc, key rnew rfl, h.chg, h.p0, by omega, by omega⟩

theorem rmk_start {w w1 : World} (own1 : w1.ownsRow w.heap.size 5 1 (.slice (some ⟨(w.alloc (.cells #[.slice none 0 0, .slice none 0 0, .int .i64 0, .bool false, .slice none 0 0, .int .i64 0, .int .i64 0] 46)).heap.size, 0, none⟩) 512 512) 512 (madeCells (Value.int .u8 0).cells (512 * 1)).toList) (grow1 : (w.alloc (.cells #[.slice none 0 0, .slice none 0 0, .int .i64 0, .bool false, .slice none 0 0, .int .i64 0, .int .i64 0] 46)).grownBy w1 none) :
    ∃ z, Hid (strOf (zeros 512) = z) ∧ (convert 39 9 (.slice (some ⟨w.heap.size + 1, 0, none⟩) 512 512)).run Try.prog w1 = .ok (.string z) w1 ∧ Hid (MkAt w1.heap.size w.heap.size w w1 z 0 (.slice none 0 0) (.slice none 0 0)) ∧ w.heap.size ≤ w1.heap.size := by
  rw [made_bytes, World.size_alloc] at own1
  have hc1 := Chg.of_none grow1
  have hgw : w.heap.size + 1 < w1.heap.size := (own1.lt _ rfl).2
  refine ⟨_, rfl, run_str (Bs.ofOwns own1), ?_, by omega⟩
  refine ⟨by omega, Nat.le_refl _, ?_, ⟨rfl, .inl ⟨rfl, rfl⟩⟩, ⟨rfl, .inl ⟨rfl, rfl⟩⟩, fun g hg => (by cases hg), Nat.le_refl _, (Chg.alloc (fun _ => False) w _).trans hc1 (fun _ _ h => h)⟩
  exact (hc1.block w.heap.size (by rw [World.size_alloc]; omega) (fun h => h)).trans (heap_alloc_new w _)

set_option maxHeartbeats 3200000 in
set_option maxRecDepth 100000 in
theorem rmake_any (w : World) : Calls Try.prog 12 #[.int .i64 135] w fun e w' => ∃ pr, e = .returned (.pointer (some ⟨pr, 0, none⟩)) ∧ ∃ lb lc db dc, RfAt w' pr rnew lb lc db dc 0 0 (.slice none 0 0) ∧ Chg (fun _ => False) w w' ∧ w.heap.size ≤ pr ∧ w.heap.size ≤ lb ∧ w.heap.size ≤ db := by
  obtain ⟨i5, hi5, hz50, hz51, hz52⟩ := info_parts info5
  go_enter Try.func12, Try.ntmps12
  go_wp2_with (refine wpList_make_full _ rfl _ _ 39 rfl w.heap.size 5 i5 (.int .u8 0) 1 Try.underlying39 hi5 hz50 hz51 .i64 .i64 _ _ 512 rfl rfl rfl rfl (by rw [hz52]; omega) (by unfold maxLen; omega) (by simp) ?_; intro w1 own1 grow1; obtain ⟨z, HZ, s1, H0, hN⟩ := rmk_start own1 grow1; clear own1 grow1)
  clear s1
  go_loopw [5] (fun x wr => ∃ n vL vD, n ≤ 70 ∧ x = .int .i64 ((65 + n : Nat) : Int) ∧ Hid (MkAt w1.heap.size w.heap.size w wr z n vL vD)) (fun x _ => 135 - (intOf x).toNat)
  case atStart => exact ⟨0, _, _, by omega, rfl, H0⟩
  case round =>
    obtain ⟨n, vL, vD, hn, rfl, HR⟩ := hrel
    clear H0
    by_cases hlt : n < 70
    · have hki : ((65 + n : Nat) : Int) < 135 := by omega
      have c0 : wr.cell? ⟨w.heap.size, 0, none⟩ = some vL := by rw [cell_of_row _ _ 0 _ _ _ HR.out.blk]; rfl
      obtain ⟨v', w8, hr, c8, f8, d8, v2, w10, hr2, c10, f10, hm⟩ := HR.out.push (by omega)
      have H2 : Hid (MkAt w1.heap.size w.heap.size w (w10.setCell ⟨w.heap.size, 1, none⟩ v2) z (n + 1) v' v2) := hm
      obtain ⟨a1, k1, e1⟩ := own_sl9 HR.out.l
      obtain ⟨a2, k2, e2⟩ := own_sl4 HR.out.d
      obtain ⟨a3, k3, e3⟩ := own_sl9 hm.l
      obtain ⟨a4, k4, e4⟩ := own_sl4 hm.d
      obtain ⟨nn, hnn⟩ : ∃ nn, 65 + n = nn := ⟨_, rfl⟩
      have HNN : Hid (65 + n = nn) := hnn
      have hnb : nn < 135 := by omega
      rw [hnn] at hki ⊢
      subst e1 e2 e3 e4
      clear HR hm hnn
      go_wp2_with (at_builtin; go_must (first | refine Lib.wpList_append_run _ rfl _ _ _ _ rfl _ _ rfl rfl _ _ hr ?_ | refine Lib.wpList_append_run _ rfl _ _ _ _ rfl _ _ rfl rfl _ _ hr2 ?_))
      go_roundw
      case rel => exact ⟨n + 1, _, _, by omega, by have := HNN.out; go_num, H2⟩
      case measure => simp [intOf]; omega
    · have hie : n = 70 := by omega
      subst hie
      have HQ : Hid (∃ lb lc db dc, RfAt wr w.heap.size rnew lb lc db dc 0 0 (.slice none 0 0) ∧ Chg (fun _ => False) w wr ∧ w.heap.size ≤ w.heap.size ∧ w.heap.size ≤ lb ∧ w.heap.size ≤ db) := by
        have h := HR.out
        rw [← HZ.out] at h
        exact h.done rfl hN
      clear HR
      go_wp2
      go_ret
      exact ⟨_, rfl, HQ.out⟩
end Go.Proofs.Ytkkmdmnjlncgfaa

/-
  Contract of Make of the document's log.
-/
import Derived.Test.YtmlhjcjonfalhaaGreatRef2
namespace Go.Proofs.YtmlhjcjonfalhaaGreat
open Go.RowKit Go.Maps

theorem info4 : (Tryz.prog.info? 4).map (fun i => (i.zero, i.size, i.bytes)) = some (some (.bool false), 1, 1) := by kernel_rfl
/-- The document's log, fresh. -/
def rnew : Rf := ⟨fun _ => strOf (zeros 512), fun _ => false, 0, false, fun _ => ByteArray.empty, 0, 0⟩
/-- Make, behind n rounds. -/
structure MkAt (N pr : Nat) (w0 w : World) (z : ByteArray) (n : Nat) (vL vD : Value) : Prop where
  pN : pr < N
  p0 : w0.heap.size ≤ pr
  blk : w.heap[pr]? = some (.cells #[vL, vD, .int .i64 0, .bool false, .slice none 0 0, .int .i64 0, .int .i64 0] 48 (0, 0))
  l : w.ownsRow N 9 1 vL n (List.replicate n (.string z))
  d : w.ownsRow N 4 1 vD n (List.replicate n (.bool false))
  ne : ∀ g, vL.ownBlock = some g → vD.ownBlock ≠ some g
  le : N ≤ w.heap.size
  chg : Chg (fun _ => False) w0 w
theorem own_sl4 {w : World} {N n : Nat} {v : Value} {xs : List Value} (h : w.ownsRow N 4 1 v n xs) : ∃ a cap, v = .slice a n cap := by
  rcases h.2 with ⟨h, e⟩ | ⟨g, cap', _, h, _⟩
  · exact ⟨none, 0, by rw [h, e]⟩
  · exact ⟨_, cap', h⟩
theorem MkAt.setl {N pr : Nat} {w0 w w8 : World} {z : ByteArray} {n : Nat} {vL vD v' : Value} {E : Nat → Prop} (h : MkAt N pr w0 w z n vL vD) (hc : Chg E w w8) (hE : ∀ k, E k → N ≤ k) (ho : w8.ownsRow N 9 1 v' (n + 1) (List.replicate n (.string z) ++ [.string z])) (hd : ∀ g, vD.ownBlock = some g → ¬ E g) (_hne : ∀ g, v'.ownBlock = some g → vD.ownBlock ≠ some g) :
    (w8.heap[pr]? = some (.cells #[vL, vD, .int .i64 0, .bool false, .slice none 0 0, .int .i64 0, .int .i64 0] 48 (0, 0))) ∧
    (w8.setCell ⟨pr, 0, none⟩ v').heap[pr]? = some (.cells #[v', vD, .int .i64 0, .bool false, .slice none 0 0, .int .i64 0, .int .i64 0] 48 (0, 0)) ∧
    (w8.setCell ⟨pr, 0, none⟩ v').ownsRow N 9 1 v' (n + 1) (List.replicate (n + 1) (.string z)) ∧ (w8.setCell ⟨pr, 0, none⟩ v').ownsRow N 4 1 vD n (List.replicate n (.bool false)) ∧ N ≤ w8.heap.size ∧ Chg (fun _ => False) w0 (w8.setCell ⟨pr, 0, none⟩ v') := by
  have hp : ¬ E pr := fun e => by have := hE pr e; have := h.pN; omega
  have hl : pr < w.heap.size := (Array.getElem?_eq_some_iff.1 h.blk).1
  have b8 := (hc.block pr hl hp).trans h.blk
  have hcs : Chg (fun b => b = pr) w8 (w8.setCell ⟨pr, 0, none⟩ v') := Chg.setCell _ _ _ rfl
  refine ⟨b8, ?_, ?_, ?_, by have := hc.size; have := h.le; omega, ?_⟩
  · have := heap_setCell_same w8 pr 0 _ 48 v' b8
    simpa using this
  · rw [List.replicate_succ']
    exact own_same ho (fun g hg => hcs.block g (ho.lt g hg).2 (fun e => by have := (ho.lt g hg).1; have := h.pN; omega))
  · exact own_same h.d (fun g hg => by
      have hg8 : w8.heap[g]? = w.heap[g]? := hc.block g (h.d.lt g hg).2 (hd g hg)
      have hlt : g < w8.heap.size := by have := (h.d.lt g hg).2; have := hc.size; omega
      exact (hcs.block g hlt (fun e => by have := (h.d.lt g hg).1; have := h.pN; omega)).trans hg8)
  · exact (h.chg.trans hc (fun k hk e => by have := hE k e; have := h.p0; have := h.pN; omega)).trans hcs (fun k hk e => by have := h.p0; omega)

theorem MkAt.push {N pr : Nat} {w0 w : World} {z : ByteArray} {n : Nat} {vL vD : Value} (h : MkAt N pr w0 w z n vL vD) (hn : n < 100) :
    ∃ v' w8, (Builtin.append_ #[45, 45] 45 #[vL, .slice (some ⟨w.heap.size, 0, none⟩) 1 1]).run Tryz.prog (w.alloc (.cells #[.string z] 9)) = .ok v' w8 ∧ w8.cell? ⟨pr, 0, none⟩ = some vL ∧ w8.frozen? ⟨pr, 0, none⟩ = false ∧ w8.cell? ⟨pr, 1, none⟩ = some vD ∧
    ∃ v2 w10, (Builtin.append_ #[46, 46] 46 #[vD, .slice (some ⟨w8.heap.size, 0, none⟩) 1 1]).run Tryz.prog ((w8.setCell ⟨pr, 0, none⟩ v').alloc (.cells #[.bool false] 4)) = .ok v2 w10 ∧ w10.cell? ⟨pr, 1, none⟩ = some vD ∧ w10.frozen? ⟨pr, 1, none⟩ = false ∧ MkAt N pr w0 (w10.setCell ⟨pr, 1, none⟩ v2) z (n + 1) v' v2 := by
  obtain ⟨i9, hi9, hz90, hz91, hz92⟩ := info_parts info9
  obtain ⟨i4, hi4, hz40, hz41, hz42⟩ := info_parts info4
  have hle := h.le
  have hpN := h.pN
  have own7 : (w.alloc (.cells #[.string z] 9)).ownsRow N 9 1 vL n (List.replicate n (.string z)) := h.l.alloc _
  obtain ⟨v', w8, hr, ho8, hg8, _, hob⟩ := run_append_own_at (P := Tryz.prog) (w.alloc (.cells #[.string z] 9)) N 45 45 9 i9 (.string ByteArray.empty) 1 16 Tryz.underlying45 hi9 hz90 hz91 hz92 rfl (by decide) vL n _ own7 ⟨w.heap.size, 0, none⟩ 1 1 [.string z] rfl (cell_one_new w (.string z) 9) (fun u hu => by rw [List.mem_singleton.1 hu]; rfl) (by unfold maxLen; omega) (by omega) (by simp; omega)
  have hc8 : Chg (fun k => vL.ownBlock = some k) w w8 := ((Chg.alloc (fun _ => False) w _).mono (fun _ _ h => h.elim)).trans (Chg.ofGrown hg8) (fun _ _ h => h)
  obtain ⟨b8, g1, g2, g3, g4, g5⟩ := h.setl hc8 (fun k e => (h.l.lt k e).1) ho8 (fun g hg e => h.ne g e hg) (fun g hg e => by
    rcases hob with e1 | e1
    · exact h.ne g (e1 ▸ hg) e
    · rw [e1] at hg
      have h1 := (h.d.lt g e).2
      have h2 : (w.alloc (.cells #[.string z] 9)).heap.size = g := by injection hg
      simp at h2
      omega)
  have hne8 : ∀ g, v'.ownBlock = some g → vD.ownBlock ≠ some g := fun g hg e => by
    rcases hob with e1 | e1
    · exact h.ne g (e1 ▸ hg) e
    · rw [e1] at hg
      have h1 := (h.d.lt g e).2
      have h2 : (w.alloc (.cells #[.string z] 9)).heap.size = g := by injection hg
      simp at h2
      omega
  refine ⟨v', w8, hr, by rw [cell_of_row w8 pr 0 _ _ _ b8]; rfl, by simp [World.frozen?, b8], by rw [cell_of_row w8 pr 1 _ _ _ b8]; rfl, ?_⟩
  have hs9 : (w8.setCell ⟨pr, 0, none⟩ v').heap.size = w8.heap.size := World.size_setCell _ _ _
  obtain ⟨w9, hw9⟩ : ∃ w9, w8.setCell ⟨pr, 0, none⟩ v' = w9 := ⟨_, rfl⟩
  rw [hw9] at g1 g2 g3 g5 hs9 ⊢
  rw [← hs9] at g4 ⊢
  have own9 : (w9.alloc (.cells #[.bool false] 4)).ownsRow N 4 1 vD n (List.replicate n (.bool false)) := g3.alloc _
  obtain ⟨v2, w10, hr2, ho10, hg10, _, hob2⟩ := run_append_own_at (P := Tryz.prog) (w9.alloc (.cells #[.bool false] 4)) N 46 46 4 i4 (.bool false) 1 1 Tryz.underlying46 hi4 hz40 hz41 hz42 rfl (by decide) vD n _ own9 ⟨w9.heap.size, 0, none⟩ 1 1 [.bool false] rfl (cell_one_new w9 (.bool false) 4) (fun u hu => by rw [List.mem_singleton.1 hu]; rfl) (by unfold maxLen; omega) (by omega) (by simp; omega)
  have hc10 : Chg (fun k => vD.ownBlock = some k) w9 w10 := ((Chg.alloc (fun _ => False) w9 _).mono (fun _ _ h => h.elim)).trans (Chg.ofGrown hg10) (fun _ _ h => h)
  have hlp : pr < w9.heap.size := by omega
  have hnp : vD.ownBlock ≠ some pr := fun e => by have := (g3.lt pr e).1; omega
  have b10 := (hc10.block pr hlp hnp).trans g1
  have hcs : Chg (fun b => b = pr) w10 (w10.setCell ⟨pr, 1, none⟩ v2) := Chg.setCell _ _ _ rfl
  refine ⟨v2, w10, hr2, by rw [cell_of_row w10 pr 1 _ _ _ b10]; rfl, by simp [World.frozen?, b10], ⟨hpN, h.p0, ?_, ?_, ?_, ?_, ?_, ?_⟩⟩
  · have := heap_setCell_same w10 pr 1 _ 48 v2 b10
    simpa using this
  · exact own_same g2 (fun g hg => by
      have e10 : w10.heap[g]? = w9.heap[g]? := hc10.block g (g2.lt g hg).2 (hne8 g hg)
      have hlt : g < w10.heap.size := by have := (g2.lt g hg).2; have := hc10.size; omega
      exact (hcs.block g hlt (fun e => by have := (g2.lt g hg).1; omega)).trans e10)
  · rw [List.replicate_succ']
    exact own_same ho10 (fun g hg => hcs.block g (ho10.lt g hg).2 (fun e => by have := (ho10.lt g hg).1; omega))
  · intro g hg e
    rcases hob2 with e1 | e1
    · exact hne8 g hg (e1 ▸ e)
    · rw [e1] at e
      have h1 := (g2.lt g hg).2
      have h2 : (w9.alloc (.cells #[.bool false] 4)).heap.size = g := by injection e
      simp at h2
      omega
  · have h1 := hc10.size
    have h2 := hcs.size
    omega
  · exact (g5.trans hc10 (fun k hk e => by have := (g3.lt k e).1; have := h.p0; omega)).trans hcs (fun k hk e => by have := h.p0; omega)

theorem MkAt.done {N pr : Nat} {w0 w : World} {vL vD : Value} {m : Nat} (h : MkAt N pr w0 w (strOf (zeros 512)) m vL vD) (hm : m = 70) (h0 : w0.heap.size ≤ N) :
    ∃ lb lc db dc, RfAt w pr rnew lb lc db dc 0 0 (.slice none 0 0) ∧ Chg (fun _ => False) w0 w ∧ w0.heap.size ≤ pr ∧ w0.heap.size ≤ lb ∧ w0.heap.size ≤ db := by
  rcases h.l.2 with ⟨_, e⟩ | ⟨lb, lc, cur, e1, hb, hg, hnc, hcm, hcs, htake⟩
  · omega
  rcases h.d.2 with ⟨_, e⟩ | ⟨db, dc, cur2, e2, hb2, hg2, hnc2, hcm2, hcs2, htake2⟩
  · omega
  have hl := h.l
  have hd := h.d
  have hne := h.ne
  have hbk := h.blk
  have hpN := h.pN
  rw [e1] at hl hne hbk
  rw [e2] at hd hne hbk
  have hld : lb ≠ db := fun e => hne lb rfl (by rw [e]; rfl)
  have r1 : Row w lb m (fun _ => .string (strOf (zeros 512))) := Row.own hl (fun j hj => by rw [List.getElem?_replicate, if_pos hj])
  have r2 : Row w db m (fun _ => .bool false) := Row.own hd (fun j hj => by rw [List.getElem?_replicate, if_pos hj])
  subst hm
  have q1 : pr ≠ lb := by omega
  have q2 : pr ≠ db := by omega
  have key : ∀ R : Rf, R = rnew → RfAt w pr R lb lc db dc 0 0 (.slice none 0 0) := by
    intro R hR
    have e1 : R.L = fun _ => strOf (zeros 512) := by rw [hR]; simp only [rnew]
    have e2 : R.D = fun _ => false := by rw [hR]; simp only [rnew]
    have e3 : R.pend = 0 := by rw [hR]; simp only [rnew]
    have e4 : R.op = false := by rw [hR]; simp only [rnew]
    have e5 : R.wrote = 0 := by rw [hR]; simp only [rnew]
    have e6 : R.syncs = 0 := by rw [hR]; simp only [rnew]
    have hno : R.op = true → False := fun ho => by rw [e4] at ho; cases ho
    refine ⟨by rw [e3, e4, e5, e6]; exact hbk, by rw [e1]; exact r1, by rw [e2]; exact r2, fun ho => (hno ho).elim, ⟨_, _, _, rfl⟩, q1, q2, fun ho => (hno ho).elim, hld, fun ho => (hno ho).elim, hnc, hnc2⟩
  exact ⟨lb, lc, db, dc, key rnew rfl, h.chg, h.p0, by omega, by omega⟩

theorem rmk_start {w w1 : World} (own1 : w1.ownsRow w.heap.size 5 1 (.slice (some ⟨(w.alloc (.cells #[.slice none 0 0, .slice none 0 0, .int .i64 0, .bool false, .slice none 0 0, .int .i64 0, .int .i64 0] 48)).heap.size, 0, none⟩) 512 512) 512 (madeCells (Value.int .u8 0).cells (512 * 1)).toList) (grow1 : (w.alloc (.cells #[.slice none 0 0, .slice none 0 0, .int .i64 0, .bool false, .slice none 0 0, .int .i64 0, .int .i64 0] 48)).grownBy w1 none) :
    ∃ z, Hid (strOf (zeros 512) = z) ∧ (convert 50 9 (.slice (some ⟨w.heap.size + 1, 0, none⟩) 512 512)).run Tryz.prog w1 = .ok (.string z) w1 ∧ Hid (MkAt w1.heap.size w.heap.size w w1 z 0 (.slice none 0 0) (.slice none 0 0)) ∧ w.heap.size ≤ w1.heap.size := by
  rw [made_bytes, World.size_alloc] at own1
  have hc1 := Chg.of_none grow1
  have hgw : w.heap.size + 1 < w1.heap.size := (own1.lt _ rfl).2
  refine ⟨_, rfl, run_str (Bs.ofOwns own1), ?_, by omega⟩
  refine ⟨by omega, Nat.le_refl _, ?_, ⟨rfl, .inl ⟨rfl, rfl⟩⟩, ⟨rfl, .inl ⟨rfl, rfl⟩⟩, fun g hg => (by cases hg), Nat.le_refl _, (Chg.alloc (fun _ => False) w _).trans hc1 (fun _ _ h => h)⟩
  exact (hc1.block w.heap.size (by rw [World.size_alloc]; omega) (fun h => h)).trans (heap_alloc_new w _)

set_option maxHeartbeats 3200000 in
set_option maxRecDepth 100000 in
theorem rmake_any (w : World) : Calls Tryz.prog 8 #[.int .i64 135] w fun e w' => ∃ pr, e = .returned (.pointer (some ⟨pr, 0, none⟩)) ∧ ∃ lb lc db dc, RfAt w' pr rnew lb lc db dc 0 0 (.slice none 0 0) ∧ Chg (fun _ => False) w w' ∧ w.heap.size ≤ pr ∧ w.heap.size ≤ lb ∧ w.heap.size ≤ db := by
  obtain ⟨i5, hi5, hz50, hz51, hz52⟩ := info_parts info5
  go_enter Tryz.func8, Tryz.ntmps8
  go_wp2_with (refine wpList_make_full _ rfl _ _ 50 rfl w.heap.size 5 i5 (.int .u8 0) 1 Tryz.underlying50 hi5 hz50 hz51 .i64 .i64 _ _ 512 rfl rfl rfl rfl (by rw [hz52]; omega) (by unfold maxLen; omega) (by simp) ?_; intro w1 own1 grow1; obtain ⟨z, HZ, s1, H0, hN⟩ := rmk_start own1 grow1; clear own1 grow1)
  clear s1
  go_loopw [5] (fun x wr => ∃ n vL vD, n ≤ 70 ∧ x = .int .i64 ((65 + n : Nat) : Int) ∧ Hid (MkAt w1.heap.size w.heap.size w wr z n vL vD)) (fun x _ => 135 - (intOf x).toNat)
  case atStart => exact ⟨0, _, _, by omega, rfl, H0⟩
  case round =>
    obtain ⟨n, vL, vD, hn, rfl, HR⟩ := hrel
    clear H0
    by_cases hlt : n < 70
    · have hki : ((65 + n : Nat) : Int) < 135 := by omega
      have c0 : wr.cell? ⟨w.heap.size, 0, none⟩ = some vL := by rw [cell_of_row _ _ 0 _ _ _ HR.out.blk]; rfl
      obtain ⟨v', w8, hr, c8, f8, d8, v2, w10, hr2, c10, f10, hm⟩ := HR.out.push (by omega)
      have H2 : Hid (MkAt w1.heap.size w.heap.size w (w10.setCell ⟨w.heap.size, 1, none⟩ v2) z (n + 1) v' v2) := hm
      obtain ⟨a1, k1, e1⟩ := own_sl9 HR.out.l
      obtain ⟨a2, k2, e2⟩ := own_sl4 HR.out.d
      obtain ⟨a3, k3, e3⟩ := own_sl9 hm.l
      obtain ⟨a4, k4, e4⟩ := own_sl4 hm.d
      obtain ⟨nn, hnn⟩ : ∃ nn, 65 + n = nn := ⟨_, rfl⟩
      have HNN : Hid (65 + n = nn) := hnn
      have hnb : nn < 135 := by omega
      rw [hnn] at hki ⊢
      subst e1 e2 e3 e4
      clear HR hm hnn
      go_wp2_with (at_builtin; go_must (first | refine Lib.wpList_append_run _ rfl _ _ _ _ rfl _ _ rfl rfl _ _ hr ?_ | refine Lib.wpList_append_run _ rfl _ _ _ _ rfl _ _ rfl rfl _ _ hr2 ?_))
      go_roundw
      case rel => exact ⟨n + 1, _, _, by omega, by have := HNN.out; go_num, H2⟩
      case measure => simp [intOf]; omega
    · have hie : n = 70 := by omega
      subst hie
      have HQ : Hid (∃ lb lc db dc, RfAt wr w.heap.size rnew lb lc db dc 0 0 (.slice none 0 0) ∧ Chg (fun _ => False) w wr ∧ w.heap.size ≤ w.heap.size ∧ w.heap.size ≤ lb ∧ w.heap.size ≤ db) := by
        have h := HR.out
        rw [← HZ.out] at h
        exact h.done rfl hN
      clear HR
      go_wp2
      go_ret
      exact ⟨_, rfl, HQ.out⟩
end Go.Proofs.YtmlhjcjonfalhaaGreat

namespace Go.Proofs.YtmlhjcjonfalhaaGreat
open Go.RowKit Go.Maps

theorem MapIs.lookOut {w : World} {m nb : Nat} {f : Nat → Option Value} (h : MapIs w m nb f) (n : Int) (hw : -9223372036854775808 ≤ n ∧ n ≤ 9223372036854775807) (hn : ¬ (0 ≤ n ∧ n < nb)) :
    (Instr.lookup 72 (.map (some m)) (.int .i64 n) true).run Tryz.prog w = .ok (.tuple #[.slice none 0 0, .bool false]) w := by
  obtain ⟨c, D, ho, hD⟩ := h
  have hkey : keyOf Tryz.prog 3 (.int .i64 n) = some (.int .i64 n) := keyOf_int_mk Tryz.underlying3 (WalkArith.wf_i64 (by omega))
  obtain ⟨v, ps, hrun, hv⟩ := ho.look_ok law3 Tryz.underlying72 (zeroB w) (show hold (.slice none 0 0) = some (.held (.slice none 0 0), []) from rfl) hkey
  have hno : Maps.has D (.int .i64 n) = false := by
    cases hh : Maps.has D (.int .i64 n) with
    | false => rfl
    | true =>
      obtain ⟨k, hk, e⟩ := hD.keys _ hh
      simp [kn] at e
      exact absurd (show 0 ≤ n ∧ n < nb by omega) hn
  rw [hrun, hno]
  have e : DataW.held v = D.atKey (.int .i64 n) (.held (.slice none 0 0)) := by simpa [hold] using congrArg (Option.map Prod.fst) hv
  rw [atKey_of_not_has hno] at e
  cases e; rfl

section
variable {F G : Nat → Prop} {pd pl q K : Nat} {S : St} {com own : Nat → Option (List Int)} {pend wrote m mt N : Nat} {live : Bool} {V Vt : Nat → Value} {X : Nat → Prop} {w0 w w' : World} {f : Nat → List Int}
set_option maxHeartbeats 1600000 in
theorem tread_out (n : Int) (w : World) (h : Tk w F G pd pl q K S com pend live own wrote m V mt Vt) (hw : -9223372036854775808 ≤ n ∧ n ≤ 9223372036854775807) (hn : ¬ (0 ≤ n ∧ n < K)) (hoff : S.off = false) :
    Calls Tryz.prog 76 #[.pointer (some ⟨q, 0, none⟩), .int .i64 n] w fun e w' => e = .returned (.tuple #[.slice none 0 0, .int .i64 1]) ∧ w' = w := by
  have HK : Hid (Tk w F G pd pl q K S com pend live own wrote m V mt Vt) := h
  have t0 := h.tx.c0
  have t1 := h.tx.c1
  have c0 := h.lk.lg.c0
  have lk := h.tx.mb.map.lookOut n hw hn
  have HN : Hid (¬ (0 ≤ n ∧ n < K)) := hn
  clear h hn hw
  go_enter Tryz.func76, Tryz.ntmps76
  go_wp2_with fail
  refine (off_any F pd S w HK.out.lk.dk).mono ?_
  rintro e w2 ⟨rfl, rfl⟩
  rw [hoff]
  go_wp2_with fail
  refine (lread_out n w2 HK.out.lk HN.out).mono ?_
  rintro e w3 ⟨rfl, rfl⟩
  clear HK
  go_wp2
  go_ret2
  exact ⟨rfl, rfl⟩
theorem tread_out_up (n : Int) (h : TxUp X w0 w pd pl q K f com pend live own wrote N) (hw : -9223372036854775808 ≤ n ∧ n ≤ 9223372036854775807) (hn : ¬ (0 ≤ n ∧ n < K)) :
    Calls Tryz.prog 76 #[.pointer (some ⟨q, 0, none⟩), .int .i64 n] w fun e w' => e = .returned (.tuple #[.slice none 0 0, .int .i64 1]) ∧ w' = w := by
  obtain ⟨F, G, S, m, V, mt, Vt, h1, h2, h3, _⟩ := h
  exact tread_out n w h1 hw hn h3
theorem twrite_out_up (n : Int) (v : Value) (h : TxUp X w0 w pd pl q K f com pend live own wrote N) (hn : ¬ (0 ≤ n ∧ n < K)) :
    Calls Tryz.prog 14 #[.pointer (some ⟨q, 0, none⟩), .int .i64 n, v] w fun e w' => e = .returned (.int .i64 1) ∧ w' = w := by
  obtain ⟨F, G, S, m, V, mt, Vt, h1, h2, h3, _⟩ := h
  exact twrite_out n v w h1 hn h3
theorem twrite_dead_up (n : Nat) (va : Option Addr) (vc : Nat) (h : TxUp X w0 w pd pl q K f com pend false own wrote N) (hn : n < K) :
    Calls Tryz.prog 14 #[.pointer (some ⟨q, 0, none⟩), .int .i64 (n : Int), .slice va 512 vc] w fun e w' => e = .returned (.int .i64 15) ∧ w' = w := by
  obtain ⟨F, G, S, m, V, mt, Vt, h1, h2, h3, _⟩ := h
  exact twrite_dead n va vc w h1 hn h3
theorem commit_dead_up (h : TxUp X w0 w pd pl q K f com pend false own wrote N) :
    Calls Tryz.prog 16 #[.pointer (some ⟨q, 0, none⟩)] w fun e w' => e = .returned (.int .i64 15) ∧ w' = w := by
  obtain ⟨F, G, S, m, V, mt, Vt, h1, _⟩ := h
  exact commit_dead w h1
theorem abort_dead_up (h : TxUp X w0 w pd pl q K f com pend false own wrote N) :
    Calls Tryz.prog 72 #[.pointer (some ⟨q, 0, none⟩)] w fun e w' => e = .returned (.tuple #[]) ∧ w' = w := by
  obtain ⟨F, G, S, m, V, mt, Vt, h1, _⟩ := h
  exact abort_dead w h1
theorem begin_busy_up (h : TxUp X w0 w pd pl q K f com pend true own wrote N) :
    Calls Tryz.prog 13 #[.pointer (some ⟨pl, 0, none⟩)] w fun e w' => e = .returned (.tuple #[.pointer none, .int .i64 15]) ∧ w' = w := by
  obtain ⟨F, G, S, m, V, mt, Vt, h1, h2, h3, _⟩ := h
  exact begin_busy ⟨q, 0, none⟩ w h1.lk h3
theorem read_outT (n : Int) (h : TxUp X w0 w pd pl q K f com pend live own wrote N) (hn : ¬ (0 ≤ n ∧ n < K)) :
    Calls Tryz.prog 18 #[.pointer (some ⟨pl, 0, none⟩), .int .i64 n] w fun e w' => e = .returned (.tuple #[.slice none 0 0, .int .i64 1]) ∧ w' = w := by
  obtain ⟨F, G, S, m, V, mt, Vt, h1, _⟩ := h
  exact lread_out n w h1.lk hn
/-- Memory of X was changed, and some was made. -/
theorem Nw.ref {E : Nat → Prop} (h : Nw X w0 w F G) (hc : Chg E w w') (hE : ∀ b, b < w.heap.size → E b → X b ∧ w0.heap.size ≤ b) (hF : ∀ b, F b → b < w.heap.size) (hG : ∀ b, G b → b < w.heap.size) : Nw (addX X w.heap.size w'.heap.size) w0 w' F G := by
  have hz := hc.size
  have h0 := h.chg.size
  refine ⟨h.chg.trans hc (fun i hi e => ?_), h.f, h.g, fun b hb => ?_⟩
  · have := (hE i (by omega) e).2; omega
  · rcases hb with e | e
    · exact ⟨by have := (h.x b e).1; omega, (h.x b e).2⟩
    · exact ⟨e.2, fun hf => by have := hF b hf; omega, fun hg => by have := hG b hg; omega⟩
theorem LogUp.ref {E : Nat → Prop} (h : LogUp X w0 w pd pl K f com pend N) (hc : Chg E w w') (hE : ∀ b, b < w.heap.size → E b → X b ∧ w0.heap.size ≤ b) : LogUp (addX X w.heap.size w'.heap.size) w0 w' pd pl K f com pend N := by
  obtain ⟨F, G, S, m, V, h1, h2, h3, h4, h5, h6, h7⟩ := h
  have hn : ∀ b, (F b ∨ G b) → ¬ E b := fun b hb e => by
    have hl : b < w.heap.size := by
      rcases hb with hb | hb
      · exact h1.dk.lt b hb
      · exact h1.lg.lt b hb
    have := h7.x b (hE b hl e).1
    rcases hb with hb | hb
    · exact this.2.1 hb
    · exact this.2.2 hb
  exact ⟨F, G, S, m, V, ⟨h1.dk.kept hc (fun b hb => hn b (.inl hb)), h1.lg.kept hc (fun b hb => hn b (.inr hb)), h1.no, h1.nb⟩, h2, h3, h4, h5, h6, h7.ref hc hE h1.dk.lt h1.lg.lt⟩
theorem TxUp.ref {E : Nat → Prop} (h : TxUp X w0 w pd pl q K f com pend live own wrote N) (hc : Chg E w w') (hE : ∀ b, b < w.heap.size → E b → X b ∧ w0.heap.size ≤ b) : TxUp (addX X w.heap.size w'.heap.size) w0 w' pd pl q K f com pend live own wrote N := by
  obtain ⟨F, G, S, m, V, mt, Vt, h1, h2, h3, h4, h5, h6, h7, h8⟩ := h
  have hn : ∀ b, (F b ∨ G b) → ¬ E b := fun b hb e => by
    have hl : b < w.heap.size := by
      rcases hb with hb | hb
      · exact h1.lk.dk.lt b hb
      · exact h1.lk.lg.lt b hb
    have := h7.x b (hE b hl e).1
    rcases hb with hb | hb
    · exact this.2.1 hb
    · exact this.2.2 hb
  exact ⟨F, G, S, m, V, mt, Vt, h1.keptE hc (fun b hb => hn b (.inl hb)) (fun b hb => hn b (.inr hb)), h2, h3, h4, h5, h6, h7.ref hc hE h1.lk.dk.lt h1.lk.lg.lt, h8⟩
theorem TxUp.xlt (h : TxUp X w0 w pd pl q K f com pend live own wrote N) : ∀ b, X b → b < w.heap.size := by
  obtain ⟨F, G, S, m, V, mt, Vt, h1, h2, h3, h4, h5, h6, h7, h8⟩ := h
  exact fun b hb => (h7.x b hb).1
end
end Go.Proofs.YtmlhjcjonfalhaaGreat

namespace Go.Proofs.YtmlhjcjonfalhaaGreat
open Go.RowKit Go.Maps

/-- An act as it lies in memory. -/
structure ActD where
  op : Int
  n : Int
  bv : Value
  bs : List Int

/-- An act's three cells at ⟨b, o⟩. -/
structure ActAt (w : World) (b o : Nat) (d : ActD) : Prop where
  op : w.cell? ⟨b, o, none⟩ = some (.int .i64 d.op)
  n : w.cell? ⟨b, o + 1, none⟩ = some (.int .i64 d.n)
  bc : w.cell? ⟨b, o + 2, none⟩ = some d.bv
  bs : Bs w d.bv d.bs
  n0 : -9223372036854775808 ≤ d.n ∧ d.n ≤ 9223372036854775807

/-- v is a slice of acts that reads l. -/
def Acts (w : World) (v : Value) (l : List ActD) : Prop :=
  ((∃ a c, v = .slice a 0 c) ∧ l = []) ∨
  ∃ b off c, v = .slice (some ⟨b, off, none⟩) l.length c ∧ ∀ (j : Nat) d, l[j]? = some d → ActAt w b (off + j * 3) d
theorem ActAt.kept {w w' : World} {b o : Nat} {d : ActD} (h : ActAt w b o d) (hc : Chg (fun _ => False) w w') : ActAt w' b o d :=
  ⟨hc.cell h.op (fun h => h), hc.cell h.n (fun h => h), hc.cell h.bc (fun h => h), h.bs.kept hc (fun _ _ _ _ _ h => h), h.n0⟩
theorem Acts.kept {w w' : World} {v : Value} {l : List ActD} (h : Acts w v l) (hc : Chg (fun _ => False) w w') : Acts w' v l := by
  rcases h with h | ⟨b, off, c, e, hd⟩
  · exact .inl h
  · exact .inr ⟨b, off, c, e, fun j d hj => (hd j d hj).kept hc⟩
theorem Acts.form {w : World} {v : Value} {l : List ActD} (h : Acts w v l) : ∃ a c, v = .slice a l.length c := by
  rcases h with ⟨⟨a, c, rfl⟩, rfl⟩ | ⟨b, off, c, rfl, _⟩
  · exact ⟨a, c, rfl⟩
  · exact ⟨_, _, rfl⟩
theorem Acts.at {w : World} {a : Option Addr} {n c i : Nat} {l : List ActD} (h : Acts w (.slice a n c) l) (hi : i < l.length) : ∃ b off, a = some ⟨b, off, none⟩ ∧ ActAt w b (off + i * 3) l[i] := by
  rcases h with ⟨_, rfl⟩ | ⟨b, off, c', e, hd⟩
  · simp at hi
  · cases e
    exact ⟨b, off, rfl, hd i l[i] (by simp [hi])⟩

/-- An act that is short enough. -/
def ActD.few (d : ActD) : Bool := decide (d.bs.length ≤ 64)
def fewA (l : List ActD) : Bool := decide (l.length ≤ 150) && l.all ActD.few

set_option maxHeartbeats 1600000 in
set_option maxRecDepth 100000 in
theorem few_any (v : Value) (l : List ActD) (w : World) (h : Acts w v l) : Calls Tryz.prog 5 #[v] w fun e w' => e = .returned (.bool (fewA l)) ∧ w' = w := by
  obtain ⟨a, c, rfl⟩ := h.form
  by_cases h150 : 150 < l.length
  · have k1 : (150 : Int) < (l.length : Int) := by omega
    have e : fewA l = false := by simp [fewA]; omega
    rw [e]
    clear h e
    go_enter Tryz.func5, Tryz.ntmps5
    go_wp2
    go_ret
    exact ⟨rfl, rfl⟩
  have k1 : ¬ (150 : Int) < (l.length : Int) := by omega
  have HH : Hid (Acts w (.slice a l.length c) l) := h
  clear h
  go_enter Tryz.func5, Tryz.ntmps5
  go_wp2_with fail
  go_loop [3] (fun x => ∃ i : Nat, i ≤ l.length ∧ x = .int .i64 (i : Int) ∧ Hid ((l.take i).all ActD.few = true)) (fun x => l.length - (intOf x).toNat)
  case atStart => exact ⟨0, Nat.zero_le _, rfl, rfl⟩
  case round =>
    obtain ⟨i, hiL, rfl, hall⟩ := hrel
    by_cases hlt : i < l.length
    · obtain ⟨b, off, rfl, hat⟩ := HH.out.at hlt
      have hli : (i : Int) < (l.length : Int) := by omega
      obtain ⟨d, hd⟩ : ∃ d, l[i] = d := ⟨_, rfl⟩
      rw [hd] at hat
      have HT : Hid ((l.take (i + 1)).all ActD.few = ((l.take i).all ActD.few && d.few)) := by
        have : l.take (i + 1) = l.take i ++ [d] := by rw [List.take_add_one]; simp [hlt, hd]
        show (l.take (i + 1)).all ActD.few = _
        rw [this, List.all_append]; simp
      have HN : Hid (d.few = false → fewA l = false) := fun hf => by
        have hm : d ∈ l := by rw [← hd]; exact List.getElem_mem hlt
        have : l.all ActD.few = false := by
          rw [List.all_eq_false]
          exact ⟨d, hm, by simp [hf]⟩
        simp [fewA, this]
      obtain ⟨ba, bc, hbv, _⟩ := hat.bs.form
      have cb := hat.bc
      rw [hbv] at cb
      have HF : Hid (d.few = (decide (d.bs.length ≤ 64))) := rfl
      obtain ⟨L1, hL1⟩ : ∃ L, d.bs.length = L := ⟨_, rfl⟩
      rw [hL1] at cb HF
      clear hat hbv hd hL1 HH
      by_cases g1 : 64 < L1
      · have k2 : decide ((64 : Int) < (L1 : Int)) = true := by simp; omega
        have e : fewA l = false := HN.out (by rw [HF.out]; simp; omega)
        clear HN HT HF hall
        go_wp2
        go_ret
        first | exact ⟨rfl, rfl⟩ | exact ⟨by rw [e], rfl⟩
      · have k2 : decide ((64 : Int) < (L1 : Int)) = false := by simp; omega
        have e : (l.take (i + 1)).all ActD.few = true := by rw [HT.out, hall.out, HF.out]; simp; omega
        have HE : Hid ((l.take (i + 1)).all ActD.few = true) := e
        clear HN HT HF hall e
        go_wp2
        go_roundw
        case rel => exact ⟨i + 1, by omega, by go_num, HE⟩
        case measure => simp [intOf]; omega
    · have e : fewA l = true := by
        have h1 := hall.out
        rw [List.take_of_length_le (by omega)] at h1
        simp [fewA, h1]; omega
      have hli : ¬ (i : Int) < (l.length : Int) := by omega
      clear HH hall
      go_wp2
      go_ret
      first | exact ⟨rfl, rfl⟩ | exact ⟨by rw [e], rfl⟩
end Go.Proofs.YtmlhjcjonfalhaaGreat

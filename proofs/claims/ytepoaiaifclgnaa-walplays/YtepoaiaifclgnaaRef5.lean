/-
  Contract of Make of the document's log.
-/
import Derived.Test.YtepoaiaifclgnaaRef2
namespace Go.Proofs.Ytepoaiaifclgnaa
open Go.RowKit Go.Maps

theorem info4 : (Try.prog.info? 4).map (fun i => (i.zero, i.size, i.bytes)) = some (some (.bool false), 1, 1) := by kernel_rfl
/-- The document's log, fresh. -/
def rnew : Rf := ⟨fun _ => strOf (zeros 512), fun _ => false, 0, false, fun _ => ByteArray.empty, 0, 0⟩
/-- Make, behind n rounds. -/
structure MkAt (N pr : Nat) (w0 w : World) (z : ByteArray) (n : Nat) (vL vD : Value) : Prop where
  pN : pr < N
  p0 : w0.heap.size ≤ pr
  blk : w.heap[pr]? = some (.cells #[vL, vD, .int .i64 0, .bool false, .slice none 0 0, .int .i64 0, .int .i64 0] 46 (0, 0))
  l : w.ownsRow N 9 1 vL n (List.replicate n (.string z))
  d : w.ownsRow N 4 1 vD n (List.replicate n (.bool false))
  ne : ∀ g, vL.ownBlock = some g → vD.ownBlock ≠ some g
  le : N ≤ w.heap.size
  chg : Chg (fun _ => False) w0 w
theorem own_sl4 {w : World} {N n : Nat} {v : Value} {xs : List Value} (h : w.ownsRow N 4 1 v n xs) : ∃ a cap, v = .slice a n cap := by
  rcases h.2 with ⟨h, e⟩ | ⟨g, cap', _, h, _⟩
  · exact ⟨none, 0, by rw [h, e]⟩
  · exact ⟨_, cap', h⟩
theorem MkAt.setl {N pr : Nat} {w0 w w8 : World} {z : ByteArray} {n : Nat} {vL vD v' : Value} {E : Nat → Prop} (h : MkAt N pr w0 w z n vL vD) (hc : Chg E w w8) (hE : ∀ k, E k → N ≤ k) (ho : w8.ownsRow N 9 1 v' (n + 1) (List.replicate n (.string z) ++ [.string z])) (hd : ∀ g, vD.ownBlock = some g → ¬ E g) (_hne : ∀ g, v'.ownBlock = some g → vD.ownBlock ≠ some g) :
    (w8.heap[pr]? = some (.cells #[vL, vD, .int .i64 0, .bool false, .slice none 0 0, .int .i64 0, .int .i64 0] 46 (0, 0))) ∧
    (w8.setCell ⟨pr, 0, none⟩ v').heap[pr]? = some (.cells #[v', vD, .int .i64 0, .bool false, .slice none 0 0, .int .i64 0, .int .i64 0] 46 (0, 0)) ∧
    (w8.setCell ⟨pr, 0, none⟩ v').ownsRow N 9 1 v' (n + 1) (List.replicate (n + 1) (.string z)) ∧ (w8.setCell ⟨pr, 0, none⟩ v').ownsRow N 4 1 vD n (List.replicate n (.bool false)) ∧ N ≤ w8.heap.size ∧ Chg (fun _ => False) w0 (w8.setCell ⟨pr, 0, none⟩ v') := by
  have hp : ¬ E pr := fun e => by have := hE pr e; have := h.pN; omega
  have hl : pr < w.heap.size := (Array.getElem?_eq_some_iff.1 h.blk).1
  have b8 := (hc.block pr hl hp).trans h.blk
  have hcs : Chg (fun b => b = pr) w8 (w8.setCell ⟨pr, 0, none⟩ v') := Chg.setCell _ _ _ rfl
  refine ⟨b8, ?_, ?_, ?_, by have := hc.size; have := h.le; omega, ?_⟩
  · have := heap_setCell_same w8 pr 0 _ 46 v' b8
    simpa using this
  · rw [List.replicate_succ']
    exact own_same ho (fun g hg => hcs.block g (ho.lt g hg).2 (fun e => by have := (ho.lt g hg).1; have := h.pN; omega))
  · exact own_same h.d (fun g hg => by
      have hg8 : w8.heap[g]? = w.heap[g]? := hc.block g (h.d.lt g hg).2 (hd g hg)
      have hlt : g < w8.heap.size := by have := (h.d.lt g hg).2; have := hc.size; omega
      exact (hcs.block g hlt (fun e => by have := (h.d.lt g hg).1; have := h.pN; omega)).trans hg8)
  · exact (h.chg.trans hc (fun k hk e => by have := hE k e; have := h.p0; have := h.pN; omega)).trans hcs (fun k hk e => by have := h.p0; omega)

theorem MkAt.push {N pr : Nat} {w0 w : World} {z : ByteArray} {n : Nat} {vL vD : Value} (h : MkAt N pr w0 w z n vL vD) (hn : n < 100) :
    ∃ v' w8, (Builtin.append_ #[43, 43] 43 #[vL, .slice (some ⟨w.heap.size, 0, none⟩) 1 1]).run Try.prog (w.alloc (.cells #[.string z] 9)) = .ok v' w8 ∧ w8.cell? ⟨pr, 0, none⟩ = some vL ∧ w8.frozen? ⟨pr, 0, none⟩ = false ∧ w8.cell? ⟨pr, 1, none⟩ = some vD ∧
    ∃ v2 w10, (Builtin.append_ #[44, 44] 44 #[vD, .slice (some ⟨w8.heap.size, 0, none⟩) 1 1]).run Try.prog ((w8.setCell ⟨pr, 0, none⟩ v').alloc (.cells #[.bool false] 4)) = .ok v2 w10 ∧ w10.cell? ⟨pr, 1, none⟩ = some vD ∧ w10.frozen? ⟨pr, 1, none⟩ = false ∧ MkAt N pr w0 (w10.setCell ⟨pr, 1, none⟩ v2) z (n + 1) v' v2 := by
  obtain ⟨i9, hi9, hz90, hz91, hz92⟩ := info_parts info9
  obtain ⟨i4, hi4, hz40, hz41, hz42⟩ := info_parts info4
  have hle := h.le
  have hpN := h.pN
  have own7 : (w.alloc (.cells #[.string z] 9)).ownsRow N 9 1 vL n (List.replicate n (.string z)) := h.l.alloc _
  obtain ⟨v', w8, hr, ho8, hg8, _, hob⟩ := run_append_own_at (P := Try.prog) (w.alloc (.cells #[.string z] 9)) N 43 43 9 i9 (.string ByteArray.empty) 1 16 Try.underlying43 hi9 hz90 hz91 hz92 rfl (by decide) vL n _ own7 ⟨w.heap.size, 0, none⟩ 1 1 [.string z] rfl (cell_one_new w (.string z) 9) (fun u hu => by rw [List.mem_singleton.1 hu]; rfl) (by unfold maxLen; omega) (by omega) (by simp; omega)
  have hc8 : Chg (fun k => vL.ownBlock = some k) w w8 := ((Chg.alloc (fun _ => False) w _).mono (fun _ _ h => h.elim)).trans (Chg.ofGrown hg8) (fun _ _ h => h)
  obtain ⟨b8, g1, g2, g3, g4, g5⟩ := h.setl hc8 (fun k e => (h.l.lt k e).1) ho8 (fun g hg e => h.ne g e hg) (fun g hg e => by
    rcases hob with e1 | e1
    · exact h.ne g (e1 ▸ hg) e
    · rw [e1] at hg
      have h1 := (h.d.lt g e).2
      have h2 : (w.alloc (.cells #[.string z] 9)).heap.size = g := by injection hg
      simp at h2
      omega)
  have hne8 : ∀ g, v'.ownBlock = some g → vD.ownBlock ≠ some g := fun g hg e => by
    rcases hob with e1 | e1
    · exact h.ne g (e1 ▸ hg) e
    · rw [e1] at hg
      have h1 := (h.d.lt g e).2
      have h2 : (w.alloc (.cells #[.string z] 9)).heap.size = g := by injection hg
      simp at h2
      omega
  refine ⟨v', w8, hr, by rw [cell_of_row w8 pr 0 _ _ _ b8]; rfl, by simp [World.frozen?, b8], by rw [cell_of_row w8 pr 1 _ _ _ b8]; rfl, ?_⟩
  have hs9 : (w8.setCell ⟨pr, 0, none⟩ v').heap.size = w8.heap.size := World.size_setCell _ _ _
  obtain ⟨w9, hw9⟩ : ∃ w9, w8.setCell ⟨pr, 0, none⟩ v' = w9 := ⟨_, rfl⟩
  rw [hw9] at g1 g2 g3 g5 hs9 ⊢
  rw [← hs9] at g4 ⊢
  have own9 : (w9.alloc (.cells #[.bool false] 4)).ownsRow N 4 1 vD n (List.replicate n (.bool false)) := g3.alloc _
  obtain ⟨v2, w10, hr2, ho10, hg10, _, hob2⟩ := run_append_own_at (P := Try.prog) (w9.alloc (.cells #[.bool false] 4)) N 44 44 4 i4 (.bool false) 1 1 Try.underlying44 hi4 hz40 hz41 hz42 rfl (by decide) vD n _ own9 ⟨w9.heap.size, 0, none⟩ 1 1 [.bool false] rfl (cell_one_new w9 (.bool false) 4) (fun u hu => by rw [List.mem_singleton.1 hu]; rfl) (by unfold maxLen; omega) (by omega) (by simp; omega)
  have hc10 : Chg (fun k => vD.ownBlock = some k) w9 w10 := ((Chg.alloc (fun _ => False) w9 _).mono (fun _ _ h => h.elim)).trans (Chg.ofGrown hg10) (fun _ _ h => h)
  have hlp : pr < w9.heap.size := by omega
  have hnp : vD.ownBlock ≠ some pr := fun e => by have := (g3.lt pr e).1; omega
  have b10 := (hc10.block pr hlp hnp).trans g1
  have hcs : Chg (fun b => b = pr) w10 (w10.setCell ⟨pr, 1, none⟩ v2) := Chg.setCell _ _ _ rfl
  refine ⟨v2, w10, hr2, by rw [cell_of_row w10 pr 1 _ _ _ b10]; rfl, by simp [World.frozen?, b10], ⟨hpN, h.p0, ?_, ?_, ?_, ?_, ?_, ?_⟩⟩
  · have := heap_setCell_same w10 pr 1 _ 46 v2 b10
    simpa using this
  · exact own_same g2 (fun g hg => by
      have e10 : w10.heap[g]? = w9.heap[g]? := hc10.block g (g2.lt g hg).2 (hne8 g hg)
      have hlt : g < w10.heap.size := by have := (g2.lt g hg).2; have := hc10.size; omega
      exact (hcs.block g hlt (fun e => by have := (g2.lt g hg).1; omega)).trans e10)
  · rw [List.replicate_succ']
    exact own_same ho10 (fun g hg => hcs.block g (ho10.lt g hg).2 (fun e => by have := (ho10.lt g hg).1; omega))
  · intro g hg e
    rcases hob2 with e1 | e1
    · exact hne8 g hg (e1 ▸ e)
    · rw [e1] at e
      have h1 := (g2.lt g hg).2
      have h2 : (w9.alloc (.cells #[.bool false] 4)).heap.size = g := by injection e
      simp at h2
      omega
  · have h1 := hc10.size
    have h2 := hcs.size
    omega
  · exact (g5.trans hc10 (fun k hk e => by have := (g3.lt k e).1; have := h.p0; omega)).trans hcs (fun k hk e => by have := h.p0; omega)

theorem MkAt.done {N pr : Nat} {w0 w : World} {vL vD : Value} {m : Nat} (h : MkAt N pr w0 w (strOf (zeros 512)) m vL vD) (hm : m = 70) (h0 : w0.heap.size ≤ N) :
    ∃ lb lc db dc, RfAt w pr rnew lb lc db dc 0 0 (.slice none 0 0) ∧ Chg (fun _ => False) w0 w ∧ w0.heap.size ≤ pr ∧ w0.heap.size ≤ lb ∧ w0.heap.size ≤ db := by
  rcases h.l.2 with ⟨_, e⟩ | ⟨lb, lc, cur, e1, hb, hg, hnc, hcm, hcs, htake⟩
  · omega
  rcases h.d.2 with ⟨_, e⟩ | ⟨db, dc, cur2, e2, hb2, hg2, hnc2, hcm2, hcs2, htake2⟩
  · omega
  have hl := h.l
  have hd := h.d
  have hne := h.ne
  have hbk := h.blk
  have hpN := h.pN
  rw [e1] at hl hne hbk
  rw [e2] at hd hne hbk
  have hld : lb ≠ db := fun e => hne lb rfl (by rw [e]; rfl)
  have r1 : Row w lb m (fun _ => .string (strOf (zeros 512))) := Row.own hl (fun j hj => by rw [List.getElem?_replicate, if_pos hj])
  have r2 : Row w db m (fun _ => .bool false) := Row.own hd (fun j hj => by rw [List.getElem?_replicate, if_pos hj])
  subst hm
  have q1 : pr ≠ lb := by omega
  have q2 : pr ≠ db := by omega
  have key : ∀ R : Rf, R = rnew → RfAt w pr R lb lc db dc 0 0 (.slice none 0 0) := by
    intro R hR
    have e1 : R.L = fun _ => strOf (zeros 512) := by rw [hR]; simp only [rnew]
    have e2 : R.D = fun _ => false := by rw [hR]; simp only [rnew]
    have e3 : R.pend = 0 := by rw [hR]; simp only [rnew]
    have e4 : R.op = false := by rw [hR]; simp only [rnew]
    have e5 : R.wrote = 0 := by rw [hR]; simp only [rnew]
    have e6 : R.syncs = 0 := by rw [hR]; simp only [rnew]
    have hno : R.op = true → False := fun ho => by rw [e4] at ho; cases ho
    refine ⟨by rw [e3, e4, e5, e6]; exact hbk, by rw [e1]; exact r1, by rw [e2]; exact r2, fun ho => (hno ho).elim, ⟨_, _, _, rfl⟩, q1, q2, fun ho => (hno ho).elim, hld, fun ho => (hno ho).elim, hnc, hnc2⟩
  exact ⟨lb, lc, db, dc, key rnew rfl, h.chg, h.p0, by omega, by omega⟩

theorem rmk_start {w w1 : World} (own1 : w1.ownsRow w.heap.size 5 1 (.slice (some ⟨(w.alloc (.cells #[.slice none 0 0, .slice none 0 0, .int .i64 0, .bool false, .slice none 0 0, .int .i64 0, .int .i64 0] 46)).heap.size, 0, none⟩) 512 512) 512 (madeCells (Value.int .u8 0).cells (512 * 1)).toList) (grow1 : (w.alloc (.cells #[.slice none 0 0, .slice none 0 0, .int .i64 0, .bool false, .slice none 0 0, .int .i64 0, .int .i64 0] 46)).grownBy w1 none) :
    ∃ z, Hid (strOf (zeros 512) = z) ∧ (convert 39 9 (.slice (some ⟨w.heap.size + 1, 0, none⟩) 512 512)).run Try.prog w1 = .ok (.string z) w1 ∧ Hid (MkAt w1.heap.size w.heap.size w w1 z 0 (.slice none 0 0) (.slice none 0 0)) ∧ w.heap.size ≤ w1.heap.size := by
  rw [made_bytes, World.size_alloc] at own1
  have hc1 := Chg.of_none grow1
  have hgw : w.heap.size + 1 < w1.heap.size := (own1.lt _ rfl).2
  refine ⟨_, rfl, run_str (Bs.ofOwns own1), ?_, by omega⟩
  refine ⟨by omega, Nat.le_refl _, ?_, ⟨rfl, .inl ⟨rfl, rfl⟩⟩, ⟨rfl, .inl ⟨rfl, rfl⟩⟩, fun g hg => (by cases hg), Nat.le_refl _, (Chg.alloc (fun _ => False) w _).trans hc1 (fun _ _ h => h)⟩
  exact (hc1.block w.heap.size (by rw [World.size_alloc]; omega) (fun h => h)).trans (heap_alloc_new w _)

set_option maxHeartbeats 3200000 in
set_option maxRecDepth 100000 in
theorem rmake_any (w : World) : Calls Try.prog 8 #[.int .i64 135] w fun e w' => ∃ pr, e = .returned (.pointer (some ⟨pr, 0, none⟩)) ∧ ∃ lb lc db dc, RfAt w' pr rnew lb lc db dc 0 0 (.slice none 0 0) ∧ Chg (fun _ => False) w w' ∧ w.heap.size ≤ pr ∧ w.heap.size ≤ lb ∧ w.heap.size ≤ db := by
  obtain ⟨i5, hi5, hz50, hz51, hz52⟩ := info_parts info5
  go_enter Try.func8, Try.ntmps8
  go_wp2_with (refine wpList_make_full _ rfl _ _ 39 rfl w.heap.size 5 i5 (.int .u8 0) 1 Try.underlying39 hi5 hz50 hz51 .i64 .i64 _ _ 512 rfl rfl rfl rfl (by rw [hz52]; omega) (by unfold maxLen; omega) (by simp) ?_; intro w1 own1 grow1; obtain ⟨z, HZ, s1, H0, hN⟩ := rmk_start own1 grow1; clear own1 grow1)
  clear s1
  go_loopw [5] (fun x wr => ∃ n vL vD, n ≤ 70 ∧ x = .int .i64 ((65 + n : Nat) : Int) ∧ Hid (MkAt w1.heap.size w.heap.size w wr z n vL vD)) (fun x _ => 135 - (intOf x).toNat)
  case atStart => exact ⟨0, _, _, by omega, rfl, H0⟩
  case round =>
    obtain ⟨n, vL, vD, hn, rfl, HR⟩ := hrel
    clear H0
    by_cases hlt : n < 70
    · have hki : ((65 + n : Nat) : Int) < 135 := by omega
      have c0 : wr.cell? ⟨w.heap.size, 0, none⟩ = some vL := by rw [cell_of_row _ _ 0 _ _ _ HR.out.blk]; rfl
      obtain ⟨v', w8, hr, c8, f8, d8, v2, w10, hr2, c10, f10, hm⟩ := HR.out.push (by omega)
      have H2 : Hid (MkAt w1.heap.size w.heap.size w (w10.setCell ⟨w.heap.size, 1, none⟩ v2) z (n + 1) v' v2) := hm
      obtain ⟨a1, k1, e1⟩ := own_sl9 HR.out.l
      obtain ⟨a2, k2, e2⟩ := own_sl4 HR.out.d
      obtain ⟨a3, k3, e3⟩ := own_sl9 hm.l
      obtain ⟨a4, k4, e4⟩ := own_sl4 hm.d
      obtain ⟨nn, hnn⟩ : ∃ nn, 65 + n = nn := ⟨_, rfl⟩
      have HNN : Hid (65 + n = nn) := hnn
      have hnb : nn < 135 := by omega
      rw [hnn] at hki ⊢
      subst e1 e2 e3 e4
      clear HR hm hnn
      go_wp2_with (at_builtin; go_must (first | refine Lib.wpList_append_run _ rfl _ _ _ _ rfl _ _ rfl rfl _ _ hr ?_ | refine Lib.wpList_append_run _ rfl _ _ _ _ rfl _ _ rfl rfl _ _ hr2 ?_))
      go_roundw
      case rel => exact ⟨n + 1, _, _, by omega, by have := HNN.out; go_num, H2⟩
      case measure => simp [intOf]; omega
    · have hie : n = 70 := by omega
      subst hie
      have HQ : Hid (∃ lb lc db dc, RfAt wr w.heap.size rnew lb lc db dc 0 0 (.slice none 0 0) ∧ Chg (fun _ => False) w wr ∧ w.heap.size ≤ w.heap.size ∧ w.heap.size ≤ lb ∧ w.heap.size ≤ db) := by
        have h := HR.out
        rw [← HZ.out] at h
        exact h.done rfl hN
      clear HR
      go_wp2
      go_ret
      exact ⟨_, rfl, HQ.out⟩
end Go.Proofs.Ytepoaiaifclgnaa

namespace Go.Proofs.Ytepoaiaifclgnaa
open Go.RowKit Go.Maps

theorem MapIs.lookOut {w : World} {m nb : Nat} {f : Nat → Option Value} (h : MapIs w m nb f) (n : Int) (hw : -9223372036854775808 ≤ n ∧ n ≤ 9223372036854775807) (hn : ¬ (0 ≤ n ∧ n < nb)) :
    (Instr.lookup 68 (.map (some m)) (.int .i64 n) true).run Try.prog w = .ok (.tuple #[.slice none 0 0, .bool false]) w := by
  obtain ⟨c, D, ho, hD⟩ := h
  have hkey : keyOf Try.prog 3 (.int .i64 n) = some (.int .i64 n) := keyOf_int_mk Try.underlying3 (WalkArith.wf_i64 (by omega))
  obtain ⟨v, ps, hrun, hv⟩ := ho.look_ok law3 Try.underlying68 (zeroB w) (show hold (.slice none 0 0) = some (.held (.slice none 0 0), []) from rfl) hkey
  have hno : Maps.has D (.int .i64 n) = false := by
    cases hh : Maps.has D (.int .i64 n) with
    | false => rfl
    | true =>
      obtain ⟨k, hk, e⟩ := hD.keys _ hh
      simp [kn] at e
      exact absurd (show 0 ≤ n ∧ n < nb by omega) hn
  rw [hrun, hno]
  have e : DataW.held v = D.atKey (.int .i64 n) (.held (.slice none 0 0)) := by simpa [hold] using congrArg (Option.map Prod.fst) hv
  rw [atKey_of_not_has hno] at e
  cases e; rfl

section
variable {F G : Nat → Prop} {pd pl q K : Nat} {S : St} {com own : Nat → Option (List Int)} {pend wrote m mt N : Nat} {live : Bool} {V Vt : Nat → Value} {X : Nat → Prop} {w0 w w' : World} {f : Nat → List Int}
set_option maxHeartbeats 1600000 in
theorem tread_out (n : Int) (w : World) (h : Tk w F G pd pl q K S com pend live own wrote m V mt Vt) (hw : -9223372036854775808 ≤ n ∧ n ≤ 9223372036854775807) (hn : ¬ (0 ≤ n ∧ n < K)) (hoff : S.off = false) :
    Calls Try.prog 37 #[.pointer (some ⟨q, 0, none⟩), .int .i64 n] w fun e w' => e = .returned (.tuple #[.slice none 0 0, .int .i64 1]) ∧ w' = w := by
  have HK : Hid (Tk w F G pd pl q K S com pend live own wrote m V mt Vt) := h
  have t0 := h.tx.c0
  have t1 := h.tx.c1
  have c0 := h.lk.lg.c0
  have lk := h.tx.mb.map.lookOut n hw hn
  have HN : Hid (¬ (0 ≤ n ∧ n < K)) := hn
  clear h hn hw
  go_enter Try.func37, Try.ntmps37
  go_wp2_with fail
  refine (off_any F pd S w HK.out.lk.dk).mono ?_
  rintro e w2 ⟨rfl, rfl⟩
  rw [hoff]
  go_wp2_with fail
  refine (lread_out n w2 HK.out.lk HN.out).mono ?_
  rintro e w3 ⟨rfl, rfl⟩
  clear HK
  go_wp2
  go_ret2
  exact ⟨rfl, rfl⟩
theorem tread_out_up (n : Int) (h : TxUp X w0 w pd pl q K f com pend live own wrote N) (hw : -9223372036854775808 ≤ n ∧ n ≤ 9223372036854775807) (hn : ¬ (0 ≤ n ∧ n < K)) :
    Calls Try.prog 37 #[.pointer (some ⟨q, 0, none⟩), .int .i64 n] w fun e w' => e = .returned (.tuple #[.slice none 0 0, .int .i64 1]) ∧ w' = w := by
  obtain ⟨F, G, S, m, V, mt, Vt, h1, h2, h3, _⟩ := h
  exact tread_out n w h1 hw hn h3
theorem twrite_out_up (n : Int) (v : Value) (h : TxUp X w0 w pd pl q K f com pend live own wrote N) (hn : ¬ (0 ≤ n ∧ n < K)) :
    Calls Try.prog 18 #[.pointer (some ⟨q, 0, none⟩), .int .i64 n, v] w fun e w' => e = .returned (.int .i64 1) ∧ w' = w := by
  obtain ⟨F, G, S, m, V, mt, Vt, h1, h2, h3, _⟩ := h
  exact twrite_out n v w h1 hn h3
theorem twrite_dead_up (n : Nat) (va : Option Addr) (vc : Nat) (h : TxUp X w0 w pd pl q K f com pend false own wrote N) (hn : n < K) :
    Calls Try.prog 18 #[.pointer (some ⟨q, 0, none⟩), .int .i64 (n : Int), .slice va 512 vc] w fun e w' => e = .returned (.int .i64 15) ∧ w' = w := by
  obtain ⟨F, G, S, m, V, mt, Vt, h1, h2, h3, _⟩ := h
  exact twrite_dead n va vc w h1 hn h3
theorem commit_dead_up (h : TxUp X w0 w pd pl q K f com pend false own wrote N) :
    Calls Try.prog 20 #[.pointer (some ⟨q, 0, none⟩)] w fun e w' => e = .returned (.int .i64 15) ∧ w' = w := by
  obtain ⟨F, G, S, m, V, mt, Vt, h1, _⟩ := h
  exact commit_dead w h1
theorem abort_dead_up (h : TxUp X w0 w pd pl q K f com pend false own wrote N) :
    Calls Try.prog 12 #[.pointer (some ⟨q, 0, none⟩)] w fun e w' => e = .returned (.tuple #[]) ∧ w' = w := by
  obtain ⟨F, G, S, m, V, mt, Vt, h1, _⟩ := h
  exact abort_dead w h1
theorem begin_busy_up (h : TxUp X w0 w pd pl q K f com pend true own wrote N) :
    Calls Try.prog 17 #[.pointer (some ⟨pl, 0, none⟩)] w fun e w' => e = .returned (.tuple #[.pointer none, .int .i64 15]) ∧ w' = w := by
  obtain ⟨F, G, S, m, V, mt, Vt, h1, h2, h3, _⟩ := h
  exact begin_busy ⟨q, 0, none⟩ w h1.lk h3
theorem read_outT (n : Int) (h : TxUp X w0 w pd pl q K f com pend live own wrote N) (hn : ¬ (0 ≤ n ∧ n < K)) :
    Calls Try.prog 21 #[.pointer (some ⟨pl, 0, none⟩), .int .i64 n] w fun e w' => e = .returned (.tuple #[.slice none 0 0, .int .i64 1]) ∧ w' = w := by
  obtain ⟨F, G, S, m, V, mt, Vt, h1, _⟩ := h
  exact lread_out n w h1.lk hn
theorem pendingT (h : TxUp X w0 w pd pl q K f com pend live own wrote N) : Calls Try.prog 10 #[.pointer (some ⟨pl, 0, none⟩)] w fun e w' => e = .returned (.int .i64 (pend : Int)) ∧ w' = w := by
  obtain ⟨F, G, S, m, V, mt, Vt, h1, _⟩ := h
  exact pending_any w h1.lk.lg

/-- Memory of X was changed, and some was made. -/
theorem Nw.ref {E : Nat → Prop} (h : Nw X w0 w F G) (hc : Chg E w w') (hE : ∀ b, b < w.heap.size → E b → X b ∧ w0.heap.size ≤ b) (hF : ∀ b, F b → b < w.heap.size) (hG : ∀ b, G b → b < w.heap.size) : Nw (addX X w.heap.size w'.heap.size) w0 w' F G := by
  have hz := hc.size
  have h0 := h.chg.size
  refine ⟨h.chg.trans hc (fun i hi e => ?_), h.f, h.g, fun b hb => ?_⟩
  · have := (hE i (by omega) e).2; omega
  · rcases hb with e | e
    · exact ⟨by have := (h.x b e).1; omega, (h.x b e).2⟩
    · exact ⟨e.2, fun hf => by have := hF b hf; omega, fun hg => by have := hG b hg; omega⟩
theorem LogUp.ref {E : Nat → Prop} (h : LogUp X w0 w pd pl K f com pend N) (hc : Chg E w w') (hE : ∀ b, b < w.heap.size → E b → X b ∧ w0.heap.size ≤ b) : LogUp (addX X w.heap.size w'.heap.size) w0 w' pd pl K f com pend N := by
  obtain ⟨F, G, S, m, V, h1, h2, h3, h4, h5, h6, h7⟩ := h
  have hn : ∀ b, (F b ∨ G b) → ¬ E b := fun b hb e => by
    have hl : b < w.heap.size := by
      rcases hb with hb | hb
      · exact h1.dk.lt b hb
      · exact h1.lg.lt b hb
    have := h7.x b (hE b hl e).1
    rcases hb with hb | hb
    · exact this.2.1 hb
    · exact this.2.2 hb
  exact ⟨F, G, S, m, V, ⟨h1.dk.kept hc (fun b hb => hn b (.inl hb)), h1.lg.kept hc (fun b hb => hn b (.inr hb)), h1.no, h1.nb⟩, h2, h3, h4, h5, h6, h7.ref hc hE h1.dk.lt h1.lg.lt⟩
theorem TxUp.ref {E : Nat → Prop} (h : TxUp X w0 w pd pl q K f com pend live own wrote N) (hc : Chg E w w') (hE : ∀ b, b < w.heap.size → E b → X b ∧ w0.heap.size ≤ b) : TxUp (addX X w.heap.size w'.heap.size) w0 w' pd pl q K f com pend live own wrote N := by
  obtain ⟨F, G, S, m, V, mt, Vt, h1, h2, h3, h4, h5, h6, h7, h8⟩ := h
  have hn : ∀ b, (F b ∨ G b) → ¬ E b := fun b hb e => by
    have hl : b < w.heap.size := by
      rcases hb with hb | hb
      · exact h1.lk.dk.lt b hb
      · exact h1.lk.lg.lt b hb
    have := h7.x b (hE b hl e).1
    rcases hb with hb | hb
    · exact this.2.1 hb
    · exact this.2.2 hb
  exact ⟨F, G, S, m, V, mt, Vt, h1.keptE hc (fun b hb => hn b (.inl hb)) (fun b hb => hn b (.inr hb)), h2, h3, h4, h5, h6, h7.ref hc hE h1.lk.dk.lt h1.lk.lg.lt, h8⟩
theorem TxUp.xlt (h : TxUp X w0 w pd pl q K f com pend live own wrote N) : ∀ b, X b → b < w.heap.size := by
  obtain ⟨F, G, S, m, V, mt, Vt, h1, h2, h3, h4, h5, h6, h7, h8⟩ := h
  exact fun b hb => (h7.x b hb).1
end
end Go.Proofs.Ytepoaiaifclgnaa

namespace Go.Proofs.Ytepoaiaifclgnaa
open Go.RowKit Go.Maps

theorem eqT_nn (w : World) : (binOp .eql 35 (.pointer none) (.pointer none)).run Try.prog w = .ok (.bool true) w := by kernel_rfl
theorem neqT_nn (w : World) : (binOp .neq 35 (.pointer none) (.pointer none)).run Try.prog w = .ok (.bool false) w := by kernel_rfl
theorem neqT_some (a : Addr) (w : World) : (binOp .neq 35 (.pointer (some a)) (.pointer none)).run Try.prog w = .ok (.bool true) w := by kernel_rfl

/-- The document's log tells what the log is. -/
structure Cor (R : Rf) (f : Nat → List Int) (com : Nat → Option (List Int)) (pend : Nat) (live : Bool) (own : Nat → Option (List Int)) (wrote : Nat) : Prop where
  l : ∀ n, n < 70 → R.L n = strOf (ovr f com n)
  d : ∀ n, n < 70 → R.D n = (com n).isSome
  p : R.pend = pend
  o : R.op = live
  w : live = true → (∀ n, n < 70 → R.W n = wstr (own n)) ∧ R.wrote = wrote
/-- A log, with its transaction or without. -/
def Up (X : Nat → Prop) (w0 w : World) (pd pl : Nat) (tv : Value) (f : Nat → List Int) (com : Nat → Option (List Int)) (pend : Nat) (live : Bool) (own : Nat → Option (List Int)) (wrote N : Nat) : Prop :=
  (tv = .pointer none ∧ live = false ∧ LogUp X w0 w pd pl 70 f com pend N) ∨ ∃ q, tv = .pointer (some ⟨q, 0, none⟩) ∧ TxUp X w0 w pd pl q 70 f com pend live own wrote N
/-- The play in memory. -/
structure PlAt (X : Nat → Prop) (w0 w : World) (pp pl : Nat) (tv : Value) (pr : Nat) (R : Rf) (lb lc db dc nb nc : Nat) (nv : Value) : Prop where
  blk : w.heap[pp]? = some (.cells #[.pointer (some ⟨pl, 0, none⟩), tv, .pointer (some ⟨pr, 0, none⟩)] 37 (0, 0))
  rf : RfAt w pr R lb lc db dc nb nc nv
  xp : X pp ∧ w0.heap.size ≤ pp
  xr : ∀ b, RfB pr lb db nb R.op b → X b ∧ w0.heap.size ≤ b
  ne : ∀ b, RfB pr lb db nb R.op b → b ≠ pp
/-- The whole, behind k acts. -/
def Pl (w0 w : World) (pd pp k : Nat) : Prop :=
  ∃ X pl tv pr R lb lc db dc nb nc nv f com pend live own wrote, PlAt X w0 w pp pl tv pr R lb lc db dc nb nc nv ∧ Up X w0 w pd pl tv f com pend live own wrote (1000 + 128 * k) ∧ Cor R f com pend live own wrote ∧ pend ≤ k ∧ R.syncs ≤ k

section
variable {X : Nat → Prop} {w0 w w' : World} {pd pp pl q pr : Nat} {tv : Value} {R : Rf} {lb lc db dc nb nc : Nat} {nv : Value} {f : Nat → List Int} {com own : Nat → Option (List Int)} {pend wrote N k : Nat} {live : Bool}
theorem PlAt.c0 (h : PlAt X w0 w pp pl tv pr R lb lc db dc nb nc nv) : w.cell? ⟨pp, 0, none⟩ = some (.pointer (some ⟨pl, 0, none⟩)) := by rw [cell_of_row w pp 0 _ _ _ h.blk]; rfl
theorem PlAt.c1 (h : PlAt X w0 w pp pl tv pr R lb lc db dc nb nc nv) : w.cell? ⟨pp, 1, none⟩ = some tv := by rw [cell_of_row w pp 1 _ _ _ h.blk]; rfl
theorem PlAt.c2 (h : PlAt X w0 w pp pl tv pr R lb lc db dc nb nc nv) : w.cell? ⟨pp, 2, none⟩ = some (.pointer (some ⟨pr, 0, none⟩)) := by rw [cell_of_row w pp 2 _ _ _ h.blk]; rfl
theorem PlAt.fr (h : PlAt X w0 w pp pl tv pr R lb lc db dc nb nc nv) (i : Nat) : w.frozen? ⟨pp, i, none⟩ = false := by simp [World.frozen?, h.blk]
theorem PlAt.sm (h : PlAt X w0 w pp pl tv pr R lb lc db dc nb nc nv) (hs : Sm X w w') : PlAt X w0 w' pp pl tv pr R lb lc db dc nb nc nv :=
  ⟨(hs pp h.xp.1).trans h.blk, h.rf.sm hs (fun b hb => (h.xr b hb).1), h.xp, h.xr, h.ne⟩
theorem PlAt.kept (h : PlAt X w0 w pp pl tv pr R lb lc db dc nb nc nv) (hc : Chg (fun _ => False) w w') : PlAt X w0 w' pp pl tv pr R lb lc db dc nb nc nv :=
  ⟨(hc.block pp (Array.getElem?_eq_some_iff.1 h.blk).1 (fun h => h)).trans h.blk, h.rf.kept hc (fun h => h) (fun h => h) (fun h => h) (fun _ h => h), h.xp, h.xr, h.ne⟩
theorem PlAt.xsub {X' : Nat → Prop} (h : PlAt X w0 w pp pl tv pr R lb lc db dc nb nc nv) (hx : ∀ b, X b → X' b) : PlAt X' w0 w pp pl tv pr R lb lc db dc nb nc nv :=
  ⟨h.blk, h.rf, ⟨hx _ h.xp.1, h.xp.2⟩, fun b hb => ⟨hx b (h.xr b hb).1, (h.xr b hb).2⟩, h.ne⟩
/-- The document's log did something to its own blocks. -/
theorem PlAt.did {E : Nat → Prop} {R' : Rf} {nb' nc' : Nat} {nv' : Value} (h : PlAt X w0 w pp pl tv pr R lb lc db dc nb nc nv) (hr : RfAt w' pr R' lb lc db dc nb' nc' nv') (hc : Chg E w w') (hE : ¬ E pp) (ho : R'.op = true → (R.op = true ∧ nb' = nb) ∨ (w.heap.size ≤ nb' ∧ nb' < w'.heap.size)) (h0 : w0.heap.size ≤ w.heap.size) :
    PlAt (addX X w.heap.size w'.heap.size) w0 w' pp pl tv pr R' lb lc db dc nb' nc' nv' := by
  have hl : pp < w.heap.size := (Array.getElem?_eq_some_iff.1 h.blk).1
  have hb : ∀ b, RfB pr lb db nb' R'.op b → RfB pr lb db nb R.op b ∨ (w.heap.size ≤ b ∧ b < w'.heap.size) := fun b hb => by
    rcases hb with e | e | e | ⟨e1, e2⟩
    · exact .inl (.inl e)
    · exact .inl (.inr (.inl e))
    · exact .inl (.inr (.inr (.inl e)))
    · rcases ho e1 with ⟨e3, e4⟩ | e3
      · exact .inl (.inr (.inr (.inr ⟨e3, e2.trans e4⟩)))
      · exact .inr (e2 ▸ e3)
  refine ⟨(hc.block pp hl hE).trans h.blk, hr, ⟨.inl h.xp.1, h.xp.2⟩, fun b hb' => ?_, fun b hb' => ?_⟩
  · rcases hb b hb' with e | e
    · exact ⟨.inl (h.xr b e).1, (h.xr b e).2⟩
    · exact ⟨.inr e, by omega⟩
  · rcases hb b hb' with e | e
    · exact h.ne b e
    · omega
theorem Up.chg (h : Up X w0 w pd pl tv f com pend live own wrote N) : Chg (fun _ => False) w0 w := by
  rcases h with ⟨_, _, h⟩ | ⟨q, _, h⟩
  · exact h.chg
  · exact h.chg
theorem Up.more (h : Up X w0 w pd pl tv f com pend live own wrote N) (hc : Chg (fun _ => False) w w') : Up X w0 w' pd pl tv f com pend live own wrote N := by
  rcases h with ⟨e1, e2, h⟩ | ⟨q, e1, h⟩
  · exact .inl ⟨e1, e2, h.more hc⟩
  · exact .inr ⟨q, e1, h.more hc⟩
theorem Up.mono {N' : Nat} (h : Up X w0 w pd pl tv f com pend live own wrote N) (hN : N ≤ N') : Up X w0 w pd pl tv f com pend live own wrote N' := by
  rcases h with ⟨e1, e2, h⟩ | ⟨q, e1, F, G, S, m, V, mt, Vt, h1, h2, h3, h4, h5, h6⟩
  · exact .inl ⟨e1, e2, h.mono hN⟩
  · exact .inr ⟨q, e1, F, G, S, m, V, mt, Vt, h1, h2, h3, h4, by omega, h6⟩
theorem Up.ref {E : Nat → Prop} (h : Up X w0 w pd pl tv f com pend live own wrote N) (hc : Chg E w w') (hE : ∀ b, b < w.heap.size → E b → X b ∧ w0.heap.size ≤ b) : Up (addX X w.heap.size w'.heap.size) w0 w' pd pl tv f com pend live own wrote N := by
  rcases h with ⟨e1, e2, h⟩ | ⟨q, e1, h⟩
  · exact .inl ⟨e1, e2, h.ref hc hE⟩
  · exact .inr ⟨q, e1, h.ref hc hE⟩
theorem Up.form (h : Up X w0 w pd pl tv f com pend live own wrote N) : tv = .pointer none ∨ ∃ q, tv = .pointer (some ⟨q, 0, none⟩) := by
  rcases h with ⟨e1, e2, h⟩ | ⟨q, e1, h⟩
  · exact .inl e1
  · exact .inr ⟨q, e1⟩
/-- With no transaction that is open: the log alone. -/
theorem Up.log (h : Up X w0 w pd pl tv f com pend false own wrote N) : LogUp X w0 w pd pl 70 f com pend N := by
  rcases h with ⟨_, _, h⟩ | ⟨q, _, h⟩
  · exact h
  · exact h.log
theorem Up.lt (h : Up X w0 w pd pl tv f com pend live own wrote N) : ∀ n b, com n = some b → n < 70 ∧ b.length = 512 := by
  rcases h with ⟨_, _, h⟩ | ⟨q, _, F, G, S, m, V, mt, Vt, h1, _⟩
  · exact h.lt.1
  · exact fun n b hb => ⟨(h1.lk.lg.mb.row n b hb).1, (h1.lk.lg.mb.row n b hb).2.1⟩
theorem Pl.up (h : Pl w0 w pd pp k) {k' : Nat} (hk : k ≤ k') : Pl w0 w pd pp k' := by
  obtain ⟨X, pl, tv, pr, R, lb, lc, db, dc, nb, nc, nv, f, com, pend, live, own, wrote, h1, h2, h3, h4, h5⟩ := h
  exact ⟨X, pl, tv, pr, R, lb, lc, db, dc, nb, nc, nv, f, com, pend, live, own, wrote, h1, h2.mono (by omega), h3, by omega, by omega⟩
theorem Pl.chg (h : Pl w0 w pd pp k) : Chg (fun _ => False) w0 w := by
  obtain ⟨X, pl, tv, pr, R, lb, lc, db, dc, nb, nc, nv, f, com, pend, live, own, wrote, h1, h2, h3, h4, h5⟩ := h
  exact h2.chg

theorem Pl.enter (h : Pl w0 w pd pp k) (o : Obj) : ∃ X pl tv pr R lb lc db dc nb nc nv f com pend live own wrote, PlAt X w0 (w.alloc o) pp pl tv pr R lb lc db dc nb nc nv ∧ Up X w0 (w.alloc o) pd pl tv f com pend live own wrote (1000 + 128 * k) ∧ Cor R f com pend live own wrote ∧ pend ≤ k ∧ R.syncs ≤ k ∧ X w.heap.size ∧ (∀ b, RfB pr lb db nb R.op b → b ≠ w.heap.size) ∧ pp ≠ w.heap.size := by
  obtain ⟨X, pl, tv, pr, R, lb, lc, db, dc, nb, nc, nv, f, com, pend, live, own, wrote, h1, h2, h3, h4, h5⟩ := h
  have hc : Chg (fun _ => False) w (w.alloc o) := Chg.alloc (fun _ => False) w o
  have h2' : Up (addX X w.heap.size (w.alloc o).heap.size) w0 (w.alloc o) pd pl tv f com pend live own wrote (1000 + 128 * k) := by
    rcases h2 with ⟨e1, e2, h⟩ | ⟨q, e1, h⟩
    · exact .inl ⟨e1, e2, h.add hc⟩
    · exact .inr ⟨q, e1, h.add hc⟩
  have hx : ∀ b, X b → b < w.heap.size := by
    rcases h2 with ⟨e1, e2, h⟩ | ⟨q, e1, h⟩
    · exact h.xlt
    · exact h.xlt
  refine ⟨addX X w.heap.size (w.alloc o).heap.size, pl, tv, pr, R, lb, lc, db, dc, nb, nc, nv, f, com, pend, live, own, wrote, (h1.kept hc).xsub (fun b hb => .inl hb), h2', h3, h4, h5, .inr ⟨Nat.le_refl _, by rw [World.size_alloc]; omega⟩, fun b hb => ?_, ?_⟩
  · have := hx b (h1.xr b hb).1; omega
  · have := hx pp h1.xp.1; omega
theorem Pl.more (h : Pl w0 w pd pp k) (hc : Chg (fun _ => False) w w') : Pl w0 w' pd pp k := by
  obtain ⟨X, pl, tv, pr, R, lb, lc, db, dc, nb, nc, nv, f, com, pend, live, own, wrote, h1, h2, h3, h4, h5⟩ := h
  exact ⟨X, pl, tv, pr, R, lb, lc, db, dc, nb, nc, nv, f, com, pend, live, own, wrote, h1.kept hc, h2.more hc, h3, h4, h5⟩

set_option maxHeartbeats 800000 in
set_option maxRecDepth 100000 in
theorem pstep_other (op n : Int) (bv : Value) (w : World) (h1 : op ≠ 1) (h2 : op ≠ 2) (h8 : op ≠ 8) (h3 : op ≠ 3) (h4 : op ≠ 4) (h5 : op ≠ 5) (h6 : op ≠ 6) (h7 : op ≠ 7) :
    Calls Try.prog 9 #[.pointer (some ⟨pp, 0, none⟩), .agg #[.int .i64 op, .int .i64 n, bv]] w fun e w' => e = .returned (.bool true) ∧ Chg (fun _ => False) w w' := by
  go_enter Try.func9, Try.ntmps9
  go_wp2
  go_ret
  exact ⟨rfl, Chg.alloc (fun _ => False) w _⟩
end
end Go.Proofs.Ytepoaiaifclgnaa

namespace Go.Proofs.Ytepoaiaifclgnaa
open Go.RowKit Go.Maps

section
variable {X : Nat → Prop} {w0 w w' : World} {pd pp pl q pr : Nat} {tv : Value} {R : Rf} {lb lc db dc nb nc : Nat} {nv : Value} {f : Nat → List Int} {com own : Nat → Option (List Int)} {pend wrote N k : Nat} {live : Bool}

theorem Cor.begun (h : Cor R f com pend false own wrote) : Cor { R with op := true, W := fun _ => ByteArray.empty, wrote := 0 } f com pend true (fun _ => none) 0 :=
  ⟨h.l, h.d, h.p, rfl, fun _ => ⟨fun _ _ => rfl, rfl⟩⟩
theorem pl_begun {w1 w2 : World} {nb' nc' : Nat} {nv' : Value} (h : PlAt X w0 w pp pl tv pr R lb lc db dc nb nc nv) (hcor : Cor R f com pend false own wrote) (ht : TxUp X w0 w1 pd pl q 70 f com pend true (fun _ => none) 0 (1000 + 128 * k)) (hs : Sm X w w1)
    (hr : RfAt w2 pr { R with op := true, W := fun _ => ByteArray.empty, wrote := 0 } lb lc db dc nb' nc' nv') (hc : Chg (fun b => b = pr) w1 w2) (h1 : w1.heap.size ≤ nb') (h2 : nb' < w2.heap.size) (hp : pend ≤ k) (hsy : R.syncs ≤ k) :
    w2.cell? ⟨pp, 1, none⟩ = some tv ∧ w2.frozen? ⟨pp, 1, none⟩ = false ∧ Hid (Pl w0 (w2.setCell ⟨pp, 1, none⟩ (.pointer (some ⟨q, 0, none⟩))) pd pp (k + 1)) := by
  have h0 := ht.chg.size
  have hpr : RfB pr lb db nb R.op pr := .inl rfl
  have p1 := h.sm hs
  have p2 := p1.did hr hc (fun e => h.ne pr hpr e.symm) (fun _ => .inr ⟨h1, h2⟩) h0
  have t2 := ht.ref hc (fun b _ e => e ▸ h.xr pr hpr)
  have hcs : Chg (fun b => b = pp) w2 (w2.setCell ⟨pp, 1, none⟩ (.pointer (some ⟨q, 0, none⟩))) := Chg.setCell _ _ _ rfl
  refine ⟨p2.c1, p2.fr 1, _, pl, .pointer (some ⟨q, 0, none⟩), pr, _, lb, lc, db, dc, nb', nc', nv', f, com, pend, true, _, 0, ⟨?_, ?_, p2.xp, p2.xr, p2.ne⟩, Up.mono (.inr ⟨q, rfl, t2.put p2.xp.1 p2.xp.2 hcs⟩) (by omega), hcor.begun, by omega, ?_⟩
  · have := heap_setCell_same w2 pp 1 _ 37 (.pointer (some ⟨q, 0, none⟩)) p2.blk
    simpa using this
  · exact p2.rf.kept hcs (p2.ne pr (.inl rfl)) (p2.ne lb (.inr (.inl rfl))) (p2.ne db (.inr (.inr (.inl rfl)))) (fun ho => p2.ne nb' (.inr (.inr (.inr ⟨ho, rfl⟩))))
  · show R.syncs ≤ k + 1; omega

set_option maxHeartbeats 1600000 in
set_option maxRecDepth 100000 in
theorem pstep_begin (n : Int) (bv : Value) (w : World) (h : Pl w0 w pd pp k) :
    Calls Try.prog 9 #[.pointer (some ⟨pp, 0, none⟩), .agg #[.int .i64 1, .int .i64 n, bv]] w fun e w' => e = .returned (.bool true) ∧ Pl w0 w' pd pp (k + 1) := by
  have HP : Hid (Pl w0 w pd pp k) := h
  obtain ⟨X, pl, tv, pr, R, lb, lc, db, dc, nb, nc, nv, f, com, pend, live, own, wrote, p1, u1, c1, b1, b2, x1, x2, x3⟩ := h.enter (.cells #[.int .i64 1, .int .i64 n, bv] 41)
  obtain ⟨w1, hw1⟩ : ∃ w1, w.alloc (.cells #[.int .i64 1, .int .i64 n, bv] 41) = w1 := ⟨_, rfl⟩
  have HW : Hid (Chg (fun _ => False) w w1) := by rw [← hw1]; exact Chg.alloc (fun _ => False) w _
  cases live with
  | true =>
    rw [hw1] at p1 u1
    rcases u1 with ⟨_, e, _⟩ | ⟨q, rfl, t1⟩
    · cases e
    have HK : Hid (PlAt X w0 w1 pp pl (.pointer (some ⟨q, 0, none⟩)) pr R lb lc db dc nb nc nv ∧ TxUp X w0 w1 pd pl q 70 f com pend true own wrote (1000 + 128 * k) ∧ R.op = true) := ⟨p1, t1, c1.o⟩
    have d0 := p1.c0
    have d2 := p1.c2
    rw [← hw1] at d0 d2
    have HW1 : Hid (w.alloc (.cells #[.int .i64 1, .int .i64 n, bv] 41) = w1) := hw1
    clear h p1 t1 c1 x1 x2 x3 hw1
    go_enter Try.func9, Try.ntmps9
    go_wp2_with fail
    rw [HW1.out]
    rw [HW1.out] at d0 d2
    refine (begin_busy_up HK.out.2.1).mono ?_
    rintro e w2 ⟨rfl, rfl⟩
    go_wp2_with fail
    refine (rbegin_busy w2 HK.out.1.rf HK.out.2.2).mono ?_
    rintro e w3 ⟨rfl, rfl⟩
    have hq := eqT_nn
    have hq2 := neqT_nn
    have HQ : Hid (Pl w0 w3 pd pp (k + 1)) := (HP.out.more HW.out).up (by omega)
    clear HK HP
    go_wp2
    go_ret
    exact ⟨rfl, HQ.out⟩
  | false =>
    rw [hw1] at p1 u1
    have HK : Hid (PlAt X w0 w1 pp pl tv pr R lb lc db dc nb nc nv ∧ LogUp X w0 w1 pd pl 70 f com pend (1000 + 128 * k) ∧ Cor R f com pend false own wrote) := ⟨p1, u1.log, c1⟩
    have d0 := p1.c0
    rw [← hw1] at d0
    have HW1 : Hid (w.alloc (.cells #[.int .i64 1, .int .i64 n, bv] 41) = w1) := hw1
    have HB : Hid (pend ≤ k ∧ R.syncs ≤ k) := ⟨b1, b2⟩
    obtain htv := u1.form
    clear h p1 u1 c1 x1 x2 x3 hw1 b1 b2
    go_enter Try.func9, Try.ntmps9
    go_wp2_with fail
    rw [HW1.out]
    rw [HW1.out] at d0
    refine (begin_up HK.out.2.1).mono ?_
    rintro e w2 ⟨q, rfl, t2, s2⟩
    have p2 := HK.out.1.sm s2
    have d2 := p2.c2
    have HT : Hid (TxUp X w0 w2 pd pl q 70 f com pend true (fun _ => none) 0 (1000 + 128 * k) ∧ Sm X w1 w2 ∧ RfAt w2 pr R lb lc db dc nb nc nv) := ⟨t2, s2, p2.rf⟩
    clear t2 s2 p2 d0
    go_wp2_with fail
    refine (rbegin_any w2 HT.out.2.2 HK.out.2.2.o).mono ?_
    rintro e w3 ⟨rfl, nb', nv', hr, hc, g1, g2⟩
    obtain ⟨e1, e2, HQ⟩ := pl_begun HK.out.1 HK.out.2.2 HT.out.1 HT.out.2.1 hr hc g1 g2 HB.out.1 HB.out.2
    have hq := eqT_some ⟨q, 0, none⟩
    have hq2 := neqT_some ⟨q, 0, none⟩
    clear HT HK hr hc g1 g2 HB d2
    rcases htv with rfl | ⟨q0, rfl⟩
    · go_wp2
      go_ret
      exact ⟨rfl, HQ.out⟩
    · go_wp2
      go_ret
      exact ⟨rfl, HQ.out⟩
end
end Go.Proofs.Ytepoaiaifclgnaa

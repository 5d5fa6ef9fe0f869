/-
  slices.Backward over spots, and a range over what it hands back.
-/
import Derived.RangeFuncOwn
import Derived.RangeFuncCalls
import Derived.RangeFuncLeaves
import Derived.Shelf.Abstract
import Derived.WalkKit
import Derived.OwnWalkIn
import Derived.TacticsInMore
import Derived.LoopNIn
import Derived.LoopIn
import Derived.Test.YtnnaemlipahamaaGreatFApp1
import Derived.Test.YtnnaemlipahamaaGreatFDrop0
namespace Go.Proofs.YtnnaemlipahamaaGreat
open Go.RowKit Go.Maps Go.Shelf

theorem backward_any (a : Option Addr) (n c : Nat) (w : World) :
    Calls Tryz.prog 80 #[.slice a n c] w fun e w' => e = .returned (.func (.func 110) #[] #[.pointer (some ⟨w.heap.size, 0, none⟩)]) ∧ w' = w.alloc (.cells #[.slice a n c] 109) := by
  have hmf : ∀ (fn : Fn) (first cap : Array Value) (w : World), (Instr.makeFunc fn first cap).run Tryz.prog w = .ok (.func fn first cap) w := fun _ _ _ _ => rfl
  go_enter Tryz.func80, Tryz.ntmps80
  go_wp2
  go_ret
  exact ⟨rfl, rfl⟩
attribute [local go_sem] Oper.semAt_some
set_option maxRecDepth 100000 in
set_option maxHeartbeats 2000000 in
/-- The iterator: from the last spot to the first; no round says that it is to stop. -/
theorem back1_in (n l Bs b len cap : Nat) (sp : Nat → Sp) (hl3 : len ≤ 3) (_hlc : len ≤ cap) (J : Nat → World → Prop)
    (hJ : ∀ k W, J k W → W.cell? ⟨Bs, 0, none⟩ = some (.slice (some ⟨b, 0, none⟩) len cap) ∧ ∃ cur, SpR W b cur ∧ ∀ j, j < len → SpEl cur j (sp j))
    (hY : ∀ k W, J k W → k < len → YieldAt Fence.wide (n - 1) Tryz.prog l #[.int .i64 ((len - 1 - k : Nat) : Int), spV (sp (len - 1 - k)).fi (sp (len - 1 - k)).wi (sp (len - 1 - k)).g (sp (len - 1 - k)).st] W fun e W' => e = .returned (.bool true) ∧ J (k + 1) W')
    (W : World) (h0 : J 0 W) :
    CallsIn Fence.wide n Tryz.prog 110 #[.func (.yield l) #[] #[], .pointer (some ⟨Bs, 0, none⟩)] W fun e W' => (∃ v, e = .returned v) ∧ J len W' := by
  have HJ : Hid (∀ k W, J k W → W.cell? ⟨Bs, 0, none⟩ = some (.slice (some ⟨b, 0, none⟩) len cap) ∧ ∃ cur, SpR W b cur ∧ ∀ j, j < len → SpEl cur j (sp j)) := hJ
  have HY : Hid _ := hY
  have c0 := (hJ 0 W h0).1
  clear hJ hY
  refine callsIn_of_wp Tryz.func110 rfl trivial ?_ rfl
  simp only [Tryz.ntmps110, List.size_toArray, List.length_cons, List.length_nil, Nat.reduceAdd, Nat.reduceSub, Array.replicate_succ, Array.replicate_zero, List.push_toArray, List.append_toArray, List.nil_append, List.cons_append]
  gi_wp2
  gi_loopw [3] (fun s3 wr => ∃ k : Nat, k ≤ len ∧ s3 = .int .i64 ((len : Int) - 1 - (k : Int)) ∧ Hid (J k wr)) (fun s3 _ => (intOf s3 + 1).toNat)
  case atStart => exact ⟨0, by omega, by simp, h0⟩
  case round =>
    obtain ⟨k, hk, rfl, HJs⟩ := hrel
    clear c0
    by_cases hlt : k < len
    · obtain ⟨c1, cur, hr, hel⟩ := HJ.out k wr HJs.out
      obtain ⟨t, ht⟩ : ∃ t, len - 1 - k = t := ⟨_, rfl⟩
      obtain ⟨d0, d1, d2, d3⟩ := hr.cell (hel t (by omega))
      have hy0 := (show ∀ k W, J k W → k < len → _ from HY.out) k wr HJs.out hlt
      rw [ht] at hy0
      obtain ⟨fn, tmps, assign, body, hy, hR⟩ := hy0
      have e1 : (len : Int) - 1 - (k : Int) = (t : Int) := by omega
      have htl : t < len := by omega
      have HT : Hid (len - 1 - k = t) := ht
      rw [e1]
      clear ht hel hr
      gi_wp2
      refine ⟨(fun h => by cases h), hR.mono ?_⟩
      rintro e W3 ⟨rfl, hJ3⟩
      have HJ3 : Hid (J (k + 1) W3) := hJ3
      clear hJ3 hR hy
      gi_wp2
      go_roundw
      case rel => exact ⟨k + 1, by omega, congrArg (Value.int .i64) (by omega), HJ3⟩
      case measure => simp [intOf]
    · have hkl : k = len := by omega
      have e1 : (len : Int) - 1 - (k : Int) = -1 := by omega
      rw [e1]
      gi_wp2
      go_end0
      exact ⟨⟨_, rfl⟩, hkl ▸ HJs.out⟩
end Go.Proofs.YtnnaemlipahamaaGreat

namespace Go.Proofs.YtnnaemlipahamaaGreat
open Go.RowKit Go.Maps

theorem Chg.putObj (w : World) (l : Nat) (o : Obj) : Chg (fun b => b = l) w (w.putObj l o) :=
  ⟨rfl, rfl, rfl, by simp, fun _ _ h => World.putObj_heap_other h⟩
/-- What drop finds between two keys. -/
structure DrW (c : Cx) (X : Nat → Prop) (i : Nat) (V : Nat → List Int) (nd : Nd) (B : Nat → Nat) (T : Nat → Bool) (nb l : Nat) (w1 : World) (t : Nat) (W : World) : Prop where
  st : ∃ V' nd', Fs c X W V' (drp c.F B T ((begunK i).drop t)) ∧ Dr c (live i) (begunK i) V nd B T t V' nd' ∧ NdB 29 W nb nd'
  sm : ∀ m, X m → m ≠ nb → m ≠ l → W.heap[m]? = w1.heap[m]?
/-- The spots, ahead of all. -/
structure DrS (c : Cx) (X : Nat → Prop) (i : Nat) (nb l b lo : Nat) (sp : Nat → Sp) (cur : Array Value) (w1 : World) : Prop where
  row : SpR w1 b cur
  sp : ∀ j, j < (begunK i).length → SpEl cur j (sp j) ∧ SpFor w1 (Bet lo b) nb c.q ((begunK i).getD j 0) (sp j)
  x : ∀ m, lo ≤ m → m ≤ b → X m
  xn : X nb
  xl : X l
  bd : c.w0.heap.size ≤ nb ∧ nb < lo ∧ lo ≤ b ∧ b < l
section
variable {c : Cx} {X : Nat → Prop} {i : Nat} {V : Nat → List Int} {nd : Nd} {B : Nat → Nat} {T : Nat → Bool} {nb l b lo : Nat} {w1 W W' : World} {t : Nat} {sp : Nat → Sp} {cur : Array Value}
theorem DrW.put (h : DrW c X i V nd B T nb l w1 t W) (hd : DrS c X i nb l b lo sp cur w1) (o : Obj) : DrW c X i V nd B T nb l w1 t (W.putObj l o) := by
  obtain ⟨⟨V', nd', h1, h2, h3⟩, h4⟩ := h
  have hc := Chg.putObj W l o
  have hb := hd.bd
  refine ⟨⟨V', nd', h1.put hd.xl (by omega) hc, h2, h3.kept hc (by omega)⟩, fun m hm n1 n2 => (World.putObj_heap_other n2).trans (h4 m hm n1 n2)⟩
theorem DrW.spot (h : DrW c X i V nd B T nb l w1 t W) (hd : DrS c X i nb l b lo sp cur w1) : SpR W b cur ∧ ∀ j, j < (begunK i).length → SpFor W (Bet lo b) nb c.q ((begunK i).getD j 0) (sp j) := by
  have hb := hd.bd
  have hS : Sm (fun m => X m ∧ m ≠ nb ∧ m ≠ l) w1 W := fun m hm => h.sm m hm.1 hm.2.1 hm.2.2
  refine ⟨(h.sm b (hd.x b hb.2.2.1 (Nat.le_refl _)) (by omega) (by omega)).trans hd.row, fun j hj => (hd.sp j hj).2.sm hS (fun m hm => ⟨hd.x m hm.1 (by have := hm.2; omega), by have := hm.1; omega, by have := hm.2; omega⟩)⟩
/-- One key: get, Give, set. -/
theorem drop_key {k kept : Nat} (h : DrW c X i V nd B T nb l w1 (t + 1) W) (hd : DrS c X i nb l b lo sp cur w1) (ho : c.Ok) (ht : t < (begunK i).length) (hk : (begunK i).getD t 0 = k) (hi : i < 16520)
    (hL : ¬ fld k → wth k < (kept : Int) → B (par k) ∈ c.L) :
    (sp t).wi = wth k ∧ Gets W (sp t).g (B k : Int) ∧ (sp t).st.oneCell' = true ∧ Hid (∀ w2, Chg (fun _ => False) W w2 → Calls Tryz.prog 81 #[PV c.M c.F c.n, .pointer (some ⟨c.q, 0, none⟩), .int .i64 (B k : Int)] w2 fun e w3 => e = .returned (.int .i64 0) ∧ (∀ m, X m → w3.heap[m]? = W.heap[m]?) ∧
      Hid ((¬ fld k → DrW c X i V nd B T nb l w1 t w3) ∧ (wth k < (kept : Int) →
        (∃ sb, (sp t).st = sF sb ∧ Hid (Calls Tryz.prog 129 #[.int .i64 0, .pointer (some ⟨sb, 0, none⟩)] w3 fun e w4 => e = .returned (.int .i64 0) ∧ (∀ m, X m → m ≠ nb → w4.heap[m]? = W.heap[m]?) ∧ Hid (DrW c X i V nd B T nb l w1 t w4))) ∨
        (∃ sb, (sp t).st = sE (sb + 4) (sb + 2) sb ∧ Hid (Calls Tryz.prog 133 #[.int .i64 0, .pointer (some ⟨sb + 4, 0, none⟩), .pointer (some ⟨sb + 2, 0, none⟩), .pointer (some ⟨sb, 0, none⟩)] w3 fun e w4 => e = .returned (.int .i64 0) ∧ (∀ m, X m → m ≠ nb → w4.heap[m]? = W.heap[m]?) ∧ Hid (DrW c X i V nd B T nb l w1 t w4)))))) := by
  obtain ⟨hrow, hspot⟩ := h.spot hd
  have hsp := hspot t ht
  rw [hk] at hsp
  obtain ⟨⟨V', nd', hfs, hdr, hnd⟩, hsm⟩ := h
  have hbd := hd.bd
  have hkl : live i k ∨ k ∈ (begunK i).take (t + 1) := .inr (by rw [take_step ht, hk]; simp)
  have hown := hdr.fl.own k hkl
  have hlp : ∀ m, live i m → ¬ fld m → live i (par m) := fun m hm hf => live_par hf hm
  refine ⟨hsp.wi, sp_get hsp hnd.at hfs hdr.fl ho hkl, hsp.cl.one.2, ?_⟩
  intro w2 hc2
  have hfs2 := hfs.more hc2
  refine (fs_give hfs2 ho hown.1 hown.2.1 hown.2.2).mono ?_
  rintro e w3 ⟨rfl, V1, hf3, hv1, sm3⟩
  have hall3 : ∀ m, X m → w3.heap[m]? = W.heap[m]? := fun m hm => (sm3 m hm).trans (hc2.block m (hfs.tv.xlt m hm) (fun h => h))
  have hS3 : Sm X W w3 := fun m hm => hall3 m hm
  have hnd3 : NdB 29 w3 nb nd' := (hall3 nb hd.xn).trans hnd
  have hsp3 : SpFor w3 (Bet lo b) nb c.q k (sp t) := hsp.sm hS3 (fun m hm => hd.x m hm.1 (by have := hm.2; omega))
  refine ⟨rfl, hall3, ?_, ?_⟩
  · intro hf
    obtain ⟨d1, d2⟩ := hdr.step ho hlp (begunK_ok hi) ht hk hv1 (V2 := V1) (.inl ⟨rfl, hf⟩)
    have en : setN nd' k 0 = nd' := by unfold setN; rw [if_neg hf]
    rw [en] at d1
    rw [d2] at hf3
    exact ⟨⟨V1, nd', hf3, d1, hnd3⟩, fun m hm n1 n2 => (hall3 m hm).trans (hsm m hm n1 n2)⟩
  · intro hw
    obtain ⟨d1, d2⟩ := hdr.step ho hlp (begunK_ok hi) ht hk hv1 (V2 := setV V1 B k 0) (.inr rfl)
    rw [d2] at hf3
    by_cases hf : fld k
    · obtain ⟨sb, e1, hcall⟩ := sp_setF (B := B) hsp3 hf hnd3 hf3 hd.xn hbd.1 0
      refine .inl ⟨sb, e1, hcall.mono ?_⟩
      rintro e w4 ⟨rfl, f4, n4, c4⟩
      have hall4 : ∀ m, X m → m ≠ nb → w4.heap[m]? = W.heap[m]? := fun m hm hne => (c4.block m (hf3.tv.xlt m hm) hne).trans (hall3 m hm)
      exact ⟨rfl, hall4, ⟨⟨_, _, f4, d1, n4⟩, fun m hm n1 n2 => (hall4 m hm n1).trans (hsm m hm n1 n2)⟩⟩
    · obtain ⟨s1, s2⟩ := hdr.step ho hlp (begunK_ok hi) ht hk hv1 (V2 := V1) (.inl ⟨rfl, hf⟩)
      have en : setN nd' k 0 = nd' := by unfold setN; rw [if_neg hf]
      rw [en] at s1
      have hkp := (begunK_ok hi).par t ht
      have hki := (begunK_ok hi).idx _ (mem_getD ht)
      rw [hk] at hkp hki
      obtain ⟨sb, e1, hcall⟩ := sp_setE hsp3 hf hnd3 hf3 s1.fl ho (hkp hf) (hki hf) (hL hf hw) hd.xn (fun m hm => hd.x m hm.1 (by have := hm.2; omega)) 0 (by omega) (by omega)
      refine .inr ⟨sb, e1, hcall.mono ?_⟩
      rintro e w4 ⟨rfl, f4, n4, c4⟩
      have hall4 : ∀ m, X m → m ≠ nb → w4.heap[m]? = W.heap[m]? := fun m hm _ => (c4 m hm).trans (hall3 m hm)
      exact ⟨rfl, hall4, ⟨⟨_, _, f4, d1, n4⟩, fun m hm n1 n2 => (hall4 m hm n1).trans (hsm m hm n1 n2)⟩⟩
theorem DrW.more (h : DrW c X i V nd B T nb l w1 t W) (_hx : X nb) (hc : Chg (fun _ => False) W W') : DrW c X i V nd B T nb l w1 t W' := by
  obtain ⟨⟨V', nd', h1, h2, h3⟩, h4⟩ := h
  exact ⟨⟨V', nd', h1.more hc, h2, h3.kept hc (fun h => h)⟩, fun m hm n1 n2 => (hc.block m (h1.tv.xlt m hm) (fun h => h)).trans (h4 m hm n1 n2)⟩
theorem DrW.lt (h : DrW c X i V nd B T nb l w1 t W) {m : Nat} (hm : X m) : m < W.heap.size := by
  obtain ⟨⟨V', nd', h1, _, _⟩, _⟩ := h
  exact h1.tv.xlt m hm
/-- One round, the spot in a box of its own, the loop's record busy. -/
theorem drop_round {k kept : Nat} {o ob : Obj} {W2 : World} (h : DrW c X i V nd B T nb l w1 (t + 1) W) (hd : DrS c X i nb l b lo sp cur w1) (ho : c.Ok) (ht : t < (begunK i).length) (hk : (begunK i).getD t 0 = k) (hi : i < 16520)
    (hL : ¬ fld k → wth k < (kept : Int) → B (par k) ∈ c.L) (hW2 : (W.alloc o).putObj l ob = W2) :
    W2.heap[W.heap.size]? = some o ∧ (∀ m, X m → m ≠ nb → m ≠ l → W2.heap[m]? = w1.heap[m]?) ∧
    (sp t).wi = wth k ∧ Gets W2 (sp t).g (B k : Int) ∧ (sp t).st.oneCell' = true ∧ Hid (∀ w2, Chg (fun _ => False) W2 w2 → Calls Tryz.prog 81 #[PV c.M c.F c.n, .pointer (some ⟨c.q, 0, none⟩), .int .i64 (B k : Int)] w2 fun e w3 => e = .returned (.int .i64 0) ∧ w3.heap[W.heap.size]? = some o ∧ (∀ m, X m → m ≠ nb → m ≠ l → w3.heap[m]? = w1.heap[m]?) ∧ 
      Hid ((¬ fld k → w3.heap[l]? = some ob ∧ DrW c X i V nd B T nb l w1 t w3) ∧ (wth k < (kept : Int) →
        (∃ sb, (sp t).st = sF sb ∧ Hid (Calls Tryz.prog 129 #[.int .i64 0, .pointer (some ⟨sb, 0, none⟩)] w3 fun e w4 => e = .returned (.int .i64 0) ∧ Hid (w4.heap[l]? = some ob ∧ DrW c X i V nd B T nb l w1 t w4))) ∨
        (∃ sb, (sp t).st = sE (sb + 4) (sb + 2) sb ∧ Hid (Calls Tryz.prog 133 #[.int .i64 0, .pointer (some ⟨sb + 4, 0, none⟩), .pointer (some ⟨sb + 2, 0, none⟩), .pointer (some ⟨sb, 0, none⟩)] w3 fun e w4 => e = .returned (.int .i64 0) ∧ Hid (w4.heap[l]? = some ob ∧ DrW c X i V nd B T nb l w1 t w4)))))) := by
  have hbd := hd.bd
  have hll := h.lt hd.xl
  have hnl := h.lt hd.xn
  have hca := Chg.alloc (fun _ => False) W o
  have hcp := Chg.putObj (W.alloc o) l ob
  rw [hW2] at hcp
  have hb2 : W2.heap[W.heap.size]? = some o := (hcp.block _ (by simp) (by omega)).trans (heap_alloc_new _ _)
  have hlb : W2.heap[l]? = some ob := by rw [← hW2]; exact World.putObj_heap_same (by simp; omega)
  have h2 : DrW c X i V nd B T nb l w1 (t + 1) W2 := by rw [← hW2]; exact (h.more hd.xn hca).put hd ob
  obtain ⟨Z, hZ⟩ : ∃ Z, addX X W.heap.size (W.alloc o).heap.size = Z := ⟨_, rfl⟩
  have hzX : ∀ m, X m → Z m := fun m hm => hZ ▸ .inl hm
  have hz : Z W.heap.size := hZ ▸ .inr ⟨Nat.le_refl _, by simp⟩
  obtain ⟨hr2, hs2⟩ := h2.spot hd
  have hd2 : DrS c Z i nb l b lo sp cur W2 := ⟨hr2, fun j hj => ⟨(hd.sp j hj).1, hs2 j hj⟩, fun m m1 m2 => hzX m (hd.x m m1 m2), hzX _ hd.xn, hzX _ hd.xl, hbd⟩
  have h3 : DrW c Z i V nd B T nb l W2 (t + 1) W2 := by
    obtain ⟨⟨V', nd', f1, f2, f3⟩, _⟩ := h
    have g1 := f1.add hca
    rw [hZ] at g1
    exact ⟨⟨V', nd', g1.put (hzX _ hd.xl) (by omega) hcp, f2, (f3.kept hca (fun h => h)).kept hcp (by omega)⟩, fun _ _ _ _ => rfl⟩
  have hback : ∀ w4, DrW c Z i V nd B T nb l W2 t w4 → DrW c X i V nd B T nb l w1 t w4 := fun w4 h4 => by
    obtain ⟨⟨V', nd', f1, f2, f3⟩, f4⟩ := h4
    exact ⟨⟨V', nd', f1.less hzX, f2, f3⟩, fun m hm n1 n2 => (f4 m (hzX m hm) n1 n2).trans (h2.sm m hm n1 n2)⟩
  obtain ⟨k1, k2, k3, K4⟩ := drop_key h3 hd2 ho ht hk hi hL
  refine ⟨hb2, h2.sm, k1, k2, k3, fun w2 hc2 => (K4.out w2 hc2).mono ?_⟩
  rintro e w3 ⟨rfl, a1, A2⟩
  obtain ⟨a2, a3⟩ := A2.out
  have hnlb : nb ≠ l := by omega
  refine ⟨rfl, (a1 _ hz).trans hb2, fun m hm n1 n2 => (a1 m (hzX m hm)).trans (h2.sm m hm n1 n2), fun hf => ⟨(a1 l (hzX _ hd.xl)).trans hlb, hback _ (a2 hf)⟩, fun hw => ?_⟩
  rcases a3 hw with ⟨sb, e1, C⟩ | ⟨sb, e1, C⟩
  · refine .inl ⟨sb, e1, C.out.mono ?_⟩
    rintro e w4 ⟨rfl, b1, B2⟩
    exact ⟨rfl, (b1 l (hzX _ hd.xl) (Ne.symm hnlb)).trans hlb, hback _ B2.out⟩
  · refine .inr ⟨sb, e1, C.out.mono ?_⟩
    rintro e w4 ⟨rfl, b1, B2⟩
    exact ⟨rfl, (b1 l (hzX _ hd.xl) (Ne.symm hnlb)).trans hlb, hback _ B2.out⟩
end
end Go.Proofs.YtnnaemlipahamaaGreat

namespace Go.Proofs.YtnnaemlipahamaaGreat
open Go.RowKit Go.Maps

section
variable {n : Nat} {P : Program} {g : Operand} {ps : Array Tmp} {assign body : Code} {Q : Exit → Act → World → Prop} {a : Act} {w : World} {gf : Nat} {lb : Array Value}
theorem range_any (hg : a.eval g = .func (.func gf) #[] lb) (eg : ∀ args w, (callFunc gf args).run P w = .ok (.enter gf args) w) (h1 : 1 ≤ n)
    (h : ∀ (fn : FuncId) (rec : LoopState → Loop), (∀ st, rec st = { state := st, pending := none, fn := fn, tmps := a.tmps, params := ps, assign := assign, body := body, defers := w.heap.size }) →
      CallsIn Fence.wide (n - 1) P gf (#[.func (.yield (w.heap.size + 1)) #[] #[]] ++ lb) ((w.alloc (.deferred (some []))).alloc (.loop (rec .ready))) fun e W' => (∃ v, e = .returned v) ∧ W'.heap[w.heap.size + 1]? = some (.loop (rec .ready)) ∧
        Q .normal { a with defers := { target := .collected w.heap.size, args := #[] } :: a.defers } (W'.putObj (w.heap.size + 1) (.loop (rec .exhausted)))) :
    (Code.rangeFunc g ps assign body).wpIn Fence.wide n P Q a w := by
  refine wpIn_rangeFunc ?_
  intro fn hfn
  obtain ⟨rec, hrec⟩ : ∃ rec : LoopState → Loop, ∀ st, rec st = { state := st, pending := none, fn := fn, tmps := a.tmps, params := ps, assign := assign, body := body, defers := w.heap.size } := ⟨_, fun _ => rfl⟩
  obtain ⟨W1, hW1⟩ : ∃ W1, (w.alloc (.deferred (some []))).alloc (.loop (rec .ready)) = W1 := ⟨_, rfl⟩
  have hc := h fn rec hrec
  rw [hW1] at hc
  refine ⟨w.heap.size + 1, [{ target := .collected w.heap.size, args := #[] }], W1, { target := .fn (.func gf) lb, args := #[.func (.yield (w.heap.size + 1)) #[] #[]] }, W1, gf,
    #[.func (.yield (w.heap.size + 1)) #[] #[]] ++ lb, W1, ?_, ?_, ?_, ?_, fun _ => h1, ?_⟩
  · rw [← hW1, hrec]; exact run_enterLoop_outer _ _ _ _ _
  · simp only [resolve, hg]
    simp [go_sem]
  · intro f' _; exact trivial
  · simp [invoke, go_sem, eg]
  · refine hc.mono ?_
    rintro e W' ⟨⟨v, rfl⟩, hl, hq⟩
    have he := run_endLoop (P := P) hl (by rw [hrec]; simp)
    rw [hrec] at he
    rw [hrec] at hq
    exact ⟨none, _, he, hq⟩
theorem yield_any {W : World} {l D : Nat} {fn : FuncId} {tmps args : Array Value} {rec : LoopState → Loop} {R : Ending → World → Prop} (hrec : ∀ st, rec st = { state := st, pending := none, fn := fn, tmps := tmps, params := ps, assign := assign, body := body, defers := D })
    (hl : W.heap[l]? = some (.loop (rec .ready))) (hsz : args.size = ps.size)
    (h : assign.wpIn (Fence.wide.inRound l) n P (Exit.then (fun a1 w1 => w1.heap[l]? = some (.loop (rec .ready)) ∧ body.wpIn (Fence.wide.inRound l) n P (fun e _ W3 => e = .normal ∧ W3.heap[l]? = some (.loop (rec .busy)) ∧ R (.returned (.bool true)) (W3.putObj l (.loop (rec .ready)))) a1 (w1.putObj l (.loop (rec .busy)))) (fun _ _ _ => False))
      { tmps := (ps.zip args).foldl (fun t (p, v) => t.setIfInBounds p v) tmps, defers := [] } W) :
    YieldAt Fence.wide n P l args W R := by
  obtain rfl : rec = _ := funext hrec
  have hy := run_yield (P := P) (args := args) hl hsz
  refine ⟨fn, _, assign, body, hy, roundIn_of_wpIn trivial (wpIn_mono h ?_)⟩
  rintro e a1 w1 hp
  cases e with
  | normal =>
    obtain ⟨hl1, hb⟩ := hp
    refine ⟨_, run_beginRound (P := P) hl1 rfl, wpIn_mono hb ?_⟩
    rintro e a3 W3 ⟨rfl, hl3, hR⟩
    exact ⟨_, _, run_endRound (P := P) none hl3, hR⟩
  | ret => exact hp.elim
  | exit id => exact hp.elim
  | goto t => exact hp.elim
  | panic ch => exact hp.elim
  | outgrown => exact hp.elim
end
end Go.Proofs.YtnnaemlipahamaaGreat

namespace Go.Proofs.YtnnaemlipahamaaGreat
open Go.RowKit Go.Maps Go.Shelf
attribute [local go_sem] Oper.semAt_some

theorem alloc_at {w : World} {o o' : Obj} {k : Nat} (h : w.heap[k]? = some o) : (w.alloc o').heap[k]? = some o := (Below.heap_alloc w o' k (lt_of_block h)).trans h
theorem alloc_new' {w : World} {o : Obj} {k : Nat} (h : w.heap.size = k) : (w.alloc o).heap[k]? = some o := h ▸ heap_alloc_new w o
/-- The boxes of drop's own variables. -/
def drB (w : World) (q : Nat) (M F n kept : Int) : World := (((w.alloc (.cells #[.pointer (some ⟨q, 0, none⟩)] 37)).alloc (PO M F n)).alloc (.cells #[.int .i64 kept] 3)).alloc (.cells #[.int .i64 0] 38)
theorem drB_chg (w : World) (q : Nat) (M F n kept : Int) : Chg (fun _ => False) w (drB w q M F n kept) := (((Chg.alloc _ w _).al _).al _).al _
theorem drB_size (w : World) (q : Nat) (M F n kept : Int) : (drB w q M F n kept).heap.size = w.heap.size + 4 := by simp [drB]
theorem drB_at (w : World) (q : Nat) (M F n kept : Int) : (drB w q M F n kept).heap[w.heap.size]? = some (.cells #[.pointer (some ⟨q, 0, none⟩)] 37) ∧ (drB w q M F n kept).heap[w.heap.size + 1]? = some (PO M F n) ∧ (drB w q M F n kept).heap[w.heap.size + 1 + 1]? = some (.cells #[.int .i64 kept] 3) ∧ (drB w q M F n kept).heap[w.heap.size + 1 + 1 + 1]? = some (.cells #[.int .i64 0] 38) := by
  unfold drB
  exact ⟨alloc_at (alloc_at (alloc_at (heap_alloc_new _ _))), alloc_at (alloc_at (alloc_new' (by simp))), alloc_at (alloc_new' (by simp)), alloc_new' (by simp)⟩
section
variable {c : Cx} {X : Nat → Prop} {w : World} {V : Nat → List Int} {T : Nat → Bool} {nd : Nd} {B : Nat → Nat} {nb i kept : Nat}
/-- Behind the loop: the result is laid, the block for deferred calls is shut. -/
theorem drop_end {l b lo r D : Nat} {sp : Nat → Sp} {cur : Array Value} {w1 W WE : World} {ob : Obj} (h : DrW c X i V nd B T nb l w1 0 W) (hd : DrS c X i nb l b lo sp cur w1) (hD : X D ∧ D ≠ nb ∧ D ≠ l ∧ c.w0.heap.size ≤ D) (hr : X r ∧ r ≠ nb ∧ r ≠ l ∧ r ≠ D ∧ c.w0.heap.size ≤ r)
    (h1 : w1.heap[D]? = some (.deferred (some []))) (h2 : w1.heap[r]? = some (.cells #[.int .i64 0] 38)) (hWE : W.putObj l ob = WE) :
    WE.heap[r]? = some (.cells #[.int .i64 0] 38) ∧ (WE.setCell ⟨r, 0, none⟩ (.int .i64 0)).heap[D]? = some (.deferred (some [])) ∧ ((WE.setCell ⟨r, 0, none⟩ (.int .i64 0)).putObj D (.deferred none)).cell? ⟨r, 0, none⟩ = some (.int .i64 0) ∧
      ∃ V' nd', Fs c X ((WE.setCell ⟨r, 0, none⟩ (.int .i64 0)).putObj D (.deferred none)) V' (drp c.F B T (begunK i)) ∧ Dr c (live i) (begunK i) V nd B T 0 V' nd' ∧ NdB 29 ((WE.setCell ⟨r, 0, none⟩ (.int .i64 0)).putObj D (.deferred none)) nb nd' ∧ ∀ m, X m → m ≠ nb → m ≠ l → m ≠ r → m ≠ D → ((WE.setCell ⟨r, 0, none⟩ (.int .i64 0)).putObj D (.deferred none)).heap[m]? = w1.heap[m]? := by
  have hE := h.put hd ob
  rw [hWE] at hE
  obtain ⟨⟨V', nd', f1, f2, f3⟩, f4⟩ := hE
  have hbd := hd.bd
  have c1 : Chg (fun b => b = r) WE (WE.setCell ⟨r, 0, none⟩ (.int .i64 0)) := Chg.setCell (S := fun b => b = r) _ _ _ rfl
  obtain ⟨WS, hWS⟩ : ∃ WS, WE.setCell ⟨r, 0, none⟩ (.int .i64 0) = WS := ⟨_, rfl⟩
  have e1 : WE.heap[r]? = some (.cells #[.int .i64 0] 38) := (f4 r hr.1 hr.2.1 hr.2.2.1).trans h2
  have e2 : WS.cell? ⟨r, 0, none⟩ = some (.int .i64 0) := by rw [← hWS]; exact World.cell?_setCell_same' _ _ _ (by rw [cell_of_row _ _ _ _ _ _ e1]; rfl)
  have e3 : WE.heap[D]? = some (.deferred (some [])) := (f4 D hD.1 hD.2.1 hD.2.2.1).trans h1
  rw [hWS] at c1 ⊢
  have c2 := Chg.putObj WS D (.deferred none)
  rw [List.drop_zero] at f1
  refine ⟨e1, (c1.block D (lt_of_block e3) (by omega)).trans e3, c2.cell e2 (by show ¬ r = D; omega), V', nd', (f1.put hr.1 hr.2.2.2.2 c1).put hD.1 hD.2.2.2 c2, f2, (f3.kept c1 (by omega)).kept c2 (by omega), fun m hm n1 n2 n3 n4 => ?_⟩
  exact (World.putObj_heap_other n4).trans ((c1.block m (f1.tv.xlt m hm) n3).trans (f4 m hm n1 n2))
set_option maxHeartbeats 3200000 in
set_option maxRecDepth 100000 in
theorem drop_any (hs : Fs c X w V T) (hf : Fl c (live (i + 1)) V nd B T) (ho : c.Ok) (hn : NdB 29 w nb nd) (hX : X nb) (hr : c.w0.heap.size ≤ nb) (hi : i < 16520) (hL : ∀ k, k ∈ begunK i → ¬ fld k → wth k < (kept : Int) → B (par k) ∈ c.L) :
    Calls Tryz.prog 50 #[.pointer (some ⟨c.q, 0, none⟩), PV c.M c.F c.n, .pointer (some ⟨nb, 0, none⟩), .int .i64 (i : Int), .int .i64 (kept : Int)] w fun e w' => e = .returned (.int .i64 0) ∧
      ∃ V' nd', Fs c X w' V' (drp c.F B T (begunK i)) ∧ Dr c (live i) (begunK i) V nd B T 0 V' nd' ∧ NdB 29 w' nb nd' ∧ ∀ k, X k → k ≠ nb → w'.heap[k]? = w.heap[k]? := by
  have hlt := hs.tv.xlt nb hX
  have BG : Hid (Calls Tryz.prog 51 #[tI c.q, .pointer (some ⟨nb, 0, none⟩), .int .i64 (i : Int)] (drB w c.q c.M c.F c.n kept) fun e w2 => ∃ (b m cp : Nat), e = .returned (.slice (some ⟨b, 0, none⟩) m cp) ∧
      Hid (m ≤ cp ∧ (begunK i).length = m ∧ w.heap.size + 4 ≤ b ∧ b < w2.heap.size ∧ Chg (fun _ => False) (drB w c.q c.M c.F c.n kept) w2 ∧ ∃ (sp : Nat → Sp) (cur : Array Value), SpR w2 b cur ∧ ∀ j, j < (begunK i).length → SpEl cur j (sp j) ∧ SpFor w2 (Bet (w.heap.size + 4) b) nb c.q ((begunK i).getD j 0) (sp j))) := by
    refine (begun_any c.q nb i _ hi).mono ?_
    rintro e w2 ⟨b, cp, l, cur, rfl, h1, h2, h3, h4, h5⟩
    rw [drB_size] at h2 h5
    exact ⟨b, _, cp, rfl, h1, rfl, h2, lt_of_block h3, h4, l, cur, h3, h5⟩
  have BW : Hid (∀ (b m cp : Nat) (w2 : World), Calls Tryz.prog 80 #[.slice (some ⟨b, 0, none⟩) m cp] w2 fun e w' => e = .returned (.func (.func 110) #[] #[.pointer (some ⟨w2.heap.size, 0, none⟩)]) ∧ w' = w2.alloc (.cells #[.slice (some ⟨b, 0, none⟩) m cp] 109)) := fun b m cp w2 => backward_any _ _ _ _
  have HH : Hid (Fs c X w V T ∧ Fl c (live (i + 1)) V nd B T ∧ c.Ok ∧ NdB 29 w nb nd ∧ X nb ∧ c.w0.heap.size ≤ nb ∧ i < 16520 ∧ nb < w.heap.size ∧ ∀ k, k ∈ begunK i → ¬ fld k → wth k < (kept : Int) → B (par k) ∈ c.L) := ⟨hs, hf, ho, hn, hX, hr, hi, hlt, hL⟩
  clear hs hf ho hn hX hr hi hlt hL
  unfold drB PO at BG
  unfold PV
  refine (callsIn_wide (n := 3)).1 (callsIn_of_wp_marks Tryz.func50 rfl trivial ?_ rfl)
  simp only [Tryz.ntmps50, List.size_toArray, List.length_cons, List.length_nil, Nat.reduceAdd, Nat.reduceSub, Array.replicate_succ, Array.replicate_zero, List.push_toArray, List.append_toArray, List.nil_append, List.cons_append]
  gi_wp2_with fail
  refine ⟨trivial, (callsIn_wide.2 (show Calls _ _ _ _ _ from BG.out)).mono ?_⟩
  clear BG
  rintro e w2 ⟨b, m, cp, rfl, HB⟩
  gi_wp2_with fail
  refine ⟨trivial, (callsIn_wide.2 (show Calls _ _ _ _ _ from BW.out b m cp w2)).mono ?_⟩
  clear BW
  rintro e w3 ⟨rfl, hw3⟩
  have HW3 : Hid _ := hw3
  clear hw3
  gi_wp2_with fail
  obtain ⟨hmc, hbl, hlb, hbw, hch0, sp, cur, hrow, hsp⟩ := HB.out
  have hch : Chg (fun _ => False) (drB w c.q c.M c.F c.n kept) w2 := hch0
  clear hch0
  refine range_any rfl (fun _ _ => by kernel_rfl) (by omega) ?_
  intro fn rec hrec
  have HREC : Hid _ := hrec
  clear hrec
  have hw3 := HW3.out
  obtain ⟨D, hD⟩ : ∃ D, w3.heap.size = D := ⟨_, rfl⟩
  rw [hD]
  obtain ⟨W1, hW1⟩ : ∃ W1, (w3.alloc (.deferred (some []))).alloc (.loop (rec .ready)) = W1 := ⟨_, rfl⟩
  rw [hW1]
  obtain ⟨hs, hf, ho, hn, hX, hr, hi, hlt, hL⟩ := HH.out
  have hs3 : D = w2.heap.size + 1 := by rw [← hD, hw3]; simp
  have hs1 : W1.heap.size = D + 2 := by rw [← hW1, ← hD]; simp
  have hc2 : Chg (fun _ => False) w2 W1 := by rw [← hW1, hw3]; exact ((Chg.alloc _ _ _).al _).al _
  have hc0 : Chg (fun _ => False) w W1 := ((drB_chg w c.q c.M c.F c.n kept).trans hch (fun _ _ h => h)).trans hc2 (fun _ _ h => h)
  have hbx := drB_at w c.q c.M c.F c.n kept
  have hbs := drB_size w c.q c.M c.F c.n kept
  have hh2 : ∀ k o, (drB w c.q c.M c.F c.n kept).heap[k]? = some o → W1.heap[k]? = some o := fun k o hk => (hc2.block k (by have := lt_of_block hk; have := hch.size; omega) (fun h => h)).trans ((hch.block k (lt_of_block hk) (fun h => h)).trans hk)
  have hw1D : W1.heap[D]? = some (.deferred (some [])) := by rw [← hW1]; exact alloc_at (alloc_new' hD)
  have hw1l : W1.heap[D + 1]? = some (.loop (rec .ready)) := by rw [← hW1]; exact alloc_new' (by simp [hD])
  have hw1s : W1.heap[w2.heap.size]? = some (.cells #[.slice (some ⟨b, 0, none⟩) m cp] 109) := by rw [← hW1, hw3]; exact alloc_at (alloc_at (heap_alloc_new _ _))
  obtain ⟨Y, hY⟩ : ∃ Y, addX X w.heap.size W1.heap.size = Y := ⟨_, rfl⟩
  have hyn : ∀ k, w.heap.size ≤ k → k < D + 2 → Y k := fun k h1 h2 => hY ▸ .inr ⟨h1, by omega⟩
  have hyX : ∀ k, X k → Y k := fun k hk => hY ▸ .inl hk
  have hDS : DrS c Y i nb (D + 1) b (w.heap.size + 4) sp cur W1 := ⟨hrow.kept hc2 (fun h => h), fun j hj => ⟨(hsp j hj).1, (hsp j hj).2.kept hc2 (fun _ _ h => h)⟩, fun k h1 h2 => hyn k (by omega) (by omega), hyX _ hX, hyn _ (by omega) (by omega), hr, by omega, hlb, by omega⟩
  have hm3 := (begunK_last i).2.2
  rw [hbl] at hm3
  have hfl0 : Fl c (fun k => live i k ∨ k ∈ begunK i) V nd B T := ⟨hf.sh.iff (live_succ i), fun k hk => hf.own k ((live_succ i k).2 hk), fun k hk => hf.idx k ((live_succ i k).2 hk)⟩
  have hst : DrW c Y i V nd B T nb (D + 1) W1 m W1 := by
    refine ⟨⟨V, nd, ?_, ?_, hn.kept hc0 (fun h => h)⟩, fun _ _ _ _ => rfl⟩
    · rw [← hbl, List.drop_length, drp_nil, ← hY]; exact hs.add hc0
    · rw [← hbl]; exact Dr.start hfl0
  have hw0 := hs.tv.chg.size
  refine ((show CallsIn _ _ _ _ #[_, _] _ _ from back1_in 2 (D + 1) w2.heap.size b m cp sp hm3 hmc (fun k W => DrW c Y i V nd B T nb (D + 1) W1 (m - k) W ∧ W.heap[D + 1]? = some (.loop (rec .ready))) ?hJ ?hY W1 ⟨hst, hw1l⟩).mono ?_)
  case hJ =>
    rintro k W ⟨h1, h2⟩
    have e := (h1.sm w2.heap.size (hyn _ (by omega) (by omega)) (by omega) (by omega)).trans hw1s
    exact ⟨by rw [cell_of_row _ _ _ _ _ _ e]; rfl, cur, (h1.spot hDS).1, fun j hj => (hsp j (by omega)).1⟩
  case hY =>
    rintro k W ⟨h1, h2⟩ hk
    obtain ⟨t, ht⟩ : ∃ t, m - 1 - k = t := ⟨_, rfl⟩
    rw [ht]
    rw [show m - k = t + 1 by omega] at h1
    have htl : t < (begunK i).length := by omega
    obtain ⟨kk, hkk⟩ : ∃ kk, (begunK i).getD t 0 = kk := ⟨_, rfl⟩
    have hwr : W.heap[D + 1]? = some (.loop (rec .ready)) := h2
    obtain ⟨W2, hW2⟩ : ∃ W2, (W.alloc (spO (sp t).fi (sp t).wi (sp t).g (sp t).st)).putObj (D + 1) (.loop (rec .busy)) = W2 := ⟨_, rfl⟩
    obtain ⟨r1, r2, r3, r4, r5, R6⟩ := drop_round (kept := kept) h1 hDS ho htl hkk hi (fun a => hL kk (by rw [← hkk]; exact mem_getD htl) a) hW2
    have b0 : W2.heap[w.heap.size]? = _ := (r2 w.heap.size (hyn _ (by omega) (by omega)) (by omega) (by omega)).trans (hh2 _ _ hbx.1)
    have b1 : W2.heap[w.heap.size + 1]? = _ := (r2 (w.heap.size + 1) (hyn _ (by omega) (by omega)) (by omega) (by omega)).trans (hh2 _ _ hbx.2.1)
    have b3 : ∀ w3 : World, (∀ m, Y m → m ≠ nb → m ≠ D + 1 → w3.heap[m]? = W1.heap[m]?) → w3.heap[w.heap.size + 1 + 1]? = _ := fun w3 h => (h (w.heap.size + 1 + 1) (hyn _ (by omega) (by omega)) (by omega) (by omega)).trans (hh2 _ _ hbx.2.2.1)
    have HB3 : Hid _ := b3
    have hgo := (hsp t htl).2.cl.one.1
    have hst := r5
    have HKK : Hid (m - (k + 1) = t) := (by omega : m - (k + 1) = t)
    have hfw : ∀ a : Nat, fld a → wth a = -1 := fun a ha => by unfold wth; rw [if_pos ha]
    have HFW : Hid _ := hfw
    refine yield_any HREC.out h2 rfl ?_
    unfold spV
    unfold spO at hW2 r1
    obtain ⟨gn, cap, hgv, hcf, hcall⟩ := r4
    have HG : Hid _ := hcall
    generalize (sp t).st = st at *
    generalize (sp t).fi = fi at *
    generalize (sp t).wi = wt at *
    generalize (sp t).g = gg at *
    obtain rfl : gg = _ := hgv
    rw [← r3] at R6
    have HPUT : Hid (∀ w4 : World, w4.heap[D + 1]? = some (.loop (rec .busy)) ∧ DrW c Y i V nd B T nb (D + 1) W1 t w4 → DrW c Y i V nd B T nb (D + 1) W1 (m - (k + 1)) (w4.putObj (D + 1) (.loop (rec .ready))) ∧ (w4.putObj (D + 1) (.loop (rec .ready))).heap[D + 1]? = some (.loop (rec .ready))) := fun w4 h4 => by
      rw [HKK.out]
      exact ⟨h4.2.put hDS _, World.putObj_heap_same (lt_of_block h4.1)⟩
    have HWT : Hid (wt = wth kk) := r3
    clear hs3 hs1 hc2 hc0 hbs hh2 hw1D hw1l hw1s hyn hyX hm3 hfl0 hst hw0 hs hf ho hn hX hr hi hlt hL hrow hsp hch hlb hbw hbl hmc hW1 hw3 hD hY
    clear h1 h2 hDS HREC HB HW3 hbx ht hcall r3 b3 hfw
    have hg1 : ∀ (a : Addr) (m : Mode) (w : World), (store a st m).run Tryz.prog w = stored Tryz.prog w a st m := fun a m w => run_store Tryz.prog w a _ m r5
    gi_wp2_with fail
    refine ⟨alloc_at hwr, ?_⟩
    clear hW2
    have p0 : W2.cell? ⟨W.heap.size, 2, none⟩ = some (.func (.func gn) #[] cap) := by rw [cell_of_row _ _ _ _ _ _ r1]; rfl
    gi_wp2_with fail
    refine ⟨trivial, ((callsIn_wide.2 (show Calls _ _ _ _ _ from HG.out W2 (Chg.refl _ _))).inRound _).mono ?_⟩
    clear HG
    rintro e w4 ⟨rfl, hc4⟩
    have t0 : w4.cell? ⟨w.heap.size, 0, none⟩ = some (.pointer (some ⟨c.q, 0, none⟩)) := by rw [cell_of_row _ _ _ _ _ _ ((hc4.block _ (lt_of_block b0) (fun h => h)).trans b0)]; rfl
    have b4 := (hc4.block _ (lt_of_block b1) (fun h => h)).trans b1
    have u0 : w4.cell? ⟨w.heap.size + 1, 0, none⟩ = some (.int .i64 c.M) := by rw [cell_of_row _ _ _ _ _ _ b4]; rfl
    have u1 : w4.cell? ⟨w.heap.size + 1, 1, none⟩ = some (.int .i64 c.F) := by rw [cell_of_row _ _ _ _ _ _ b4]; rfl
    have u2 : w4.cell? ⟨w.heap.size + 1, 2, none⟩ = some (.int .i64 c.n) := by rw [cell_of_row _ _ _ _ _ _ b4]; rfl
    have GV : Hid _ := R6.out w4 hc4
    obtain ⟨x, hx⟩ : ∃ x, B kk = x := ⟨_, rfl⟩
    rw [hx] at GV ⊢
    unfold PV at GV
    clear R6 hc4 b0 b1 b4 p0 r1 r2 hcf hx hwr
    gi_wp2_with fail
    refine ⟨trivial, ((callsIn_wide.2 (show Calls _ _ _ _ _ from GV.out)).inRound _).mono ?_⟩
    clear GV
    rintro e w5 ⟨rfl, hb5, hsm5, H5⟩
    have v0 : w5.cell? ⟨w.heap.size + 1 + 1, 0, none⟩ = some (.int .i64 kept) := by rw [cell_of_row _ _ _ _ _ _ (HB3.out w5 hsm5)]; rfl
    have v1 : w5.cell? ⟨W.heap.size, 1, none⟩ = some (.int .i64 wt) := by rw [cell_of_row _ _ _ _ _ _ hb5]; rfl
    have v3 : w5.cell? ⟨W.heap.size, 3, none⟩ = some st := by rw [cell_of_row _ _ _ _ _ _ hb5]; rfl
    clear hb5 hsm5 HB3 t0 u0 u1 u2
    by_cases hge : (kept : Int) ≤ wt
    · have hnf : ¬ fld kk := fun h => by have := HFW.out kk h; have := HWT.out; omega
      have HN : Hid _ := H5.out.1 hnf
      clear H5 hnf
      gi_wp2_with fail
      exact ⟨HN.out.1, HPUT.out _ HN.out⟩
    · have hlt : wt < (kept : Int) := by omega
      rcases H5.out.2 hlt with ⟨sb, rfl, SC⟩ | ⟨sb, rfl, SC⟩
      · clear H5
        gi_wp2_with fail
        refine ⟨trivial, ((callsIn_wide.2 (show Calls _ _ _ _ _ from SC.out)).inRound _).mono ?_⟩
        clear SC
        rintro e w6 ⟨rfl, HN⟩
        gi_wp2_with fail
        exact ⟨HN.out.1, HPUT.out _ HN.out⟩
      · clear H5
        gi_wp2_with fail
        refine ⟨trivial, ((callsIn_wide.2 (show Calls _ _ _ _ _ from SC.out)).inRound _).mono ?_⟩
        clear SC
        rintro e w6 ⟨rfl, HN⟩
        gi_wp2_with fail
        exact ⟨HN.out.1, HPUT.out _ HN.out⟩
  · rintro e W ⟨⟨v, rfl⟩, h1, h2⟩
    refine ⟨⟨v, rfl⟩, h2, ?_⟩
    rw [Nat.sub_self] at h1
    obtain ⟨WE, hWE⟩ : ∃ WE, W.putObj (D + 1) (.loop (rec .exhausted)) = WE := ⟨_, rfl⟩
    obtain ⟨x1, x2, x3, x4⟩ := drop_end h1 hDS (D := D) (r := w.heap.size + 1 + 1 + 1) ⟨hyn _ (by omega) (by omega), by omega, by omega, by omega⟩ ⟨hyn _ (by omega) (by omega), by omega, by omega, by omega, by omega⟩ hw1D (hh2 _ _ hbx.2.2.2) hWE
    rw [hWE]
    have q1 : WE.cell? ⟨w.heap.size + 1 + 1 + 1, 0, none⟩ = some (.int .i64 0) := by rw [cell_of_row _ _ _ _ _ _ x1]; rfl
    have q2 : WE.frozen? ⟨w.heap.size + 1 + 1 + 1, 0, none⟩ = false := by simp [World.frozen?, x1]
    have HE : Hid _ := And.intro x2 (And.intro x3 x4)
    have HF : Hid (∀ m, X m → Y m ∧ m ≠ D ∧ m ≠ D + 1 ∧ m ≠ w.heap.size + 1 + 1 + 1 ∧ W1.heap[m]? = w.heap[m]?) := fun m hm => by
      have := hs.tv.xlt m hm
      exact ⟨hyX m hm, by omega, by omega, by omega, hc0.block m (hs.tv.xlt m hm) (fun h => h)⟩
    clear hs3 hs1 hc2 hc0 hbs hh2 hw1D hw1l hw1s hyn hyX hm3 hfl0 hst hw0 hs hf ho hn hX hr hi hlt hL hrow hsp hch hlb hbw hbl hmc hW1 hw3 hD hY x1 x2 x3 x4 h1 h2 hDS HREC HB HW3 hbx hWE
    gi_wp2_with fail
    refine ⟨by simp, .inl ⟨_, _, rfl, run_takeDeferred HE.out.1, ?_⟩⟩
    refine ⟨.int .i64 0, ?_, rfl, ?_⟩
    · have hc5 := HE.out.2.1
      simp [results, Tryz.f50, go_sem, hc5]
    · obtain ⟨V', nd', y1, y2, y3, y4⟩ := HE.out.2.2
      refine ⟨V', nd', y1.less (fun m hm => (HF.out m hm).1), y2, y3, fun m hm hne => ?_⟩
      obtain ⟨z1, z2, z3, z4, z5⟩ := HF.out m hm
      exact (y4 m z1 hne z3 z4 z2).trans z5
end
end Go.Proofs.YtnnaemlipahamaaGreat

namespace Go.Proofs.YtnnaemlipahamaaGreat
open Go.RowKit Go.Maps

/-- The blocks that Cut writes to may be written: those of numbers that stay, the last one of bytes that stays. -/
structure WrtC (c : Cx) (B : Nat → Nat) (kept size : Nat) : Prop where
  odd : ∀ k, live kept k → k % 2 = 1 → B k ∈ c.L
  last : size < 512 * kept → B (2 * (kept - 1)) ∈ c.L
section
variable {c : Cx} {X : Nat → Prop} {w w' wr : World} {V : Nat → List Int} {T : Nat → Bool} {nd : Nd} {B : Nat → Nat} {m kept pb nb rb d : Nat} {bs : List Int}
/-- Between two rounds of Cut. -/
structure CuS (c : Cx) (X : Nat → Prop) (V : Nat → List Int) (nd : Nd) (B : Nat → Nat) (T : Nat → Bool) (m kept : Nat) (w : World) (pb nb rb d : Nat) (wr : World) : Prop where
  st : ∃ V' nd', Fs c X wr V' (drp c.F B T (keysTo (kept + d) (m - (kept + d)))) ∧ Fl c (live (kept + d)) V' nd' B (drp c.F B T (keysTo (kept + d) (m - (kept + d)))) ∧ (nd'.kd = nd.kd ∧ nd'.lk = nd.lk ∧ nd'.sz = nd.sz) ∧
    (∀ x, c.F ≤ x → x < c.F + c.n → (∀ l, l % 2 = 1 → live m l → B l ≠ x) → V' x = V x) ∧ NdB 29 wr nb nd'
  pool : PAt wr pb c.M c.F c.n
  res : NdB 29 wr rb Nd.no
  sm : ∀ k, X k → k ≠ nb → wr.heap[k]? = w.heap[k]?
theorem CuS.more (h : CuS c X V nd B T m kept w pb nb rb d wr) (hc : Chg (fun _ => False) wr w') : CuS c X V nd B T m kept w pb nb rb d w' := by
  obtain ⟨V', nd', h1, h2, h3, h4, h5⟩ := h.st
  exact ⟨⟨V', nd', h1.more hc, h2, h3, h4, h5.kept hc (fun h => h)⟩, h.pool.kept hc (fun h => h), h.res.kept hc (fun h => h), fun k hk hne => (hc.block k (h1.tv.xlt k hk) (fun h => h)).trans (h.sm k hk hne)⟩
theorem keysTo_one (i j : Nat) : keysTo i (1 + j) = begunK i ++ keysTo (i + 1) j := by
  rw [keysTo_app]; rfl
theorem CuS.drop {size : Nat} (h : CuS c X V nd B T m kept w pb nb rb (d + 1) wr) (ho : c.Ok) (hd : kept + d < m) (hM : m ≤ 16520) (hW : WrtC c B kept size) (hX : X nb ∧ X pb ∧ X rb ∧ nb ≠ pb ∧ nb ≠ rb) (hr : c.w0.heap.size ≤ nb) :
    Calls Tryz.prog 50 #[.pointer (some ⟨c.q, 0, none⟩), PV c.M c.F c.n, .pointer (some ⟨nb, 0, none⟩), .int .i64 ((kept + d : Nat) : Int), .int .i64 (kept : Int)] wr fun e w' => e = .returned (.int .i64 0) ∧ CuS c X V nd B T m kept w pb nb rb d w' := by
  obtain ⟨V', nd', h1, h2, h3, h4, h5⟩ := h.st
  refine (drop_any (i := kept + d) h1 h2 ho h5 hX.1 hr (by omega) (fun k hk hf hw => ?_)).mono ?_
  · unfold wth at hw
    rw [if_neg hf] at hw
    exact hW.odd _ (live_fst.2 (by omega)) (par_odd hf)
  · rintro e w' ⟨rfl, V'', nd'', f1, g1, n1, s1⟩
    have hS : Sm (fun k => X k ∧ k ≠ nb) wr w' := fun k hk => s1 k hk.1 hk.2
    have eT : drp c.F B (drp c.F B T (keysTo (kept + (d + 1)) (m - (kept + (d + 1))))) (begunK (kept + d)) = drp c.F B T (keysTo (kept + d) (m - (kept + d))) := by
      rw [drp_app, drp_comm, show m - (kept + d) = 1 + (m - (kept + (d + 1))) by omega, keysTo_one]
      rfl
    rw [eT] at f1
    have gf := g1.fl
    rw [List.drop_zero, eT] at gf
    have hlv : ∀ k, (live (kept + d) k ∨ k ∈ (begunK (kept + d)).take 0) ↔ live (kept + d) k := fun k => by simp
    refine ⟨rfl, ⟨V'', nd'', f1, ⟨gf.sh.iff hlv, fun k hk => gf.own k ((hlv k).2 hk), fun k hk => gf.idx k ((hlv k).2 hk)⟩, ⟨g1.same.1.trans h3.1, g1.same.2.1.trans h3.2.1, g1.same.2.2.trans h3.2.2⟩, fun x x1 x2 x3 => ?_, n1⟩, h.pool.sm hS ⟨hX.2.1, Ne.symm hX.2.2.2.1⟩, (hS rb ⟨hX.2.2.1, Ne.symm hX.2.2.2.2⟩).trans h.res, fun k hk hne => (s1 k hk hne).trans (h.sm k hk hne)⟩
    rw [g1.fr x x1 x2 (fun l l1 l2 => x3 l l1 ?_), h4 x x1 x2 x3]
    exact live_mono ((live_succ _ _).2 l2) (by omega)
/-- What Cut leaves. -/
def CutTo (c : Cx) (X : Nat → Prop) (V : Nat → List Int) (nd : Nd) (B : Nat → Nat) (T : Nat → Bool) (bs : List Int) (size : Nat) (w : World) (nd' : Nd) (w' : World) : Prop :=
  ∃ V' T', T' = drp c.F B T (keysTo (blkC size) (blkC bs.length - blkC size)) ∧ Fs c X w' V' T' ∧ File c V' nd' B T' (bs.take size) ∧ (nd'.kd = nd.kd ∧ nd'.lk = nd.lk) ∧
    (∀ x, c.F ≤ x → x < c.F + c.n → (∀ k, live (blkC bs.length) k → B k ≠ x) → V' x = V x) ∧ Sm X w w'
theorem pad_cut {size : Nat} (h : size ≤ bs.length) : splice ((pad bs).take (512 * blkC size)) size (zeros (512 * blkC size - size)) = pad (bs.take size) := by
  have hs : size ≤ 512 * blkC size := by unfold blkC; omega
  have hp := pad_len bs
  have hb : 512 * blkC size ≤ 512 * blkC bs.length := by unfold blkC; omega
  have ht : (bs.take size).length = size := by rw [List.length_take]; omega
  unfold splice
  rw [List.drop_eq_nil_of_le (by rw [List.length_take, zeros_len]; omega), List.append_nil, List.take_take, Nat.min_eq_left hs]
  unfold pad
  rw [ht, List.take_append_of_le_length h]
theorem pad_all {size : Nat} (h : size = bs.length) : (pad bs).take (512 * blkC size) = pad (bs.take size) := by
  have hp := pad_len bs
  subst h
  rw [List.take_of_length_le (by omega), List.take_length]
/-- Behind the rounds: the bytes are those that stay, and more up to the block's end. -/
theorem CuS.at0 {size : Nat} (h : CuS c X V nd B T (blkC bs.length) (blkC size) w pb nb rb 0 wr) (hF : File c V nd B T bs) (hsz : size ≤ bs.length) :
    ∃ V' nd' T', T' = drp c.F B T (keysTo (blkC size) (blkC bs.length - blkC size)) ∧ Fs c X wr V' T' ∧ Fl c (live (blkC size)) V' nd' B T' ∧ Ct (blkC size) V' B ((pad bs).take (512 * blkC size)) ∧ (nd'.kd = nd.kd ∧ nd'.lk = nd.lk ∧ nd'.sz = nd.sz) ∧
      (∀ x, c.F ≤ x → x < c.F + c.n → (∀ k, live (blkC bs.length) k → B k ≠ x) → V' x = V x) ∧ NdB 29 wr nb nd' := by
  obtain ⟨V', nd', h1, h2, h3, h4, h5⟩ := h.st
  rw [Nat.add_zero] at h1 h2
  have hk : blkC size ≤ blkC bs.length := by unfold blkC; omega
  refine ⟨V', nd', _, rfl, h1, h2, ⟨?_, fun i hi => ?_⟩, h3, fun x x1 x2 x3 => h4 x x1 x2 (fun l _ l2 => x3 l l2), h5⟩
  · rw [List.length_take, pad_len]; omega
  · have hl : live (blkC bs.length) (2 * i) := by unfold live; omega
    have ho := hF.fl.own _ hl
    rw [blkOf_take hi, ← hF.ct.blk i (by omega)]
    exact h4 _ ho.1 ho.2.1 (fun l l1 l2 e => by have := hF.fl.sh.inj _ _ l2 hl e; omega)
/-- The size is set, the result laid. -/
theorem CutTo.mk {X0 : Nat → Prop} {size : Nat} {V' : Nat → List Int} {nd4 : Nd} {T' : Nat → Bool} {w6 wA w0 : World} (hT : T' = drp c.F B T (keysTo (blkC size) (blkC bs.length - blkC size))) (hs : Fs c X w6 V' T') (hf : Fl c (live (blkC size)) V' nd4 B T') (hct : Ct (blkC size) V' B (pad (bs.take size))) (hF : File c V nd B T bs) (hsz : size ≤ bs.length) (hsame : nd4.kd = nd.kd ∧ nd4.lk = nd.lk ∧ nd4.sz = nd.sz)
    (hfr : ∀ x, c.F ≤ x → x < c.F + c.n → (∀ k, live (blkC bs.length) k → B k ≠ x) → V' x = V x) (hX : X nb ∧ X rb) (hr : c.w0.heap.size ≤ nb ∧ c.w0.heap.size ≤ rb) (hX0 : ∀ k, X0 k → X k ∧ k ≠ nb ∧ k ≠ rb) (hw : ∀ k, X k → k ≠ nb → w6.heap[k]? = w0.heap[k]?) (hw0 : ∀ k, X0 k → wA.heap[k]? = w0.heap[k]?) {w8 : World} (hc : Chg (fun k => k = rb) (w6.setCell ⟨nb, 2, none⟩ (.int .i64 (size : Int))) w8) :
    CutTo c X0 V nd B T bs size wA (nd4.set 2 (size : Int)) w8 := by
  have hc7 : Chg (fun k => k = nb) w6 (w6.setCell ⟨nb, 2, none⟩ (.int .i64 (size : Int))) := Chg.setCell (S := fun k => k = nb) _ _ _ rfl
  have f7 := hs.put hX.1 hr.1 hc7
  have f8 := f7.put hX.2 hr.2 hc
  have hlen : (bs.take size).length = size := by rw [List.length_take]; omega
  refine ⟨V', T', hT, f8.less (fun k hk => (hX0 k hk).1), ⟨?_, ?_, ?_, ?_, fun y hy => hF.by' y (List.mem_of_mem_take hy)⟩, ⟨hsame.1, hsame.2.1⟩, hfr, fun k hk => ?_⟩
  · rw [hlen]; exact ⟨hf.sh.sz _, hf.own, hf.idx⟩
  · rw [hlen]; exact hct
  · rw [hlen]; rfl
  · rw [hlen]; have := hF.lim; omega
  · obtain ⟨k1, k2, k3⟩ := hX0 k hk
    exact (hc.block k (f7.tv.xlt k k1) k3).trans ((hc7.block k (hs.tv.xlt k k1) k2).trans ((hw k k1 k2).trans (hw0 k hk).symm))
theorem CuS.lay {X0 : Nat → Prop} {size : Nat} {wA : World} (h : CuS c X V nd B T (blkC bs.length) (blkC size) w pb nb rb 0 wr) (ho : c.Ok) (hF : File c V nd B T bs) (hsz : size ≤ bs.length) (hW : WrtC c B (blkC size) size) (hX : X nb ∧ X pb ∧ X rb ∧ nb ≠ pb ∧ nb ≠ rb) (hr : c.w0.heap.size ≤ nb ∧ c.w0.heap.size ≤ rb) (hX0 : ∀ k, X0 k → X k ∧ k ≠ nb ∧ k ≠ rb) (hw0 : ∀ k, X0 k → wA.heap[k]? = w.heap[k]?) :
    ∃ nd4, NdB 29 wr nb nd4 ∧ nd4.sz = nd.sz ∧ Hid (∀ u wb, Chg (fun _ => False) wr wb → Bs wb u (zeros (512 * blkC size - size)) → (∀ g, u.ownBlock = some g → wr.heap.size ≤ g ∧ g < wb.heap.size) → Calls Tryz.prog 45 #[tI c.q, nd4.v, .int .i64 (size : Int), u] wb fun e w6 => e = .returned (.int .i64 0) ∧ NdB 29 w6 nb nd4 ∧ NdB 29 w6 rb Nd.no ∧
      Hid (∀ w8, Chg (fun k => k = rb) (w6.setCell ⟨nb, 2, none⟩ (.int .i64 (size : Int))) w8 → CutTo c X0 V nd B T bs size wA (nd4.set 2 (size : Int)) w8)) := by
  obtain ⟨V', nd', T', hT, h1, h2, h3, h4, h5, h6⟩ := h.at0 hF hsz
  refine ⟨nd', h6, h4.2.2, fun u wb hc hb hub => ?_⟩
  have hsb : size ≤ 512 * blkC size := by unfold blkC; omega
  have hM : blkC size ≤ 16520 := by have := hF.lim; unfold blkC; omega
  have h1a := h1.add hc
  obtain ⟨Z, hZ⟩ : ∃ Z, addX X wr.heap.size wb.heap.size = Z := ⟨_, rfl⟩
  rw [hZ] at h1a
  have hzX : ∀ k, X k → Z k := fun k hk => hZ ▸ .inl hk
  refine (lay_any size u _ h1a h2 ho h3 hb (fun g hg _ => hZ ▸ .inr (hub g hg)) (by rw [zeros_len]; omega) hM (isBy_zeros _) (fun i i1 i2 => ?_)).mono ?_
  · rw [zeros_len] at i2
    have : i = blkC size - 1 := by unfold blkC at *; omega
    rw [this]
    exact hW.last (by unfold blkC at *; omega)
  · rintro e w6 ⟨rfl, V'', f6, l6, c6, fr6, s6⟩
    have hs6 : ∀ k, X k → w6.heap[k]? = wr.heap[k]? := fun k hk => (s6 k (hzX k hk)).trans (hc.block k (h1.tv.xlt k hk) (fun h => h))
    refine ⟨rfl, (hs6 nb hX.1).trans h6, (hs6 rb hX.2.2.1).trans h.res, fun w8 hc8 => ?_⟩
    rw [pad_cut hsz] at c6
    refine CutTo.mk hT (f6.less hzX) l6 c6 hF hsz h4 (fun x x1 x2 x3 => ?_) ⟨hX.1, hX.2.2.1⟩ hr hX0 (fun k hk hne => (hs6 k hk).trans (h.sm k hk hne)) hw0 hc8
    rw [fr6 x (fun i hi => x3 _ ?_), h5 x x1 x2 x3]
    have : blkC size ≤ blkC bs.length := by unfold blkC; omega
    unfold live; omega
theorem CuS.same {X0 : Nat → Prop} {size : Nat} {wA : World} (h : CuS c X V nd B T (blkC bs.length) (blkC size) w pb nb rb 0 wr) (hF : File c V nd B T bs) (hsz : size = bs.length) (hX : X nb ∧ X pb ∧ X rb ∧ nb ≠ pb ∧ nb ≠ rb) (hr : c.w0.heap.size ≤ nb ∧ c.w0.heap.size ≤ rb) (hX0 : ∀ k, X0 k → X k ∧ k ≠ nb ∧ k ≠ rb) (hw0 : ∀ k, X0 k → wA.heap[k]? = w.heap[k]?) :
    ∃ nd4, NdB 29 wr nb nd4 ∧ nd4.sz = nd.sz ∧ Hid (∀ w8, Chg (fun k => k = rb) (wr.setCell ⟨nb, 2, none⟩ (.int .i64 (size : Int))) w8 → CutTo c X0 V nd B T bs size wA (nd4.set 2 (size : Int)) w8) := by
  obtain ⟨V', nd', T', hT, h1, h2, h3, h4, h5, h6⟩ := h.at0 hF (by omega)
  refine ⟨nd', h6, h4.2.2, fun w8 hc8 => ?_⟩
  rw [pad_all hsz] at h3
  exact CutTo.mk hT h1 h2 h3 hF (by omega) h4 h5 ⟨hX.1, hX.2.2.1⟩ hr hX0 h.sm hw0 hc8
/-- Bytes 0, as they are made. -/
theorem makeNb (z : Nat) (hz : z ≤ 16777216) : ∃ o : Obj, (∀ w : World, (Instr.makeSlice 33 (.int .i64 (z : Int)) (.int .i64 (z : Int))).run Tryz.prog w = .ok (.slice (some ⟨w.heap.size, 0, none⟩) z z) (w.alloc o)) ∧ ∀ w : World, Bs (w.alloc o) (.slice (some ⟨w.heap.size, 0, none⟩) z z) (zeros z) := by
  obtain ⟨i0, hi, hz0, hz1, hz2⟩ := info5_parts
  refine ⟨.cells (madeCells (Value.int .u8 0).cells (z * 1)) 5, fun w => ?_, fun w => ?_⟩
  · have := run_make (P := Tryz.prog) w 33 5 i0 (.int .u8 0) Tryz.underlying33 hi hz0 .i64 .i64 (z : Int) (z : Int) (by omega) (by omega) (by rw [hz2]; omega) (by omega)
    rw [hz1] at this
    exact this
  · refine .inr ⟨_, z, by rw [zeros_len], by rw [zeros_len]; exact Nat.le_refl _, by unfold maxLen; omega, fun j hj => ?_⟩
    rw [show (⟨w.heap.size, 0, none⟩ : Addr).add j = ⟨w.heap.size, j, none⟩ by simp [Addr.add_lit], cell_of_row _ _ _ _ _ _ (heap_alloc_new w _), ← Array.getElem?_toList, made_bytes]
    exact bcells_nth hj
end
end Go.Proofs.YtnnaemlipahamaaGreat

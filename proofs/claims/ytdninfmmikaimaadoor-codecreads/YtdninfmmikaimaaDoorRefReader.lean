/-
  Contracts of the reference's reader (package mailbagref1): Number, Fixed, Bytes and End answer as the state of codec's says.
-/
import Derived.Test.YtdninfmmikaimaaDoorPuts
import Derived.BigQuiet
import Derived.Deep.QuietTactic
import Derived.Deep.RegionHeld3
import Derived.Deep.DrawnRows
namespace Go.Proofs.YtdninfmmikaimaaDoor
open Go.RowKit
attribute [local go_sem ↓] Go.wp_at_zero Go.wp_at_succ

/-- The reference's reader in block q: its bytes bs behind bv, its place, its fault. -/
structure RR (N : Nat) (w : World) (q : Nat) (bv : Value) (bs : List Int) (at' : Nat) (e : Int) : Prop where
  le : N ≤ q
  blk : w.heap[q]? = some (.cells #[bv, .int .i64 at', .int .i64 e] 43 (0, 0))
  rd : Bs w bv bs
  ne : ∀ a n c, bv = .slice (some a) n c → 0 < n → a.block ≠ q
  pl : at' ≤ bs.length

/-- What the reference holds is the state s. -/
def Sim (s : RS) (bs : List Int) (at' : Nat) (e : Int) : Prop := s.f = e ∧ (e = 0 → s.xs = bs.drop at') ∧ (e ≠ 0 → s.xs = [])

theorem RR.lt {N q at' : Nat} {w : World} {bv : Value} {bs : List Int} {e : Int} (h : RR N w q bv bs at' e) : q < w.heap.size := (Array.getElem?_eq_some_iff.1 h.blk).1
theorem RR.cells {N q at' : Nat} {w : World} {bv : Value} {bs : List Int} {e : Int} (h : RR N w q bv bs at' e) : w.cell? ⟨q, 0, none⟩ = some bv ∧ w.cell? ⟨q, 1, none⟩ = some (.int .i64 at') ∧ w.cell? ⟨q, 2, none⟩ = some (.int .i64 e) ∧ ∀ j, w.frozen? ⟨q, j, none⟩ = false := by
  refine ⟨?_, ?_, ?_, fun j => by simp [World.frozen?, h.blk]⟩ <;> rw [cell_of_row w q _ _ _ _ h.blk] <;> rfl
theorem RR.kept {S : Nat → Prop} {N q at' : Nat} {w w' : World} {bv : Value} {bs : List Int} {e : Int} (h : RR N w q bv bs at' e) (hc : Chg S w w') (hq : ¬ S q) (hv : ∀ a n c, bv = .slice (some a) n c → 0 < n → ¬ S a.block) : RR N w' q bv bs at' e :=
  ⟨h.le, (hc.block q h.lt hq).trans h.blk, h.rd.kept hc hv, h.ne, h.pl⟩
/-- The fault is written. -/
theorem RR.err {N q at' : Nat} {w : World} {bv : Value} {bs : List Int} {e : Int} (h : RR N w q bv bs at' e) (e' : Int) : RR N (w.setCell ⟨q, 2, none⟩ (.int .i64 e')) q bv bs at' e' ∧ Chg (fun k => k = q) w (w.setCell ⟨q, 2, none⟩ (.int .i64 e')) := by
  have hc : Chg (fun k => k = q) w (w.setCell ⟨q, 2, none⟩ (.int .i64 e')) := Chg.setCell (S := fun k => k = q) w ⟨q, 2, none⟩ _ rfl
  refine ⟨⟨h.le, ?_, h.rd.kept hc h.ne, h.ne, h.pl⟩, hc⟩
  have g := heap_setCell_same w q 2 _ 43 (.int .i64 e') h.blk
  simpa using g
/-- The place is written. -/
theorem RR.place {N q at' : Nat} {w : World} {bv : Value} {bs : List Int} {e : Int} (h : RR N w q bv bs at' e) (n : Nat) (hn : n ≤ bs.length) (z : Int) (hz : z = (n : Int)) : RR N (w.setCell ⟨q, 1, none⟩ (.int .i64 z)) q bv bs n e ∧ Chg (fun k => k = q) w (w.setCell ⟨q, 1, none⟩ (.int .i64 z)) := by
  subst hz
  have hc : Chg (fun k => k = q) w (w.setCell ⟨q, 1, none⟩ (.int .i64 (n : Int))) := Chg.setCell (S := fun k => k = q) w ⟨q, 1, none⟩ _ rfl
  refine ⟨⟨h.le, ?_, h.rd.kept hc h.ne, h.ne, hn⟩, hc⟩
  have g := heap_setCell_same w q 1 _ 43 (.int .i64 (n : Int)) h.blk
  simpa using g

theorem RR.drewN {N q at' : Nat} {w : World} {bv : Value} {bs : List Int} {e : Int} (h : RR N w q bv bs at' e) (n : Nat) : RR N (w.drewN n) q bv bs at' e := ⟨h.le, h.blk, h.rd, h.ne, h.pl⟩
theorem Chg.drews {S : Nat → Prop} {w w' : World} {n : Nat} (h : Chg S (w.drewN n) w') : Chg S w w' := ⟨h.os, h.tape, h.output, h.size, h.block⟩

set_option maxHeartbeats 800000 in
theorem refEnd_any (N q at' : Nat) (bv : Value) (bs : List Int) (e : Int) (s : RS) (w : World) (h : RR N w q bv bs at' e) (hs : Sim s bs at' e) (_hl : bs.length ≤ 1099511627776) :
    Calls Tryd.prog 31 #[.pointer (some ⟨q, 0, none⟩)] w fun r w' => r = .returned (.int .i64 (endV s)) ∧ RR N w' q bv bs at' (endV s) ∧ Chg (fun k => k = q) w w' := by
  obtain ⟨c0, c1, c2, cf⟩ := h.cells
  have f2 := cf 2
  obtain ⟨ab, cb, rfl, _⟩ := h.rd.form
  obtain ⟨xs, f⟩ := s
  obtain ⟨rfl, hz, hnz⟩ := hs
  simp only at hz hnz c2
  by_cases hf : f = 0
  · subst hf
    obtain rfl := hz rfl
    by_cases hx : at' < bs.length
    · have e : endV ⟨bs.drop at', 0⟩ = 3 := by simp [endV]; omega
      rw [e]
      have k1 : decide ((at' : Int) < (bs.length : Int)) = true := by simp; omega
      have hxi : (at' : Int) < (bs.length : Int) := by omega
      have R := fun nq => (h.drewN nq).err 3
      clear hz hnz h cf
      go_enter Tryd.func31, Tryd.ntmps31
      go_wp2_with fail
      go_quiet (fail)
      go_wp2
      go_ret
      exact ⟨rfl, (R _).1, (R _).2.drews⟩
    · have e : endV ⟨bs.drop at', 0⟩ = 0 := by simp [endV]; omega
      rw [e]
      have k1 : decide ((at' : Int) < (bs.length : Int)) = false := by simp; omega
      have hxi : ¬ ((at' : Int) < (bs.length : Int)) := by omega
      have R := fun nq => h.drewN nq
      clear hz hnz h cf
      go_enter Tryd.func31, Tryd.ntmps31
      go_wp2_with fail
      go_quiet (fail)
      go_wp2
      go_ret
      exact ⟨rfl, R _, Chg.drewN _ _ _⟩
  · have e : endV ⟨xs, f⟩ = f := by simp [endV, hf]
    have hb : (f == 0) = false := by simpa using hf
    rw [e]
    have R := fun nq => h.drewN nq
    clear hz hnz h cf
    go_enter Tryd.func31, Tryd.ntmps31
    go_wp2_with fail
    go_quiet (fail)
    go_wp2
    go_ret
    exact ⟨rfl, R _, Chg.drewN _ _ _⟩

/-- What a ref's call leaves: the reader holds the state s'; block q alone has changed. -/
def RTo (N q : Nat) (bv : Value) (bs : List Int) (w w' : World) (s' : RS) : Prop := ∃ at' e, RR N w' q bv bs at' e ∧ Sim s' bs at' e ∧ Chg (fun k => k = q) w w'

theorem valB_step (T : List Int) (i : Nat) (hi : i < T.length) : valB (T.drop i) = T.getD i 0 + 256 * valB (T.drop (i + 1)) := by
  rw [List.drop_eq_getElem_cons hi]
  simp [valB, List.getD, hi]
theorem or_low (m x : Int) (hm0 : 0 ≤ m) (hm1 : m < 16777216) (hx0 : 0 ≤ x) (hx1 : x < 256) : bits .or .i64 (wrap64 (m * 256)) x = x + 256 * m := by
  have e : wrap64 (m * 256) = m * 256 := by unfold wrap64; omega
  rw [e]
  obtain ⟨M, rfl⟩ := Int.eq_ofNat_of_zero_le hm0
  obtain ⟨X, rfl⟩ := Int.eq_ofNat_of_zero_le hx0
  have e2 : (M : Int) * 256 = ((M * 256 : Nat) : Int) := by omega
  rw [e2, i64_or_nat (M * 256) X (by omega) (by omega), nat_join 8 (M * 256) X (by omega) (by omega)]
  omega
theorem num_step (bs : List Int) (at' k i : Nat) (m : Int) (hk : k ≤ 4) (hi : i < k) (hl : at' + k ≤ bs.length) (hB : IsB bs) (hm : m = valB (((bs.drop at').take k).drop (i + 1))) :
    bits .or .i64 (wrap64 (m * 256)) (bs.getD (at' + i) 0) = valB (((bs.drop at').take k).drop i) := by
  have hT : IsB ((bs.drop at').take k) := (hB.drop at').take k
  have hTl : ((bs.drop at').take k).length = k := by simp; omega
  have hb := valB_bd (((bs.drop at').take k).drop (i + 1)) (hT.drop (i + 1))
  rw [← hm] at hb
  have hx := hB.at (show at' + i < bs.length by omega)
  have hlen : (((bs.drop at').take k).drop (i + 1)).length ≤ 3 := by simp; omega
  have hp : (256 : Int) ^ (((bs.drop at').take k).drop (i + 1)).length ≤ 256 ^ 3 := by
    have h1 : (256 : Nat) ^ (((bs.drop at').take k).drop (i + 1)).length ≤ 256 ^ 3 := Nat.pow_le_pow_right (by omega) hlen
    have h2 := Int.ofNat_le.2 h1
    rw [Int.natCast_pow, Int.natCast_pow] at h2
    exact h2
  have hp3 : (256 : Int) ^ 3 = 16777216 := by decide
  rw [hp3] at hp
  rw [or_low m _ hb.1 (by omega) hx.1 hx.2, valB_step _ i (by omega), ← hm]
  have e : ((bs.drop at').take k).getD i 0 = bs.getD (at' + i) 0 := by
    simp only [List.getD, List.getElem?_take, hi, if_true, List.getElem?_drop]
  rw [e]

set_option maxHeartbeats 1600000 in
set_option maxRecDepth 100000 in
theorem refNumber (N q at' : Nat) (bv : Value) (bs : List Int) (e : Int) (s : RS) (k : Nat) (w : World) (h : RR N w q bv bs at' e) (hs : Sim s bs at' e) (hl : bs.length ≤ 1099511627776) (hB : IsB bs) (hk : k ≤ 4) :
    Calls Tryd.prog 23 #[.pointer (some ⟨q, 0, none⟩), .int .i64 k] w fun r w' => r = .returned (.int .i64 (valB (tkV s k))) ∧ RTo N q bv bs w w' (tkS s k) := by
  obtain ⟨c0, c1, c2, cf⟩ := h.cells
  have f2 := cf 2
  have f1 := cf 1
  obtain ⟨ab, cb, rfl, _⟩ := h.rd.form
  obtain ⟨xs, f⟩ := s
  obtain ⟨rfl, hz, hnz⟩ := hs
  simp only at hz hnz c2
  by_cases hf : f = 0
  · subst hf
    obtain rfl := hz rfl
    have hpl := h.pl
    by_cases hx : bs.length - at' < k
    · have e1 : tkV ⟨bs.drop at', 0⟩ k = [] := by simp [tkV]; omega
      have e2 : tkS ⟨bs.drop at', 0⟩ k = ⟨[], 2⟩ := by simp [tkS]; omega
      rw [e1, e2]
      have k1 : decide ((bs.length : Int) - (at' : Int) < (k : Int)) = true := by simp; omega
      have hxi : (bs.length : Int) - (at' : Int) < (k : Int) := by omega
      have R := fun nq => (h.drewN nq).err 2
      clear hz hnz h cf e1 e2
      go_enter Tryd.func23, Tryd.ntmps23
      go_wp2_with fail
      go_quiet (fail)
      go_wp2
      go_ret
      exact ⟨rfl, _, _, (R _).1, ⟨rfl, fun h => by simp at h, fun _ => rfl⟩, (R _).2.drews⟩
    · have e1 : tkV ⟨bs.drop at', 0⟩ k = (bs.drop at').take k := by simp [tkV]; omega
      have e2 : tkS ⟨bs.drop at', 0⟩ k = ⟨bs.drop (at' + k), 0⟩ := by simp [tkS]; omega
      rw [e1, e2]
      have k1 : decide ((bs.length : Int) - (at' : Int) < (k : Int)) = false := by simp; omega
      have hxi : ¬ ((bs.length : Int) - (at' : Int) < (k : Int)) := by omega
      have hrd := h.rd
      clear hz hnz cf e1 e2
      go_enter Tryd.func23, Tryd.ntmps23
      go_wp2_with fail
      go_quiet (fail)
      go_wp2_with fail
      go_loopw [5, 6] (fun n i wr => ∃ (j nq : Nat) (m : Int), j ≤ k ∧ wr = w.drewN nq ∧ i = .int .i64 ((j : Int) - 1) ∧ n = .int .i64 m ∧ Hid (m = valB (((bs.drop at').take k).drop j))) (fun _ i _ => (intOf i + 1).toNat)
      case atStart => exact ⟨k, _, 0, Nat.le_refl _, rfl, rfl, rfl, by simp [Hid, valB]⟩
      case round =>
        obtain ⟨j, nr, m, hj, rfl, rfl, rfl, HM⟩ := hrel
        by_cases hj0 : j = 0
        · subst hj0
          have R := (h.drewN nr).place (at' + k) (by omega) ((at' : Int) + (k : Int)) (by omega)
          have HM' : Hid (m = valB ((bs.drop at').take k)) := HM
          clear hrd h HM
          go_wp2
          go_ret
          rw [← HM'.out]
          exact ⟨rfl, _, _, R.1, ⟨rfl, fun _ => rfl, fun h => absurd rfl h⟩, R.2.drews⟩
        · obtain ⟨i, rfl⟩ : ∃ i, j = i + 1 := ⟨j - 1, by omega⟩
          have hi : at' + i < bs.length := by omega
          obtain ⟨b, off, rfl, hcs⟩ := hrd.at hi
          have hc := hcs (at' + i) hi
          have hxb := hB.at hi
          have ei : ((i + 1 : Nat) : Int) - 1 = (i : Int) := by omega
          rw [ei]
          have HS : Hid (bits .or .i64 (wrap64 (m * 256)) (bs.getD (at' + i) 0) = valB (((bs.drop at').take k).drop i)) := num_step bs at' k i m hk (by omega) (by omega) hB HM.out
          clear hcs hrd h HM ei
          generalize bs.getD (at' + i) 0 = x at *
          obtain ⟨hx0, hx1⟩ := hxb
          have g1 : (0 : Int) ≤ (at' : Int) + (i : Int) := by omega
          have g2 : (at' : Int) + (i : Int) < (bs.length : Int) := by omega
          have g3 : ((at' : Int) + (i : Int)).toNat = at' + i := by omega
          have g4 : IntKind.i64.wrap ((at' : Int) + (i : Int)) = (at' : Int) + (i : Int) := by rw [IntKind.wrap_i64]; omega
          go_wp2_with fail
          go_quiet (fail)
          go_wp2
          go_roundw
          case rel => exact ⟨i, _, _, by omega, rfl, rfl, rfl, HS⟩
          case measure => simp [intOf]
  · have e1 : tkV ⟨xs, f⟩ k = [] := by simp [tkV, hf]
    have e2 : tkS ⟨xs, f⟩ k = ⟨xs, f⟩ := by simp [tkS, hf]
    rw [e1, e2]
    have hb : (f == 0) = false := by simpa using hf
    have R := h
    have H := hnz hf
    clear hz hnz h cf e1 e2
    go_enter Tryd.func23, Tryd.ntmps23
    go_wp2
    go_ret
    obtain rfl := H
    exact ⟨rfl, _, _, R, ⟨rfl, fun h => absurd h hf, fun _ => rfl⟩, Chg.refl _ _⟩

/-- Where a slice begins that is cut out from l on. -/
def cutA (a : Option Addr) (c l : Nat) : Option Addr := if c = l then a else a.map (fun x => x.add l)
theorem slice_lh (ab : Option Addr) (cb len at' n : Nat) (h : at' + n ≤ cb) (W : World) :
    (Instr.slice 28 (.slice ab len cb) (some (.int .i64 (at' : Int))) (some (.int .i64 ((at' : Int) + (n : Int)))) none).run Tryd.prog W = .ok (.slice (cutA ab cb at') n (cb - at')) W := by
  have ht : Tryd.prog.underlying 28 = some (.slice (Tryd.prog.elem 28)) := by kernel_rfl
  have hs : (sizeOf (Tryd.prog.elem 28)).run Tryd.prog W = .ok 1 W := by kernel_rfl
  rw [run_slice_lh (P := Tryd.prog) W 28 ab len cb ht .i64 .i64 _ _ (by omega) (by omega) (by omega), hs]
  have e1 : ((at' : Int) + (n : Int)).toNat = at' + n := by omega
  simp [Result.andThen, sliced, e1, cutA]
/-- The bytes from at' on, n of them. -/
theorem Bs.mid {w : World} {ab : Option Addr} {cb at' n : Nat} {bs : List Int} (h : Bs w (.slice ab bs.length cb) bs) (hn : at' + n ≤ bs.length) : Bs w (.slice (cutA ab cb at') n (cb - at')) ((bs.drop at').take n) := by
  have hl : (bs.drop at').length = bs.length - at' := by simp
  unfold cutA
  by_cases hc : cb = at'
  · rw [if_pos hc]
    rcases h with ⟨e, rfl⟩ | ⟨a, c, e, h1, h2, h3⟩
    · cases e
      obtain rfl : n = 0 := by simp at hn; omega
      exact .inl ⟨by simp, by simp⟩
    · cases e
      obtain rfl : n = 0 := by omega
      exact .inr ⟨a, cb - at', by simp, by simp, by omega, fun j hj => by simp at hj⟩
  · rw [if_neg hc]
    have h1 := Bs.rest h (show at' ≤ bs.length by omega) hc
    rw [← hl] at h1
    exact Bs.low h1 (by omega)

theorem RR.behind {N q at' : Nat} {w1 w2 : World} {bv : Value} {bs : List Int} {e : Int} {o : Obj} (h : RR N w1 q bv bs at' e) (hg : (w1.alloc o).drew.grownBy w2 (some w1.heap.size)) : RR N w2 q bv bs at' e ∧ Chg (fun _ => False) w1 w2 := by
  have hc : Chg (fun _ => False) w1 w2 := ⟨hg.os, hg.tape, hg.output, Nat.le_trans (by simp) hg.size, fun k hk _ => (hg.block k (by simp; omega) (by intro e; cases e; omega)).trans (Below.heap_alloc w1 o k hk)⟩
  exact ⟨h.kept hc (fun h => h) (fun _ _ _ _ _ h => h), hc⟩

set_option maxHeartbeats 1600000 in
set_option maxRecDepth 100000 in
theorem refFixed_ok (N q at' n : Nat) (bv : Value) (bs : List Int) (w : World) (h : RR N w q bv bs at' 0) (hn : at' + n ≤ bs.length) (hl : bs.length ≤ 1099511627776) :
    Calls Tryd.prog 27 #[.pointer (some ⟨q, 0, none⟩), .int .i64 n] w fun r w' => ∃ u, r = .returned u ∧ RR N w' q bv bs (at' + n) 0 ∧ Chg (fun k => k = q) w w' ∧ w'.ownsRow N 5 1 u n (bcells ((bs.drop at').take n)) ∧ ∀ k, u.ownBlock = some k → w.heap.size ≤ k := by
  obtain ⟨i0, hi, hz0, hz1, hz2⟩ := info_parts info5
  obtain ⟨c0, c1, c2, cf⟩ := h.cells
  have f1 := cf 1
  obtain ⟨ab, cb, rfl, hcb⟩ := h.rd.form
  have k0 : decide ((n : Int) < 0) = false := by simp
  have k1 : decide ((bs.length : Int) - (at' : Int) < (n : Int)) = false := by simp; omega
  have hxi : ¬ ((bs.length : Int) - (at' : Int) < (n : Int)) := by omega
  have R := fun nq => (h.drewN nq).place (at' + n) hn ((at' : Int) + (n : Int)) (by omega)
  have g1 : IntKind.i64.wrap ((at' : Int) + (n : Int) - (n : Int)) = (at' : Int) := by rw [IntKind.wrap_i64]; omega
  have g1' : IntKind.i64.wrap (at' : Int) = (at' : Int) := by rw [IntKind.wrap_i64]; omega
  have g2 : (at' : Int) + (n : Int) ≤ (cb : Int) := by omega
  have hN : N ≤ w.heap.size := by have := h.le; have := h.lt; omega
  clear cf h
  go_enter Tryd.func27, Tryd.ntmps27
  go_wp2_with fail
  go_quiet (fail)
  go_wp2_with fail
  obtain ⟨R1, R2⟩ := R nq
  obtain ⟨d0, d1, d2, _⟩ := R1.cells
  generalize (w.drewN nq).setCell ⟨q, 1, none⟩ (.int .i64 ((at' : Int) + (n : Int))) = w1 at *
  have C1 : Chg (fun k => k = q) w w1 := R2.drews
  have hN1 : N ≤ w1.heap.size := by have := R1.le; have := R1.lt; omega
  have ho : (w1.alloc (.cells #[] 5)).drew.ownsRow N 5 1 (.slice (some ⟨w1.heap.size, 0, none⟩) 0 0) 0 (bcells []) := World.ownsRow_lit (base := N) (e := 5) (size := 1) w1 #[] 0 hN1 (by simp [maxLen]) rfl
  have hN2 : N ≤ (w1.alloc (.cells #[] 5)).drew.heap.size := by simp; omega
  clear R R2 c0 c1 c2 f1
  have hb1 : Bs (w1.alloc (.cells #[] 5)) (.slice ab bs.length cb) bs := R1.rd.kept (Chg.alloc (fun _ => False) w1 _) (fun _ _ _ _ _ h => h)
  have hb2 : Bs (w1.alloc (.cells #[] 5)).drew (.slice (cutA ab cb at') n (cb - at')) ((bs.drop at').take n) := Bs.mid (w := (w1.alloc (.cells #[] 5)).drew) hb1 hn
  clear hb1
  have hbl : ([] : List Int).length + ((bs.drop at').take n).length ≤ 1099511627776 := by simp; omega
  have hsl := slice_lh ab cb bs.length at' n (by omega)
  have hnl : ((bs.drop at').take n).length = n := by simp; omega
  generalize hts : (bs.drop at').take n = ts at *
  have HT : Hid ((bs.drop at').take n = ts) := hts
  clear hts
  generalize cutA ab cb at' = A at *
  go_region_held3 (fun w' => w'.cell? ⟨q, 0, none⟩ = some (.slice ab bs.length cb) ∧ w'.cell? ⟨q, 1, none⟩ = some (.int .i64 ((at' : Int) + (n : Int)))) (go_keep) ((refine step_app (by rfl) (.tmp 39) (.tmp 54) 28 (by rfl) N i0 Tryd.underlying28 hi hz0 hz1 hz2 (.slice (some ⟨w1.heap.size, 0, none⟩) 0 0) (.slice A n (cb - at')) 0 [] ts (by rfl) ho (by rfl) hb2 hbl hN2 ?_; intro v2 w2 hown hgrow hat; obtain ⟨R3, C3⟩ := R1.behind hgrow; obtain ⟨x0, x1, _, _⟩ := R3.cells))
  have hfin : w2.ownsRow N 5 1 v2 n (bcells ts) := by have h1 := hown; simp only [List.nil_append, Nat.zero_add, hnl] at h1; exact h1
  have hnew : ∀ k, v2.ownBlock = some k → w.heap.size ≤ k := by
    intro k hk
    rcases hat with e | e
    · rw [e] at hk; cases hk; exact C1.size
    · rw [e] at hk; cases hk; have := C1.size; simp; omega
  have CC : Chg (fun k => k = q) w w2 := C1.trans C3 (fun _ _ h => h.elim)
  clear hown hgrow hat x0 x1 ho hb2 hsl
  go_wp2
  go_ret
  rw [HT.out]
  exact ⟨v2, rfl, R3, CC, hfin, hnew⟩

set_option maxHeartbeats 1600000 in
set_option maxRecDepth 100000 in
theorem refFixed_any' (N q at' : Nat) (bv : Value) (bs : List Int) (e : Int) (s : RS) (n : Int) (w : World) (h : RR N w q bv bs at' e) (hs : Sim s bs at' e) (hl : bs.length ≤ 1099511627776) :
    Calls Tryd.prog 27 #[.pointer (some ⟨q, 0, none⟩), .int .i64 n] w fun r w' => ∃ u, r = .returned u ∧ RTo N q bv bs w w' (tkS (fxI s n) n) ∧ Bs w' u (tkV (fxI s n) n) ∧ ∀ k, u.ownBlock = some k → w.heap.size ≤ k := by
  obtain ⟨c0, c1, c2, cf⟩ := h.cells
  have f2 := cf 2
  have hN : N ≤ w.heap.size := by have := h.le; have := h.lt; omega
  obtain ⟨xs, f⟩ := s
  obtain ⟨rfl, hz, hnz⟩ := hs
  simp only at hz hnz c2
  by_cases hf : f = 0
  · subst hf
    obtain rfl := hz rfl
    have hpl := h.pl
    by_cases hn : n < 0
    · have e1 : tkV (fxI ⟨bs.drop at', 0⟩ n) n = [] := by simp [tkV, fxI, failS, hn]
      have e2 : tkS (fxI ⟨bs.drop at', 0⟩ n) n = ⟨[], 1⟩ := by simp [tkS, fxI, failS, hn]
      rw [e1, e2]
      have k1 : decide (n < 0) = true := by simpa using hn
      have R := h.err 1
      clear hz hnz h cf e1 e2
      go_enter Tryd.func27, Tryd.ntmps27
      go_wp2
      go_ret
      exact ⟨_, rfl, ⟨_, _, R.1, ⟨rfl, fun h => by simp at h, fun _ => rfl⟩, R.2⟩, .inl ⟨rfl, rfl⟩, fun k hk => by cases hk⟩
    · obtain ⟨m, rfl⟩ := Int.eq_ofNat_of_zero_le (show 0 ≤ n by omega)
      have ef : fxI ⟨bs.drop at', 0⟩ m = ⟨bs.drop at', 0⟩ := by simp only [fxI, if_neg hn]
      rw [ef]
      by_cases hx : bs.length - at' < m
      · have e1 : tkV ⟨bs.drop at', 0⟩ m = [] := by simp [tkV]; omega
        have e2 : tkS ⟨bs.drop at', 0⟩ m = ⟨[], 2⟩ := by simp [tkS]; omega
        rw [e1, e2]
        obtain ⟨ab, cb, rfl, _⟩ := h.rd.form
        have k0 : decide ((m : Int) < 0) = false := by simp
        have k1 : decide ((bs.length : Int) - (at' : Int) < (m : Int)) = true := by simp; omega
        have hxi : (bs.length : Int) - (at' : Int) < (m : Int) := by omega
        have R := fun nq => (h.drewN nq).err 2
        clear hz hnz h cf e1 e2 ef
        go_enter Tryd.func27, Tryd.ntmps27
        go_wp2_with fail
        go_quiet (fail)
        go_wp2
        go_ret
        exact ⟨_, rfl, ⟨_, _, (R _).1, ⟨rfl, fun h => by simp at h, fun _ => rfl⟩, (R _).2.drews⟩, .inl ⟨rfl, rfl⟩, fun k hk => by cases hk⟩
      · have e1 : tkV ⟨bs.drop at', 0⟩ m = (bs.drop at').take m := by simp [tkV]; omega
        have e2 : tkS ⟨bs.drop at', 0⟩ m = ⟨bs.drop (at' + m), 0⟩ := by simp [tkS]; omega
        rw [e1, e2]
        refine (refFixed_ok N q at' m bv bs w h (by omega) hl).mono ?_
        rintro r w' ⟨u, rfl, R, C, O, Z⟩
        exact ⟨u, rfl, ⟨_, _, R, ⟨rfl, fun _ => rfl, fun h => absurd rfl h⟩, C⟩, Bs.ofOwns O, Z⟩
  · obtain rfl := hnz hf
    have e0 : fxI ⟨[], f⟩ n = ⟨[], f⟩ := by unfold fxI; split <;> simp [failS, hf]
    have e1 : tkV ⟨[], f⟩ n = [] := by simp [tkV, hf]
    have e2 : tkS ⟨[], f⟩ n = ⟨[], f⟩ := by simp [tkS, hf]
    rw [e0, e1, e2]
    have hb : (f == 0) = false := by simpa using hf
    have R := h
    clear hz hnz h cf e0 e1 e2
    go_enter Tryd.func27, Tryd.ntmps27
    go_wp2
    go_ret
    exact ⟨_, rfl, ⟨_, _, R, ⟨rfl, fun h => absurd h hf, fun _ => rfl⟩, Chg.refl _ _⟩, .inl ⟨rfl, rfl⟩, fun k hk => by cases hk⟩

theorem RTo.trans {N q : Nat} {bv : Value} {bs : List Int} {w w1 w2 : World} {s1 s2 : RS} (a : RTo N q bv bs w w1 s1) (b : RTo N q bv bs w1 w2 s2) : RTo N q bv bs w w2 s2 := by
  obtain ⟨_, _, _, _, c1⟩ := a
  obtain ⟨at', e, r, s, c2⟩ := b
  exact ⟨at', e, r, s, c1.trans c2 (fun _ _ h => h)⟩
theorem fxI_nonneg (s : RS) (n : Int) (h : 0 ≤ n) : fxI s n = s := by simp [fxI]; omega

set_option maxHeartbeats 1600000 in
theorem refBytes_any' (N q at' : Nat) (bv : Value) (bs : List Int) (e : Int) (s : RS) (most : Int) (w : World) (h : RR N w q bv bs at' e) (hs : Sim s bs at' e) (hl : bs.length ≤ 1099511627776) (hB : IsB bs) (hBs : IsB s.xs) :
    Calls Tryd.prog 29 #[.pointer (some ⟨q, 0, none⟩), .int .i64 most] w fun r w' => ∃ u, r = .returned u ∧ RTo N q bv bs w w' (tkS (bsI s most) (valB (tkV s 4))) ∧ Bs w' u (tkV (bsI s most) (valB (tkV s 4))) ∧ ∀ k, u.ownBlock = some k → w.heap.size ≤ k := by
  have hv0 := (valB_bd _ (hBs.tkV 4)).1
  go_enter Tryd.func29, Tryd.ntmps29
  go_wp2_with fail
  refine (refNumber N q at' bv bs e s 4 w h hs hl hB (by omega)).mono ?_
  rintro r w1 ⟨rfl, at1, e1, R1, S1, C1⟩
  obtain ⟨c0, c1, c2, cf⟩ := R1.cells
  have f2 := cf 2
  by_cases hf : (tkS s 4).f = 0
  · have he1 : e1 = 0 := by rw [← S1.1]; exact hf
    subst he1
    by_cases hn : most < valB (tkV s 4)
    · have eb : bsI s most = ⟨[], 5⟩ := by simp [bsI, hn, failS, hf]
      have R2 := R1.err 5
      go_wp2_with fail
      refine (refFixed_any' N q at1 bv bs 5 ⟨[], 5⟩ (valB (tkV s 4)) _ R2.1 ⟨rfl, fun h => by simp at h, fun _ => rfl⟩ hl).mono ?_
      rintro r w3 ⟨u, rfl, R3, B3, Z3⟩
      go_wp2
      go_ret
      rw [eb]
      rw [fxI_nonneg _ _ hv0] at R3 B3
      refine ⟨u, rfl, ?_, B3, fun k hk => Nat.le_trans (C1.trans R2.2 (fun _ _ h => h)).size (Z3 k hk)⟩
      exact RTo.trans (s1 := ⟨[], 5⟩) ⟨_, _, R2.1, ⟨rfl, fun h => by simp at h, fun _ => rfl⟩, C1.trans R2.2 (fun _ _ h => h)⟩ R3
    · have eb : bsI s most = tkS s 4 := by simp [bsI, hn]
      go_wp2_with fail
      refine (refFixed_any' N q at1 bv bs 0 (tkS s 4) (valB (tkV s 4)) _ R1 S1 hl).mono ?_
      rintro r w3 ⟨u, rfl, R3, B3, Z3⟩
      go_wp2
      go_ret
      rw [eb]
      rw [fxI_nonneg _ _ hv0] at R3 B3
      exact ⟨u, rfl, RTo.trans ⟨_, _, R1, S1, C1⟩ R3, B3, fun k hk => Nat.le_trans C1.size (Z3 k hk)⟩
  · have hne : e1 ≠ 0 := by rw [← S1.1]; exact hf
    have hb : (e1 == 0) = false := by simpa using hne
    have eb : bsI s most = tkS s 4 := by unfold bsI; split <;> simp [failS, hf]
    go_wp2_with fail
    refine (refFixed_any' N q at1 bv bs e1 (tkS s 4) (valB (tkV s 4)) _ R1 S1 hl).mono ?_
    rintro r w3 ⟨u, rfl, R3, B3, Z3⟩
    go_wp2
    go_ret
    rw [eb]
    rw [fxI_nonneg _ _ hv0] at R3 B3
    exact ⟨u, rfl, RTo.trans ⟨_, _, R1, S1, C1⟩ R3, B3, fun k hk => Nat.le_trans C1.size (Z3 k hk)⟩
end Go.Proofs.YtdninfmmikaimaaDoor

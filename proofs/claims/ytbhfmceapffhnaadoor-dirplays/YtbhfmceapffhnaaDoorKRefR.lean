/-
  The contract of the reference's reader (package mailbagref1): Number answers as the state of codec's says.
-/
import Derived.Test.YtbhfmceapffhnaaDoorKHelp
import Derived.BigQuiet
import Derived.Deep.QuietTactic
import Derived.Deep.RegionHeld3
import Derived.Deep.DrawnRows
namespace Go.Proofs.YtbhfmceapffhnaaDoor
open Go.RowKit
attribute [local go_sem ↓] Go.wp_at_zero Go.wp_at_succ


/-- The reference's reader in block q: its bytes bs behind bv, its place, its fault. -/
structure RR (N : Nat) (w : World) (q : Nat) (bv : Value) (bs : List Int) (at' : Nat) (e : Int) : Prop where
  le : N ≤ q
  blk : w.heap[q]? = some (.cells #[bv, .int .i64 at', .int .i64 e] 98 (0, 0))
  rd : Bs w bv bs
  ne : ∀ a n c, bv = .slice (some a) n c → 0 < n → a.block ≠ q
  pl : at' ≤ bs.length

/-- What the reference holds is the state s. -/
def Sim (s : RS) (bs : List Int) (at' : Nat) (e : Int) : Prop := s.f = e ∧ (e = 0 → s.xs = bs.drop at') ∧ (e ≠ 0 → s.xs = [])

theorem RR.lt {N q at' : Nat} {w : World} {bv : Value} {bs : List Int} {e : Int} (h : RR N w q bv bs at' e) : q < w.heap.size := (Array.getElem?_eq_some_iff.1 h.blk).1
theorem RR.cells {N q at' : Nat} {w : World} {bv : Value} {bs : List Int} {e : Int} (h : RR N w q bv bs at' e) : w.cell? ⟨q, 0, none⟩ = some bv ∧ w.cell? ⟨q, 1, none⟩ = some (.int .i64 at') ∧ w.cell? ⟨q, 2, none⟩ = some (.int .i64 e) ∧ ∀ j, w.frozen? ⟨q, j, none⟩ = false := by
  refine ⟨?_, ?_, ?_, fun j => by simp [World.frozen?, h.blk]⟩ <;> rw [cell_of_row w q _ _ _ _ h.blk] <;> rfl
theorem RR.kept {S : Nat → Prop} {N q at' : Nat} {w w' : World} {bv : Value} {bs : List Int} {e : Int} (h : RR N w q bv bs at' e) (hc : Chg S w w') (hq : ¬ S q) (hv : ∀ a n c, bv = .slice (some a) n c → 0 < n → ¬ S a.block) : RR N w' q bv bs at' e :=
  ⟨h.le, (hc.block q h.lt hq).trans h.blk, h.rd.kept hc hv, h.ne, h.pl⟩
/-- The fault is written. -/
theorem RR.err {N q at' : Nat} {w : World} {bv : Value} {bs : List Int} {e : Int} (h : RR N w q bv bs at' e) (e' : Int) : RR N (w.setCell ⟨q, 2, none⟩ (.int .i64 e')) q bv bs at' e' ∧ Chg (fun k => k = q) w (w.setCell ⟨q, 2, none⟩ (.int .i64 e')) := by
  have hc : Chg (fun k => k = q) w (w.setCell ⟨q, 2, none⟩ (.int .i64 e')) := Chg.setCell (S := fun k => k = q) w ⟨q, 2, none⟩ _ rfl
  refine ⟨⟨h.le, ?_, h.rd.kept hc h.ne, h.ne, h.pl⟩, hc⟩
  have g := heap_setCell_same w q 2 _ 98 (.int .i64 e') h.blk
  simpa using g
/-- The place is written. -/
theorem RR.place {N q at' : Nat} {w : World} {bv : Value} {bs : List Int} {e : Int} (h : RR N w q bv bs at' e) (n : Nat) (hn : n ≤ bs.length) (z : Int) (hz : z = (n : Int)) : RR N (w.setCell ⟨q, 1, none⟩ (.int .i64 z)) q bv bs n e ∧ Chg (fun k => k = q) w (w.setCell ⟨q, 1, none⟩ (.int .i64 z)) := by
  subst hz
  have hc : Chg (fun k => k = q) w (w.setCell ⟨q, 1, none⟩ (.int .i64 (n : Int))) := Chg.setCell (S := fun k => k = q) w ⟨q, 1, none⟩ _ rfl
  refine ⟨⟨h.le, ?_, h.rd.kept hc h.ne, h.ne, hn⟩, hc⟩
  have g := heap_setCell_same w q 1 _ 98 (.int .i64 (n : Int)) h.blk
  simpa using g

theorem RR.drewN {N q at' : Nat} {w : World} {bv : Value} {bs : List Int} {e : Int} (h : RR N w q bv bs at' e) (n : Nat) : RR N (w.drewN n) q bv bs at' e := ⟨h.le, h.blk, h.rd, h.ne, h.pl⟩
theorem Chg.drews {S : Nat → Prop} {w w' : World} {n : Nat} (h : Chg S (w.drewN n) w') : Chg S w w' := ⟨h.os, h.tape, h.output, h.size, h.block⟩

/-- What a ref's call leaves: the reader holds the state s'; block q alone has changed. -/
def RTo (N q : Nat) (bv : Value) (bs : List Int) (w w' : World) (s' : RS) : Prop := ∃ at' e, RR N w' q bv bs at' e ∧ Sim s' bs at' e ∧ Chg (fun k => k = q) w w'

theorem valB_step (T : List Int) (i : Nat) (hi : i < T.length) : valB (T.drop i) = T.getD i 0 + 256 * valB (T.drop (i + 1)) := by
  rw [List.drop_eq_getElem_cons hi]
  simp [valB, List.getD, hi]
theorem or_low (m x : Int) (hm0 : 0 ≤ m) (hm1 : m < 16777216) (hx0 : 0 ≤ x) (hx1 : x < 256) : bits .or .i64 (wrap64 (m * 256)) x = x + 256 * m := by
  have e : wrap64 (m * 256) = m * 256 := by unfold wrap64; omega
  rw [e]
  obtain ⟨M, rfl⟩ := Int.eq_ofNat_of_zero_le hm0
  obtain ⟨X, rfl⟩ := Int.eq_ofNat_of_zero_le hx0
  have e2 : (M : Int) * 256 = ((M * 256 : Nat) : Int) := by omega
  rw [e2, i64_or_nat (M * 256) X (by omega) (by omega), nat_join 8 (M * 256) X (by omega) (by omega)]
  omega
theorem num_step (bs : List Int) (at' k i : Nat) (m : Int) (hk : k ≤ 4) (hi : i < k) (hl : at' + k ≤ bs.length) (hB : IsB bs) (hm : m = valB (((bs.drop at').take k).drop (i + 1))) :
    bits .or .i64 (wrap64 (m * 256)) (bs.getD (at' + i) 0) = valB (((bs.drop at').take k).drop i) := by
  have hT : IsB ((bs.drop at').take k) := (hB.drop at').take k
  have hTl : ((bs.drop at').take k).length = k := by simp; omega
  have hb := valB_bd (((bs.drop at').take k).drop (i + 1)) (hT.drop (i + 1))
  rw [← hm] at hb
  have hx := hB.at (show at' + i < bs.length by omega)
  have hlen : (((bs.drop at').take k).drop (i + 1)).length ≤ 3 := by simp; omega
  have hp : (256 : Int) ^ (((bs.drop at').take k).drop (i + 1)).length ≤ 256 ^ 3 := by
    have h1 : (256 : Nat) ^ (((bs.drop at').take k).drop (i + 1)).length ≤ 256 ^ 3 := Nat.pow_le_pow_right (by omega) hlen
    have h2 := Int.ofNat_le.2 h1
    rw [Int.natCast_pow, Int.natCast_pow] at h2
    exact h2
  have hp3 : (256 : Int) ^ 3 = 16777216 := by decide
  rw [hp3] at hp
  rw [or_low m _ hb.1 (by omega) hx.1 hx.2, valB_step _ i (by omega), ← hm]
  have e : ((bs.drop at').take k).getD i 0 = bs.getD (at' + i) 0 := by
    simp only [List.getD, List.getElem?_take, hi, if_true, List.getElem?_drop]
  rw [e]

set_option maxHeartbeats 1600000 in
set_option maxRecDepth 100000 in
theorem refNumber (N q at' : Nat) (bv : Value) (bs : List Int) (e : Int) (s : RS) (k : Nat) (w : World) (h : RR N w q bv bs at' e) (hs : Sim s bs at' e) (hl : bs.length ≤ 1099511627776) (hB : IsB bs) (hk : k ≤ 4) :
    Calls Tryd.prog 55 #[.pointer (some ⟨q, 0, none⟩), .int .i64 k] w fun r w' => r = .returned (.int .i64 (valB (tkV s k))) ∧ RTo N q bv bs w w' (tkS s k) := by
  obtain ⟨c0, c1, c2, cf⟩ := h.cells
  have f2 := cf 2
  have f1 := cf 1
  obtain ⟨ab, cb, rfl, _⟩ := h.rd.formC
  obtain ⟨xs, f⟩ := s
  obtain ⟨rfl, hz, hnz⟩ := hs
  simp only at hz hnz c2
  by_cases hf : f = 0
  · subst hf
    obtain rfl := hz rfl
    have hpl := h.pl
    by_cases hx : bs.length - at' < k
    · have e1 : tkV ⟨bs.drop at', 0⟩ k = [] := by simp [tkV]; omega
      have e2 : tkS ⟨bs.drop at', 0⟩ k = ⟨[], 2⟩ := by simp [tkS]; omega
      rw [e1, e2]
      have k1 : decide ((bs.length : Int) - (at' : Int) < (k : Int)) = true := by simp; omega
      have hxi : (bs.length : Int) - (at' : Int) < (k : Int) := by omega
      have R := fun nq => (h.drewN nq).err 2
      clear hz hnz h cf e1 e2
      go_enter Tryd.func55, Tryd.ntmps55
      go_wp2_with fail
      go_quiet (fail)
      go_wp2
      go_ret
      exact ⟨rfl, _, _, (R _).1, ⟨rfl, fun h => by simp at h, fun _ => rfl⟩, (R _).2.drews⟩
    · have e1 : tkV ⟨bs.drop at', 0⟩ k = (bs.drop at').take k := by simp [tkV]; omega
      have e2 : tkS ⟨bs.drop at', 0⟩ k = ⟨bs.drop (at' + k), 0⟩ := by simp [tkS]; omega
      rw [e1, e2]
      have k1 : decide ((bs.length : Int) - (at' : Int) < (k : Int)) = false := by simp; omega
      have hxi : ¬ ((bs.length : Int) - (at' : Int) < (k : Int)) := by omega
      have hrd := h.rd
      clear hz hnz cf e1 e2
      go_enter Tryd.func55, Tryd.ntmps55
      go_wp2_with fail
      go_quiet (fail)
      go_wp2_with fail
      go_loopw [5, 6] (fun n i wr => ∃ (j nq : Nat) (m : Int), j ≤ k ∧ wr = w.drewN nq ∧ i = .int .i64 ((j : Int) - 1) ∧ n = .int .i64 m ∧ Hid (m = valB (((bs.drop at').take k).drop j))) (fun _ i _ => (intOf i + 1).toNat)
      case atStart => exact ⟨k, _, 0, Nat.le_refl _, rfl, rfl, rfl, by simp [Hid, valB]⟩
      case round =>
        obtain ⟨j, nr, m, hj, rfl, rfl, rfl, HM⟩ := hrel
        by_cases hj0 : j = 0
        · subst hj0
          have R := (h.drewN nr).place (at' + k) (by omega) ((at' : Int) + (k : Int)) (by omega)
          have HM' : Hid (m = valB ((bs.drop at').take k)) := HM
          clear hrd h HM
          go_wp2
          go_ret
          rw [← HM'.out]
          exact ⟨rfl, _, _, R.1, ⟨rfl, fun _ => rfl, fun h => absurd rfl h⟩, R.2.drews⟩
        · obtain ⟨i, rfl⟩ : ∃ i, j = i + 1 := ⟨j - 1, by omega⟩
          have hi : at' + i < bs.length := by omega
          obtain ⟨b, off, rfl, hcs⟩ := hrd.atC hi
          have hc := hcs (at' + i) hi
          have hxb := hB.at hi
          have ei : ((i + 1 : Nat) : Int) - 1 = (i : Int) := by omega
          rw [ei]
          have HS : Hid (bits .or .i64 (wrap64 (m * 256)) (bs.getD (at' + i) 0) = valB (((bs.drop at').take k).drop i)) := num_step bs at' k i m hk (by omega) (by omega) hB HM.out
          clear hcs hrd h HM ei
          generalize bs.getD (at' + i) 0 = x at *
          obtain ⟨hx0, hx1⟩ := hxb
          have g1 : (0 : Int) ≤ (at' : Int) + (i : Int) := by omega
          have g2 : (at' : Int) + (i : Int) < (bs.length : Int) := by omega
          have g3 : ((at' : Int) + (i : Int)).toNat = at' + i := by omega
          have g4 : IntKind.i64.wrap ((at' : Int) + (i : Int)) = (at' : Int) + (i : Int) := by rw [IntKind.wrap_i64]; omega
          go_wp2_with fail
          go_quiet (fail)
          go_wp2
          go_roundw
          case rel => exact ⟨i, _, _, by omega, rfl, rfl, rfl, HS⟩
          case measure => simp [intOf]
  · have e1 : tkV ⟨xs, f⟩ k = [] := by simp [tkV, hf]
    have e2 : tkS ⟨xs, f⟩ k = ⟨xs, f⟩ := by simp [tkS, hf]
    rw [e1, e2]
    have hb : (f == 0) = false := by simpa using hf
    have R := h
    have H := hnz hf
    clear hz hnz h cf e1 e2
    go_enter Tryd.func55, Tryd.ntmps55
    go_wp2
    go_ret
    obtain rfl := H
    exact ⟨rfl, _, _, R, ⟨rfl, fun h => absurd h hf, fun _ => rfl⟩, Chg.refl _ _⟩

end Go.Proofs.YtbhfmceapffhnaaDoor

/-
  The document's Fixed, written and read.
-/
import Derived.Test.YtbhfmceapffhnaaDoorKRefR
import Derived.Test.YtbhfmceapffhnaaDoorKRefW
import Derived.Deep.RegionHeld3
import Derived.BigQuiet
import Derived.Deep.QuietTactic
import Derived.Deep.DrawnRows
namespace Go.Proofs.YtbhfmceapffhnaaDoor
open Go.RowKit
attribute [local go_sem ↓] Go.wp_at_zero Go.wp_at_succ

theorem refFixed_any (N p : Nat) (v b : Value) (size : Int) (xs bs : List Int) (w : World) (hw : WrT 85 N w p v xs) (hb : Bs w b bs) (ha : Apart b v p) (hs : size ≤ 65536) (hlen : xs.length + 65536 ≤ 1099511627776) :
    Calls Tryd.prog 48 #[.pointer (some ⟨p, 0, none⟩), b, .int .i64 size] w fun e w' => e = .returned (.tuple #[]) ∧ ∃ v', WrToT 85 N p w v w' v' (xs ++ fixB bs size) := by
  obtain ⟨i0, hi, hz0, hz1, hz2⟩ := info_parts cinfo5
  obtain ⟨ab, cb, rfl, hcb⟩ := hb.formC
  have k1 : decide ((65536 : Int) < size) = false := by simp; omega
  have hfl := fixB_len bs size
  go_enter Tryd.func48, Tryd.ntmps48
  go_wp2
  go_loopw [6] (fun i wr => ∃ k : Nat, k ≤ size.toNat ∧ i = .int .i64 k ∧ ∃ v', WrToT 85 N p w v wr v' (xs ++ (fixB bs size).take k)) (fun i _ => size.toNat - (intOf i).toNat)
  case atStart => exact ⟨0, Nat.zero_le _, rfl, v, by simpa using WrToT.refl hw⟩
  case round =>
    obtain ⟨k, hk, rfl, v', hto⟩ := hrel
    have hcl := hto.wr.cell
    have hfr := hto.wr.frozen
    have hb1 := hto.bs hb ha
    by_cases hlt : (k : Int) < size
    · have hln : (xs ++ (fixB bs size).take k).length < xs.length + 65536 := by simp; omega
      have HF : Hid ((fixB bs size).take (k + 1) = (fixB bs size).take k ++ [if k < bs.length then bs.getD k 0 else 0]) := fixB_take bs size k (by omega)
      have hN : N ≤ wr.heap.size := by have := hto.wr.lt; have := hto.wr.le; omega
      generalize hY : xs ++ (fixB bs size).take k = ys at *
      have HY : Hid (xs ++ (fixB bs size).take k = ys) := hY
      clear hY hfl
      by_cases hkb : k < bs.length
      · rw [if_pos hkb] at HF
        obtain ⟨bb, off, rfl, hcs⟩ := hb1.atC hkb
        have hcb := hcs k hkb
        clear hcs hb1 hb ha
        generalize bs.getD k 0 = x at *
        have g3 : (k : Int) < (bs.length : Int) := by omega
        have hd := WrToT.drew hto.wr
        have hl1 : ys.length + ([x] : List Int).length ≤ 1099511627776 := by simp; omega
        have hbo : Bs (wr.alloc (.cells #[.int .u8 x] 5)).drew (.slice (some ⟨wr.heap.size, 0, none⟩) 1 1) [x] := Bs.one wr x
        have hN' : N ≤ (wr.alloc (.cells #[.int .u8 x] 5)).drew.heap.size := by simp; omega
        have ho' : (wr.alloc (.cells #[.int .u8 x] 5)).drew.ownsRow N 5 1 v' ys.length (bcells ys) := hto.wr.own.alloc _
        have hcl2 : (wr.alloc (.cells #[.int .u8 x] 5)).cell? ⟨p, 0, none⟩ = some v' := (Chg.alloc (fun _ => False) wr _).cell hcl (fun h => h)
        go_wp2
        go_region_law ((refine step_app (by rfl) (.tmp 22) (.tmp 27) 52 (by rfl) N i0 Tryd.underlying52 hi hz0 hz1 hz2 v' (.slice (some ⟨wr.heap.size, 0, none⟩) 1 1) ys.length ys [x] (by rfl) ho' (by rfl) hbo hl1 hN' ?_; intro v2 w2 hown hgrow hat; obtain ⟨ht2, hc1, hf1⟩ := hto.wr.push (grown_undrew hgrow) hown (by simpa using hat); obtain ⟨g, cap, rfl⟩ := cown_slice hown))
        all_goals
          have ht3 := hto.trans ht2
          have ht4 : WrToT 85 N p w v (w2.setCell ⟨p, 0, none⟩ (.slice g (ys.length + ([x] : List Int).length) cap)) (.slice g (ys.length + ([x] : List Int).length) cap) (xs ++ (fixB bs size).take (k + 1)) := by rw [HF.out, ← List.append_assoc, HY.out]; exact ht3
          clear hown hgrow hat ht2 hc1 hf1 hd hcl hcl2 hfr hto ho' hbo ht3
          go_wp2
          go_roundw
          case rel => exact ⟨k + 1, by omega, by go_num, _, ht4⟩
          case measure => simp [intOf]; omega
      · rw [if_neg hkb] at HF
        clear hb1 hb ha
        have g3 : ¬ ((k : Int) < (bs.length : Int)) := by omega
        have hl1 : ys.length + ([0] : List Int).length ≤ 1099511627776 := by simp; omega
        go_wp2_with (at_builtin; go_must (refine wpList_app rfl (.tmp 35) (.tmp 36) 52 rfl N i0 Tryd.underlying52 hi hz0 hz1 hz2 _ _ _ _ _ rfl (hto.wr.own.alloc _) rfl (Bs.one _ _) hl1 ?c2 ?next))
        case c2 => omega
        case next =>
          intro v2 w2 hown hgrow hat
          obtain ⟨ht2, hc1, hf1⟩ := hto.wr.push hgrow hown (by simpa using hat)
          obtain ⟨g, cap, rfl⟩ := cown_slice hown
          have ht3 := hto.trans ht2
          have ht4 : WrToT 85 N p w v (w2.setCell ⟨p, 0, none⟩ (.slice g (ys.length + 1) cap)) (.slice g (ys.length + 1) cap) (xs ++ (fixB bs size).take (k + 1)) := by rw [HF.out, ← List.append_assoc, HY.out]; exact ht3
          clear hown hgrow hat ht2 hcl hfr hto ht3
          go_wp2
          go_roundw
          case rel => exact ⟨k + 1, by omega, by go_num, _, ht4⟩
          case measure => simp [intOf]; omega
    · have e : (fixB bs size).take k = fixB bs size := List.take_of_length_le (by omega)
      rw [e] at hto
      clear hb1 hb ha
      go_wp2
      go_end0
      exact ⟨rfl, v', hto⟩
def cutA (a : Option Addr) (c l : Nat) : Option Addr := if c = l then a else a.map (fun x => x.add l)
theorem slice_lh (ab : Option Addr) (cb len at' n : Nat) (h : at' + n ≤ cb) (W : World) :
    (Instr.slice 52 (.slice ab len cb) (some (.int .i64 (at' : Int))) (some (.int .i64 ((at' : Int) + (n : Int)))) none).run Tryd.prog W = .ok (.slice (cutA ab cb at') n (cb - at')) W := by
  have ht : Tryd.prog.underlying 52 = some (.slice (Tryd.prog.elem 52)) := by kernel_rfl
  have hs : (sizeOf (Tryd.prog.elem 52)).run Tryd.prog W = .ok 1 W := by kernel_rfl
  rw [run_slice_lh (P := Tryd.prog) W 52 ab len cb ht .i64 .i64 _ _ (by omega) (by omega) (by omega), hs]
  have e1 : ((at' : Int) + (n : Int)).toNat = at' + n := by omega
  simp [Result.andThen, sliced, e1, cutA]
theorem Bs.mid {w : World} {ab : Option Addr} {cb at' n : Nat} {bs : List Int} (h : Bs w (.slice ab bs.length cb) bs) (hn : at' + n ≤ bs.length) : Bs w (.slice (cutA ab cb at') n (cb - at')) ((bs.drop at').take n) := by
  have hl : (bs.drop at').length = bs.length - at' := by simp
  unfold cutA
  by_cases hc : cb = at'
  · rw [if_pos hc]
    rcases h with ⟨e, rfl⟩ | ⟨a, c, e, h1, h2, h3⟩
    · cases e
      obtain rfl : n = 0 := by simp at hn; omega
      exact .inl ⟨by simp, by simp⟩
    · cases e
      obtain rfl : n = 0 := by omega
      exact .inr ⟨a, cb - at', by simp, by simp, by omega, fun j hj => by simp at hj⟩
  · rw [if_neg hc]
    have h1 := Bs.rest h (show at' ≤ bs.length by omega) hc
    rw [← hl] at h1
    exact Bs.low h1 (by omega)
theorem RR.behind {N q at' : Nat} {w1 w2 : World} {bv : Value} {bs : List Int} {e : Int} {o : Obj} (h : RR N w1 q bv bs at' e) (hg : (w1.alloc o).drew.grownBy w2 (some w1.heap.size)) : RR N w2 q bv bs at' e ∧ Chg (fun _ => False) w1 w2 := by
  have hc : Chg (fun _ => False) w1 w2 := ⟨hg.os, hg.tape, hg.output, Nat.le_trans (by simp) hg.size, fun k hk _ => (hg.block k (by simp; omega) (by intro e; cases e; omega)).trans (Below.heap_alloc w1 o k hk)⟩
  exact ⟨h.kept hc (fun h => h) (fun _ _ _ _ _ h => h), hc⟩
theorem refFixed_ok (N q at' n : Nat) (bv : Value) (bs : List Int) (w : World) (h : RR N w q bv bs at' 0) (hn : at' + n ≤ bs.length) (hl : bs.length ≤ 1099511627776) :
    Calls Tryd.prog 56 #[.pointer (some ⟨q, 0, none⟩), .int .i64 n] w fun r w' => ∃ u, r = .returned u ∧ RR N w' q bv bs (at' + n) 0 ∧ Chg (fun k => k = q) w w' ∧ w'.ownsRow N 5 1 u n (bcells ((bs.drop at').take n)) ∧ ∀ k, u.ownBlock = some k → w.heap.size ≤ k := by
  obtain ⟨i0, hi, hz0, hz1, hz2⟩ := info_parts cinfo5
  obtain ⟨c0, c1, c2, cf⟩ := h.cells
  have f1 := cf 1
  obtain ⟨ab, cb, rfl, hcb⟩ := h.rd.formC
  have k0 : decide ((n : Int) < 0) = false := by simp
  have k1 : decide ((bs.length : Int) - (at' : Int) < (n : Int)) = false := by simp; omega
  have hxi : ¬ ((bs.length : Int) - (at' : Int) < (n : Int)) := by omega
  have R := fun nq => (h.drewN nq).place (at' + n) hn ((at' : Int) + (n : Int)) (by omega)
  have g1 : IntKind.i64.wrap ((at' : Int) + (n : Int) - (n : Int)) = (at' : Int) := by rw [IntKind.wrap_i64]; omega
  have g1' : IntKind.i64.wrap (at' : Int) = (at' : Int) := by rw [IntKind.wrap_i64]; omega
  have g2 : (at' : Int) + (n : Int) ≤ (cb : Int) := by omega
  have hN : N ≤ w.heap.size := by have := h.le; have := h.lt; omega
  clear cf h
  go_enter Tryd.func56, Tryd.ntmps56
  go_wp2_with fail
  go_quiet (fail)
  go_wp2_with fail
  obtain ⟨R1, R2⟩ := R nq
  obtain ⟨d0, d1, d2, _⟩ := R1.cells
  generalize (w.drewN nq).setCell ⟨q, 1, none⟩ (.int .i64 ((at' : Int) + (n : Int))) = w1 at *
  have C1 : Chg (fun k => k = q) w w1 := R2.drews
  have hN1 : N ≤ w1.heap.size := by have := R1.le; have := R1.lt; omega
  have ho : (w1.alloc (.cells #[] 5)).drew.ownsRow N 5 1 (.slice (some ⟨w1.heap.size, 0, none⟩) 0 0) 0 (bcells []) := World.ownsRow_lit (base := N) (e := 5) (size := 1) w1 #[] 0 hN1 (by simp [maxLen]) rfl
  have hN2 : N ≤ (w1.alloc (.cells #[] 5)).drew.heap.size := by simp; omega
  clear R R2 c0 c1 c2 f1
  have hb1 : Bs (w1.alloc (.cells #[] 5)) (.slice ab bs.length cb) bs := R1.rd.kept (Chg.alloc (fun _ => False) w1 _) (fun _ _ _ _ _ h => h)
  have hb2 : Bs (w1.alloc (.cells #[] 5)).drew (.slice (cutA ab cb at') n (cb - at')) ((bs.drop at').take n) := Bs.mid (w := (w1.alloc (.cells #[] 5)).drew) hb1 hn
  clear hb1
  have hbl : ([] : List Int).length + ((bs.drop at').take n).length ≤ 1099511627776 := by simp; omega
  have hsl := slice_lh ab cb bs.length at' n (by omega)
  have hnl : ((bs.drop at').take n).length = n := by simp; omega
  generalize hts : (bs.drop at').take n = ts at *
  have HT : Hid ((bs.drop at').take n = ts) := hts
  clear hts
  generalize cutA ab cb at' = A at *
  go_region_held3 (fun w' => w'.cell? ⟨q, 0, none⟩ = some (.slice ab bs.length cb) ∧ w'.cell? ⟨q, 1, none⟩ = some (.int .i64 ((at' : Int) + (n : Int)))) (go_keep) ((refine step_app (by rfl) (.tmp 39) (.tmp 54) 52 (by rfl) N i0 Tryd.underlying52 hi hz0 hz1 hz2 (.slice (some ⟨w1.heap.size, 0, none⟩) 0 0) (.slice A n (cb - at')) 0 [] ts (by rfl) ho (by rfl) hb2 hbl hN2 ?_; intro v2 w2 hown hgrow hat; obtain ⟨R3, C3⟩ := R1.behind hgrow; obtain ⟨x0, x1, _, _⟩ := R3.cells))
  have hfin : w2.ownsRow N 5 1 v2 n (bcells ts) := by have h1 := hown; simp only [List.nil_append, Nat.zero_add, hnl] at h1; exact h1
  have hnew : ∀ k, v2.ownBlock = some k → w.heap.size ≤ k := by
    intro k hk
    rcases hat with e | e
    · rw [e] at hk; cases hk; exact C1.size
    · rw [e] at hk; cases hk; have := C1.size; simp; omega
  have CC : Chg (fun k => k = q) w w2 := C1.trans C3 (fun _ _ h => h.elim)
  clear hown hgrow hat x0 x1 ho hb2 hsl
  go_wp2
  go_ret
  rw [HT.out]
  exact ⟨v2, rfl, R3, CC, hfin, hnew⟩
end Go.Proofs.YtbhfmceapffhnaaDoor

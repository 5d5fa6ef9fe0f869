/-
  The contract of Fixed of the writer of package codec: the front of the bytes, and bytes 0 behind.
-/
import Derived.Test.YtlnjnimenihhnaaGreatDoorWriter
import Derived.Deep.RegionHeld3
import Derived.Deep.DrawnRows
import Derived.Deep.RegionLaw
namespace Go.Proofs.YtlnjnimenihhnaaGreatDoor
open Go.RowKit
attribute [local go_sem ↓] Go.wp_at_zero Go.wp_at_succ

theorem WrToT.drew {T : TypeId} {N p : Nat} {w : World} {v : Value} {xs : List Int} (h : WrT T N w p v xs) : WrToT T N p w v w.drew v xs := ⟨⟨h.le, h.blk, h.own, h.ne⟩, Chg.drew _ _, .inl rfl⟩
theorem cown_slice {w : World} {N n : Nat} {v : Value} {xs : List Value} (h : w.ownsRow N 5 1 v n xs) : ∃ a cap, v = .slice a n cap := by
  rcases h.2 with ⟨h, e⟩ | ⟨g, cap', _, h, _⟩
  · exact ⟨none, 0, by rw [h, e]⟩
  · exact ⟨_, cap', h⟩
/-- The front of a slice of bytes, cut out by a three-index slice. -/
theorem Bs.front {w : World} {ab : Option Addr} {cb n k : Nat} {bs : List Int} (h : Bs w (.slice ab n cb) bs) (hk : k ≤ n) : Bs w (.slice ab k k) (bs.take k) := by
  rcases h with ⟨e, rfl⟩ | ⟨a, c, e, hl, hm, hc⟩
  · cases e
    have : k = 0 := by omega
    subst this
    exact .inl ⟨rfl, by simp⟩
  · cases e
    have hlen : (bs.take k).length = k := by simp; omega
    refine .inr ⟨a, k, by rw [hlen], by omega, by omega, fun j hj => ?_⟩
    rw [hlen] at hj
    rw [hc j (by omega)]
    simp [List.getD, hj]

set_option maxHeartbeats 800000 in
set_option maxRecDepth 100000 in
theorem fixed_short (N p : Nat) (v : Value) (ab : Option Addr) (cb : Nat) (size : Int) (S : Nat) (xs bs : List Int) (w : World) (hw : Wr N w p v xs) (hb : Bs w (.slice ab bs.length cb) bs) (hs : ¬ size < 0) (h64 : S ≤ 65536) (hcb : bs.length ≤ cb)
    (e1 : (if (65536 : Int) < size then (65536 : Int) else size) = (S : Int)) (hh : bs.length < S) (hlen : xs.length + 65536 ≤ 1099511627776) :
    Calls Tryz.prog 123 #[.pointer (some ⟨p, 0, none⟩), .slice ab bs.length cb, .int .i64 size] w fun e w' => e = .returned (.tuple #[]) ∧ ∃ v', WrTo N p w v w' v' (xs ++ bs.take bs.length ++ List.replicate (S - bs.length) 0) := by
  obtain ⟨i0, hi, hz0, hz1, hz2⟩ := info_parts cinfo5
  have hcl := hw.cell
  have hfr := hw.frozen
  have hd := WrToT.drew hw
  have hb1 : Bs w.drew (.slice ab bs.length bs.length) (bs.take bs.length) := Bs.front hb (by omega)
  have hN : N ≤ w.heap.size := by have := hw.lt; have := hw.le; omega
  have hk1 : (bs.length : Int) ≤ (cb : Int) := by omega
  have hs2 : (bs.length : Int) < (S : Int) := by omega
  have htl : (bs.take bs.length).length = bs.length := by simp; try omega
  have hl1 : xs.length + (bs.take bs.length).length ≤ 1099511627776 := by omega
  generalize hts : bs.take bs.length = ts at *
  have htl' : ts.length ≤ bs.length := by omega
  clear hts htl
  go_enter Tryz.func123, Tryz.ntmps123
  go_wp2
  go_region_law ((refine step_app (by rfl) (.tmp 19) (.tmp 23) 33 (by rfl) N i0 Tryz.underlying33 hi hz0 hz1 hz2 v (.slice ab bs.length bs.length) xs.length xs ts (by rfl) hd.wr.own (by rfl) hb1 hl1 hN ?_; intro v2 w2 hown hgrow hat; obtain ⟨ht2, hc1, hf1⟩ := hd.wr.pushAt hgrow hown hat; obtain ⟨g, cap, rfl⟩ := cown_slice hown))
  have ht3 := hd.trans ht2
  have hcl3 := ht3.wr.cell
  have hfr3 := ht3.wr.frozen
  have hN3 : N ≤ w2.heap.size := by have h1 := ht3.wr.lt; have h2 := ht3.wr.le; simp at h1; omega
  clear hown hgrow hat ht2 hc1 hf1 hd hcl hfr e1
  go_wp2_with (at_builtin; go_must (refine wpList_app_zeros rfl (.tmp 31) (.tmp 34) 33 3 rfl N i0 .i64 Tryz.underlying33 Tryz.underlying3 hi hz0 hz1 hz2 _ _ (S - bs.length) _ rfl ht3.wr.own _ rfl ?c0 ?c1 ?c2 ?next))
  case c0 => omega
  case c1 => simp; omega
  case c2 => simpa using hN3
  case next =>
    intro v3 w3 hown hgrow hat
    obtain ⟨ht4, hc1, hf1⟩ := ht3.wr.pushAt hgrow hown (by simpa using hat)
    obtain ⟨g3, cap3, rfl⟩ := cown_slice hown
    have ht5 := ht3.trans ht4
    clear hown hgrow hat ht4 hcl3 hfr3 ht3
    go_wp2
    go_end0
    exact ⟨rfl, _, by simpa using ht5⟩

set_option maxHeartbeats 800000 in
set_option maxRecDepth 100000 in
theorem fixed_long (N p : Nat) (v : Value) (ab : Option Addr) (cb : Nat) (size : Int) (S : Nat) (xs bs : List Int) (w : World) (hw : Wr N w p v xs) (hb : Bs w (.slice ab bs.length cb) bs) (hs : ¬ size < 0) (h64 : S ≤ 65536) (hcb : bs.length ≤ cb)
    (e1 : (if (65536 : Int) < size then (65536 : Int) else size) = (S : Int)) (hh : S ≤ bs.length) (hlen : xs.length + 65536 ≤ 1099511627776) :
    Calls Tryz.prog 123 #[.pointer (some ⟨p, 0, none⟩), .slice ab bs.length cb, .int .i64 size] w fun e w' => e = .returned (.tuple #[]) ∧ ∃ v', WrTo N p w v w' v' (xs ++ bs.take S ++ List.replicate (S - S) 0) := by
  obtain ⟨i0, hi, hz0, hz1, hz2⟩ := info_parts cinfo5
  have hcl := hw.cell
  have hfr := hw.frozen
  have hd := WrToT.drew hw
  have hb1 : Bs w.drew (.slice ab S S) (bs.take S) := Bs.front hb (by omega)
  have hN : N ≤ w.heap.size := by have := hw.lt; have := hw.le; omega
  have hk1 : (S : Int) ≤ (cb : Int) := by omega
  have hs2 : ¬ ((bs.length : Int) < (S : Int)) := by omega
  have htl : (bs.take S).length = S := by simp; try omega
  have hl1 : xs.length + (bs.take S).length ≤ 1099511627776 := by omega
  generalize hts : bs.take S = ts at *
  have htl' : ts.length ≤ S := by omega
  clear hts htl
  go_enter Tryz.func123, Tryz.ntmps123
  go_wp2
  go_region_law ((refine step_app (by rfl) (.tmp 19) (.tmp 23) 33 (by rfl) N i0 Tryz.underlying33 hi hz0 hz1 hz2 v (.slice ab S S) xs.length xs ts (by rfl) hd.wr.own (by rfl) hb1 hl1 hN ?_; intro v2 w2 hown hgrow hat; obtain ⟨ht2, hc1, hf1⟩ := hd.wr.pushAt hgrow hown hat; obtain ⟨g, cap, rfl⟩ := cown_slice hown))
  have ht3 := hd.trans ht2
  have hcl3 := ht3.wr.cell
  have hfr3 := ht3.wr.frozen
  have hN3 : N ≤ w2.heap.size := by have h1 := ht3.wr.lt; have h2 := ht3.wr.le; simp at h1; omega
  clear hown hgrow hat ht2 hc1 hf1 hd hcl hfr e1
  go_wp2_with (at_builtin; go_must (refine wpList_app_zeros rfl (.tmp 31) (.tmp 34) 33 3 rfl N i0 .i64 Tryz.underlying33 Tryz.underlying3 hi hz0 hz1 hz2 _ _ (S - S) _ rfl ht3.wr.own _ rfl ?c0 ?c1 ?c2 ?next))
  case c0 => omega
  case c1 => simp; omega
  case c2 => simpa using hN3
  case next =>
    intro v3 w3 hown hgrow hat
    obtain ⟨ht4, hc1, hf1⟩ := ht3.wr.pushAt hgrow hown (by simpa using hat)
    obtain ⟨g3, cap3, rfl⟩ := cown_slice hown
    have ht5 := ht3.trans ht4
    clear hown hgrow hat ht4 hcl3 hfr3 ht3
    go_wp2
    go_end0
    exact ⟨rfl, _, by simpa using ht5⟩

/-- What Fixed lays: the first bytes, and bytes 0 behind. -/
def fixB (bs : List Int) (size : Int) : List Int := bs.take (min size 65536).toNat ++ List.replicate ((min size 65536).toNat - bs.length) 0
theorem fixB_neg (bs : List Int) (size : Int) (h : size < 0) : fixB bs size = [] := by
  have e : (min size 65536).toNat = 0 := by omega
  simp [fixB, e]
theorem fixB_len (bs : List Int) (size : Int) : (fixB bs size).length = (min size 65536).toNat := by
  simp [fixB]; omega

theorem fixed_any (N p : Nat) (v b : Value) (size : Int) (xs bs : List Int) (w : World) (hw : Wr N w p v xs) (hb : Bs w b bs) (hlen : xs.length + 65536 ≤ 1099511627776) :
    Calls Tryz.prog 123 #[.pointer (some ⟨p, 0, none⟩), b, .int .i64 size] w fun e w' => e = .returned (.tuple #[]) ∧ ∃ v', WrTo N p w v w' v' (xs ++ fixB bs size) := by
  by_cases hs : size < 0
  · refine (fixed_neg N p v b size xs w hw hs).mono ?_
    rintro e w' ⟨rfl, v', h⟩
    exact ⟨rfl, v', by rw [fixB_neg bs size hs, List.append_nil]; exact h⟩
  · obtain ⟨ab, cb, hbv, hcb⟩ : ∃ a c, b = .slice a bs.length c ∧ bs.length ≤ c := by
      rcases hb with ⟨rfl, rfl⟩ | ⟨a, c, rfl, h, _⟩
      · exact ⟨none, 0, rfl, Nat.le_refl _⟩
      · exact ⟨_, _, rfl, h⟩
    subst hbv
    have e1 : (if (65536 : Int) < size then (65536 : Int) else size) = ((min size 65536).toNat : Int) := by split <;> omega
    have hS : (min size 65536).toNat ≤ 65536 := by omega
    unfold fixB
    generalize (min size 65536).toNat = S at *
    by_cases hh : bs.length < S
    · refine (fixed_short N p v ab cb size S xs bs w hw hb hs hS hcb e1 hh hlen).mono ?_
      rintro e w' ⟨rfl, v', h⟩
      refine ⟨rfl, v', ?_⟩
      rw [List.take_of_length_le (by omega)] at h ⊢
      rw [← List.append_assoc]; exact h
    · refine (fixed_long N p v ab cb size S xs bs w hw hb hs hS hcb e1 (by omega) hlen).mono ?_
      rintro e w' ⟨rfl, v', h⟩
      refine ⟨rfl, v', ?_⟩
      have e0 : S - bs.length = 0 := by omega
      rw [e0, ← List.append_assoc]
      simpa using h
end Go.Proofs.YtlnjnimenihhnaaGreatDoor

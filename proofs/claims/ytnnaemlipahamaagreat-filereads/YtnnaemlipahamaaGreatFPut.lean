/-
  Put of package file.
-/
import Derived.Test.YtnnaemlipahamaaGreatFApp1
namespace Go.Proofs.YtnnaemlipahamaaGreat
open Go.RowKit Go.Maps

theorem pad_splice {bs b : List Int} {off : Nat} (h : off + b.length ≤ bs.length) : pad (splice bs off b) = splice (pad bs) off b := by
  have e := splice_len h
  unfold pad
  rw [e]
  unfold splice
  rw [List.take_append_of_le_length (by omega), List.drop_append_of_le_length h, ← List.append_assoc]
section
variable {c : Cx} {X : Nat → Prop} {w : World} {V : Nat → List Int} {T : Nat → Bool} {nd : Nd} {B : Nat → Nat} {bs b : List Int}
set_option maxHeartbeats 800000 in
theorem put_ok (off : Nat) (u : Value) (hs : Fs c X w V T) (hF : File c V nd B T bs) (ho : c.Ok) (hl : off + b.length ≤ bs.length) (hb : Bs w u b) (hub : ∀ g, u.ownBlock = some g → 0 < b.length → X g) (hby : IsBy b) (hL : ∀ i, off / 512 ≤ i → 512 * i < off + b.length → B (2 * i) ∈ c.L) :
    Calls Tryz.prog 17 #[.pointer (some ⟨c.q, 0, none⟩), nd.v, .int .i64 (off : Int), u] w fun e w' => e = .returned (.int .i64 0) ∧
      ∃ V', Fs c X w' V' T ∧ File c V' nd B T (splice bs off b) ∧ (∀ n, (∀ i, i < blkC bs.length → B (2 * i) ≠ n) → V' n = V n) ∧ Sm X w w' := by
  have hsz := hF.sz
  have hlim := hF.lim
  have hc0 := Chg.alloc (fun _ => False) w (nd.o 29)
  have hbl : bs.length ≤ 512 * blkC bs.length := by unfold blkC; omega
  have MB : Hid (Calls Tryz.prog 46 #[nd.v] (w.alloc (nd.o 29)) fun e w1 => e = .returned (.bool true) ∧ Chg (fun _ => False) (w.alloc (nd.o 29)) w1) := maybe_any nd _ (by omega) (by omega)
  have LY : Hid (∀ w1, Chg (fun _ => False) w w1 → Calls Tryz.prog 45 #[tI c.q, nd.v, .int .i64 (off : Int), u] w1 fun e w' => e = .returned (.int .i64 0) ∧ Hid (∃ V', Fs c X w' V' T ∧ File c V' nd B T (splice bs off b) ∧ (∀ n, (∀ i, i < blkC bs.length → B (2 * i) ≠ n) → V' n = V n) ∧ Sm X w w')) := fun w1 h1 => by
    refine (lay_any off u b (hs.more h1) hF.fl ho hF.ct (hb.kept h1 (fun _ _ _ _ _ h => h)) hub (by omega) (by unfold blkC; omega) hby hL).mono ?_
    rintro e w' ⟨rfl, V', f1, f2, f3, f4, f5⟩
    have e := splice_len hl
    refine ⟨rfl, V', f1, ⟨by rw [e]; exact f2, by rw [e, pad_splice hl]; exact f3, by rw [e]; exact hsz, by rw [e]; exact hlim, fun y hy => ?_⟩, f4, (Sm.ofChg h1 hs.tv.xlt).trans f5⟩
    unfold splice at hy
    rcases List.mem_append.1 hy with hy | hy
    · rcases List.mem_append.1 hy with hy | hy
      · exact hF.by' y (List.mem_of_mem_take hy)
      · exact hby y hy
    · exact hF.by' y (List.mem_of_mem_drop hy)
  have hn1 : NdB 29 (w.alloc (nd.o 29)) w.heap.size nd := heap_alloc_new _ _
  obtain ⟨S0, hS0⟩ : ∃ S0, bs.length = S0 := ⟨_, rfl⟩
  rw [hS0] at hsz hl hlim
  obtain ⟨ua, uc, rfl, huc⟩ := hb.formB
  obtain ⟨lb, hlb⟩ : ∃ lb, b.length = lb := ⟨_, rfl⟩
  rw [hlb] at LY hl
  rw [hlb]
  obtain ⟨kd, lk, zz, e0, e1, e2, e3, e4, e5, e6, e7, on, tw⟩ := nd
  obtain rfl : zz = (S0 : Int) := hsz
  have HN1 : Hid (NdAt (w.alloc (Nd.o ⟨kd, lk, _, e0, e1, e2, e3, e4, e5, e6, e7, on, tw⟩ 29)) w.heap.size _) := hn1.at
  have HC0 : Hid _ := hc0
  have k0 : decide ((off : Int) < 0) = false := by simp
  have k1 : ¬ ((S0 : Int) - (off : Int) < (lb : Int)) := by omega
  have k2 : decide ((S0 : Int) - (off : Int) < (lb : Int)) = false := by simp; omega
  clear hs hF ho hb hub hby hL hc0 hbl hn1 hlb hS0 huc
  go_enter Tryz.func17, Tryz.ntmps17
  go_wp2_with fail
  refine (show Calls _ _ _ _ _ from MB.out).mono ?_
  clear MB
  rintro e w1 ⟨rfl, hc1⟩
  have hA := HN1.out.kept hc1 (fun h => h)
  have L1 : Hid _ := LY.out w1 ((show Chg _ _ _ from HC0.out).trans hc1 (fun _ _ h => h))
  obtain ⟨c0, c1, c2, c3, c4, c5, c6, c7, c8, c9, c10, c11, c12⟩ := hA
  simp only at c0 c1 c2 c3 c4 c5 c6 c7 c8 c9 c10 c11 c12
  clear HN1 HC0 hc1 LY
  go_wp2_with fail
  refine (show Calls _ _ _ _ _ from L1.out).mono ?_
  rintro e w2 ⟨rfl, HZ⟩
  go_wp2
  go_ret
  exact ⟨rfl, HZ.out⟩
set_option maxHeartbeats 800000 in
theorem put_bad (off : Int) (u : Value) (h0 : -9223372036854775808 ≤ off) (h1 : off < 9223372036854775808) (sz : Nat) (hsz : nd.sz = (sz : Int)) (hlim : sz ≤ 8458240) (hb : Bs w u b) (hbl : b.length ≤ 16777216) (hbad : off < 0 ∨ (sz : Int) < off + (b.length : Int)) (q : Nat) :
    Calls Tryz.prog 17 #[.pointer (some ⟨q, 0, none⟩), nd.v, .int .i64 off, u] w fun e w' => e = .returned (.int .i64 1) ∧ Chg (fun _ => False) w w' := by
  have hc0 := Chg.alloc (fun _ => False) w (nd.o 29)
  have MB : Hid (Calls Tryz.prog 46 #[nd.v] (w.alloc (nd.o 29)) fun e w1 => e = .returned (.bool true) ∧ Chg (fun _ => False) (w.alloc (nd.o 29)) w1) := maybe_any nd _ (by omega) (by omega)
  have hn1 : NdB 29 (w.alloc (nd.o 29)) w.heap.size nd := heap_alloc_new _ _
  obtain ⟨ua, uc, rfl, huc⟩ := hb.formB
  obtain ⟨lb, hlb⟩ : ∃ lb, b.length = lb := ⟨_, rfl⟩
  rw [hlb] at hbad hbl
  rw [hlb]
  obtain ⟨kd, lk, zz, e0, e1, e2, e3, e4, e5, e6, e7, on, tw⟩ := nd
  obtain rfl : zz = (sz : Int) := hsz
  have HN1 : Hid (NdAt (w.alloc (Nd.o ⟨kd, lk, _, e0, e1, e2, e3, e4, e5, e6, e7, on, tw⟩ 29)) w.heap.size _) := hn1.at
  have HC0 : Hid _ := hc0
  clear hb hc0 hn1 hlb huc
  by_cases hneg : off < 0
  · have k0 : decide (off < 0) = true := by simpa using hneg
    clear hbad MB HN1
    go_enter Tryz.func17, Tryz.ntmps17
    go_wp2
    go_ret
    exact ⟨rfl, HC0.out⟩
  · have k0 : decide (off < 0) = false := by simpa using hneg
    have k1 : (sz : Int) - off < (lb : Int) := by omega
    have k2 : decide ((sz : Int) - off < (lb : Int)) = true := by simp; omega
    clear hbad
    go_enter Tryz.func17, Tryz.ntmps17
    go_wp2_with fail
    refine (show Calls _ _ _ _ _ from MB.out).mono ?_
    clear MB
    rintro e w1 ⟨rfl, hc1⟩
    have hA := HN1.out.kept hc1 (fun h => h)
    have HC : Hid (Chg (fun _ => False) w w1) := (show Chg _ _ _ from HC0.out).trans hc1 (fun _ _ h => h)
    obtain ⟨c0, c1, c2, c3, c4, c5, c6, c7, c8, c9, c10, c11, c12⟩ := hA
    simp only at c0 c1 c2 c3 c4 c5 c6 c7 c8 c9 c10 c11 c12
    clear HN1 HC0 hc1
    go_wp2
    go_ret
    exact ⟨rfl, HC.out⟩
end
end Go.Proofs.YtnnaemlipahamaaGreat

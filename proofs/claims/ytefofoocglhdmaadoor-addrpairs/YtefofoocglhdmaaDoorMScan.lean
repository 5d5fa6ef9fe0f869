/-
  The scanner in memory; front, take, mark, run.
-/
import Derived.Test.YtefofoocglhdmaaDoorMPure
import Derived.Test.YtefofoocglhdmaaDoorPMem
import Derived.WalkMore
import Derived.OwnWalk
import Derived.Deep.DeepMust
import Derived.Laws.EntriesVeiled
namespace Go.Proofs.YtefofoocglhdmaaDoor
open Go.RowKit

theorem toHid {p : Prop} (h : p) : Hid p := h
theorem bl_data (s : ByteArray) : bl s.data.toList = s := rfl
theorem bl_size (l : List UInt8) : (bl l).size = l.length := by show l.toArray.size = l.length; simp
theorem bl_ext (l : List UInt8) (a b : Nat) : (bl l).extract a b = bl ((l.drop a).take (b - a)) := by
  apply ByteArray.ext
  rw [ByteArray.data_extract]
  apply Array.ext'
  rw [Array.toList_extract, List.extract_eq_take_drop]
theorem bl_take (l : List UInt8) (k : Nat) : (bl l).extract 0 k = bl (l.take k) := by rw [bl_ext]; rfl
theorem bl_drop (l : List UInt8) (k : Nat) : (bl l).extract k (bl l).size = bl (l.drop k) := by
  rw [bl_ext, bl_size]
  congr 2
  rw [← List.length_drop, List.take_length]
theorem bl_get (l : List UInt8) (k : Nat) (h : k < (bl l).size) : (bl l)[k] = l.getD k 0 := by
  have h' : k < l.length := by rw [bl_size] at h; exact h
  show l.toArray[k] = _
  simp [List.getD, h']
theorem bl_inj {a b : List UInt8} (h : bl a = bl b) : a = b := by
  have := congrArg (fun s => s.data.toList) h
  exact this
theorem bl_toList (l : List UInt8) : (bl l).toList = l := by rw [ByteArray.toList_eq]

/-- A scanner in block b: these bytes are left. -/
structure Sc (w : World) (b : Nat) (l : List UInt8) : Prop where
  blk : w.heap[b]? = some (.cells #[.string (bl l)] 51 (0, 0))
  len : l.length ≤ 1099511627776
theorem Sc.lt {w : World} {b : Nat} {l : List UInt8} (h : Sc w b l) : b < w.heap.size := lt_of_block h.blk
theorem Sc.c {w : World} {b : Nat} {l : List UInt8} (h : Sc w b l) : w.cell? ⟨b, 0, none⟩ = some (.string (bl l)) := by rw [cell_of_row w b 0 _ _ _ h.blk]; rfl
theorem Sc.fr {w : World} {b : Nat} {l : List UInt8} (h : Sc w b l) : w.frozen? ⟨b, 0, none⟩ = false := by simp [World.frozen?, h.blk]
theorem Sc.kept {S : Nat → Prop} {w w' : World} {b : Nat} {l : List UInt8} (h : Sc w b l) (hc : Chg S w w') (hS : ¬ S b) : Sc w' b l := ⟨(hc.block b h.lt hS).trans h.blk, h.len⟩
theorem Sc.set {w : World} {b : Nat} {l : List UInt8} (h : Sc w b l) (m : List UInt8) (hm : m.length ≤ l.length) : Sc (w.setCell ⟨b, 0, none⟩ (.string (bl m))) b m :=
  ⟨heap_setCell_same w b 0 _ _ _ h.blk, Nat.le_trans hm h.len⟩
/-- Only the scanner has changed. -/
abbrev On (b : Nat) (w w' : World) : Prop := Chg (fun k => k = b) w w'
theorem On.set (b : Nat) (w : World) (v : Value) : On b w (w.setCell ⟨b, 0, none⟩ v) := Chg.setCell (S := fun k => k = b) w ⟨b, 0, none⟩ v rfl
theorem On.trans {b : Nat} {w w1 w2 : World} (h : On b w w1) (k : On b w1 w2) : On b w w2 := Chg.trans h k fun _ _ h => h

set_option maxHeartbeats 1600000 in
theorem front_any (w : World) (b : Nat) (l : List UInt8) (h : Sc w b l) :
    Calls Tryd.prog 47 #[.pointer (some ⟨b, 0, none⟩)] w fun e w' => e = .returned (.int .u8 ((l.headD 0).toNat : Int)) ∧ w' = w := by
  have c0 := h.c
  clear h
  cases l with
  | nil =>
    have e0 : bl [] = ⟨#[]⟩ := rfl
    rw [e0] at c0
    go_enter Tryd.func47, Tryd.ntmps47
    go_wp2_with fail
    go_ret
    exact ⟨rfl, rfl⟩
  | cons x xs =>
    obtain ⟨s, hs⟩ : ∃ s, bl (x :: xs) = s := ⟨_, rfl⟩
    have q1 : (s.toList == []) = false := by rw [← hs, bl_toList]; rfl
    have q2 : (0 : Int) < s.size := by rw [← hs, bl_size, List.length_cons]; omega
    have q3 : Hid (∀ h : 0 < s.size, s[0] = x) := fun h => by subst hs; rw [bl_get]; rfl
    rw [hs] at c0
    clear hs
    go_enter Tryd.func47, Tryd.ntmps47
    go_wp2_with fail
    go_ret
    refine ⟨?_, rfl⟩
    have := q3.out (by omega)
    simp [this]

set_option maxHeartbeats 1600000 in
theorem take_any (w : World) (b : Nat) (l : List UInt8) (h : Sc w b l) :
    Calls Tryd.prog 61 #[.pointer (some ⟨b, 0, none⟩)] w fun e w' => e = .returned (.int .u8 ((l.headD 0).toNat : Int)) ∧ Sc w' b l.tail ∧ On b w w' := by
  have H : Hid (Sc w b l) := h
  have c0 := h.c
  have f0 := h.fr
  clear h
  cases l with
  | nil =>
    have e0 : bl [] = ⟨#[]⟩ := rfl
    rw [e0] at c0
    go_enter Tryd.func61, Tryd.ntmps61
    go_wp2_with (go_at_call 47; refine (front_any _ b _ H.out).mono ?_; rintro e w1 ⟨rfl, rfl⟩)
    go_ret
    exact ⟨rfl, H.out, Chg.refl _ _⟩
  | cons x xs =>
    obtain ⟨X, hX⟩ : ∃ X : Int, ((List.headD (x :: xs) 0).toNat : Int) = X := ⟨_, rfl⟩
    have HF : Hid (Calls Tryd.prog 47 #[.pointer (some ⟨b, 0, none⟩)] w fun e w' => e = .returned (.int .u8 X) ∧ w' = w) := by
      have := front_any w b _ H.out
      rw [hX] at this
      exact this
    have HX : Hid (((List.headD (x :: xs) 0).toNat : Int) = X) := hX
    obtain ⟨s, hs⟩ : ∃ s, bl (x :: xs) = s := ⟨_, rfl⟩
    have q1 : (s.toList == []) = false := by rw [← hs, bl_toList]; rfl
    have q2 : (1 : Int) ≤ s.size := by rw [← hs, bl_size, List.length_cons]; omega
    have q3 : Hid (s.extract 1 s.size = bl xs) := by show _ = _; rw [← hs, bl_drop]; rfl
    rw [hs] at c0
    clear hs hX
    go_enter Tryd.func61, Tryd.ntmps61
    go_wp2_with (go_at_call 47; refine HF.out.mono ?_; rintro e w1 ⟨rfl, rfl⟩)
    go_ret
    rw [q3.out, HX.out]
    exact ⟨rfl, H.out.set xs (by simp), On.set _ _ _⟩

theorem i_eq {x y : UInt8} (h : x = y) : ((x.toNat : Int) == (y.toNat : Int)) = true := by rw [h]; simp
theorem i_ne {x y : UInt8} (h : ¬ x = y) : ((x.toNat : Int) == (y.toNat : Int)) = false := by
  refine beq_eq_false_iff_ne.2 fun e => h (UInt8.toNat_inj.1 (by omega))

set_option maxHeartbeats 1600000 in
theorem mark_any (w : World) (b : Nat) (l : List UInt8) (c : UInt8) (h : Sc w b l) :
    Calls Tryd.prog 46 #[.pointer (some ⟨b, 0, none⟩), .int .u8 (c.toNat : Int)] w fun e w' => e = .returned (.bool (decide (l.headD 0 = c))) ∧ Sc w' b (if l.headD 0 = c then l.tail else l) ∧ On b w w' := by
  have H : Hid (Sc w b l) := h
  obtain ⟨X, hX⟩ : ∃ X : Int, ((List.headD l 0).toNat : Int) = X := ⟨_, rfl⟩
  have HF : Hid (Calls Tryd.prog 47 #[.pointer (some ⟨b, 0, none⟩)] w fun e w' => e = .returned (.int .u8 X) ∧ w' = w) := by
    have := front_any w b _ h
    rw [hX] at this
    exact this
  have HT : Hid (Calls Tryd.prog 61 #[.pointer (some ⟨b, 0, none⟩)] w fun e w' => e = .returned (.int .u8 X) ∧ Sc w' b l.tail ∧ On b w w') := by
    have := take_any w b _ h
    rw [hX] at this
    exact this
  clear h
  by_cases hc : l.headD 0 = c
  · have q1 : (X == (c.toNat : Int)) = true := by rw [← hX]; exact i_eq hc
    rw [if_pos hc, decide_eq_true hc]
    clear hX hc
    obtain ⟨C, hC⟩ : ∃ C : Int, (c.toNat : Int) = C := ⟨_, rfl⟩
    rw [hC] at q1 ⊢
    clear hC
    go_enter Tryd.func46, Tryd.ntmps46
    go_wp2_with (first
      | (go_at_call 47; refine HF.out.mono ?_; rintro e w1 ⟨rfl, rfl⟩)
      | (go_at_call 61; refine HT.out.mono ?_; rintro e w1 ⟨rfl, hS, hO⟩))
    go_ret
    exact ⟨rfl, hS, hO⟩
  · have q1 : (X == (c.toNat : Int)) = false := by rw [← hX]; exact i_ne hc
    rw [if_neg hc, decide_eq_false hc]
    clear hX hc
    obtain ⟨C, hC⟩ : ∃ C : Int, (c.toNat : Int) = C := ⟨_, rfl⟩
    rw [hC] at q1 ⊢
    clear hC
    go_enter Tryd.func46, Tryd.ntmps46
    go_wp2_with (first
      | (go_at_call 47; refine HF.out.mono ?_; rintro e w1 ⟨rfl, rfl⟩))
    go_ret
    exact ⟨rfl, H.out, Chg.refl _ _⟩

theorem tw_at {p : UInt8 → Bool} {l : List UInt8} {n : Nat} (h : ∀ j, j < n → p (l.getD j 0) = true) (hn : n ≤ l.length) (he : n < l.length → p (l.getD n 0) = false) : l.takeWhile p = l.take n ∧ l.dropWhile p = l.drop n := by
  induction l generalizing n with
  | nil => simp
  | cons x xs ih =>
    cases n with
    | zero =>
      have hx : ¬ p x = true := by have := he (by simp); simpa using this
      rw [List.takeWhile_cons_of_neg hx, List.dropWhile_cons_of_neg hx]
      exact ⟨rfl, rfl⟩
    | succ m =>
      have hx : p x = true := by have := h 0 (by omega); simpa using this
      obtain ⟨a, b⟩ := ih (n := m) (fun j hj => by have := h (j + 1) (by omega); simpa using this) (by simpa using hn) (fun hh => by have := he (by simpa using hh); simpa using this)
      rw [List.takeWhile_cons_of_pos hx, List.dropWhile_cons_of_pos hx, a, b]
      exact ⟨rfl, rfl⟩

set_option maxHeartbeats 1600000 in
theorem run_any (w : World) (b : Nat) (l : List UInt8) (n : Nat) (p : UInt8 → Bool) (h : Sc w b l)
    (hn : ∀ (x : Value) (w : World), (callFunc n #[x]).run Tryd.prog w = .ok (.enter n #[x]) w)
    (hp : Hid (∀ (c : UInt8) (w : World), Calls Tryd.prog n #[.int .u8 (c.toNat : Int)] w fun e w' => e = .returned (.bool (p c)) ∧ w' = w)) :
    Calls Tryd.prog 62 #[.pointer (some ⟨b, 0, none⟩), .func (.func n) #[] #[]] w fun e w' => e = .returned (.string (bl (l.takeWhile p))) ∧ Sc w' b (l.dropWhile p) ∧ On b w w' := by
  have H : Hid (Sc w b l) := h
  have c0 := h.c
  have f0 := h.fr
  obtain ⟨s, hs⟩ : ∃ s, bl l = s := ⟨_, rfl⟩
  have hz : s.size = l.length := by rw [← hs, bl_size]
  have HZ : Hid (s.size = l.length) := hz
  have hl : s.size ≤ 1099511627776 := hz ▸ h.len
  clear hz h
  have HG : Hid (∀ k, (hk : k < s.size) → s[k] = l.getD k 0) := fun k hk => by subst hs; rw [bl_get]
  have HS : Hid (bl l = s) := hs
  rw [hs] at c0
  clear hs
  go_enter Tryd.func62, Tryd.ntmps62
  go_wp2_with fail
  go_loopw [5] (fun i wr => ∃ k : Nat, k ≤ s.size ∧ i = .int .i64 k ∧ wr = w ∧ Hid (∀ j, j < k → p (l.getD j 0) = true)) (fun i _ => s.size - (intOf i).toNat)
  case atStart => exact ⟨0, Nat.zero_le _, rfl, rfl, fun j h => by omega⟩
  case round =>
    obtain ⟨k, hk, rfl, rfl, hA⟩ := hrel
    by_cases hlt : k < s.size
    · have q1 : (k : Int) < s.size := by omega
      have hg := HG.out k hlt
      cases hc : p (l.getD k 0) with
      | true =>
        have hA' : Hid (∀ j, j < k + 1 → p (l.getD j 0) = true) := fun j h => by
          rcases (by omega : j < k ∨ j = k) with h | rfl
          · exact hA.out j h
          · exact hc
        have HC : Hid (∀ w : World, Calls Tryd.prog n #[.int .u8 (s[k].toNat : Int)] w fun e w' => e = .returned (.bool true) ∧ w' = w) := fun w => by
          have := hp.out (l.getD k 0) w
          rw [hc] at this
          rw [hg]
          exact this
        clear hc hg
        go_wp2_with (refine (HC.out _).mono ?_; rintro e w1 ⟨rfl, rfl⟩)
        go_roundw
        case rel => exact ⟨k + 1, by omega, by go_num, trivial, hA'⟩
        case measure => simp [intOf]; omega
      | false =>
        have HC : Hid (∀ w : World, Calls Tryd.prog n #[.int .u8 (s[k].toNat : Int)] w fun e w' => e = .returned (.bool false) ∧ w' = w) := fun w => by
          have := hp.out (l.getD k 0) w
          rw [hc] at this
          rw [hg]
          exact this
        obtain ⟨t1, t2⟩ := tw_at hA.out (by have := HZ.out; omega) (fun _ => hc)
        have T1 : Hid (s.extract 0 k = bl (l.takeWhile p)) := by show _ = _; rw [← HS.out, bl_take, t1]
        have T2 : Hid (s.extract k s.size = bl (l.dropWhile p)) := by show _ = _; rw [← HS.out, bl_drop, t2]
        have T3 : Hid ((l.dropWhile p).length ≤ l.length) := by show _ ≤ _; rw [t2, List.length_drop]; omega
        clear hc hg t1 t2
        go_wp2_with (refine (HC.out _).mono ?_; rintro e w1 ⟨rfl, rfl⟩)
        go_ret
        rw [T1.out, T2.out]
        exact ⟨rfl, H.out.set _ T3.out, On.set _ _ _⟩
    · have q1 : ¬ (k : Int) < s.size := by omega
      obtain ⟨t1, t2⟩ := tw_at hA.out (by have := HZ.out; omega) (fun h => by have := HZ.out; omega)
      have T1 : Hid (s = bl (l.takeWhile p)) := by show _ = _; rw [t1, ← HS.out, List.take_of_length_le (by have := HZ.out; omega)]
      have T2 : Hid (ByteArray.empty = bl (l.dropWhile p)) := by show _ = _; rw [t2, List.drop_of_length_le (by have := HZ.out; omega)]; rfl
      have T3 : Hid ((l.dropWhile p).length ≤ l.length) := by show _ ≤ _; rw [t2, List.length_drop]; omega
      obtain rfl : k = s.size := by omega
      clear t1 t2
      go_wp2_with fail
      go_ret
      rw [T2.out]
      exact ⟨congrArg (fun x => Ending.returned (.string x)) T1.out, H.out.set _ T3.out, On.set _ _ _⟩
end Go.Proofs.YtefofoocglhdmaaDoor

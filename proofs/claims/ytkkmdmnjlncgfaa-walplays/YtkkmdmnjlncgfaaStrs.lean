/-
  Bytes as strings: unlike bytes are unlike strings; bytes.Equal.
-/
import Derived.Test.YtkkmdmnjlncgfaaWSmall
import Derived.Deep.RegionHeld
namespace Go.Proofs.Ytkkmdmnjlncgfaa
open Go.RowKit Go.Maps

theorem strOf_list (xs : List Int) : (strOf xs).data.toList = xs.map (fun n => UInt8.ofNat n.toNat) := by
  have h : ∀ (l : List Int) (s : ByteArray), (l.foldl (fun r n => r.push (UInt8.ofNat n.toNat)) s).data.toList = s.data.toList ++ l.map (fun n => UInt8.ofNat n.toNat) := by
    intro l
    induction l with
    | nil => intro s; simp
    | cons x r ih => intro s; rw [List.foldl_cons, ih]; simp [ByteArray.push]
  have := h xs ByteArray.empty
  simpa [strOf] using this
theorem map_inj (xs ys : List Int) (hx : IsB xs) (hy : IsB ys) (h : xs.map (fun n => UInt8.ofNat n.toNat) = ys.map (fun n => UInt8.ofNat n.toNat)) : xs = ys := by
  induction xs generalizing ys with
  | nil => cases ys with
    | nil => rfl
    | cons y s => simp at h
  | cons x r ih =>
    cases ys with
    | nil => simp at h
    | cons y s =>
      simp only [List.map_cons, List.cons.injEq] at h
      have a := hx x (List.mem_cons_self ..)
      have b := hy y (List.mem_cons_self ..)
      have e : x = y := by
        have h1 := congrArg UInt8.toNat h.1
        rw [UInt8.toNat_ofNat', UInt8.toNat_ofNat'] at h1
        omega
      rw [e, ih s (fun z hz => hx z (List.mem_cons_of_mem _ hz)) (fun z hz => hy z (List.mem_cons_of_mem _ hz)) h.2]
theorem strOf_inj (xs ys : List Int) (hx : IsB xs) (hy : IsB ys) (h : strOf xs = strOf ys) : xs = ys := by
  refine map_inj xs ys hx hy ?_
  rw [← strOf_list, ← strOf_list, h]

theorem str_ne (xs ys : List Int) (hx : IsB xs) (hy : IsB ys) (h : xs ≠ ys) : ((strOf xs).toList == (strOf ys).toList) = false := by
  rw [ByteArray.toList_eq, ByteArray.toList_eq, strOf_list, strOf_list]
  simp only [beq_eq_false_iff_ne, ne_eq]
  exact fun e => h (map_inj xs ys hx hy e)
theorem str_same (t : ByteArray) : (t.toList == t.toList) = true := by simp

set_option maxHeartbeats 400000 in
theorem equal_same (a b : Value) (xs : List Int) (w : World) (ha : Bs w a xs) (hb : Bs w b xs) : Calls Try.prog 77 #[a, b] w fun e w' => e = .returned (.bool true) ∧ w' = w := by
  have s1 := run_str ha
  have s2 := run_str hb
  obtain ⟨t, ht⟩ : ∃ t, strOf xs = t := ⟨_, rfl⟩
  rw [ht] at s1 s2
  have hs := str_same t
  clear ha hb ht
  go_enter Try.func77, Try.ntmps77
  go_wp2
  go_ret
  simp
set_option maxHeartbeats 400000 in
theorem equal_not (a b : Value) (xs ys : List Int) (w : World) (ha : Bs w a xs) (hb : Bs w b ys) (hx : IsB xs) (hy : IsB ys) (h : xs ≠ ys) : Calls Try.prog 77 #[a, b] w fun e w' => e = .returned (.bool false) ∧ w' = w := by
  have s1 := run_str ha
  have s2 := run_str hb
  have hs := str_ne xs ys hx hy h
  obtain ⟨t, ht⟩ : ∃ t, strOf xs = t := ⟨_, rfl⟩
  obtain ⟨t2, ht2⟩ : ∃ t, strOf ys = t := ⟨_, rfl⟩
  rw [ht] at s1 hs
  rw [ht2] at s2 hs
  clear ha hb ht ht2
  go_enter Try.func77, Try.ntmps77
  go_wp2
  go_ret
  simp at hs ⊢
end Go.Proofs.Ytkkmdmnjlncgfaa

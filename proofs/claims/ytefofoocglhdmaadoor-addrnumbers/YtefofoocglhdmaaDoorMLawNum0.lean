/-
  decimal; four numbers in brackets.
-/
import Derived.Test.YtefofoocglhdmaaDoorMRef4
namespace Go.Proofs.YtefofoocglhdmaaDoor
open Go.RowKit

theorem dig_u8 (i : Nat) (h : i < 10) : (UInt8.ofNat (48 + i)).toNat = 48 + i := by
  rw [UInt8.toNat_ofNat']
  omega
theorem dd_step (n : Nat) : Lib.decDigits n = (if n < 10 then [] else Lib.decDigits (n / 10)) ++ [UInt8.ofNat (48 + n % 10)] := by
  conv => lhs; rw [Lib.decDigits]
  by_cases h : n < 10
  · rw [dif_pos h, if_pos h, Nat.mod_eq_of_lt h]; rfl
  · rw [dif_neg h, if_neg h]
theorem dd_val (n : Nat) : valD (Lib.decDigits n) = n := by
  induction n using Nat.strongRecOn with
  | ind n ih =>
    rw [dd_step, valD_snoc, dig_u8 _ (by omega)]
    by_cases h : n < 10
    · rw [if_pos h]; simp [valD]; omega
    · rw [if_neg h, ih (n / 10) (by omega)]; omega
theorem dd_dig (n : Nat) : (Lib.decDigits n).all inDig = true := by
  induction n using Nat.strongRecOn with
  | ind n ih =>
    rw [dd_step, List.all_append]
    have h1 : inDig (UInt8.ofNat (48 + n % 10)) = true := by
      unfold inDig
      rw [dig_u8 _ (by omega)]
      simp; omega
    by_cases h : n < 10
    · rw [if_pos h, List.all_cons, h1]; rfl
    · rw [if_neg h, ih (n / 10) (by omega), List.all_cons, h1]; rfl
theorem dd_ne (n : Nat) : Lib.decDigits n ≠ [] := by rw [dd_step]; simp
theorem dd_len (n : Nat) (h : n < 100000) : (Lib.decDigits n).length ≤ 5 := by
  have step : ∀ m, (Lib.decDigits m).length = (if m < 10 then 0 else (Lib.decDigits (m / 10)).length) + 1 := fun m => by
    rw [dd_step, List.length_append]; split <;> rfl
  rw [step n, step (n / 10), step (n / 10 / 10), step (n / 10 / 10 / 10), step (n / 10 / 10 / 10 / 10)]
  repeat' split
  all_goals omega
theorem dd_oct (n : Nat) : octB (Lib.decDigits n) = decide (n ≤ 255) := by
  unfold octB
  rw [dd_dig]
  by_cases h : n ≤ 255
  · rw [decide_eq_true h, dec3_eq n (by omega), (dec_ok ⟨n, by omega⟩).1]; rfl
  · rw [decide_eq_false h]
    cases ho : okNum (Lib.decDigits n) with
    | false => rfl
    | true =>
      obtain ⟨v, hv, e⟩ := okNum_dec (dd_dig n) ho
      have := congrArg valD e
      rw [dd_val, ← dec3_eq v (by omega), dd_val] at this
      omega
theorem nought_oct (x : List UInt8) (h : x ≠ []) : octB (48 :: x) = false := by
  unfold octB okNum
  have : 1 < (48 :: x).length := by
    cases x with
    | nil => exact absurd rfl h
    | cons a b => simp
  rw [decide_eq_true this]
  simp
theorem digs_no46 {x : List UInt8} (h : x.all inDig = true) : ∀ c ∈ x, c ≠ 46 := fun c hc e => by
  subst e
  have := List.all_eq_true.1 h _ hc
  revert this; decide
theorem cut4 {a b c d : List UInt8} (ha : a.all inDig = true) (hb : b.all inDig = true) (hc : c.all inDig = true) (hd : d.all inDig = true) : cutD (a ++ 46 :: (b ++ 46 :: (c ++ 46 :: d))) = [a, b, c, d] := by
  rw [cutD_at _ _ (digs_no46 ha), cutD_at _ _ (digs_no46 hb), cutD_at _ _ (digs_no46 hc), cutD_none _ (digs_no46 hd)]
theorem lab_open {l : List UInt8} (h91 : ¬ l.headD 0 = 91) {c : UInt8} (hc : c ∈ l) (hn : orD inLab c = false) : domB l = false := by
  refine domB_no ?_
  unfold domS
  rw [if_neg h91]
  have : ¬ l.dropWhile (orD inLab) = [] := fun e => by
    have := dw_nil e c hc
    rw [hn] at this; cases this
  have e : (l.dropWhile (orD inLab) == []) = false := beq_eq_false_iff_ne.2 this
  rw [e]; simp
theorem four_dom {a b c d : List UInt8} (ha : a.all inDig = true) (hb : b.all inDig = true) (hc : c.all inDig = true) (hd : d.all inDig = true) (la : a.length ≤ 10) (lb : b.length ≤ 10) (lc : c.length ≤ 10) (ld : d.length ≤ 10)
    (ob : octB b = true) (oc : octB c = true) (od : octB d = true) :
    domB (91 :: ((a ++ 46 :: (b ++ 46 :: (c ++ 46 :: d))) ++ [93])) = octB a := by
  have h := dom_numbers (l := 91 :: ((a ++ 46 :: (b ++ 46 :: (c ++ 46 :: d))) ++ [93])) _ rfl
  rw [cut4 ha hb hc hd] at h
  unfold domB
  rw [decide_eq_true (by simp; omega), Bool.true_and, h]
  simp [ob, oc, od]
theorem four_no {a r : List UInt8} (ha : a.all inDig = true) (hne : a ≠ []) : domB (a ++ r ++ [93]) = false := by
  refine lab_open ?_ (c := 93) (by simp) (by decide)
  cases a with
  | nil => exact absurd rfl hne
  | cons x xs =>
    show ¬ x = 91
    rintro rfl
    simp [inDig] at ha

theorem strC_dig (m : Nat) : strC [48 + (m : Int) % 10] = bl [UInt8.ofNat (48 + m % 10)] := by
  have : [48 + (m : Int) % 10] = iB [UInt8.ofNat (48 + m % 10)] := by
    unfold iB
    rw [List.map_cons, dig_u8 _ (by omega)]
    simp
  rw [this, strC_iB]
/-- What decimal has still to say ahead. -/
def preD (m : Nat) : List UInt8 := if m < 10 then [] else Lib.decDigits (m / 10)

set_option maxHeartbeats 1600000 in
set_option maxRecDepth 100000 in
theorem decimal_any (n : Nat) (w : World) (hn : n < 100000) : Calls Tryd.prog 29 #[.int .i64 (n : Int)] w fun e w' => e = .returned (.string (bl (Lib.decDigits n))) ∧ Below w.heap.size w w' := by
  have r0 := run_strC (Bs.one w (48 + (n : Int) % 10))
  rw [strC_dig] at r0
  obtain ⟨T0, hT0⟩ : ∃ T, bl [UInt8.ofNat (48 + n % 10)] = T := ⟨_, rfl⟩
  rw [hT0] at r0
  have HT0 : Hid (T0.size = 1 ∧ preD n ++ T0.data.toList = Lib.decDigits n) := by
    rw [← hT0]
    exact ⟨rfl, (dd_step n).symm⟩
  have HB0 : Hid (Below w.heap.size w (w.alloc (.cells #[.int .u8 (48 + (n : Int) % 10)] 5))) := alloc_below w _
  clear hT0
  go_enter Tryd.func29, Tryd.ntmps29
  go_wp2_with fail
  go_loopw [0, 3] (fun nv sv wr => ∃ (m : Nat) (s : ByteArray), nv = .int .i64 m ∧ sv = .string s ∧ m < 100000 ∧ s.size ≤ 200000 ∧ Hid (Below w.heap.size w wr ∧ s.size + m ≤ n + 1 ∧ preD m ++ s.data.toList = Lib.decDigits n)) (fun nv _ _ => (intOf nv).toNat)
  case atStart => exact ⟨n, T0, rfl, rfl, hn, by have := HT0.out.1; omega, HB0.out, by have := HT0.out.1; omega, HT0.out.2⟩
  case round =>
    obtain ⟨m, s, rfl, rfl, hm, hs, hA⟩ := hrel
    by_cases h10 : 10 ≤ m
    · have q1 : (10 : Int) ≤ m := by omega
      obtain ⟨M, hM⟩ : ∃ M, m / 10 = M := ⟨_, rfl⟩
      have hMi : (m : Int) / 10 = (M : Int) := by omega
      have r1 := run_strC (Bs.one wr (48 + (M : Int) % 10))
      rw [strC_dig] at r1
      obtain ⟨T, hT⟩ : ∃ T, bl [UInt8.ofNat (48 + M % 10)] = T := ⟨_, rfl⟩
      rw [hT] at r1
      have hTs : T.size = 1 := by rw [← hT]; rfl
      have b1 : ¬ 9223372036854775807 < T.size + s.size := by omega
      have hM2 : M < 100000 := by omega
      have HX : Hid (Below w.heap.size w (wr.alloc (.cells #[.int .u8 (48 + (M : Int) % 10)] 5)) ∧ (T ++ s).size + M ≤ n + 1 ∧ preD M ++ (T ++ s).data.toList = Lib.decDigits n) := by
        refine ⟨hA.out.1.alloc hA.out.1.size _, ?_, ?_⟩
        · rw [ByteArray.size_append]; have := hA.out.2.1; omega
        · have h1 := hA.out.2.2
          unfold preD at h1
          rw [if_neg (by omega), hM, dd_step] at h1
          have : (T ++ s).data.toList = [UInt8.ofNat (48 + M % 10)] ++ s.data.toList := by rw [← hT]; simp
          rw [this, ← List.append_assoc]
          exact h1
      have HS : Hid ((T ++ s).size ≤ 200000) := by have := HX.out.2.1; show _ ≤ _; omega
      have HMm : Hid (M < m) := by show M < m; omega
      clear hM hT hTs hA h10
      go_wp2_with fail
      go_roundw
      case rel => exact ⟨M, T ++ s, rfl, rfl, hM2, HS.out, HX.out⟩
      case measure => simp [intOf]; exact HMm.out
    · have q1 : ¬ (10 : Int) ≤ m := by omega
      have HE : Hid (bl (Lib.decDigits n) = s) := by
        show _ = _
        have h1 := hA.out.2.2
        unfold preD at h1
        rw [if_pos (by omega)] at h1
        rw [← h1]
        exact bl_data s
      go_wp2_with fail
      go_ret
      exact ⟨by rw [HE.out]; rfl, hA.out.1⟩
end Go.Proofs.YtefofoocglhdmaaDoor

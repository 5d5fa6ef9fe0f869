/-
  Numbers 0 to 255 as they are written; number, label, word of the scanner.
-/
import Derived.Test.YtefofoocglhdmaaDoorMDot
import Derived.Test.YtefofoocglhdmaaDoorMByte
import Derived.Test.YtefofoocglhdmaaDoorMShelf
namespace Go.Proofs.YtefofoocglhdmaaDoor
open Go.RowKit

/-- A number below 1000 as it is written. -/
def dec3 (v : Nat) : List UInt8 := if v < 10 then [UInt8.ofNat (48 + v)] else if v < 100 then [UInt8.ofNat (48 + v / 10), UInt8.ofNat (48 + v % 10)] else [UInt8.ofNat (48 + v / 100), UInt8.ofNat (48 + v / 10 % 10), UInt8.ofNat (48 + v % 10)]
theorem dec3_eq (v : Nat) (h : v < 1000) : Lib.decDigits v = dec3 v := by
  unfold dec3
  by_cases h1 : v < 10
  · rw [Lib.decDigits, dif_pos h1, if_pos h1]
  · rw [Lib.decDigits, dif_neg h1, if_neg h1]
    by_cases h2 : v < 100
    · rw [Lib.decDigits, dif_pos (by omega), if_pos h2]; rfl
    · rw [Lib.decDigits, dif_neg (by omega), if_neg h2, Lib.decDigits, dif_pos (by omega)]
      have : v / 10 / 10 = v / 100 := by omega
      rw [this]; rfl
theorem dec_ok : ∀ v : Fin 256, okNum (dec3 v.val) = true ∧ Lib.atoiAll (dec3 v.val) = .ok (v.val : Int) ∧ (dec3 v.val).all inDig = true := by decide +kernel
theorem dig_back {c : UInt8} (h : inDig c = true) : ∃ i, i < 10 ∧ c = UInt8.ofNat (48 + i) ∧ c.toNat = 48 + i := by
  unfold inDig at h
  simp only [Bool.and_eq_true, decide_eq_true_eq] at h
  refine ⟨c.toNat - 48, by omega, ?_, by omega⟩
  rw [show 48 + (c.toNat - 48) = c.toNat by omega]
  simp
theorem okNum_dec {x : List UInt8} (hd : x.all inDig = true) (h : okNum x = true) : ∃ v, v < 256 ∧ x = dec3 v := by
  unfold okNum at h
  simp only [Bool.and_eq_true, Bool.not_eq_true', decide_eq_true_eq, Bool.and_eq_false_iff, beq_eq_false_iff_ne] at h
  obtain ⟨⟨⟨h1, h2⟩, h3⟩, h4⟩ := h
  match x, h1, h2, h3, h4, hd with
  | [a], _, _, _, _, hd =>
    simp at hd
    obtain ⟨i, hi, rfl, _⟩ := dig_back hd
    exact ⟨i, by omega, by unfold dec3; rw [if_pos hi]⟩
  | [a, b], _, _, h3, h4, hd =>
    simp at hd
    obtain ⟨i, hi, ea, ea'⟩ := dig_back hd.1
    obtain ⟨j, hj, eb, eb'⟩ := dig_back hd.2
    have hi0 : i ≠ 0 := by
      rintro rfl
      rcases h3 with h3 | h3
      · exact h3 ea
      · simp at h3
    refine ⟨10 * i + j, by omega, ?_⟩
    unfold dec3
    rw [if_neg (by omega), if_pos (by omega), show (10 * i + j) / 10 = i by omega, show (10 * i + j) % 10 = j by omega, ea, eb]
  | [a, b, c], _, _, h3, h4, hd =>
    simp at hd
    obtain ⟨i, hi, ea, ea'⟩ := dig_back hd.1
    obtain ⟨j, hj, eb, eb'⟩ := dig_back hd.2.1
    obtain ⟨k, hk, ec, ec'⟩ := dig_back hd.2.2
    have hi0 : i ≠ 0 := by
      rintro rfl
      rcases h3 with h3 | h3
      · exact h3 ea
      · simp at h3
    have hv : 100 * i + 10 * j + k ≤ 255 := by
      unfold valD at h4
      simp only [List.foldl_cons, List.foldl_nil] at h4
      omega
    refine ⟨100 * i + 10 * j + k, by omega, ?_⟩
    unfold dec3
    rw [if_neg (by omega), if_neg (by omega), show (100 * i + 10 * j + k) / 100 = i by omega, show (100 * i + 10 * j + k) / 10 % 10 = j by omega, show (100 * i + 10 * j + k) % 10 = k by omega, ea, eb, ec]
theorem itoa_dec (v : Nat) (h : v < 1000) : Lib.itoa (v : Int) = dec3 v := by
  unfold Lib.itoa
  rw [if_neg (by omega), show (v : Int).toNat = v by omega, dec3_eq v h]
theorem itoa_ok {x : List UInt8} (hd : x.all inDig = true) {n : Int} (h : n ≤ 255) (e : Lib.itoa n = x) : okNum x = true := by
  by_cases h0 : n < 0
  · unfold Lib.itoa at e
    rw [if_pos h0] at e
    subst e
    simp [inDig] at hd
  · obtain ⟨v, rfl⟩ : ∃ v : Nat, n = v := ⟨n.toNat, by omega⟩
    rw [itoa_dec v (by omega)] at e
    rw [← e]
    exact (dec_ok ⟨v, by omega⟩).1

/-- What number asks of the world: two errors and a table lie in it, below N. -/
structure Fa (w : World) : Prop where
  sy : ∃ ev, w.cell? ⟨2, 0, none⟩ = some ev ∧ (ev = .nilIface ∨ ∃ te pe, ev = .iface te pe)
  ra : ∃ ev, w.cell? ⟨3, 0, none⟩ = some ev ∧ (ev = .nilIface ∨ ∃ te pe, ev = .iface te pe)
  pw : Lib.TabIs Tryd.prog w "internal/strconv.uint64pow10" .u64 Lib.pow10Tab
def Vr (N : Nat) (w : World) : Prop := N ≤ w.heap.size ∧ ∀ w', Below N w w' → Fa w'
theorem Vr.fa {N : Nat} {w : World} (h : Vr N w) : Fa w := h.2 w (Below.refl _ _)
theorem Vr.below {N : Nat} {w w' : World} (h : Vr N w) (hb : Below N w w') : Vr N w' := ⟨Nat.le_trans h.1 hb.size, fun w2 h2 => h.2 w2 (hb.trans h2)⟩
theorem Vr.chg {S : Nat → Prop} {N : Nat} {w w' : World} (h : Vr N w) (hc : Chg S w w') (hS : ∀ k, S k → N ≤ k) : Vr N w' := h.below (hc.below h.1 hS)
theorem Vr.on {N b : Nat} {w w' : World} (h : Vr N w) (hb : N ≤ b) (hc : On b w w') : Vr N w' := h.chg hc fun k hk => by subst hk; exact hb
theorem Vr.new {N : Nat} {w w' : World} (h : Vr N w) (hb : Below w.heap.size w w') : Vr N w' := h.below (hb.mono h.1)

theorem atoi_any (s : ByteArray) (w : World) (hs : s.size ≤ 1099511627776) (hF : Fa w) :
    Calls Tryd.prog 67 #[.string s] w fun e w' => Below w.heap.size w w' ∧ ((∃ v, Lib.atoiAll s.data.toList = .ok v ∧ e = .returned (.tuple #[.int .i64 v, .nilIface])) ∨ ((∀ v, Lib.atoiAll s.data.toList ≠ .ok v) ∧ ∃ x t p, e = .returned (.tuple #[.int .i64 x, .iface t p]))) := by
  cases h : Lib.atoiAll s.data.toList with
  | ok v =>
    refine (Tryd.strconv_Atoi_ok s (by omega) v h w).mono fun e w' ⟨he, hw⟩ => ⟨?_, .inl ⟨v, rfl, he⟩⟩
    rcases hw with rfl | ⟨t, rfl⟩
    · exact Below.refl _ _
    · exact Lib.bytesWorld_below w _ t
  | «syntax» =>
    obtain ⟨ev, hv, hev⟩ := hF.sy
    refine (Tryd.strconv_Atoi_syntax s (by omega) h ev w hv hev).mono fun e w' ⟨N, he, _, _, hb⟩ => ⟨hb, .inr ⟨(fun v e => by cases e), _, _, _, he⟩⟩
  | range =>
    obtain ⟨ev, hv, hev⟩ := hF.ra
    refine (Tryd.strconv_Atoi_range s (by omega) h ev w hv hev).mono fun e w' ⟨N, he, _, _, hb⟩ => ⟨hb, .inr ⟨(fun v e => by cases e), _, _, _, he⟩⟩
theorem below_grow (w : World) (k : Nat) (os : Array Obj) : Below w.heap.size w (Go.Sort.grow (w.drewN k) os) := by
  refine ⟨rfl, rfl, rfl, ?_, fun j hj => ?_⟩
  · show w.heap.size ≤ (w.heap ++ os).size
    rw [Array.size_append]; omega
  · show (w.heap ++ os)[j]? = w.heap[j]?
    rw [Array.getElem?_append_left hj]

theorem str_ne_nil {x : List UInt8} (h : ¬ x = []) : ((bl x).toList == []) = false := by rw [bl_toList]; exact beq_eq_false_iff_ne.2 h
theorem tw_all (p : UInt8 → Bool) (l : List UInt8) : (l.takeWhile p).all p = true := by
  induction l with
  | nil => rfl
  | cons x xs ih =>
    by_cases h : p x = true
    · rw [List.takeWhile_cons_of_pos h, List.all_cons, h, ih]; rfl
    · rw [List.takeWhile_cons_of_neg h]; rfl
theorem tw_le (p : UInt8 → Bool) (l : List UInt8) : (l.takeWhile p).length ≤ l.length := by
  have := congrArg List.length (List.takeWhile_append_dropWhile (p := p) (l := l))
  rw [List.length_append] at this
  omega
theorem atoi_pos {x : List UInt8} (hd : x.all inDig = true) {v : Int} (h : Lib.atoiAll x = .ok v) : 0 ≤ v := by
  cases x with
  | nil => cases h
  | cons c r =>
    have hc : inDig c = true := by simp at hd; exact hd.1
    have hn : ¬ c.toNat = 45 := by
      intro e
      unfold inDig at hc
      simp [e] at hc
    unfold Lib.atoiAll at h
    simp only [hn, or_false, if_false, not_false_eq_true, true_and, false_and] at h
    split at h
    · cases h
    · cases h
    · split at h
      · cases h
      · injection h with h
        omega
theorem okNum_eq {x : List UInt8} (hd : x.all inDig = true) {v : Int} (h : Lib.atoiAll x = .ok v) (hv : v ≤ 255) : okNum x = decide (Lib.itoa v = x) := by
  by_cases he : Lib.itoa v = x
  · rw [decide_eq_true he, itoa_ok hd hv he]
  · rw [decide_eq_false he]
    cases ho : okNum x with
    | false => rfl
    | true =>
      obtain ⟨n, hn, rfl⟩ := okNum_dec hd ho
      have := (dec_ok ⟨n, hn⟩).2.1
      rw [this] at h
      injection h with h
      subst h
      exact absurd (itoa_dec n (by omega)) he
theorem okNum_big {x : List UInt8} (hd : x.all inDig = true) {v : Int} (h : Lib.atoiAll x = .ok v) (hv : ¬ v ≤ 255) : okNum x = false := by
  cases ho : okNum x with
  | false => rfl
  | true =>
    obtain ⟨n, hn, rfl⟩ := okNum_dec hd ho
    have := (dec_ok ⟨n, hn⟩).2.1
    rw [this] at h
    injection h with h
    omega
theorem okNum_fail {x : List UInt8} (hd : x.all inDig = true) (h : ∀ v, Lib.atoiAll x ≠ .ok v) : okNum x = false := by
  cases ho : okNum x with
  | false => rfl
  | true =>
    obtain ⟨n, hn, rfl⟩ := okNum_dec hd ho
    exact absurd (dec_ok ⟨n, hn⟩).2.1 (h _)

set_option maxHeartbeats 1600000 in
theorem number_any (N : Nat) (w : World) (b : Nat) (l : List UInt8) (h : Sc w b l) (hb : N ≤ b) (hV : Vr N w) :
    Calls Tryd.prog 57 #[.pointer (some ⟨b, 0, none⟩)] w fun e w' => e = .returned (.bool (okNum (l.takeWhile inDig))) ∧ Sc w' b (l.dropWhile inDig) ∧ On b w w' := by
  have HR : Hid (Calls Tryd.prog 62 #[.pointer (some ⟨b, 0, none⟩), .func (.func 66) #[] #[]] w fun e w' => e = .returned (.string (bl (l.takeWhile inDig))) ∧ Sc w' b (l.dropWhile inDig) ∧ On b w w') :=
    run_any w b l 66 inDig h (fun x w => enters_of Tryd.func66 (by kernel_rfl) rfl #[x] w) (fun c w => inDig_any c w)
  have HB : Hid (N ≤ b) := hb
  have HV : Hid (Vr N w) := hV
  have hd := tw_all inDig l
  have hz : (bl (l.takeWhile inDig)).size ≤ 1099511627776 := by have := tw_le inDig l; have := h.len; rw [bl_size]; omega
  obtain ⟨x, hx⟩ : ∃ x, l.takeWhile inDig = x := ⟨_, rfl⟩
  rw [hx] at hd hz HR ⊢
  obtain ⟨s, hs⟩ : ∃ s, bl x = s := ⟨_, rfl⟩
  have hsx : s.data.toList = x := by rw [← hs]
  rw [hs] at HR hz
  have HA : Hid (∀ w1, On b w w1 → Calls Tryd.prog 67 #[.string s] w1 fun e w' => Below w1.heap.size w1 w' ∧ ((∃ v, Lib.atoiAll x = .ok v ∧ e = .returned (.tuple #[.int .i64 v, .nilIface])) ∨ ((∀ v, Lib.atoiAll x ≠ .ok v) ∧ ∃ x t p, e = .returned (.tuple #[.int .i64 x, .iface t p])))) := fun w1 h1 => by
    have := atoi_any s w1 hz (HV.out.on HB.out h1).fa
    rw [hsx] at this
    exact this
  have HI : Hid (∀ w1, Vr N w1 → ∀ v : Int, 0 ≤ v → v ≤ 255 → Calls Tryd.prog 68 #[.int .i64 v] w1 fun e w' => e = .returned (.string (bl (Lib.itoa v))) ∧ Below w1.heap.size w1 w') := fun w1 h1 v h2 h3 =>
    (Tryd.strconv_Itoa v (by omega) (by omega) w1 h1.fa.pw).mono fun e w' ⟨he, k, os, hw⟩ => ⟨he, by rw [hw]; exact below_grow w1 k os⟩
  have HS : Hid (s = bl x) := hs.symm
  by_cases hok : ∃ v, Lib.atoiAll x = .ok v
  · obtain ⟨v, hv⟩ := hok
    have hpos := atoi_pos hd hv
    have HA2 : Hid (∀ w1, On b w w1 → Calls Tryd.prog 67 #[.string s] w1 fun e w' => e = .returned (.tuple #[.int .i64 v, .nilIface]) ∧ Below w1.heap.size w1 w') := fun w1 h1 => (HA.out w1 h1).mono fun e w' ⟨hB, h2⟩ => by
      rcases h2 with ⟨v2, e1, e2⟩ | ⟨e1, _⟩
      · rw [hv] at e1
        injection e1 with e1
        subst e1
        exact ⟨e2, hB⟩
      · exact absurd hv (e1 v)
    by_cases hle : v ≤ 255
    · have HR2 : Hid (okNum x = decide (Lib.itoa v = x)) := okNum_eq hd hv hle
      have HI2 : Hid (∀ w1, Vr N w1 → Calls Tryd.prog 68 #[.int .i64 v] w1 fun e w' => e = .returned (.string (bl (Lib.itoa v))) ∧ Below w1.heap.size w1 w') := fun w1 h1 => HI.out w1 h1 v hpos hle
      obtain ⟨T, hT⟩ : ∃ T, bl (Lib.itoa v) = T := ⟨_, rfl⟩
      have q : (T.toList == s.toList) = decide (Lib.itoa v = x) := by
        rw [← hT, HS.out, bl_toList, bl_toList]
        by_cases he : Lib.itoa v = x
        · rw [decide_eq_true he]; exact beq_iff_eq.2 he
        · rw [decide_eq_false he]; exact beq_eq_false_iff_ne.2 he
      rw [hT] at HI2
      obtain ⟨B, hB⟩ : ∃ B, decide (Lib.itoa v = x) = B := ⟨_, rfl⟩
      rw [hB] at q HR2
      clear hx hd hz hs hsx h hb hV hv hpos hB hT HA HI
      go_enter Tryd.func57, Tryd.ntmps57
      go_wp2_with (first
        | (go_at_call 62; refine HR.out.mono ?_; rintro e w1 ⟨rfl, hS1, hO1⟩)
        | (go_at_call 67; refine (HA2.out _ hO1).mono ?_; rintro e w2 ⟨rfl, hB2⟩; have HV2 : Hid (Vr N w2) := (HV.out.on HB.out hO1).new hB2)
        | (go_at_call 68; refine (HI2.out _ HV2.out).mono ?_; rintro e w3 ⟨rfl, hB3⟩))
      go_ret
      have C2 : Chg (fun _ => False) w1 w3 := (Chg.ofBelowT hB2).trans (Chg.ofBelowT hB3) (fun _ _ h => h)
      exact ⟨by rw [HR2.out]; rfl, hS1.kept C2 (fun h => h), Chg.trans hO1 C2 (fun _ _ h => h.elim)⟩
    · have HR2 : Hid (okNum x = false) := okNum_big hd hv hle
      clear hx hd hz hs hsx h hb hV hv hpos HA HI
      go_enter Tryd.func57, Tryd.ntmps57
      go_wp2_with (first
        | (go_at_call 62; refine HR.out.mono ?_; rintro e w1 ⟨rfl, hS1, hO1⟩)
        | (go_at_call 67; refine (HA2.out _ hO1).mono ?_; rintro e w2 ⟨rfl, hB2⟩))
      go_ret
      exact ⟨by rw [HR2.out]; rfl, hS1.kept (Chg.ofBelowT hB2) (fun h => h), Chg.trans hO1 (Chg.ofBelowT hB2) (fun _ _ h => h.elim)⟩
  · have hno : ∀ v, Lib.atoiAll x ≠ .ok v := fun v e => hok ⟨v, e⟩
    have HA2 : Hid (∀ w1, On b w w1 → Calls Tryd.prog 67 #[.string s] w1 fun e w' => Below w1.heap.size w1 w' ∧ ∃ x t p, e = .returned (.tuple #[.int .i64 x, .iface t p])) := fun w1 h1 => (HA.out w1 h1).mono fun e w' ⟨hB, h2⟩ => by
      rcases h2 with ⟨v2, e1, e2⟩ | ⟨e1, e2⟩
      · exact absurd e1 (hno v2)
      · exact ⟨hB, e2⟩
    have HR2 : Hid (okNum x = false) := okNum_fail hd hno
    clear hx hd hz hs hsx h hb hV hno hok HA HI
    go_enter Tryd.func57, Tryd.ntmps57
    go_wp2_with (first
      | (go_at_call 62; refine HR.out.mono ?_; rintro e w1 ⟨rfl, hS1, hO1⟩)
      | (go_at_call 67; refine (HA2.out _ hO1).mono ?_; rintro e w2 ⟨hB2, x9, t9, p9, rfl⟩))
    go_ret
    exact ⟨by rw [HR2.out]; rfl, hS1.kept (Chg.ofBelowT hB2) (fun h => h), Chg.trans hO1 (Chg.ofBelowT hB2) (fun _ _ h => h.elim)⟩

set_option maxHeartbeats 1600000 in
theorem word_any (w : World) (b : Nat) (l : List UInt8) (h : Sc w b l) :
    Calls Tryd.prog 70 #[.pointer (some ⟨b, 0, none⟩)] w fun e w' => e = .returned (.bool (okWrd (l.takeWhile inWrd))) ∧ Sc w' b (l.dropWhile inWrd) ∧ On b w w' := by
  have HR : Hid (Calls Tryd.prog 62 #[.pointer (some ⟨b, 0, none⟩), .func (.func 78) #[] #[]] w fun e w' => e = .returned (.string (bl (l.takeWhile inWrd))) ∧ Sc w' b (l.dropWhile inWrd) ∧ On b w w') :=
    run_any w b l 78 inWrd h (fun x w => enters_of Tryd.func78 (by kernel_rfl) rfl #[x] w) (fun c w => inWrd_any c w)
  clear h
  obtain ⟨s, hs⟩ : ∃ s, bl (l.takeWhile inWrd) = s := ⟨_, rfl⟩
  obtain ⟨B, hB⟩ : ∃ B, okWrd (l.takeWhile inWrd) = B := ⟨_, rfl⟩
  have q : (s.toList == []) = !B := by rw [← hs, ← hB, bl_toList]; unfold okWrd; simp
  rw [hs] at HR
  rw [hB]
  clear hs hB
  go_enter Tryd.func70, Tryd.ntmps70
  go_wp2_with (go_at_call 62; refine HR.out.mono ?_; rintro e w1 ⟨rfl, hS1, hO1⟩)
  go_ret
  exact ⟨by simp, hS1, hO1⟩

set_option maxHeartbeats 1600000 in
theorem label_any (w : World) (b : Nat) (l : List UInt8) (h : Sc w b l) :
    Calls Tryd.prog 58 #[.pointer (some ⟨b, 0, none⟩)] w fun e w' => e = .returned (.bool (okLab (l.takeWhile inLab))) ∧ Sc w' b (l.dropWhile inLab) ∧ On b w w' := by
  have HR : Hid (Calls Tryd.prog 62 #[.pointer (some ⟨b, 0, none⟩), .func (.func 69) #[] #[]] w fun e w' => e = .returned (.string (bl (l.takeWhile inLab))) ∧ Sc w' b (l.dropWhile inLab) ∧ On b w w') :=
    run_any w b l 69 inLab h (fun x w => enters_of Tryd.func69 (by kernel_rfl) rfl #[x] w) (fun c w => inLab_any c w)
  have hz : (bl (l.takeWhile inLab)).size ≤ 1099511627776 := by have := tw_le inLab l; have := h.len; rw [bl_size]; omega
  clear h
  obtain ⟨x, hx⟩ : ∃ x, l.takeWhile inLab = x := ⟨_, rfl⟩
  rw [hx] at HR hz ⊢
  clear hx
  obtain ⟨s, hs⟩ : ∃ s, bl x = s := ⟨_, rfl⟩
  rw [hs] at HR hz
  by_cases h0 : x = []
  · subst h0
    have q : (s.toList == []) = true := by rw [← hs, bl_toList]; rfl
    clear hs
    go_enter Tryd.func58, Tryd.ntmps58
    go_wp2_with (go_at_call 62; refine HR.out.mono ?_; rintro e w1 ⟨rfl, hS1, hO1⟩)
    go_ret
    exact ⟨rfl, hS1, hO1⟩
  · have q : (s.toList == []) = false := by rw [← hs, bl_toList]; exact beq_eq_false_iff_ne.2 h0
    have hn : 0 < x.length := by cases x with | nil => exact absurd rfl h0 | cons a b => simp
    have hsz : s.size = x.length := by rw [← hs, bl_size]
    obtain ⟨k, hk⟩ : ∃ k, s.size = k + 1 := ⟨s.size - 1, by omega⟩
    have q1 : (0 : Int) < s.size := by omega
    have q2 : IntKind.i64.wrap ((s.size : Int) - 1) = (k : Int) := by
      rw [IntKind.wrap_i64]; omega
    have q3 : (k : Int) < s.size := by omega
    have hlt : k < s.size := by omega
    have hlt0 : 0 < s.size := by omega
    have g0 : s[0] = x.headD 0 := by
      subst hs
      rw [bl_get]
      cases x with | nil => exact absurd rfl h0 | cons a b => rfl
    have g1 : s[k] = x.getLastD 0 := by
      subst hs
      rw [bl_get, List.getLastD_eq_getLast?, List.getLast?_eq_getElem?, List.getD_eq_getElem?_getD]
      have : k = x.length - 1 := by omega
      rw [this]
    have HR2 : Hid (okLab x = ((s[0].toNat : Int) != 45 && (s[k].toNat : Int) != 45)) := by
      show _ = _
      unfold okLab
      rw [g0, g1]
      have : (x == []) = false := beq_eq_false_iff_ne.2 h0
      have e : ∀ c : UInt8, (!(c == 45)) = ((c.toNat : Int) != 45) := fun c => by
        by_cases hc : c = 45
        · rw [hc]; rfl
        · have h1 : (c == 45) = false := beq_eq_false_iff_ne.2 hc
          have h2 : ((c.toNat : Int) == 45) = false := i_ne hc
          show (!(c == 45)) = !((c.toNat : Int) == 45)
          rw [h1, h2]
      rw [this, ← e, ← e]; rfl
    clear g0 g1 hn hsz hs h0
    obtain ⟨X0, hX0⟩ : ∃ X0 : Bool, ((s[0].toNat : Int) != 45) = X0 := ⟨_, rfl⟩
    obtain ⟨X1, hX1⟩ : ∃ X1 : Bool, ((s[k].toNat : Int) != 45) = X1 := ⟨_, rfl⟩
    rw [hX0, hX1] at HR2
    cases X0 with
    | true =>
      go_enter Tryd.func58, Tryd.ntmps58
      go_wp2_with (go_at_call 62; refine HR.out.mono ?_; rintro e w1 ⟨rfl, hS1, hO1⟩)
      all_goals
        go_ret
        exact ⟨by rw [HR2.out]; rfl, hS1, hO1⟩
    | false =>
      go_enter Tryd.func58, Tryd.ntmps58
      go_wp2_with (go_at_call 62; refine HR.out.mono ?_; rintro e w1 ⟨rfl, hS1, hO1⟩)
      all_goals
        go_ret
        exact ⟨by rw [HR2.out]; rfl, hS1, hO1⟩
end Go.Proofs.YtefofoocglhdmaaDoor

/-
  AddrDomains: the law.
-/
import Derived.Test.YtefofoocglhdmaaDoorMLawDom
namespace Go.Proofs.YtefofoocglhdmaaDoor
open Go.RowKit

/-- A label in the making. -/
def preP (x : List UInt8) (k : Nat) : Prop := x.length = k ∧ x.all inAl = true
def alph : List UInt8 := [97, 98, 99, 88, 89, 90, 48, 49, 57]
theorem alph_al (j : Nat) (h : j < 9) : inAl (alph.getD j 0) = true := by
  have : ∀ i : Fin 9, inAl (alph.getD i.val 0) = true := by decide
  exact this ⟨j, h⟩
theorem preP.more {x : List UInt8} {k : Nat} (h : preP x k) (j : Nat) (hj : j < 9) : preP (x ++ [alph.getD j 0]) (k + 1) := by
  refine ⟨by simp [h.1], ?_⟩
  rw [List.all_append, h.2]
  simp only [List.all_cons, List.all_nil, alph_al j hj]; rfl
theorem preP.good {x : List UInt8} {k : Nat} (h : preP x k) (h0 : x ≠ []) (hk : k ≤ 63) : goodP x = true := by
  unfold goodP
  have : (x == []) = false := beq_eq_false_iff_ne.2 h0
  rw [this, h.2, decide_eq_true (by rw [h.1]; exact hk)]; rfl

set_option maxHeartbeats 6400000 in
set_option maxRecDepth 100000 in
theorem law_domains (N : Nat) (v : Value) (ss : List ByteArray) (w : World) (hv : Tx w v ss) (hV : Vr N w) :
    Calls Tryd.prog 6 #[v] w fun e w' => e = .returned (.bool true) ∧ Below w.heap.size w w' := by
  obtain ⟨a, c, rfl⟩ := hv.form
  have HK : Hid (Calls Tryd.prog 9 #[] w fun e w' => e = .returned (.bool true) ∧ Below w.heap.size w w') := known_any N w hV
  have HV : Hid (Vr N w) := hV
  have HT : Hid (Tx w (.slice a ss.length c) ss) := hv
  clear hV hv
  by_cases h0 : ss.length = 0
  · have q0 : ((ss.length : Int) == 0) = true := by simp [h0]
    clear h0
    go_enter Tryd.func6, Tryd.ntmps6
    go_wp2_with (go_at_call 9; refine HK.out.mono ?_; rintro e w1 ⟨rfl, hB1⟩)
    go_ret
    exact ⟨rfl, hB1⟩
  have q0 : ((ss.length : Int) == 0) = false := beq_eq_false_iff_ne.2 (by omega)
  by_cases h60 : 60 < ss.length
  · have q1 : (60 : Int) < ss.length := by omega
    clear h0 h60
    go_enter Tryd.func6, Tryd.ntmps6
    go_wp2_with (go_at_call 9; refine HK.out.mono ?_; rintro e w1 ⟨rfl, hB1⟩)
    go_ret
    exact ⟨rfl, hB1⟩
  have q1 : ¬ (60 : Int) < ss.length := by omega
  have hn : ss.length ≤ 60 := by omega
  have HN0 : Hid (¬ ss.length = 0) := h0
  clear h0 h60
  go_enter Tryd.func6, Tryd.ntmps6
  go_wp2_with (go_at_call 9; refine HK.out.mono ?_; rintro e w1 ⟨rfl, hB1⟩)
  have HB1 : Hid (Below w.heap.size w w1) := hB1
  clear hB1 HK
  go_loopw [3, 4] (fun sv i wr => ∃ (k : Nat) (s : ByteArray), sv = .string s ∧ i = .int .i64 k ∧ k ≤ ss.length ∧ s.size ≤ 64 * k ∧ Hid (Below w.heap.size w wr ∧ (k = 0 ∧ s.data.toList = [] ∨ 0 < k ∧ Gd s.data.toList))) (fun _ i _ => ss.length - (intOf i).toNat)
  case atStart => exact ⟨0, ⟨#[]⟩, by first | rfl | trivial | simp, rfl, Nat.zero_le _, Nat.zero_le _, HB1.out, .inl ⟨rfl, rfl⟩⟩
  case round =>
    obtain ⟨k, s, rfl, rfl, hk, hsz, hA⟩ := hrel
    by_cases hlt : k < ss.length
    · have q2 : (k : Int) < ss.length := by omega
      have HTr := toHid (HT.out.below hA.out.1)
      obtain ⟨b, off, hab, hc⟩ := HTr.out.nth hlt
      subst hab
      obtain ⟨x, hx⟩ : ∃ x, ss.getD k ByteArray.empty = x := ⟨_, rfl⟩
      have c1 := hc k hlt
      rw [hx] at c1
      have HC1 : Hid (wr.cell? ⟨b, off + k, none⟩ = some (.string x)) := c1
      clear hc hx
      go_wp2_with fail
      generalize wr = wz at *
      go_loopw [5, 6] (fun tv j wr => ∃ (m : Nat) (t : ByteArray), tv = .string t ∧ j = .int .i64 m ∧ m ≤ x.size ∧ m ≤ 63 ∧ Hid (t.size = m) ∧ Hid (Below wz.heap.size wz wr ∧ preP t.data.toList m)) (fun _ j _ => 64 - (intOf j).toNat)
      case atStart => exact ⟨0, ⟨#[]⟩, by first | rfl | trivial | simp, rfl, Nat.zero_le _, Nat.zero_le _, rfl, Below.refl _ _, rfl, rfl⟩
      case round =>
        obtain ⟨m, t, rfl, rfl, hm, hm63, hts, hA2⟩ := hrel
        have c2 : wr.cell? ⟨b, off + k, none⟩ = some (.string x) := (Chg.ofBelowT hA2.out.1).cell HC1.out (fun h => h)
        by_cases hlm : m < x.size
        · have p1 : (m : Int) < x.size := by omega
          by_cases h63 : m < 63
          · have p2 : (m : Int) < 63 := by omega
            have hj : x[m].toNat % 9 < 9 := by omega
            have hj2 : x[m].toNat % 9 < (⟨#[97, 98, 99, 88, 89, 90, 48, 49, 57]⟩ : ByteArray).size := hj
            have he : (⟨#[97, 98, 99, 88, 89, 90, 48, 49, 57]⟩ : ByteArray)[x[m].toNat % 9] = alph.getD (x[m].toNat % 9) 0 := bl_get alph _ hj2
            have r := run_strC (Bs.one wr (((⟨#[97, 98, 99, 88, 89, 90, 48, 49, 57]⟩ : ByteArray)[x[m].toNat % 9].toNat : Nat) : Int))
            have e2 : strC [(((⟨#[97, 98, 99, 88, 89, 90, 48, 49, 57]⟩ : ByteArray)[x[m].toNat % 9].toNat : Nat) : Int)] = bl [alph.getD (x[m].toNat % 9) 0] := by
              rw [he]; exact strC_iB [alph.getD (x[m].toNat % 9) 0]
            rw [e2] at r
            have hpm := hA2.out.2.more _ hj
            obtain ⟨T2, hT2⟩ : ∃ T2, bl [alph.getD (x[m].toNat % 9) 0] = T2 := ⟨_, rfl⟩
            have hT2s : T2.size = 1 := by rw [← hT2]; rfl
            rw [hT2] at r
            have htm := hts.out
            have b1 : ¬ 9223372036854775807 < t.size + T2.size := by omega
            have HP2 : Hid (preP (t ++ T2).data.toList (m + 1)) := by
              have : (t ++ T2).data.toList = t.data.toList ++ [alph.getD (x[m].toNat % 9) 0] := by rw [← hT2]; simp
              show preP _ _
              rw [this]
              exact hpm
            have HZ2 : Hid ((t ++ T2).size = m + 1) := by show _ = _; rw [ByteArray.size_append]; omega
            have HBn : Hid (Below wz.heap.size wz (wr.alloc (.cells #[.int .u8 (((⟨#[97, 98, 99, 88, 89, 90, 48, 49, 57]⟩ : ByteArray)[x[m].toNat % 9].toNat : Nat) : Int)] 5))) := hA2.out.1.alloc hA2.out.1.size _
            clear e2 he hpm hT2 hT2s htm hA2 hts
            go_wp2_with fail
            go_roundw
            case rel => exact ⟨m + 1, _, rfl, by go_num, by omega, by omega, HZ2.out, HBn.out, HP2.out⟩
            case measure => simp [intOf]; omega
          · have p2 : ¬ (m : Int) < 63 := by omega
            have HTs : Hid (Below w.heap.size w wr) := hA.out.1.trans (hA2.out.1.mono hA.out.1.size)
            have hpre := hA2.out.2
            have HSl := toHid hA.out.2
            have htm := hts.out
            by_cases ht0 : t.size = 0
            · have q5 : (t.toList == []) = true := by
                rw [ByteArray.toList_eq]
                have : t.data.toList = [] := List.eq_nil_of_length_eq_zero (by rw [← sz_list]; exact ht0)
                rw [this]; rfl
              have hg : goodP [113] = true := by decide
              by_cases hk0 : k = 0
              · have q6 : ¬ (0 : Int) < k := by omega
                have b1 : ¬ 9223372036854775807 < s.size + 1 := by omega
                have HG : Hid (Gd (s ++ ⟨#[113]⟩).data.toList) := by
                  have h1 : s.data.toList = [] := HSl.out.elim (fun h => h.2) (fun h => by omega)
                  have : (s ++ ⟨#[113]⟩ : ByteArray).data.toList = s.data.toList ++ [113] := by simp
                  show Gd _
                  rw [this, h1]
                  exact Gd.one hg
                have HZ : Hid ((s ++ ⟨#[113]⟩).size ≤ 64 * (k + 1)) := by show _ ≤ _; rw [ByteArray.size_append]; show s.size + 1 ≤ _; omega
                clear hpre htm hA hA2 hg HSl hts ht0 hk0
                go_wp2_with fail
                go_roundw
                case rel => exact ⟨k + 1, _, rfl, by go_num, by omega, HZ.out, HTs.out, .inr ⟨by omega, HG.out⟩⟩
                case measure => simp [intOf]; omega
              · have q6 : (0 : Int) < k := by omega
                have b0 : ¬ 9223372036854775807 < s.size + 1 := by omega
                have b1 : ¬ 9223372036854775807 < s.size + 1 + 1 := by omega
                have HG : Hid (Gd (s ++ ⟨#[46]⟩ ++ ⟨#[113]⟩).data.toList) := by
                  have h1 : Gd s.data.toList := HSl.out.elim (fun h => by omega) (fun h => h.2)
                  have : (s ++ ⟨#[46]⟩ ++ ⟨#[113]⟩ : ByteArray).data.toList = s.data.toList ++ 46 :: [113] := by simp
                  show Gd _
                  rw [this]
                  exact h1.more hg
                have HZ : Hid ((s ++ ⟨#[46]⟩ ++ ⟨#[113]⟩).size ≤ 64 * (k + 1)) := by show _ ≤ _; rw [ByteArray.size_append, ByteArray.size_append]; show s.size + 1 + 1 ≤ _; omega
                clear hpre htm hA hA2 hg HSl hts ht0 hk0
                go_wp2_with fail
                go_roundw
                case rel => exact ⟨k + 1, _, rfl, by go_num, by omega, HZ.out, HTs.out, .inr ⟨by omega, HG.out⟩⟩
                case measure => simp [intOf]; omega
            · have hne : t.data.toList ≠ [] := fun e => ht0 (by rw [sz_list, e]; rfl)
              have q5 : (t.toList == []) = false := by rw [ByteArray.toList_eq]; exact beq_eq_false_iff_ne.2 hne
              have hg : goodP t.data.toList = true := hpre.good hne hm63
              have htz : t.size ≤ 63 := by omega
              by_cases hk0 : k = 0
              · have q6 : ¬ (0 : Int) < k := by omega
                have b1 : ¬ 9223372036854775807 < s.size + t.size := by omega
                have HG : Hid (Gd (s ++ t).data.toList) := by
                  have h1 : s.data.toList = [] := HSl.out.elim (fun h => h.2) (fun h => by omega)
                  have : (s ++ t : ByteArray).data.toList = s.data.toList ++ t.data.toList := by simp
                  show Gd _
                  rw [this, h1]
                  exact Gd.one hg
                have HZ : Hid ((s ++ t).size ≤ 64 * (k + 1)) := by show _ ≤ _; rw [ByteArray.size_append]; omega
                clear hpre htm hA hA2 hg HSl hts ht0 hne hk0
                go_wp2_with fail
                go_roundw
                case rel => exact ⟨k + 1, _, rfl, by go_num, by omega, HZ.out, HTs.out, .inr ⟨by omega, HG.out⟩⟩
                case measure => simp [intOf]; omega
              · have q6 : (0 : Int) < k := by omega
                have b0 : ¬ 9223372036854775807 < s.size + 1 := by omega
                have b1 : ¬ 9223372036854775807 < s.size + 1 + t.size := by omega
                have HG : Hid (Gd (s ++ ⟨#[46]⟩ ++ t).data.toList) := by
                  have h1 : Gd s.data.toList := HSl.out.elim (fun h => by omega) (fun h => h.2)
                  have : (s ++ ⟨#[46]⟩ ++ t : ByteArray).data.toList = s.data.toList ++ 46 :: t.data.toList := by simp
                  show Gd _
                  rw [this]
                  exact h1.more hg
                have HZ : Hid ((s ++ ⟨#[46]⟩ ++ t).size ≤ 64 * (k + 1)) := by show _ ≤ _; rw [ByteArray.size_append, ByteArray.size_append]; show s.size + 1 + t.size ≤ _; omega
                clear hpre htm hA hA2 hg HSl hts ht0 hne hk0
                go_wp2_with fail
                go_roundw
                case rel => exact ⟨k + 1, _, rfl, by go_num, by omega, HZ.out, HTs.out, .inr ⟨by omega, HG.out⟩⟩
                case measure => simp [intOf]; omega
        · have p1 : ¬ (m : Int) < x.size := by omega
          have HTs : Hid (Below w.heap.size w wr) := hA.out.1.trans (hA2.out.1.mono hA.out.1.size)
          have hpre := hA2.out.2
          have HSl := toHid hA.out.2
          have htm := hts.out
          by_cases ht0 : t.size = 0
          · have q5 : (t.toList == []) = true := by
              rw [ByteArray.toList_eq]
              have : t.data.toList = [] := List.eq_nil_of_length_eq_zero (by rw [← sz_list]; exact ht0)
              rw [this]; rfl
            have hg : goodP [113] = true := by decide
            by_cases hk0 : k = 0
            · have q6 : ¬ (0 : Int) < k := by omega
              have b1 : ¬ 9223372036854775807 < s.size + 1 := by omega
              have HG : Hid (Gd (s ++ ⟨#[113]⟩).data.toList) := by
                have h1 : s.data.toList = [] := HSl.out.elim (fun h => h.2) (fun h => by omega)
                have : (s ++ ⟨#[113]⟩ : ByteArray).data.toList = s.data.toList ++ [113] := by simp
                show Gd _
                rw [this, h1]
                exact Gd.one hg
              have HZ : Hid ((s ++ ⟨#[113]⟩).size ≤ 64 * (k + 1)) := by show _ ≤ _; rw [ByteArray.size_append]; show s.size + 1 ≤ _; omega
              clear hpre htm hA hA2 hg HSl hts ht0 hk0
              go_wp2_with fail
              go_roundw
              case rel => exact ⟨k + 1, _, rfl, by go_num, by omega, HZ.out, HTs.out, .inr ⟨by omega, HG.out⟩⟩
              case measure => simp [intOf]; omega
            · have q6 : (0 : Int) < k := by omega
              have b0 : ¬ 9223372036854775807 < s.size + 1 := by omega
              have b1 : ¬ 9223372036854775807 < s.size + 1 + 1 := by omega
              have HG : Hid (Gd (s ++ ⟨#[46]⟩ ++ ⟨#[113]⟩).data.toList) := by
                have h1 : Gd s.data.toList := HSl.out.elim (fun h => by omega) (fun h => h.2)
                have : (s ++ ⟨#[46]⟩ ++ ⟨#[113]⟩ : ByteArray).data.toList = s.data.toList ++ 46 :: [113] := by simp
                show Gd _
                rw [this]
                exact h1.more hg
              have HZ : Hid ((s ++ ⟨#[46]⟩ ++ ⟨#[113]⟩).size ≤ 64 * (k + 1)) := by show _ ≤ _; rw [ByteArray.size_append, ByteArray.size_append]; show s.size + 1 + 1 ≤ _; omega
              clear hpre htm hA hA2 hg HSl hts ht0 hk0
              go_wp2_with fail
              go_roundw
              case rel => exact ⟨k + 1, _, rfl, by go_num, by omega, HZ.out, HTs.out, .inr ⟨by omega, HG.out⟩⟩
              case measure => simp [intOf]; omega
          · have hne : t.data.toList ≠ [] := fun e => ht0 (by rw [sz_list, e]; rfl)
            have q5 : (t.toList == []) = false := by rw [ByteArray.toList_eq]; exact beq_eq_false_iff_ne.2 hne
            have hg : goodP t.data.toList = true := hpre.good hne hm63
            have htz : t.size ≤ 63 := by omega
            by_cases hk0 : k = 0
            · have q6 : ¬ (0 : Int) < k := by omega
              have b1 : ¬ 9223372036854775807 < s.size + t.size := by omega
              have HG : Hid (Gd (s ++ t).data.toList) := by
                have h1 : s.data.toList = [] := HSl.out.elim (fun h => h.2) (fun h => by omega)
                have : (s ++ t : ByteArray).data.toList = s.data.toList ++ t.data.toList := by simp
                show Gd _
                rw [this, h1]
                exact Gd.one hg
              have HZ : Hid ((s ++ t).size ≤ 64 * (k + 1)) := by show _ ≤ _; rw [ByteArray.size_append]; omega
              clear hpre htm hA hA2 hg HSl hts ht0 hne hk0
              go_wp2_with fail
              go_roundw
              case rel => exact ⟨k + 1, _, rfl, by go_num, by omega, HZ.out, HTs.out, .inr ⟨by omega, HG.out⟩⟩
              case measure => simp [intOf]; omega
            · have q6 : (0 : Int) < k := by omega
              have b0 : ¬ 9223372036854775807 < s.size + 1 := by omega
              have b1 : ¬ 9223372036854775807 < s.size + 1 + t.size := by omega
              have HG : Hid (Gd (s ++ ⟨#[46]⟩ ++ t).data.toList) := by
                have h1 : Gd s.data.toList := HSl.out.elim (fun h => by omega) (fun h => h.2)
                have : (s ++ ⟨#[46]⟩ ++ t : ByteArray).data.toList = s.data.toList ++ 46 :: t.data.toList := by simp
                show Gd _
                rw [this]
                exact h1.more hg
              have HZ : Hid ((s ++ ⟨#[46]⟩ ++ t).size ≤ 64 * (k + 1)) := by show _ ≤ _; rw [ByteArray.size_append, ByteArray.size_append]; show s.size + 1 + t.size ≤ _; omega
              clear hpre htm hA hA2 hg HSl hts ht0 hne hk0
              go_wp2_with fail
              go_roundw
              case rel => exact ⟨k + 1, _, rfl, by go_num, by omega, HZ.out, HTs.out, .inr ⟨by omega, HG.out⟩⟩
              case measure => simp [intOf]; omega
    · have q2 : ¬ (k : Int) < ss.length := by omega
      have hG : Gd s.data.toList := hA.out.2.elim (fun h => by have := HN0.out; omega) (fun h => h.2)
      have HBr := toHid hA.out.1
      have hz := sz_list s
      have HD0 : Hid (∀ w1, Vr N w1 → Calls Tryd.prog 14 #[.string s] w1 fun e w' => e = .returned (.bool (decide (s.size ≤ 255))) ∧ Below w1.heap.size w1 w') := fun w1 h1 => by
        have := domain_any N s w1 (by omega) h1
        rw [hG.yes, ← hz] at this
        exact this
      have HD1 : Hid (∀ w1, Vr N w1 → Calls Tryd.prog 14 #[.string (s ++ ⟨#[46]⟩)] w1 fun e w' => e = .returned (.bool false) ∧ Below w1.heap.size w1 w') := fun w1 h1 => by
        have := domain_any N (s ++ ⟨#[46]⟩) w1 (by rw [ByteArray.size_append]; show s.size + 1 ≤ _; omega) h1
        rw [show (s ++ ⟨#[46]⟩ : ByteArray).data.toList = s.data.toList ++ [46] by simp, Gd.dot hG] at this
        exact this
      have HD2 : Hid (∀ w1, Vr N w1 → Calls Tryd.prog 14 #[.string (⟨#[46]⟩ ++ s)] w1 fun e w' => e = .returned (.bool false) ∧ Below w1.heap.size w1 w') := fun w1 h1 => by
        have := domain_any N (⟨#[46]⟩ ++ s) w1 (by rw [ByteArray.size_append]; show 1 + s.size ≤ _; omega) h1
        rw [show (⟨#[46]⟩ ++ s : ByteArray).data.toList = 46 :: s.data.toList by simp, Gd.dot1 hG] at this
        exact this
      have HD3 : Hid (∀ w1, Vr N w1 → Calls Tryd.prog 14 #[.string (s ++ ⟨#[46, 46, 97]⟩)] w1 fun e w' => e = .returned (.bool false) ∧ Below w1.heap.size w1 w') := fun w1 h1 => by
        have := domain_any N (s ++ ⟨#[46, 46, 97]⟩) w1 (by rw [ByteArray.size_append]; show s.size + 3 ≤ _; omega) h1
        rw [show (s ++ ⟨#[46, 46, 97]⟩ : ByteArray).data.toList = s.data.toList ++ [46, 46, 97] by simp, Gd.dots hG] at this
        exact this
      have HD4 : Hid (∀ w1, Vr N w1 → Calls Tryd.prog 14 #[.string (⟨#[91]⟩ ++ s)] w1 fun e w' => e = .returned (.bool false) ∧ Below w1.heap.size w1 w') := fun w1 h1 => by
        have := domain_any N (⟨#[91]⟩ ++ s) w1 (by rw [ByteArray.size_append]; show 1 + s.size ≤ _; omega) h1
        rw [show (⟨#[91]⟩ ++ s : ByteArray).data.toList = 91 :: s.data.toList by simp, Gd.bra hG] at this
        exact this
      have HD5 : Hid (∀ w1, Vr N w1 → Calls Tryd.prog 14 #[.string (s ++ ⟨#[45]⟩)] w1 fun e w' => e = .returned (.bool false) ∧ Below w1.heap.size w1 w') := fun w1 h1 => by
        have := domain_any N (s ++ ⟨#[45]⟩) w1 (by rw [ByteArray.size_append]; show s.size + 1 ≤ _; omega) h1
        rw [show (s ++ ⟨#[45]⟩ : ByteArray).data.toList = s.data.toList ++ [45] by simp, Gd.dash hG] at this
        exact this
      have b1 : ¬ 9223372036854775807 < s.size + 1 := by omega
      have b2 : ¬ 9223372036854775807 < 1 + s.size := by omega
      have b3 : ¬ 9223372036854775807 < s.size + 3 := by omega
      by_cases h255 : s.size ≤ 255
      · have q3 : (s.size : Int) ≤ 255 := by omega
        have q3' : decide ((s.size : Int) ≤ 255) = true := decide_eq_true q3
        rw [decide_eq_true h255] at HD0
        clear hz hG hA h255
        go_wp2_with (first
          | (go_at_call 14; with_reducible refine (HD0.out _ (HV.out.new HBr.out)).mono ?_; rintro e w3 ⟨rfl, hB⟩; have HB3 := toHid (HBr.out.trans (hB.mono HBr.out.size)); clear hB)
          | (go_at_call 14; with_reducible refine (HD1.out _ (HV.out.new HB3.out)).mono ?_; rintro e w4 ⟨rfl, hB⟩; have HB4 := toHid (HB3.out.trans (hB.mono HB3.out.size)); clear hB)
          | (go_at_call 14; with_reducible refine (HD2.out _ (HV.out.new HB4.out)).mono ?_; rintro e w5 ⟨rfl, hB⟩; have HB5 := toHid (HB4.out.trans (hB.mono HB4.out.size)); clear hB)
          | (go_at_call 14; with_reducible refine (HD3.out _ (HV.out.new HB5.out)).mono ?_; rintro e w6 ⟨rfl, hB⟩; have HB6 := toHid (HB5.out.trans (hB.mono HB5.out.size)); clear hB)
          | (go_at_call 14; with_reducible refine (HD4.out _ (HV.out.new HB6.out)).mono ?_; rintro e w7 ⟨rfl, hB⟩; have HB7 := toHid (HB6.out.trans (hB.mono HB6.out.size)); clear hB)
          | (go_at_call 14; with_reducible refine (HD5.out _ (HV.out.new HB7.out)).mono ?_; rintro e w8 ⟨rfl, hB⟩; have HB8 := toHid (HB7.out.trans (hB.mono HB7.out.size)); clear hB))
        go_ret
        exact ⟨rfl, HB8.out⟩
      · have q3 : ¬ (s.size : Int) ≤ 255 := by omega
        have q3' : decide ((s.size : Int) ≤ 255) = false := decide_eq_false q3
        rw [decide_eq_false h255] at HD0
        clear hz hG hA h255
        go_wp2_with (first
          | (go_at_call 14; with_reducible refine (HD0.out _ (HV.out.new HBr.out)).mono ?_; rintro e w3 ⟨rfl, hB⟩; have HB3 := toHid (HBr.out.trans (hB.mono HBr.out.size)); clear hB)
          | (go_at_call 14; with_reducible refine (HD1.out _ (HV.out.new HB3.out)).mono ?_; rintro e w4 ⟨rfl, hB⟩; have HB4 := toHid (HB3.out.trans (hB.mono HB3.out.size)); clear hB)
          | (go_at_call 14; with_reducible refine (HD2.out _ (HV.out.new HB4.out)).mono ?_; rintro e w5 ⟨rfl, hB⟩; have HB5 := toHid (HB4.out.trans (hB.mono HB4.out.size)); clear hB)
          | (go_at_call 14; with_reducible refine (HD3.out _ (HV.out.new HB5.out)).mono ?_; rintro e w6 ⟨rfl, hB⟩; have HB6 := toHid (HB5.out.trans (hB.mono HB5.out.size)); clear hB)
          | (go_at_call 14; with_reducible refine (HD4.out _ (HV.out.new HB6.out)).mono ?_; rintro e w7 ⟨rfl, hB⟩; have HB7 := toHid (HB6.out.trans (hB.mono HB6.out.size)); clear hB)
          | (go_at_call 14; with_reducible refine (HD5.out _ (HV.out.new HB7.out)).mono ?_; rintro e w8 ⟨rfl, hB⟩; have HB8 := toHid (HB7.out.trans (hB.mono HB7.out.size)); clear hB))
        go_ret
        exact ⟨rfl, HB8.out⟩
end Go.Proofs.YtefofoocglhdmaaDoor

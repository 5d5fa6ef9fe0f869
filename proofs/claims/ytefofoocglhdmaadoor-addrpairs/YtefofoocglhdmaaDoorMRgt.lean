/-
  isNull, written, Right, Print, Hash.
-/
import Derived.Test.YtefofoocglhdmaaDoorMQuo
namespace Go.Proofs.YtefofoocglhdmaaDoor
open Go.RowKit

set_option maxHeartbeats 1600000 in
theorem isNull_any (a d : ByteArray) (w : World) :
    Calls Tryd.prog 41 #[adV a d] w fun e w' => e = .returned (.bool (nul a.data.toList d.data.toList)) ∧ Below w.heap.size w w' := by
  obtain ⟨A, hA⟩ : ∃ A, (a.toList == []) = A := ⟨_, rfl⟩
  obtain ⟨B, hB⟩ : ∃ A, (d.toList == []) = A := ⟨_, rfl⟩
  have HR : Hid (nul a.data.toList d.data.toList = (A && B)) := by
    show _ = _
    unfold nul
    rw [← hA, ← hB, ByteArray.toList_eq, ByteArray.toList_eq]
  have B0 : Hid (Below w.heap.size w (w.alloc (.cells #[.string a, .string d] 24))) := alloc_below w _
  cases A with
  | false =>
    go_enter Tryd.func41, Tryd.ntmps41
    go_wp2_with fail
    go_ret
    exact ⟨by rw [HR.out]; rfl, B0.out⟩
  | true =>
    cases B with
    | true =>
      go_enter Tryd.func41, Tryd.ntmps41
      go_wp2_with fail
      go_ret
      exact ⟨by rw [HR.out]; rfl, B0.out⟩
    | false =>
      go_enter Tryd.func41, Tryd.ntmps41
      go_wp2_with fail
      go_ret
      exact ⟨by rw [HR.out]; rfl, B0.out⟩
/-- The text of the local part. -/
theorem lcl_len (a : List UInt8) : (lcl a).length ≤ 2 * a.length + 2 := by
  unfold lcl
  have := quoL_len a
  split
  · omega
  · simp; omega

set_option maxHeartbeats 3200000 in
theorem written_any (a d : ByteArray) (w : World) (ha : a.size ≤ 1000000) (hd : d.size ≤ 1099511627776) :
    Calls Tryd.prog 42 #[adV a d] w fun e w' => e = .returned (.string (bl (wrt a.data.toList d.data.toList))) ∧ Below w.heap.size w w' := by
  have A1 := Ad.new w a d
  have B0 : Hid (Below w.heap.size w (w.alloc (.cells #[.string a, .string d] 24))) := alloc_below w _
  have HI : Hid (∀ w, Calls Tryd.prog 59 #[.string a] w fun e w' => e = .returned (.bool (isW a.data.toList)) ∧ Below w.heap.size w w') := fun w => isW_any a w (by omega)
  have HQ : Hid (∀ w, Calls Tryd.prog 60 #[.string a] w fun e w' => e = .returned (.string (bl (34 :: (quoL a.data.toList ++ [34])))) ∧ Below w.heap.size w w') := fun w => quote_any a w ha
  obtain ⟨T, hT⟩ : ∃ T, bl (lcl a.data.toList) = T := ⟨_, rfl⟩
  have hTs : T.size ≤ 2000002 := by
    rw [← hT, bl_size]
    have := lcl_len a.data.toList
    have : a.size = a.data.toList.length := by simp
    omega
  have HW : Hid (bl (wrt a.data.toList d.data.toList) = ⟨#[60]⟩ ++ T ++ ⟨#[64]⟩ ++ d ++ ⟨#[62]⟩) := by
    show _ = _
    rw [← hT]
    apply ByteArray.ext
    unfold wrt
    simp
  have b1 : ¬ 9223372036854775807 < 1 + T.size := by omega
  have b2 : ¬ 9223372036854775807 < 1 + T.size + 1 := by omega
  have b3 : ¬ 9223372036854775807 < 1 + T.size + 1 + d.size := by omega
  have b4 : ¬ 9223372036854775807 < 1 + T.size + 1 + d.size + 1 := by omega
  have HA : Hid (Ad (w.alloc (.cells #[.string a, .string d] 24)) w.heap.size a d) := A1
  cases hw : isW a.data.toList with
  | true =>
    have hTa : a = T := by rw [← hT]; unfold lcl; rw [if_pos hw]
    rw [hw] at HI
    have HTa : Hid (a = T) := hTa
    clear hT hTa A1 hw HQ
    go_enter Tryd.func42, Tryd.ntmps42
    go_upto_region 2 with fail
    obtain ⟨W, hW⟩ : ∃ W, w.alloc (.cells #[.string a, .string d] 24) = W := ⟨_, rfl⟩
    rw [hW] at B0 HA ⊢
    clear hW
    go_wp2_with (go_at_call 59; refine (HI.out _).mono ?_; rintro e w1 ⟨rfl, hB1⟩; have c1 := (HA.out.more hB1).c1; rw [HTa.out])
    go_ret
    exact ⟨by rw [HW.out]; rfl, B0.out.trans (hB1.mono B0.out.size)⟩
  | false =>
    have hTa : bl (34 :: (quoL a.data.toList ++ [34])) = T := by rw [← hT]; unfold lcl; rw [if_neg (by rw [hw]; simp)]
    rw [hw] at HI
    rw [hTa] at HQ
    clear hT hTa A1 hw
    go_enter Tryd.func42, Tryd.ntmps42
    go_upto_region 2 with fail
    obtain ⟨W, hW⟩ : ∃ W, w.alloc (.cells #[.string a, .string d] 24) = W := ⟨_, rfl⟩
    rw [hW] at B0 HA ⊢
    clear hW
    go_wp2_with (first
      | (go_at_call 59; refine (HI.out _).mono ?_; rintro e w1 ⟨rfl, hB1⟩)
      | (go_at_call 60; refine (HQ.out _).mono ?_; rintro e w2 ⟨rfl, hB2⟩; have hB3 := hB1.trans (hB2.mono hB1.size); have c1 := (HA.out.more hB3).c1))
    go_ret
    exact ⟨by rw [HW.out]; rfl, B0.out.trans (hB3.mono B0.out.size)⟩
theorem sz_list (s : ByteArray) : s.size = s.data.toList.length := by simp
theorem locB_len {l : List UInt8} (h : locB l = true) : l.length ≤ 64 := by
  unfold locB at h
  simp only [Bool.and_eq_true, decide_eq_true_eq] at h
  exact h.1.2

set_option maxHeartbeats 3200000 in
theorem right_any (N : Nat) (a d : ByteArray) (w : World) (ha : a.size ≤ 1099511627776) (hd : d.size ≤ 1099511627776) (hV : Vr N w) :
    Calls Tryd.prog 23 #[adV a d] w fun e w' => e = .returned (.bool (rgt a.data.toList d.data.toList)) ∧ Below w.heap.size w w' := by
  have HA : Hid (Ad (w.alloc (.cells #[.string a, .string d] 24)) w.heap.size a d) := Ad.new w a d
  have B0 : Hid (Below w.heap.size w (w.alloc (.cells #[.string a, .string d] 24))) := alloc_below w _
  have V0 : Hid (Vr N (w.alloc (.cells #[.string a, .string d] 24))) := hV.new B0.out
  have HN : Hid (∀ w, Calls Tryd.prog 41 #[adV a d] w fun e w' => e = .returned (.bool (nul a.data.toList d.data.toList)) ∧ Below w.heap.size w w') := fun w => isNull_any a d w
  have HL : Hid (∀ w, Calls Tryd.prog 16 #[.string a] w fun e w' => e = .returned (.bool (locB a.data.toList)) ∧ w' = w) := fun w => local_any a w ha
  have HD : Hid (∀ w, Vr N w → Calls Tryd.prog 14 #[.string d] w fun e w' => e = .returned (.bool (domB d.data.toList)) ∧ Below w.heap.size w w') := fun w h => domain_any N d w hd h
  obtain ⟨T, hT⟩ : ∃ T, bl (wrt a.data.toList d.data.toList) = T := ⟨_, rfl⟩
  have hTs : T.size = (wrt a.data.toList d.data.toList).length := by rw [← hT, bl_size]
  have HW : Hid (a.size ≤ 64 → ∀ w, Calls Tryd.prog 42 #[adV a d] w fun e w' => e = .returned (.string T) ∧ Below w.heap.size w w') := fun h w => by
    have := written_any a d w (by omega) hd
    rw [hT] at this
    exact this
  have HR : Hid (rgt a.data.toList d.data.toList = (nul a.data.toList d.data.toList || (locB a.data.toList && domB d.data.toList && decide (T.size ≤ 256)))) := by show _ = _; rw [hTs]; rfl
  have hz := sz_list a
  cases hn : nul a.data.toList d.data.toList with
  | true =>
    rw [hn] at HN HR
    clear hn hz hTs hT hV ha hd HW HD HL
    go_enter Tryd.func23, Tryd.ntmps23
    go_wp2_with (go_at_call 41; refine (HN.out _).mono ?_; rintro e w1 ⟨rfl, hB1⟩)
    go_ret
    exact ⟨by rw [HR.out]; rfl, B0.out.trans (hB1.mono B0.out.size)⟩
  | false =>
    rw [hn] at HN HR
    cases hl : locB a.data.toList with
    | false =>
      rw [hl] at HL HR
      clear hn hz hTs hT hV ha hd HW HD hl
      go_enter Tryd.func23, Tryd.ntmps23
      go_upto_region 1 with fail
      obtain ⟨W, hW⟩ : ∃ W, w.alloc (.cells #[.string a, .string d] 24) = W := ⟨_, rfl⟩
      rw [hW] at B0 HA V0 ⊢
      have z0 := HA.out.c0
      have z1 := HA.out.c1
      clear hW
      go_wp2_with (first
        | (go_at_call 41; refine (HN.out _).mono ?_; rintro e w1 ⟨rfl, hB1⟩; have c0 := (HA.out.more hB1).c0; have c1 := (HA.out.more hB1).c1; clear z0 z1)
        | (go_at_call 16; refine (HL.out _).mono ?_; rintro e w2 ⟨rfl, rfl⟩))
      go_ret
      exact ⟨by rw [HR.out]; rfl, B0.out.trans (hB1.mono B0.out.size)⟩
    | true =>
      rw [hl] at HL HR
      have hal := locB_len hl
      have HW2 := toHid (HW.out (by omega))
      cases hm : domB d.data.toList with
      | false =>
        rw [hm] at HD HR
        clear hn hz hTs hT hV ha hd HW HW2 hl hal hm
        go_enter Tryd.func23, Tryd.ntmps23
        go_upto_region 1 with fail
        obtain ⟨W, hW⟩ : ∃ W, w.alloc (.cells #[.string a, .string d] 24) = W := ⟨_, rfl⟩
        rw [hW] at B0 HA V0 ⊢
        have z0 := HA.out.c0
        have z1 := HA.out.c1
        clear hW
        go_wp2_with (first
          | (go_at_call 41; refine (HN.out _).mono ?_; rintro e w1 ⟨rfl, hB1⟩; have c0 := (HA.out.more hB1).c0; have c1 := (HA.out.more hB1).c1; clear z0 z1)
          | (go_at_call 16; refine (HL.out _).mono ?_; rintro e w2 ⟨rfl, rfl⟩)
          | (go_at_call 14; refine (HD.out _ (V0.out.new hB1)).mono ?_; rintro e w3 ⟨rfl, hB3⟩))
        go_ret
        exact ⟨by rw [HR.out]; rfl, (B0.out.trans (hB1.mono B0.out.size)).trans (hB3.mono (Nat.le_trans B0.out.size hB1.size))⟩
      | true =>
        rw [hm] at HD HR
        clear hn hz hTs hT hV ha hd HW hl hal hm
        go_enter Tryd.func23, Tryd.ntmps23
        go_upto_region 1 with fail
        obtain ⟨W, hW⟩ : ∃ W, w.alloc (.cells #[.string a, .string d] 24) = W := ⟨_, rfl⟩
        rw [hW] at B0 HA V0 ⊢
        have z0 := HA.out.c0
        have z1 := HA.out.c1
        clear hW
        by_cases hle : T.size ≤ 256
        · have q1 : (T.size : Int) ≤ 256 := by omega
          rw [decide_eq_true hle] at HR
          clear hle
          go_wp2_with (first
            | (go_at_call 41; refine (HN.out _).mono ?_; rintro e w1 ⟨rfl, hB1⟩; have c0 := (HA.out.more hB1).c0; have c1 := (HA.out.more hB1).c1; clear z0 z1)
            | (go_at_call 16; refine (HL.out _).mono ?_; rintro e w2 ⟨rfl, rfl⟩)
            | (go_at_call 14; refine (HD.out _ (V0.out.new hB1)).mono ?_; rintro e w3 ⟨rfl, hB3⟩; have hA3 := (HA.out.more hB1).more hB3; have e0 := hA3.c0; have e1 := hA3.c1; clear c0 c1)
            | (go_at_call 42; refine (HW2.out _).mono ?_; rintro e w4 ⟨rfl, hB4⟩))
          go_ret
          exact ⟨by rw [HR.out]; rfl, ((B0.out.trans (hB1.mono B0.out.size)).trans (hB3.mono (Nat.le_trans B0.out.size hB1.size))).trans (hB4.mono (Nat.le_trans (Nat.le_trans B0.out.size hB1.size) hB3.size))⟩
        · have q1 : ¬ (T.size : Int) ≤ 256 := by omega
          rw [decide_eq_false hle] at HR
          have q2 : decide ((T.size : Int) ≤ 256) = false := decide_eq_false q1
          clear hle
          go_wp2_with (first
            | (go_at_call 41; refine (HN.out _).mono ?_; rintro e w1 ⟨rfl, hB1⟩; have c0 := (HA.out.more hB1).c0; have c1 := (HA.out.more hB1).c1; clear z0 z1)
            | (go_at_call 16; refine (HL.out _).mono ?_; rintro e w2 ⟨rfl, rfl⟩)
            | (go_at_call 14; refine (HD.out _ (V0.out.new hB1)).mono ?_; rintro e w3 ⟨rfl, hB3⟩; have hA3 := (HA.out.more hB1).more hB3; have e0 := hA3.c0; have e1 := hA3.c1; clear c0 c1)
            | (go_at_call 42; refine (HW2.out _).mono ?_; rintro e w4 ⟨rfl, hB4⟩))
          go_ret
          exact ⟨by rw [HR.out]; rfl, ((B0.out.trans (hB1.mono B0.out.size)).trans (hB3.mono (Nat.le_trans B0.out.size hB1.size))).trans (hB4.mono (Nat.le_trans (Nat.le_trans B0.out.size hB1.size) hB3.size))⟩

theorem rgt_small {a d : List UInt8} (h : rgt a d = true) : a.length ≤ 64 := by
  unfold rgt nul at h
  by_cases h0 : a = []
  · subst h0; simp
  · simp [h0] at h
    exact locB_len h.1.1

set_option maxHeartbeats 3200000 in
theorem print_any (N : Nat) (a d : ByteArray) (w : World) (ha : a.size ≤ 1099511627776) (hd : d.size ≤ 1099511627776) (hV : Vr N w) :
    Calls Tryd.prog 25 #[adV a d] w fun e w' => e = .returned (.string (bl (prn a.data.toList d.data.toList))) ∧ Below w.heap.size w w' := by
  have HA : Hid (Ad (w.alloc (.cells #[.string a, .string d] 24)) w.heap.size a d) := Ad.new w a d
  have B0 : Hid (Below w.heap.size w (w.alloc (.cells #[.string a, .string d] 24))) := alloc_below w _
  have V0 : Hid (Vr N (w.alloc (.cells #[.string a, .string d] 24))) := hV.new B0.out
  have HN : Hid (∀ w, Calls Tryd.prog 41 #[adV a d] w fun e w' => e = .returned (.bool (nul a.data.toList d.data.toList)) ∧ Below w.heap.size w w') := fun w => isNull_any a d w
  have HG : Hid (∀ w, Vr N w → Calls Tryd.prog 23 #[adV a d] w fun e w' => e = .returned (.bool (rgt a.data.toList d.data.toList)) ∧ Below w.heap.size w w') := fun w h => right_any N a d w ha hd h
  have HW : Hid (a.size ≤ 64 → ∀ w, Calls Tryd.prog 42 #[adV a d] w fun e w' => e = .returned (.string (bl (wrt a.data.toList d.data.toList))) ∧ Below w.heap.size w w') := fun h w => written_any a d w (by omega) hd
  have hz := sz_list a
  cases hg : rgt a.data.toList d.data.toList with
  | false =>
    have HR : Hid (bl (prn a.data.toList d.data.toList) = ⟨#[]⟩) := by show _ = _; unfold prn; rw [hg]; rfl
    rw [hg] at HG
    clear hg hz hV ha hd HW HN
    go_enter Tryd.func25, Tryd.ntmps25
    go_wp2_with (go_at_call 23; refine (HG.out _ V0.out).mono ?_; rintro e w1 ⟨rfl, hB1⟩)
    go_ret
    exact ⟨by rw [HR.out]; rfl, B0.out.trans (hB1.mono B0.out.size)⟩
  | true =>
    have hal := rgt_small hg
    have HW2 := toHid (HW.out (by omega))
    rw [hg] at HG
    cases hn : nul a.data.toList d.data.toList with
    | true =>
      have HR : Hid (bl (prn a.data.toList d.data.toList) = ⟨#[60, 62]⟩) := by show _ = _; unfold prn; rw [hg, hn]; rfl
      rw [hn] at HN
      clear hg hz hV ha hd HW HW2 hn hal
      go_enter Tryd.func25, Tryd.ntmps25
      go_upto_region 1 with fail
      obtain ⟨W, hW⟩ : ∃ W, w.alloc (.cells #[.string a, .string d] 24) = W := ⟨_, rfl⟩
      rw [hW] at B0 HA V0 ⊢
      have z0 := HA.out.c0
      have z1 := HA.out.c1
      clear hW
      go_wp2_with (first
        | (go_at_call 23; refine (HG.out _ V0.out).mono ?_; rintro e w1 ⟨rfl, hB1⟩; have c0 := (HA.out.more hB1).c0; have c1 := (HA.out.more hB1).c1; clear z0 z1)
        | (go_at_call 41; refine (HN.out _).mono ?_; rintro e w2 ⟨rfl, hB2⟩))
      go_ret
      exact ⟨by rw [HR.out]; rfl, (B0.out.trans (hB1.mono B0.out.size)).trans (hB2.mono (Nat.le_trans B0.out.size hB1.size))⟩
    | false =>
      have HR : Hid (prn a.data.toList d.data.toList = wrt a.data.toList d.data.toList) := by show _ = _; unfold prn; rw [hg, hn]; rfl
      rw [hn] at HN
      obtain ⟨T, hT⟩ : ∃ T, bl (wrt a.data.toList d.data.toList) = T := ⟨_, rfl⟩
      have HT : Hid (bl (wrt a.data.toList d.data.toList) = T) := hT
      rw [hT] at HW2
      clear hg hz hV ha hd HW hn hal hT
      go_enter Tryd.func25, Tryd.ntmps25
      go_upto_region 1 with fail
      obtain ⟨W, hW⟩ : ∃ W, w.alloc (.cells #[.string a, .string d] 24) = W := ⟨_, rfl⟩
      rw [hW] at B0 HA V0 ⊢
      have z0 := HA.out.c0
      have z1 := HA.out.c1
      clear hW
      go_wp2_with (first
        | (go_at_call 23; refine (HG.out _ V0.out).mono ?_; rintro e w1 ⟨rfl, hB1⟩; have c0 := (HA.out.more hB1).c0; have c1 := (HA.out.more hB1).c1; clear z0 z1)
        | (go_at_call 41; refine (HN.out _).mono ?_; rintro e w2 ⟨rfl, hB2⟩; have hA3 := (HA.out.more hB1).more hB2; have e0 := hA3.c0; have e1 := hA3.c1; clear c0 c1)
        | (go_at_call 42; refine (HW2.out _).mono ?_; rintro e w4 ⟨rfl, hB4⟩))
      go_ret
      exact ⟨by rw [HR.out, HT.out]; rfl, ((B0.out.trans (hB1.mono B0.out.size)).trans (hB2.mono (Nat.le_trans B0.out.size hB1.size))).trans (hB4.mono (Nat.le_trans (Nat.le_trans B0.out.size hB1.size) hB2.size))⟩
end Go.Proofs.YtefofoocglhdmaaDoor

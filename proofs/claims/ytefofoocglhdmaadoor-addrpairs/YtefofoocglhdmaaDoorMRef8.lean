/-
  The document's Right, Print; Few.
-/
import Derived.Test.YtefofoocglhdmaaDoorMRef7
namespace Go.Proofs.YtefofoocglhdmaaDoor
open Go.RowKit

set_option maxHeartbeats 3200000 in
theorem rright_any (a d : ByteArray) (w : World) (ha : a.size ≤ 1099511627776) (hd : d.size ≤ 1099511627776) :
    Calls Tryd.prog 24 #[adV a d] w fun e w' => e = .returned (.bool (rgt a.data.toList d.data.toList)) ∧ Below w.heap.size w w' := by
  have hA0 := Ad.new w a d
  have hB0 := alloc_below w (.cells #[.string a, .string d] 24)
  obtain ⟨A, hA⟩ : ∃ A, (a.toList == []) = A := ⟨_, rfl⟩
  obtain ⟨B, hB⟩ : ∃ A, (d.toList == []) = A := ⟨_, rfl⟩
  have hnul : nul a.data.toList d.data.toList = (A && B) := by
    unfold nul
    rw [← hA, ← hB, ByteArray.toList_eq, ByteArray.toList_eq]
  have HL : Hid (∀ w, Calls Tryd.prog 17 #[.string a] w fun e w' => e = .returned (.bool (locB a.data.toList)) ∧ w' = w) := fun w => rlocal_any a w ha
  have HDo : Hid (∀ w, Calls Tryd.prog 15 #[.string d] w fun e w' => e = .returned (.bool (domB d.data.toList)) ∧ w' = w) := fun w => rdomain_any d w hd
  have HR : Hid (rgt a.data.toList d.data.toList = (nul a.data.toList d.data.toList || (locB a.data.toList && domB d.data.toList && decide ((wrt a.data.toList d.data.toList).length ≤ 256)))) := rfl
  have HB0 := toHid hB0
  cases A with
  | true =>
    cases B with
    | true =>
      have HR2 : Hid (rgt a.data.toList d.data.toList = true) := by show _ = _; rw [HR.out, hnul]; rfl
      clear hnul hA0 hB0 HL HDo HR
      go_enter Tryd.func24, Tryd.ntmps24
      go_wp2_with fail
      go_ret
      exact ⟨by rw [HR2.out]; rfl, HB0.out⟩
    | false =>
      have hl : locB a.data.toList = false := by
        have : a.data.toList = [] := by rw [ByteArray.toList_eq, beq_iff_eq] at hA; exact hA
        rw [this]; rfl
      have HR2 : Hid (rgt a.data.toList d.data.toList = false) := by show _ = _; rw [HR.out, hnul, hl]; rfl
      rw [hl] at HL
      have z0 := hA0.c0
      have z1 := hA0.c1
      clear hnul hA0 hB0 HDo HR hl
      go_enter Tryd.func24, Tryd.ntmps24
      go_wp2_with (go_at_call 17; refine (HL.out _).mono ?_; rintro e w1 ⟨rfl, rfl⟩)
      go_ret
      exact ⟨by rw [HR2.out]; rfl, HB0.out⟩
  | false =>
    rw [Bool.false_and] at hnul
    have z0 := hA0.c0
    have z1 := hA0.c1
    have HA0 := toHid hA0
    cases hl : locB a.data.toList with
    | false =>
      have HR2 : Hid (rgt a.data.toList d.data.toList = false) := by show _ = _; rw [HR.out, hnul, hl]; rfl
      rw [hl] at HL
      clear hnul hA0 hB0 HDo HR hl
      go_enter Tryd.func24, Tryd.ntmps24
      go_wp2_with (go_at_call 17; refine (HL.out _).mono ?_; rintro e w1 ⟨rfl, rfl⟩)
      go_ret
      exact ⟨by rw [HR2.out]; rfl, HB0.out⟩
    | true =>
      have hal := locB_len hl
      have hz := sz_list a
      cases hm : domB d.data.toList with
      | false =>
        have HR2 : Hid (rgt a.data.toList d.data.toList = false) := by show _ = _; rw [HR.out, hnul, hl, hm]; rfl
        rw [hl] at HL
        rw [hm] at HDo
        clear hnul hA0 hB0 HR hl hm hal hz
        go_enter Tryd.func24, Tryd.ntmps24
        go_wp2_with (first
          | (go_at_call 17; refine (HL.out _).mono ?_; rintro e w1 ⟨rfl, rfl⟩)
          | (go_at_call 15; refine (HDo.out _).mono ?_; rintro e w1 ⟨rfl, rfl⟩))
        go_ret
        exact ⟨by rw [HR2.out]; rfl, HB0.out⟩
      | true =>
        obtain ⟨T, hT⟩ : ∃ T, bl (txt a.data.toList d.data.toList) = T := ⟨_, rfl⟩
        have hTs : T.size = (wrt a.data.toList d.data.toList).length := by
          rw [← hT, bl_size]
          unfold txt
          rw [hnul]; rfl
        have HTx : Hid (∀ w, Calls Tryd.prog 43 #[adV a d] w fun e w' => e = .returned (.string T) ∧ Below w.heap.size w w') := fun w => by
          have := rtext_any a d w (by omega) hd
          rw [hT] at this
          exact this
        have HR1 : Hid (rgt a.data.toList d.data.toList = decide (T.size ≤ 256)) := by show _ = _; rw [HR.out, hnul, hl, hm, hTs]; rfl
        rw [hl] at HL
        rw [hm] at HDo
        by_cases h256 : T.size ≤ 256
        · have q : (T.size : Int) ≤ 256 := by omega
          have qd : decide ((T.size : Int) ≤ 256) = true := decide_eq_true q
          have HR2 : Hid (rgt a.data.toList d.data.toList = true) := by show _ = _; rw [HR1.out, decide_eq_true h256]
          clear hnul hA0 hB0 HR hl hm hal hz hT hTs HR1 h256
          go_enter Tryd.func24, Tryd.ntmps24
          go_wp2_with (first
            | (go_at_call 17; refine (HL.out _).mono ?_; rintro e w1 ⟨rfl, rfl⟩)
            | (go_at_call 15; refine (HDo.out _).mono ?_; rintro e w1 ⟨rfl, rfl⟩)
            | (go_at_call 43; refine (HTx.out _).mono ?_; rintro e w2 ⟨rfl, hB2⟩))
          go_ret
          exact ⟨by rw [HR2.out]; rfl, HB0.out.trans (hB2.mono HB0.out.size)⟩
        · have q : ¬ (T.size : Int) ≤ 256 := by omega
          have qd : decide ((T.size : Int) ≤ 256) = false := decide_eq_false q
          have HR2 : Hid (rgt a.data.toList d.data.toList = false) := by show _ = _; rw [HR1.out, decide_eq_false h256]
          clear hnul hA0 hB0 HR hl hm hal hz hT hTs HR1 h256
          go_enter Tryd.func24, Tryd.ntmps24
          go_wp2_with (first
            | (go_at_call 17; refine (HL.out _).mono ?_; rintro e w1 ⟨rfl, rfl⟩)
            | (go_at_call 15; refine (HDo.out _).mono ?_; rintro e w1 ⟨rfl, rfl⟩)
            | (go_at_call 43; refine (HTx.out _).mono ?_; rintro e w2 ⟨rfl, hB2⟩))
          go_ret
          exact ⟨by rw [HR2.out]; rfl, HB0.out.trans (hB2.mono HB0.out.size)⟩
theorem few_any (a d : ByteArray) (w : World) :
    Calls Tryd.prog 20 #[adV a d] w fun e w' => e = .returned (.bool (decide (a.size ≤ 400) && decide (d.size ≤ 600))) ∧ Below w.heap.size w w' := by
  have hA0 := Ad.new w a d
  have hB0 := alloc_below w (.cells #[.string a, .string d] 24)
  have z0 := hA0.c0
  have z1 := hA0.c1
  have HB0 := toHid hB0
  clear hA0 hB0
  by_cases h1 : a.size ≤ 400
  · have q : (a.size : Int) ≤ 400 := by omega
    have qd : decide ((a.size : Int) ≤ 400) = true := decide_eq_true q
    by_cases h2 : d.size ≤ 600
    · have r : (d.size : Int) ≤ 600 := by omega
      have rd : decide ((d.size : Int) ≤ 600) = true := decide_eq_true r
      rw [decide_eq_true h1, decide_eq_true h2]
      clear h1 h2
      go_enter Tryd.func20, Tryd.ntmps20
      go_wp2_with fail
      go_ret
      exact ⟨rfl, HB0.out⟩
    · have r : ¬ (d.size : Int) ≤ 600 := by omega
      have rd : decide ((d.size : Int) ≤ 600) = false := decide_eq_false r
      rw [decide_eq_true h1, decide_eq_false h2]
      clear h1 h2
      go_enter Tryd.func20, Tryd.ntmps20
      go_wp2_with fail
      go_ret
      exact ⟨rfl, HB0.out⟩
  · have q : ¬ (a.size : Int) ≤ 400 := by omega
    have qd : decide ((a.size : Int) ≤ 400) = false := decide_eq_false q
    rw [decide_eq_false h1]
    clear h1
    go_enter Tryd.func20, Tryd.ntmps20
    go_wp2_with fail
    go_ret
    exact ⟨rfl, HB0.out⟩
end Go.Proofs.YtefofoocglhdmaaDoor

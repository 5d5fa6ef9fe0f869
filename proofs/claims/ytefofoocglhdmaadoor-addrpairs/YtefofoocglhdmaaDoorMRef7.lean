/-
  The document's text, Right, Print, Few.
-/
import Derived.Test.YtefofoocglhdmaaDoorMRef6
import Derived.Test.YtefofoocglhdmaaDoorMBack0
import Derived.Deep.RegionLaw
namespace Go.Proofs.YtefofoocglhdmaaDoor
open Go.RowKit

/-- text, whatever the address is. -/
def txt (a d : List UInt8) : List UInt8 := if nul a d = true then [60, 62] else wrt a d
def quoJ (l : List UInt8) (k : Nat) : List Int := 60 :: 34 :: iB (quoL (l.take k))
theorem quoJ_next (l : List UInt8) (k : Nat) (hk : k < l.length) : quoJ l (k + 1) = (if l.getD k 0 = 34 ∨ l.getD k 0 = 92 then quoJ l k ++ [92] ++ [((l.getD k 0).toNat : Int)] else quoJ l k ++ [((l.getD k 0).toNat : Int)]) := by
  have := quoI_next l k hk
  unfold quoI at this
  unfold quoJ
  rw [this]
  split <;> simp
theorem quoJ_len (l : List UInt8) (k : Nat) (hl : l.length ≤ 1000000) : (quoJ l k).length ≤ 3000001 := by
  have := quoI_len l k hl
  unfold quoI at this
  unfold quoJ
  simp only [List.length_cons] at this ⊢
  omega
theorem lit2_own (w : World) (N : Nat) (x y : Int) (hN : N ≤ w.heap.size) : (w.alloc (.cells #[.int .u8 x, .int .u8 y] 5)).ownsRow N 5 1 (.slice (some ⟨w.heap.size, 0, none⟩) 2 2) 2 (bcells [x, y]) :=
  ⟨rfl, .inr ⟨w.heap.size, 2, #[.int .u8 x, .int .u8 y], rfl, hN, heap_alloc_new w _, Nat.le_refl _, by unfold maxLen; decide, rfl, rfl⟩⟩
theorem quoJ_all (l : List UInt8) : strC (quoJ l l.length ++ [34]) = bl (60 :: 34 :: (quoL l ++ [34])) := by
  have : quoJ l l.length ++ [34] = iB (60 :: 34 :: (quoL l ++ [34])) := by
    unfold quoJ iB
    rw [List.take_length]; simp
  rw [this]; exact strC_iB _

set_option maxHeartbeats 6400000 in
set_option maxRecDepth 100000 in
theorem rtext_any (a d : ByteArray) (w : World) (ha : a.size ≤ 1000000) (hd : d.size ≤ 1099511627776) :
    Calls Tryd.prog 43 #[adV a d] w fun e w' => e = .returned (.string (bl (txt a.data.toList d.data.toList))) ∧ Below w.heap.size w w' := by
  have hA0 := Ad.new w a d
  have hB0 := alloc_below w (.cells #[.string a, .string d] 24)
  obtain ⟨A, hA⟩ : ∃ A, (a.toList == []) = A := ⟨_, rfl⟩
  obtain ⟨B, hB⟩ : ∃ A, (d.toList == []) = A := ⟨_, rfl⟩
  have hnul : nul a.data.toList d.data.toList = (A && B) := by
    unfold nul
    rw [← hA, ← hB, ByteArray.toList_eq, ByteArray.toList_eq]
  by_cases hn : A = true ∧ B = true
  · obtain ⟨h1, h2⟩ := hn
    rw [h1] at hA hnul
    rw [h2] at hB hnul
    have HR : Hid (txt a.data.toList d.data.toList = [60, 62]) := by show _ = _; unfold txt; rw [hnul]; rfl
    have HB0 := toHid hB0
    clear hnul hA0 hB0 h1 h2 ha hd
    go_enter Tryd.func43, Tryd.ntmps43
    go_wp2_with fail
    go_ret
    exact ⟨by rw [HR.out]; rfl, HB0.out⟩
  have hnf : nul a.data.toList d.data.toList = false := by
    rw [hnul]
    cases A <;> cases B <;> simp_all
  have HT : Hid (txt a.data.toList d.data.toList = wrt a.data.toList d.data.toList) := by show _ = _; unfold txt; rw [hnf]; rfl
  have HPl : Hid (∀ w, Calls Tryd.prog 52 #[.string a] w fun e w' => e = .returned (.bool (isW a.data.toList)) ∧ w' = w) := fun w => rplain_any a w (by omega)
  obtain ⟨D, hD⟩ : ∃ D, w.heap.size = D := ⟨_, rfl⟩
  obtain ⟨W, hW⟩ : ∃ W, w.alloc (.cells #[.string a, .string d] 24) = W := ⟨_, rfl⟩
  have hWs : W.heap.size = D + 1 := by rw [← hW, ← hD]; simp
  rw [hW] at hA0 hB0
  rw [hD] at hA0
  have HB0 := toHid hB0
  have HA0 := toHid hA0
  have z0 := hA0.c0
  have z1 := hA0.c1
  cases hw : isW a.data.toList with
  | true =>
    have b1 : ¬ 9223372036854775807 < 1 + a.size := by omega
    have b2 : ¬ 9223372036854775807 < 1 + a.size + 1 := by omega
    have b3 : ¬ 9223372036854775807 < 1 + a.size + 1 + d.size := by omega
    have b4 : ¬ 9223372036854775807 < 1 + a.size + 1 + d.size + 1 := by omega
    have HR : Hid (bl (txt a.data.toList d.data.toList) = ⟨#[60]⟩ ++ a ++ ⟨#[64]⟩ ++ d ++ ⟨#[62]⟩) := by
      show _ = _
      rw [HT.out]
      apply ByteArray.ext
      unfold wrt lcl
      rw [if_pos hw]
      simp
    rw [hw] at HPl
    clear hnf hnul hw hA0 hB0 HT
    have HW := toHid hW
    have HD := toHid hD
    cases A with
    | false =>
      clear hn
      go_enter Tryd.func43, Tryd.ntmps43
      go_upto_region 1 with fail
      try rw [HW.out]
      try rw [HD.out]
      clear hW hD
      go_wp2_with (go_at_call 52; refine (HPl.out _).mono ?_; rintro e w1 ⟨rfl, rfl⟩)
      go_ret
      exact ⟨by rw [HR.out]; rfl, HB0.out⟩
    | true =>
      cases B with
      | true => exact absurd ⟨rfl, rfl⟩ hn
      | false =>
        clear hn
        go_enter Tryd.func43, Tryd.ntmps43
        go_upto_region 1 with fail
        try rw [HW.out]
        try rw [HD.out]
        clear hW hD
        go_wp2_with (go_at_call 52; refine (HPl.out _).mono ?_; rintro e w1 ⟨rfl, rfl⟩)
        go_ret
        exact ⟨by rw [HR.out]; rfl, HB0.out⟩
  | false =>
    have HQN : Hid (isW a.data.toList = false) := hw
    obtain ⟨i5, hi5, hz5, hs5, hb5⟩ := info5
    obtain ⟨l, hl⟩ : ∃ l, a.data.toList = l := ⟨_, rfl⟩
    have hsl : a = bl l := by rw [← hl]
    have hz : a.size = l.length := by rw [hsl, bl_size]
    have HG : Hid (∀ k, (hk : k < a.size) → a[k] = l.getD k 0) := fun k hk => by subst hsl; rw [bl_get]
    have HZ : Hid (a.size = l.length) := hz
    have HLl : Hid (l.length ≤ 1000000) := by show _ ≤ _; omega
    have HR : Hid (txt a.data.toList d.data.toList = 60 :: 34 :: (quoL l ++ [34]) ++ 64 :: (d.data.toList ++ [62])) := by
      show _ = _
      rw [HT.out]
      unfold wrt lcl
      rw [if_neg (by rw [hw]; decide), hl]
      simp
    obtain ⟨N, hNW⟩ : ∃ N, W.heap.size = N := ⟨_, rfl⟩
    have HN := toHid hNW
    have HND : Hid (N = D + 1) := by show _ = _; omega
    rw [hw] at HPl
    clear hNW hWs hl hsl hz hnf hnul hw hA0 hB0 HT
    have HW := toHid hW
    have HD := toHid hD
    cases A with
    | false =>
      clear hn
      go_enter Tryd.func43, Tryd.ntmps43
      go_upto_region 1 with fail
      try rw [HW.out]
      try rw [HD.out]
      clear hW hD
      go_wp2_with (go_at_call 52; refine (HPl.out _).mono ?_; rintro e w1 ⟨rfl, rfl⟩)
      clear z0 z1
      go_loopw [3, 4] (fun b i wr => ∃ (k n : Nat) (av : Option Addr) (c : Nat), k ≤ a.size ∧ i = .int .i64 k ∧ b = .slice av n c ∧ Hid (wr.ownsRow N 5 1 (.slice av n c) n (bcells (quoJ l k)) ∧ Below N w1 wr)) (fun _ i _ => a.size - (intOf i).toNat)
      case atStart =>
        refine ⟨0, 2, _, _, Nat.zero_le _, rfl, rfl, ?_⟩
        show _ ∧ _
        refine ⟨lit2_own _ N 60 34 (by rw [HN.out]; exact Nat.le_refl _), ?_⟩
        have := alloc_below w1 (.cells #[.int .u8 60, .int .u8 34] 5)
        rw [HN.out] at this
        exact this
      case round =>
        obtain ⟨k, n, av, c, hk, rfl, rfl, hA⟩ := hrel
        obtain ⟨ho, hB⟩ := hA.out
        have hNr : N ≤ wr.heap.size := by have := hB.size; have := HN.out; omega
        have hAd : Ad wr D a d := HA0.out.more (by rw [HN.out]; exact hB)
        have z0 := hAd.c0
        have z1 := hAd.c1
        have hlen := quoJ_len l k HLl.out
        by_cases hlt : k < a.size
        · have q1 : (k : Int) < a.size := by omega
          have hkl : k < l.length := by have := HZ.out; omega
          have hg := HG.out k hlt
          have hnx := quoJ_next l k hkl
          rw [← hg] at hnx
          obtain ⟨X, hX⟩ : ∃ X : Int, (a[k].toNat : Int) = X := ⟨_, rfl⟩
          have HX := toHid hX
          by_cases hc : a[k] = 34 ∨ a[k] = 92
          · rw [if_pos hc, hX] at hnx
            have HNX : Hid (quoJ l (k + 1) = quoJ l k ++ [92] ++ [X]) := hnx
            have o1 : (wr.alloc (.cells #[.int .u8 92] 5)).ownsRow N 5 1 (.slice av n c) n (bcells (quoJ l k)) := own_kept ho (Chg.alloc (fun _ => False) wr _) (fun _ _ h => h)
            have U1 : Bs (wr.alloc (.cells #[.int .u8 92] 5)) (.slice (some ⟨wr.heap.size, 0, none⟩) 1 1) [92] := Bs.one wr 92
            have hN1 : N ≤ (wr.alloc (.cells #[.int .u8 92] 5)).heap.size := by simp; omega
            have HB1 : Hid (Below N w1 (wr.alloc (.cells #[.int .u8 92] 5))) := hB.alloc hNr _
            have hb1 : (quoJ l k).length + [(92 : Int)].length ≤ 1099511627776 := by simp; omega
            have hb2 : (quoJ l k ++ [92]).length + [X].length ≤ 1099511627776 := by simp; omega
            have hAk : ∀ w2, Below N w1 w2 → Ad w2 D a d := fun w2 h => HA0.out.more (by rw [HN.out]; exact h)
            have HAk := toHid hAk
            by_cases h34 : a[k] = 34
            · have e34 : ((a[k].toNat : Int) == 34) = true := i_eq h34
              rw [hX] at e34
              clear h34 hc hnx hg hkl hlen hB hA ho hAd hAk
              go_wp2_with (first
                | (at_builtin; refine wpList_app rfl (.tmp 44) (.tmp 45) 43 rfl N i5 Tryd.underlying43 hi5 hz5 hs5 hb5 _ _ n (quoJ l k) [92] rfl o1 rfl U1 hb1 hN1 ?_; intro v3 w3 ho3 hg3 _; obtain ⟨va3, vc3, rfl⟩ := own_sl ho3; have B3 := HB1.out.trans (grown_belowB o1 hg3 hN1); have y0 := (HAk.out _ B3).c0; have o4 := own_kept ho3 (Chg.alloc (fun _ => False) w3 (.cells #[.int .u8 X] 5)) (fun _ _ h => h); have U4 := Bs.one w3 X; have hN4 : N ≤ (w3.alloc (.cells #[.int .u8 X] 5)).heap.size := (by have h1 := B3.size; have h2 := HN.out; simp; omega); have B4 := toHid (B3.alloc (by have h1 := B3.size; have h2 := HN.out; omega) (.cells #[.int .u8 X] 5)); clear B3)
                | (at_builtin; refine wpList_app rfl (.tmp 47) (.tmp 52) 43 rfl N i5 Tryd.underlying43 hi5 hz5 hs5 hb5 _ _ _ (quoJ l k ++ [92]) [X] rfl o4 rfl U4 hb2 hN4 ?_; intro v5 w5 ho5 hg5 _; obtain ⟨va5, vc5, rfl⟩ := own_sl ho5))
              go_roundw
              case rel => exact ⟨k + 1, _, va5, vc5, by omega, by go_num, rfl, by rw [HNX.out]; exact ho5, B4.out.trans (grown_belowB o4 hg5 hN4)⟩
              case measure => simp [intOf]; omega
            · have e34 : ((a[k].toNat : Int) == 34) = false := i_ne h34
              have e92 : ((a[k].toNat : Int) == 92) = true := i_eq (hc.elim (fun h => absurd h h34) id)
              rw [hX] at e34 e92
              clear h34 hc hnx hg hkl hlen hB hA ho hAd hAk
              go_wp2_with (first
                | (at_builtin; refine wpList_app rfl (.tmp 44) (.tmp 45) 43 rfl N i5 Tryd.underlying43 hi5 hz5 hs5 hb5 _ _ n (quoJ l k) [92] rfl o1 rfl U1 hb1 hN1 ?_; intro v3 w3 ho3 hg3 _; obtain ⟨va3, vc3, rfl⟩ := own_sl ho3; have B3 := HB1.out.trans (grown_belowB o1 hg3 hN1); have y0 := (HAk.out _ B3).c0; have o4 := own_kept ho3 (Chg.alloc (fun _ => False) w3 (.cells #[.int .u8 X] 5)) (fun _ _ h => h); have U4 := Bs.one w3 X; have hN4 : N ≤ (w3.alloc (.cells #[.int .u8 X] 5)).heap.size := (by have h1 := B3.size; have h2 := HN.out; simp; omega); have B4 := toHid (B3.alloc (by have h1 := B3.size; have h2 := HN.out; omega) (.cells #[.int .u8 X] 5)); clear B3)
                | (at_builtin; refine wpList_app rfl (.tmp 47) (.tmp 52) 43 rfl N i5 Tryd.underlying43 hi5 hz5 hs5 hb5 _ _ _ (quoJ l k ++ [92]) [X] rfl o4 rfl U4 hb2 hN4 ?_; intro v5 w5 ho5 hg5 _; obtain ⟨va5, vc5, rfl⟩ := own_sl ho5))
              go_roundw
              case rel => exact ⟨k + 1, _, va5, vc5, by omega, by go_num, rfl, by rw [HNX.out]; exact ho5, B4.out.trans (grown_belowB o4 hg5 hN4)⟩
              case measure => simp [intOf]; omega
          · have e34 : ((a[k].toNat : Int) == 34) = false := i_ne (fun h => hc (.inl h))
            have e92 : ((a[k].toNat : Int) == 92) = false := i_ne (fun h => hc (.inr h))
            rw [hX] at e34 e92
            rw [if_neg hc, hX] at hnx
            have HNX : Hid (quoJ l (k + 1) = quoJ l k ++ [X]) := hnx
            have o1 : (wr.alloc (.cells #[.int .u8 X] 5)).ownsRow N 5 1 (.slice av n c) n (bcells (quoJ l k)) := own_kept ho (Chg.alloc (fun _ => False) wr _) (fun _ _ h => h)
            have U1 : Bs (wr.alloc (.cells #[.int .u8 X] 5)) (.slice (some ⟨wr.heap.size, 0, none⟩) 1 1) [X] := Bs.one wr X
            have hN1 : N ≤ (wr.alloc (.cells #[.int .u8 X] 5)).heap.size := by simp; omega
            have HB1 : Hid (Below N w1 (wr.alloc (.cells #[.int .u8 X] 5))) := hB.alloc hNr _
            have hb1 : (quoJ l k).length + [X].length ≤ 1099511627776 := by simp; omega
            clear hc hnx hg hkl hlen hB hA ho hAd
            go_wp2_with (at_builtin; go_must (refine wpList_app rfl (.tmp 47) (.tmp 52) 43 rfl N i5 Tryd.underlying43 hi5 hz5 hs5 hb5 _ _ n (quoJ l k) [X] rfl o1 rfl U1 hb1 hN1 ?_; intro v3 w3 ho3 hg3 _; obtain ⟨va3, vc3, rfl⟩ := own_sl ho3))
            go_roundw
            case rel => exact ⟨k + 1, _, va3, vc3, by omega, by go_num, rfl, by rw [HNX.out]; exact ho3, HB1.out.trans (grown_belowB o1 hg3 hN1)⟩
            case measure => simp [intOf]; omega
        · have q1 : ¬ (k : Int) < a.size := by omega
          have hkl : k = l.length := by have := HZ.out; omega
          obtain ⟨T, hT⟩ : ∃ T, bl (60 :: 34 :: (quoL l ++ [34])) = T := ⟨_, rfl⟩
          have hTs : T.size ≤ 2000003 := by
            rw [← hT, bl_size]
            have := quoL_len l
            have := HLl.out
            simp; omega
          have HQ : Hid (strC (quoJ l k ++ [34]) = T) := by show _ = _; rw [hkl, ← hT]; exact quoJ_all l
          have HRT : Hid (bl (txt a.data.toList d.data.toList) = T ++ ⟨#[64]⟩ ++ d ++ ⟨#[62]⟩) := by
            show _ = _
            rw [HR.out, ← hT]
            apply ByteArray.ext
            simp
          have b1 : ¬ 9223372036854775807 < T.size + 1 := by omega
          have b2 : ¬ 9223372036854775807 < T.size + 1 + d.size := by omega
          have b3 : ¬ 9223372036854775807 < T.size + 1 + d.size + 1 := by omega
          have o0 : (wr.alloc (.cells #[.int .u8 34] 5)).ownsRow N 5 1 (.slice av n c) n (bcells (quoJ l k)) := own_kept ho (Chg.alloc (fun _ => False) wr _) (fun _ _ h => h)
          have o1 : (wr.alloc (.cells #[.int .u8 34] 5)).drew.ownsRow N 5 1 (.slice av n c) n (bcells (quoJ l k)) := own_kept o0 (Chg.drew (fun _ => False) _) (fun _ _ h => h)
          have U1 : Bs (wr.alloc (.cells #[.int .u8 34] 5)).drew (.slice (some ⟨wr.heap.size, 0, none⟩) 1 1) [34] := (Bs.one wr 34).kept (Chg.drew (fun _ => False) _) (fun _ _ _ _ _ h => h)
          have hN1 : N ≤ (wr.alloc (.cells #[.int .u8 34] 5)).drew.heap.size := by show N ≤ (wr.alloc (.cells #[.int .u8 34] 5)).heap.size; simp; omega
          have hB0' : Below N w1 (wr.alloc (.cells #[.int .u8 34] 5)) := hB.alloc hNr _
          have hB1 : Below N w1 (wr.alloc (.cells #[.int .u8 34] 5)).drew := hB0'.trans ((Chg.drew (fun _ => False) (wr.alloc (.cells #[.int .u8 34] 5))).below hN1 fun _ h => h.elim)
          have hb1 : (quoJ l k).length + [(34 : Int)].length ≤ 1099511627776 := by simp; omega
          have hAk : ∀ w2, Below N w1 w2 → Ad w2 D a d := fun w2 h => HA0.out.more (by rw [HN.out]; exact h)
          have y1 := (hAk _ hB0').c1
          have HAk := toHid hAk
          have HB1 := toHid hB1
          clear hT hkl hlen hB hA ho hAd hAk hB1 hB0' o0
          go_wp2
          go_region_law (refine step_app (by rfl) (.tmp 54) (.tmp 55) 43 (by rfl) N i5 Tryd.underlying43 hi5 hz5 hs5 hb5 (.slice av n c) _ n (quoJ l k) [34] (by rfl) o1 (by rfl) U1 hb1 hN1 ?_; intro v3 w3 ho3 hg3 _; have ho4 : w3.ownsRow N 5 1 v3 (n + 1) (bcells (quoJ l k ++ [34])) := ho3; have r3 := run_strC (Bs.ofOwns ho4); rw [HQ.out] at r3; obtain ⟨va3, vc3, rfl⟩ := own_sl ho4; have B3 := toHid (HB1.out.trans (grown_belowB o1 hg3 hN1)); have y3 := (HAk.out _ B3.out).c1; clear ho3 ho4)
          all_goals (go_wp2; go_ret)
          all_goals exact ⟨by rw [HRT.out]; rfl, HB0.out.trans (B3.out.mono (by rw [HND.out, HD.out]; omega))⟩
    | true =>
      cases B with
      | true => exact absurd ⟨rfl, rfl⟩ hn
      | false =>
        clear hn
        go_enter Tryd.func43, Tryd.ntmps43
        go_upto_region 1 with fail
        try rw [HW.out]
        try rw [HD.out]
        clear hW hD
        go_wp2_with (go_at_call 52; refine (HPl.out _).mono ?_; rintro e w1 ⟨rfl, rfl⟩)
        clear z0 z1
        go_loopw [3, 4] (fun b i wr => ∃ (k n : Nat) (av : Option Addr) (c : Nat), k ≤ a.size ∧ i = .int .i64 k ∧ b = .slice av n c ∧ Hid (wr.ownsRow N 5 1 (.slice av n c) n (bcells (quoJ l k)) ∧ Below N w1 wr)) (fun _ i _ => a.size - (intOf i).toNat)
        case atStart =>
          refine ⟨0, 2, _, _, Nat.zero_le _, rfl, rfl, ?_⟩
          show _ ∧ _
          refine ⟨lit2_own _ N 60 34 (by rw [HN.out]; exact Nat.le_refl _), ?_⟩
          have := alloc_below w1 (.cells #[.int .u8 60, .int .u8 34] 5)
          rw [HN.out] at this
          exact this
        case round =>
          obtain ⟨k, n, av, c, hk, rfl, rfl, hA⟩ := hrel
          obtain ⟨ho, hB⟩ := hA.out
          have hNr : N ≤ wr.heap.size := by have := hB.size; have := HN.out; omega
          have hAd : Ad wr D a d := HA0.out.more (by rw [HN.out]; exact hB)
          have z0 := hAd.c0
          have z1 := hAd.c1
          have hlen := quoJ_len l k HLl.out
          by_cases hlt : k < a.size
          · have q1 : (k : Int) < a.size := by omega
            have hkl : k < l.length := by have := HZ.out; omega
            have hg := HG.out k hlt
            have hnx := quoJ_next l k hkl
            rw [← hg] at hnx
            obtain ⟨X, hX⟩ : ∃ X : Int, (a[k].toNat : Int) = X := ⟨_, rfl⟩
            have HX := toHid hX
            by_cases hc : a[k] = 34 ∨ a[k] = 92
            · rw [if_pos hc, hX] at hnx
              have HNX : Hid (quoJ l (k + 1) = quoJ l k ++ [92] ++ [X]) := hnx
              have o1 : (wr.alloc (.cells #[.int .u8 92] 5)).ownsRow N 5 1 (.slice av n c) n (bcells (quoJ l k)) := own_kept ho (Chg.alloc (fun _ => False) wr _) (fun _ _ h => h)
              have U1 : Bs (wr.alloc (.cells #[.int .u8 92] 5)) (.slice (some ⟨wr.heap.size, 0, none⟩) 1 1) [92] := Bs.one wr 92
              have hN1 : N ≤ (wr.alloc (.cells #[.int .u8 92] 5)).heap.size := by simp; omega
              have HB1 : Hid (Below N w1 (wr.alloc (.cells #[.int .u8 92] 5))) := hB.alloc hNr _
              have hb1 : (quoJ l k).length + [(92 : Int)].length ≤ 1099511627776 := by simp; omega
              have hb2 : (quoJ l k ++ [92]).length + [X].length ≤ 1099511627776 := by simp; omega
              have hAk : ∀ w2, Below N w1 w2 → Ad w2 D a d := fun w2 h => HA0.out.more (by rw [HN.out]; exact h)
              have HAk := toHid hAk
              by_cases h34 : a[k] = 34
              · have e34 : ((a[k].toNat : Int) == 34) = true := i_eq h34
                rw [hX] at e34
                clear h34 hc hnx hg hkl hlen hB hA ho hAd hAk
                go_wp2_with (first
                  | (at_builtin; refine wpList_app rfl (.tmp 44) (.tmp 45) 43 rfl N i5 Tryd.underlying43 hi5 hz5 hs5 hb5 _ _ n (quoJ l k) [92] rfl o1 rfl U1 hb1 hN1 ?_; intro v3 w3 ho3 hg3 _; obtain ⟨va3, vc3, rfl⟩ := own_sl ho3; have B3 := HB1.out.trans (grown_belowB o1 hg3 hN1); have y0 := (HAk.out _ B3).c0; have o4 := own_kept ho3 (Chg.alloc (fun _ => False) w3 (.cells #[.int .u8 X] 5)) (fun _ _ h => h); have U4 := Bs.one w3 X; have hN4 : N ≤ (w3.alloc (.cells #[.int .u8 X] 5)).heap.size := (by have h1 := B3.size; have h2 := HN.out; simp; omega); have B4 := toHid (B3.alloc (by have h1 := B3.size; have h2 := HN.out; omega) (.cells #[.int .u8 X] 5)); clear B3)
                  | (at_builtin; refine wpList_app rfl (.tmp 47) (.tmp 52) 43 rfl N i5 Tryd.underlying43 hi5 hz5 hs5 hb5 _ _ _ (quoJ l k ++ [92]) [X] rfl o4 rfl U4 hb2 hN4 ?_; intro v5 w5 ho5 hg5 _; obtain ⟨va5, vc5, rfl⟩ := own_sl ho5))
                go_roundw
                case rel => exact ⟨k + 1, _, va5, vc5, by omega, by go_num, rfl, by rw [HNX.out]; exact ho5, B4.out.trans (grown_belowB o4 hg5 hN4)⟩
                case measure => simp [intOf]; omega
              · have e34 : ((a[k].toNat : Int) == 34) = false := i_ne h34
                have e92 : ((a[k].toNat : Int) == 92) = true := i_eq (hc.elim (fun h => absurd h h34) id)
                rw [hX] at e34 e92
                clear h34 hc hnx hg hkl hlen hB hA ho hAd hAk
                go_wp2_with (first
                  | (at_builtin; refine wpList_app rfl (.tmp 44) (.tmp 45) 43 rfl N i5 Tryd.underlying43 hi5 hz5 hs5 hb5 _ _ n (quoJ l k) [92] rfl o1 rfl U1 hb1 hN1 ?_; intro v3 w3 ho3 hg3 _; obtain ⟨va3, vc3, rfl⟩ := own_sl ho3; have B3 := HB1.out.trans (grown_belowB o1 hg3 hN1); have y0 := (HAk.out _ B3).c0; have o4 := own_kept ho3 (Chg.alloc (fun _ => False) w3 (.cells #[.int .u8 X] 5)) (fun _ _ h => h); have U4 := Bs.one w3 X; have hN4 : N ≤ (w3.alloc (.cells #[.int .u8 X] 5)).heap.size := (by have h1 := B3.size; have h2 := HN.out; simp; omega); have B4 := toHid (B3.alloc (by have h1 := B3.size; have h2 := HN.out; omega) (.cells #[.int .u8 X] 5)); clear B3)
                  | (at_builtin; refine wpList_app rfl (.tmp 47) (.tmp 52) 43 rfl N i5 Tryd.underlying43 hi5 hz5 hs5 hb5 _ _ _ (quoJ l k ++ [92]) [X] rfl o4 rfl U4 hb2 hN4 ?_; intro v5 w5 ho5 hg5 _; obtain ⟨va5, vc5, rfl⟩ := own_sl ho5))
                go_roundw
                case rel => exact ⟨k + 1, _, va5, vc5, by omega, by go_num, rfl, by rw [HNX.out]; exact ho5, B4.out.trans (grown_belowB o4 hg5 hN4)⟩
                case measure => simp [intOf]; omega
            · have e34 : ((a[k].toNat : Int) == 34) = false := i_ne (fun h => hc (.inl h))
              have e92 : ((a[k].toNat : Int) == 92) = false := i_ne (fun h => hc (.inr h))
              rw [hX] at e34 e92
              rw [if_neg hc, hX] at hnx
              have HNX : Hid (quoJ l (k + 1) = quoJ l k ++ [X]) := hnx
              have o1 : (wr.alloc (.cells #[.int .u8 X] 5)).ownsRow N 5 1 (.slice av n c) n (bcells (quoJ l k)) := own_kept ho (Chg.alloc (fun _ => False) wr _) (fun _ _ h => h)
              have U1 : Bs (wr.alloc (.cells #[.int .u8 X] 5)) (.slice (some ⟨wr.heap.size, 0, none⟩) 1 1) [X] := Bs.one wr X
              have hN1 : N ≤ (wr.alloc (.cells #[.int .u8 X] 5)).heap.size := by simp; omega
              have HB1 : Hid (Below N w1 (wr.alloc (.cells #[.int .u8 X] 5))) := hB.alloc hNr _
              have hb1 : (quoJ l k).length + [X].length ≤ 1099511627776 := by simp; omega
              clear hc hnx hg hkl hlen hB hA ho hAd
              go_wp2_with (at_builtin; go_must (refine wpList_app rfl (.tmp 47) (.tmp 52) 43 rfl N i5 Tryd.underlying43 hi5 hz5 hs5 hb5 _ _ n (quoJ l k) [X] rfl o1 rfl U1 hb1 hN1 ?_; intro v3 w3 ho3 hg3 _; obtain ⟨va3, vc3, rfl⟩ := own_sl ho3))
              go_roundw
              case rel => exact ⟨k + 1, _, va3, vc3, by omega, by go_num, rfl, by rw [HNX.out]; exact ho3, HB1.out.trans (grown_belowB o1 hg3 hN1)⟩
              case measure => simp [intOf]; omega
          · have q1 : ¬ (k : Int) < a.size := by omega
            have hkl : k = l.length := by have := HZ.out; omega
            obtain ⟨T, hT⟩ : ∃ T, bl (60 :: 34 :: (quoL l ++ [34])) = T := ⟨_, rfl⟩
            have hTs : T.size ≤ 2000003 := by
              rw [← hT, bl_size]
              have := quoL_len l
              have := HLl.out
              simp; omega
            have HQ : Hid (strC (quoJ l k ++ [34]) = T) := by show _ = _; rw [hkl, ← hT]; exact quoJ_all l
            have HRT : Hid (bl (txt a.data.toList d.data.toList) = T ++ ⟨#[64]⟩ ++ d ++ ⟨#[62]⟩) := by
              show _ = _
              rw [HR.out, ← hT]
              apply ByteArray.ext
              simp
            have b1 : ¬ 9223372036854775807 < T.size + 1 := by omega
            have b2 : ¬ 9223372036854775807 < T.size + 1 + d.size := by omega
            have b3 : ¬ 9223372036854775807 < T.size + 1 + d.size + 1 := by omega
            have o0 : (wr.alloc (.cells #[.int .u8 34] 5)).ownsRow N 5 1 (.slice av n c) n (bcells (quoJ l k)) := own_kept ho (Chg.alloc (fun _ => False) wr _) (fun _ _ h => h)
            have o1 : (wr.alloc (.cells #[.int .u8 34] 5)).drew.ownsRow N 5 1 (.slice av n c) n (bcells (quoJ l k)) := own_kept o0 (Chg.drew (fun _ => False) _) (fun _ _ h => h)
            have U1 : Bs (wr.alloc (.cells #[.int .u8 34] 5)).drew (.slice (some ⟨wr.heap.size, 0, none⟩) 1 1) [34] := (Bs.one wr 34).kept (Chg.drew (fun _ => False) _) (fun _ _ _ _ _ h => h)
            have hN1 : N ≤ (wr.alloc (.cells #[.int .u8 34] 5)).drew.heap.size := by show N ≤ (wr.alloc (.cells #[.int .u8 34] 5)).heap.size; simp; omega
            have hB0' : Below N w1 (wr.alloc (.cells #[.int .u8 34] 5)) := hB.alloc hNr _
            have hB1 : Below N w1 (wr.alloc (.cells #[.int .u8 34] 5)).drew := hB0'.trans ((Chg.drew (fun _ => False) (wr.alloc (.cells #[.int .u8 34] 5))).below hN1 fun _ h => h.elim)
            have hb1 : (quoJ l k).length + [(34 : Int)].length ≤ 1099511627776 := by simp; omega
            have hAk : ∀ w2, Below N w1 w2 → Ad w2 D a d := fun w2 h => HA0.out.more (by rw [HN.out]; exact h)
            have y1 := (hAk _ hB0').c1
            have HAk := toHid hAk
            have HB1 := toHid hB1
            clear hT hkl hlen hB hA ho hAd hAk hB1 hB0' o0
            go_wp2
            go_region_law (refine step_app (by rfl) (.tmp 54) (.tmp 55) 43 (by rfl) N i5 Tryd.underlying43 hi5 hz5 hs5 hb5 (.slice av n c) _ n (quoJ l k) [34] (by rfl) o1 (by rfl) U1 hb1 hN1 ?_; intro v3 w3 ho3 hg3 _; have ho4 : w3.ownsRow N 5 1 v3 (n + 1) (bcells (quoJ l k ++ [34])) := ho3; have r3 := run_strC (Bs.ofOwns ho4); rw [HQ.out] at r3; obtain ⟨va3, vc3, rfl⟩ := own_sl ho4; have B3 := toHid (HB1.out.trans (grown_belowB o1 hg3 hN1)); have y3 := (HAk.out _ B3.out).c1; clear ho3 ho4)
            all_goals (go_wp2; go_ret)
            all_goals exact ⟨by rw [HRT.out]; rfl, HB0.out.trans (B3.out.mono (by rw [HND.out, HD.out]; omega))⟩
end Go.Proofs.YtefofoocglhdmaaDoor

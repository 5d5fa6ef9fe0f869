/-
  quote, written.
-/
import Derived.Test.YtefofoocglhdmaaDoorMLow
namespace Go.Proofs.YtefofoocglhdmaaDoor
open Go.RowKit

theorem info_parts {o : Option TypeInfo} {z : Value} {s b : Nat} (h : o.map (fun i => (i.zero, i.size, i.bytes)) = some (some z, s, b)) : ∃ i : TypeInfo, o = some i ∧ i.zero = some z ∧ i.size = s ∧ i.bytes = b := by
  cases ho : o with
  | none => rw [ho] at h; cases h
  | some i =>
    rw [ho] at h
    injection h with h
    injection h with h1 h
    injection h with h2 h3
    exact ⟨i, rfl, h1, h2, h3⟩
theorem info5 : ∃ i : TypeInfo, Tryd.prog.info? 5 = some i ∧ i.zero = some (.int .u8 0) ∧ i.size = 1 ∧ i.bytes = 1 := info_parts (by kernel_rfl)
theorem own_sl {w : World} {N T k n : Nat} {v : Value} {xs : List Value} (h : w.ownsRow N T k v n xs) : ∃ a cap, v = .slice a n cap := by
  rcases h.2 with ⟨rfl, h0⟩ | ⟨g, cap, cur, rfl, _⟩
  · have := h.1
    rw [h0] at this
    exact ⟨none, 0, by simp_all⟩
  · exact ⟨_, _, rfl⟩
theorem own_ge {w : World} {N T k n b : Nat} {v : Value} {xs : List Value} (h : w.ownsRow N T k v n xs) (hb : v.ownBlock = some b) : N ≤ b ∧ b < w.heap.size := by
  rcases h.2 with ⟨rfl, h0⟩ | ⟨g, cap, cur, rfl, hg, hb2, _⟩
  · cases hb
  · have : g = b := by simpa [Value.ownBlock] using hb
    subst this
    exact ⟨hg, lt_of_block hb2⟩
theorem own_kept {S : Nat → Prop} {w w' : World} {N T k n : Nat} {v : Value} {xs : List Value} (h : w.ownsRow N T k v n xs) (hc : Chg S w w') (hS : ∀ b, v.ownBlock = some b → ¬ S b) : w'.ownsRow N T k v n xs := by
  refine ⟨h.1, ?_⟩
  rcases h.2 with h2 | ⟨g, cap, cur, rfl, h2, h3, h4⟩
  · exact .inl h2
  · exact .inr ⟨g, cap, cur, rfl, h2, (hc.block g (lt_of_block h3) (hS g rfl)).trans h3, h4⟩
theorem grown_belowB {w w' : World} {N n : Nat} {v : Value} {xs : List Value} (h : w.ownsRow N 5 1 v n xs) (hg : w.grownBy w' v.ownBlock) (hN : N ≤ w.heap.size) : Below N w w' :=
  (Chg.ofGrown hg).below hN fun _ hk => (own_ge h hk).1
theorem lit1_own (w : World) (N : Nat) (x : Int) (hN : N ≤ w.heap.size) : (w.alloc (.cells #[.int .u8 x] 5)).ownsRow N 5 1 (.slice (some ⟨w.heap.size, 0, none⟩) 1 1) 1 (bcells [x]) :=
  ⟨rfl, .inr ⟨w.heap.size, 1, #[.int .u8 x], rfl, hN, heap_alloc_new w _, Nat.le_refl _, by unfold maxLen; decide, rfl, rfl⟩⟩
theorem Bs.lit (w : World) (xs : List Int) (fr : Nat × Nat) (hx : xs.length ≤ 1099511627776) : Bs (w.alloc (.cells (bcells xs).toArray 5 fr)) (.slice (some ⟨w.heap.size, 0, none⟩) xs.length xs.length) xs := by
  refine .inr ⟨⟨w.heap.size, 0, none⟩, xs.length, rfl, Nat.le_refl _, by unfold maxLen; omega, fun j hj => ?_⟩
  have e : (⟨w.heap.size, 0, none⟩ : Addr).add j = ⟨w.heap.size, j, none⟩ := by unfold Addr.add; split <;> simp_all
  rw [e, cell_of_row _ _ _ _ _ _ (heap_alloc_new w _)]
  simp [bcells, List.getD, hj]
theorem quoL_app (a b : List UInt8) : quoL (a ++ b) = quoL a ++ quoL b := by
  induction a with
  | nil => rfl
  | cons x xs ih =>
    rw [List.cons_append, quoL, quoL]
    split <;> rw [ih] <;> rfl
theorem quoL_len (a : List UInt8) : (quoL a).length ≤ 2 * a.length := by
  induction a with
  | nil => simp [quoL]
  | cons x xs ih =>
    rw [quoL]
    split <;> simp <;> omega
/-- What quote has so far, as ints. -/
def quoI (l : List UInt8) (k : Nat) : List Int := 34 :: iB (quoL (l.take k))
theorem iB_app (a b : List UInt8) : iB (a ++ b) = iB a ++ iB b := by unfold iB; rw [List.map_append]
theorem quoI_next (l : List UInt8) (k : Nat) (hk : k < l.length) : quoI l (k + 1) = quoI l k ++ (if l.getD k 0 = 34 ∨ l.getD k 0 = 92 then [92, ((l.getD k 0).toNat : Int)] else [((l.getD k 0).toNat : Int)]) := by
  have e2 : l.take (k + 1) = l.take k ++ [l.getD k 0] := by
    rw [List.take_succ_eq_append_getElem hk]; simp [List.getD, hk]
  unfold quoI
  rw [e2, quoL_app, iB_app, List.cons_append, quoL]
  split
  · rfl
  · rfl
theorem quoI_len (l : List UInt8) (k : Nat) (hl : l.length ≤ 1000000) : (quoI l k).length ≤ 3000000 := by
  unfold quoI
  have h1 := quoL_len (l.take k)
  rw [List.length_take] at h1
  rw [List.length_cons, iB_len]
  omega
theorem quoI_all (l : List UInt8) : strC (quoI l l.length ++ [34]) = bl (34 :: (quoL l ++ [34])) := by
  have e : quoI l l.length ++ [34] = iB (34 :: (quoL l ++ [34])) := by
    unfold quoI
    rw [List.take_length]
    unfold iB
    simp
  rw [e, strC_iB]

set_option maxHeartbeats 3200000 in
set_option maxRecDepth 100000 in
theorem quote_any (s : ByteArray) (w : World) (hs : s.size ≤ 1000000) :
    Calls Tryd.prog 60 #[.string s] w fun e w' => e = .returned (.string (bl (34 :: (quoL s.data.toList ++ [34])))) ∧ Below w.heap.size w w' := by
  obtain ⟨i5, hi5, hz5, hs5, hb5⟩ := info5
  obtain ⟨l, hl⟩ : ∃ l, s.data.toList = l := ⟨_, rfl⟩
  have hsl : s = bl l := by rw [← hl]
  have hz : s.size = l.length := by rw [hsl, bl_size]
  have HG : Hid (∀ k, (hk : k < s.size) → s[k] = l.getD k 0) := fun k hk => by subst hsl; rw [bl_get]
  have HZ : Hid (s.size = l.length) := hz
  have HLl : Hid (l.length ≤ 1000000) := by show _ ≤ _; omega
  rw [hl]
  clear hl hsl hz
  obtain ⟨N, hN⟩ : ∃ N, w.heap.size = N := ⟨_, rfl⟩
  have HN : Hid (w.heap.size = N) := hN
  have o0 := lit1_own w N 34 (by omega)
  have HO : Hid (∃ v, v = Value.slice (some ⟨w.heap.size, 0, none⟩) 1 1 ∧ (w.alloc (.cells #[.int .u8 34] 5)).ownsRow N 5 1 v 1 (bcells [34])) := ⟨_, rfl, o0⟩
  have HB0 : Hid (Below N w (w.alloc (.cells #[.int .u8 34] 5))) := by rw [← hN]; exact alloc_below w _
  rw [hN] at HO
  clear o0 hN
  go_enter Tryd.func60, Tryd.ntmps60
  go_wp2_with fail
  go_loopw [3, 9] (fun b i wr => ∃ (k n : Nat) (a : Option Addr) (c : Nat), k ≤ s.size ∧ i = .int .i64 k ∧ b = .slice a n c ∧ Hid (wr.ownsRow N 5 1 (.slice a n c) n (bcells (quoI l k)) ∧ Below N w wr)) (fun _ i _ => s.size - (intOf i).toNat)
  case atStart =>
    obtain ⟨v, rfl, ho⟩ := HO.out
    rw [HN.out]
    exact ⟨0, 1, _, _, Nat.zero_le _, rfl, rfl, ho, HB0.out⟩
  case round =>
    obtain ⟨k, n, a, c, hk, rfl, rfl, hA⟩ := hrel
    obtain ⟨ho, hB⟩ := hA.out
    have hNr : N ≤ wr.heap.size := by have := hB.size; have := HN.out; omega
    have hlen := quoI_len l k HLl.out
    have hbound1 : ∀ x : Int, (quoI l k).length + [x].length ≤ 1099511627776 := fun x => by simp; omega
    have hbound2 : ∀ x : Int, (quoI l k).length + [92, x].length ≤ 1099511627776 := fun x => by simp; omega
    by_cases hlt : k < s.size
    · have q1 : (k : Int) < s.size := by omega
      have hkl : k < l.length := by have := HZ.out; omega
      have hg := HG.out k hlt
      have hnx := quoI_next l k hkl
      rw [← hg] at hnx
      obtain ⟨X, hX⟩ : ∃ X : Int, (s[k].toNat : Int) = X := ⟨_, rfl⟩
      by_cases h34 : s[k] = 34
      · have e34 : ((s[k].toNat : Int) == 34) = true := i_eq h34
        rw [if_pos (.inl h34), hX] at hnx
        rw [hX] at e34
        clear h34
        have o1 : (wr.alloc (.cells #[.int .u8 92, .int .u8 X] 5)).ownsRow N 5 1 (.slice a n c) n (bcells (quoI l k)) := own_kept ho (Chg.alloc (fun _ => False) wr _) (fun _ _ h => h)
        have U1 : Bs (wr.alloc (.cells #[.int .u8 92, .int .u8 X] 5)) (.slice (some ⟨wr.heap.size, 0, none⟩) 2 2) [92, X] := Bs.lit wr [92, X] (0, 0) (by simp)
        have hN1 : N ≤ (wr.alloc (.cells #[.int .u8 92, .int .u8 X] 5)).heap.size := by simp; omega
        have hb := hbound2 X
        have HNX : Hid (quoI l (k + 1) = quoI l k ++ [92, X]) := hnx
        have HB1 : Hid (Below N w (wr.alloc (.cells #[.int .u8 92, .int .u8 X] 5))) := hB.alloc (by have := hB.size; have := HN.out; omega) _
        clear hnx hbound1 hbound2 hkl hlen ho hB hA hg
        go_wp2_with (at_builtin; go_must (refine wpList_app rfl (.tmp 23) (.tmp 25) 43 rfl N i5 Tryd.underlying43 hi5 hz5 hs5 hb5 _ _ n (quoI l k) [92, X] rfl o1 rfl U1 hb hN1 ?_; intro v3 w3 ho3 hg3 _; obtain ⟨va3, vc3, rfl⟩ := own_sl ho3))
        go_roundw
        case rel => exact ⟨k + 1, _, va3, vc3, by omega, by go_num, rfl, by rw [HNX.out]; exact ho3, HB1.out.trans (grown_belowB o1 hg3 hN1)⟩
        case measure => simp [intOf]; omega
      · have e34 : ((s[k].toNat : Int) == 34) = false := i_ne h34
        by_cases h92 : s[k] = 92
        · have e92 : ((s[k].toNat : Int) == 92) = true := i_eq h92
          rw [if_pos (.inr h92), hX] at hnx
          rw [hX] at e34 e92
          clear h34 h92
          have o1 : (wr.alloc (.cells #[.int .u8 92, .int .u8 X] 5)).ownsRow N 5 1 (.slice a n c) n (bcells (quoI l k)) := own_kept ho (Chg.alloc (fun _ => False) wr _) (fun _ _ h => h)
          have U1 : Bs (wr.alloc (.cells #[.int .u8 92, .int .u8 X] 5)) (.slice (some ⟨wr.heap.size, 0, none⟩) 2 2) [92, X] := Bs.lit wr [92, X] (0, 0) (by simp)
          have hN1 : N ≤ (wr.alloc (.cells #[.int .u8 92, .int .u8 X] 5)).heap.size := by simp; omega
          have hb := hbound2 X
          have HNX : Hid (quoI l (k + 1) = quoI l k ++ [92, X]) := hnx
          have HB1 : Hid (Below N w (wr.alloc (.cells #[.int .u8 92, .int .u8 X] 5))) := hB.alloc (by have := hB.size; have := HN.out; omega) _
          clear hnx hbound1 hbound2 hkl hlen ho hB hA hg
          go_wp2_with (at_builtin; go_must (refine wpList_app rfl (.tmp 23) (.tmp 25) 43 rfl N i5 Tryd.underlying43 hi5 hz5 hs5 hb5 _ _ n (quoI l k) [92, X] rfl o1 rfl U1 hb hN1 ?_; intro v3 w3 ho3 hg3 _; obtain ⟨va3, vc3, rfl⟩ := own_sl ho3))
          go_roundw
          case rel => exact ⟨k + 1, _, va3, vc3, by omega, by go_num, rfl, by rw [HNX.out]; exact ho3, HB1.out.trans (grown_belowB o1 hg3 hN1)⟩
          case measure => simp [intOf]; omega
        · have e92 : ((s[k].toNat : Int) == 92) = false := i_ne h92
          rw [if_neg (fun h => h.elim h34 h92), hX] at hnx
          rw [hX] at e34 e92
          clear h34 h92
          have o1 : (wr.alloc (.cells #[.int .u8 X] 5)).ownsRow N 5 1 (.slice a n c) n (bcells (quoI l k)) := own_kept ho (Chg.alloc (fun _ => False) wr _) (fun _ _ h => h)
          have U1 : Bs (wr.alloc (.cells #[.int .u8 X] 5)) (.slice (some ⟨wr.heap.size, 0, none⟩) 1 1) [X] := Bs.one wr X
          have hN1 : N ≤ (wr.alloc (.cells #[.int .u8 X] 5)).heap.size := by simp; omega
          have hb := hbound1 X
          have HNX : Hid (quoI l (k + 1) = quoI l k ++ [X]) := hnx
          have HB1 : Hid (Below N w (wr.alloc (.cells #[.int .u8 X] 5))) := hB.alloc (by have := hB.size; have := HN.out; omega) _
          clear hnx hbound1 hbound2 hkl hlen ho hB hA hg
          go_wp2_with (at_builtin; go_must (refine wpList_app rfl (.tmp 16) (.tmp 18) 43 rfl N i5 Tryd.underlying43 hi5 hz5 hs5 hb5 _ _ n (quoI l k) [X] rfl o1 rfl U1 hb hN1 ?_; intro v3 w3 ho3 hg3 _; obtain ⟨va3, vc3, rfl⟩ := own_sl ho3))
          go_roundw
          case rel => exact ⟨k + 1, _, va3, vc3, by omega, by go_num, rfl, by rw [HNX.out]; exact ho3, HB1.out.trans (grown_belowB o1 hg3 hN1)⟩
          case measure => simp [intOf]; omega
    · have q1 : ¬ (k : Int) < s.size := by omega
      have hkl : k = l.length := by have := HZ.out; omega
      have o1 : (wr.alloc (.cells #[.int .u8 34] 5)).ownsRow N 5 1 (.slice a n c) n (bcells (quoI l k)) := own_kept ho (Chg.alloc (fun _ => False) wr _) (fun _ _ h => h)
      have U1 : Bs (wr.alloc (.cells #[.int .u8 34] 5)) (.slice (some ⟨wr.heap.size, 0, none⟩) 1 1) [34] := Bs.one wr 34
      have hN1 : N ≤ (wr.alloc (.cells #[.int .u8 34] 5)).heap.size := by simp; omega
      have hb := hbound1 34
      obtain ⟨T, hT⟩ : ∃ T, bl (34 :: (quoL l ++ [34])) = T := ⟨_, rfl⟩
      have HT : Hid (bl (34 :: (quoL l ++ [34])) = T) := hT
      have HQ : Hid (strC (quoI l k ++ [34]) = T) := by show _ = _; rw [hkl, ← hT]; exact quoI_all l
      clear hT
      have HB1 : Hid (Below N w (wr.alloc (.cells #[.int .u8 34] 5))) := hB.alloc (by have := hB.size; have := HN.out; omega) _
      clear hbound1 hbound2 hkl hlen ho hB hA
      go_wp2_with (at_builtin; go_must (refine wpList_app rfl (.tmp 28) (.tmp 29) 43 rfl N i5 Tryd.underlying43 hi5 hz5 hs5 hb5 _ _ n (quoI l k) [34] rfl o1 rfl U1 hb hN1 ?_; intro v3 w3 ho3 hg3 _; have ho4 : w3.ownsRow N 5 1 v3 (n + 1) (bcells (quoI l k ++ [34])) := ho3; have r3 := run_strC (Bs.ofOwns ho4); rw [HQ.out] at r3; obtain ⟨va3, vc3, rfl⟩ := own_sl ho4; clear ho3 ho4))
      go_ret
      exact ⟨by rw [HT.out]; rfl, by rw [HN.out]; exact HB1.out.trans (grown_belowB o1 hg3 hN1)⟩
end Go.Proofs.YtefofoocglhdmaaDoor

/-
  Names of package dir.
-/
import Derived.Test.YtbhfmceapffhnaaDoorDPut
import Derived.Test.YtbhfmceapffhnaaDoorDSort
import Derived.Sort.OwnSorted
namespace Go.Proofs.YtbhfmceapffhnaaDoor
open Go.RowKit Go.Sort

theorem info9 : (Tryd.prog.info? 9).map (fun i => (i.zero, i.size, i.bytes)) = some (some (.string ByteArray.empty), 1, 16) := by kernel_rfl
/-- The names of the slots that are not free, in their order. -/
def namesL (es : List En) : List (List UInt8) := (es.filter fun e => decide (1 ≤ e.nm.size)).map fun e => e.nm.data.toList
theorem namesL_take (es : List En) (k : Nat) (hk : k < es.length) : namesL (es.take (k + 1)) = namesL (es.take k) ++ (if 1 ≤ (es.getD k En.fr).nm.size then [(es.getD k En.fr).nm.data.toList] else []) := by
  have e : es.take (k + 1) = es.take k ++ [es.getD k En.fr] := by
    rw [List.take_add_one]; simp [List.getD, hk]
  rw [e]
  generalize es.getD k En.fr = x
  unfold namesL
  rw [List.filter_append, List.map_append]
  by_cases h : 1 ≤ x.nm.size
  · simp [h]
  · simp [h]
theorem namesL_le (es : List En) : (namesL es).length ≤ es.length := by
  unfold namesL
  rw [List.length_map]
  exact List.length_filter_le _ _
theorem encStr_data (s : ByteArray) : encStr s.data.toList = .string s := by simp [encStr]
/-- .. rising. -/
def sortL (l : List (List UInt8)) : List (List UInt8) := l.mergeSort fun x y => decide (x ≤ y)
theorem sortL_len (l : List (List UInt8)) : (sortL l).length = l.length := by simp [sortL]

theorem own_kept1 {w w' : World} {N T n : Nat} {u : Value} {xs : List Value} (h : w.ownsRow N T 1 u n xs) (hb : Below w.heap.size w w') : w'.ownsRow N T 1 u n xs := by
  refine ⟨h.1, ?_⟩
  rcases h.2 with h | ⟨g, cap, cur, h1, h2, h3, h4⟩
  · exact .inl h
  · exact .inr ⟨g, cap, cur, h1, h2, by rw [hb.block g (lt_of_block h3)]; exact h3, h4⟩
theorem own_sl1 {w : World} {N T n : Nat} {v : Value} {xs : List Value} (h : w.ownsRow N T 1 v n xs) : ∃ a cap, v = .slice a n cap := by
  rcases h.2 with ⟨rfl, rfl⟩ | ⟨g, cap, cur, rfl, _⟩
  · exact ⟨_, _, rfl⟩
  · exact ⟨_, _, rfl⟩
theorem grown_below {w w' : World} {N T n : Nat} {v : Value} {xs : List Value} (h : w.ownsRow N T 1 v n xs) (hg : w.grownBy w' v.ownBlock) (hN : N ≤ w.heap.size) : Below N w w' := by
  refine (Chg.ofGrown hg).below hN fun k hk => ?_
  rcases h.2 with ⟨rfl, _⟩ | ⟨g, cap, cur, rfl, hb, _⟩
  · cases hk
  · have : g = k := by simpa [Value.ownBlock] using hk
    omega

/-- slices.Sort of texts of one's own. -/
theorem sort_any (N : Nat) (v : Value) (ss : List (List UInt8)) (w : World) (ho : w.ownsRow N 9 1 v ss.length (ss.map encStr)) (hl : ss.length ≤ 1099511627776) (hN : N ≤ w.heap.size) :
    Calls Tryd.prog 40 #[v] w fun e w' => e = .returned (.tuple #[]) ∧ w'.ownsRow N 9 1 v ss.length ((sortL ss).map encStr) ∧ Below N w w' := by
  by_cases h0 : ss.length = 0
  · have e0 : ss = [] := List.eq_nil_of_length_eq_zero h0
    subst e0
    obtain ⟨a, c, rfl⟩ := own_sl1 ho
    refine (AnyM.slices_Sort_string_none Tryd.sortS a c w).mono ?_
    rintro e w' ⟨rfl, rfl⟩
    exact ⟨rfl, by simpa [sortL] using ho, Below.refl _ _⟩
  · rcases ho.2 with ⟨_, h⟩ | ⟨g, cap, cur, rfl, hb, hg, h1, h2, h3, h4⟩
    · exact absurd h h0
    · refine (AnyM.slices_Sort_string Tryd.sortS g 0 cap ss w (holds_of_block hg (by simpa using h4)) (Array.getElem?_eq_some_iff.1 hg).1 (by omega)).mono ?_
      rintro e w' ⟨rfl, n, os, rfl⟩
      refine ⟨rfl, ownsRow_sorted (sortL_len ss) hb hg h1 h2 h3, ?_⟩
      exact grown_below ho (grownBy_sorted _) hN

set_option maxHeartbeats 1600000 in
theorem names_any (v : Value) (es : List En) (w : World) (hv : Es w v es) (hl : es.length ≤ 1000000000) :
    Calls Tryd.prog 21 #[v] w fun e w' => ∃ u, e = .returned u ∧ w'.ownsRow w.heap.size 9 1 u (namesL es).length ((sortL (namesL es)).map encStr) ∧ Below w.heap.size w w' := by
  obtain ⟨i9, h9, hz90, hz91, hz92⟩ := info_parts info9
  obtain ⟨a, c, rfl⟩ := hv.form
  have hle := namesL_le
  go_enter Tryd.func21, Tryd.ntmps21
  go_wp2_with fail
  go_loopw [3, 8] (fun u i wr => ∃ k : Nat, k ≤ es.length ∧ i = .int .i64 k ∧ Below w.heap.size w wr ∧ wr.ownsRow w.heap.size 9 1 u (namesL (es.take k)).length ((namesL (es.take k)).map encStr)) (fun _ i _ => es.length - (intOf i).toNat)
  case atStart => exact ⟨0, Nat.zero_le _, rfl, Below.refl _ _, World.ownsRow_nil _ _ _ _⟩
  case round =>
    obtain ⟨k, hk, rfl, B, ho⟩ := hrel
    by_cases hlt : k < es.length
    · have q1 : (k : Int) < es.length := by omega
      have hv' := hv.below B
      obtain ⟨b, off, rfl, hc⟩ := hv'.nth hlt
      obtain ⟨c1, c2⟩ := hc k hlt
      have HT := namesL_take es k hlt
      obtain ⟨x, hx⟩ : ∃ x, Hid (es.getD k En.fr = x) := ⟨_, rfl⟩
      rw [hx.out] at c1 c2 HT
      have HT' : Hid (namesL (es.take (k + 1)) = namesL (es.take k) ++ (if 1 ≤ x.nm.size then [x.nm.data.toList] else [])) := HT
      have hn1 := hle (es.take k)
      rw [List.length_take] at hn1
      obtain ⟨L, hL⟩ : ∃ L, Hid (namesL (es.take k) = L) := ⟨_, rfl⟩
      rw [hL.out] at ho hn1 HT'
      clear hc hv' HT
      have B1 := B.alloc B.size (.cells #[.string x.nm, .int .i64 x.ino] 57)
      have ho1 := own_kept1 ho ((Below.refl _ _).alloc (Nat.le_refl _) (.cells #[.string x.nm, .int .i64 x.ino] 57))
      have hcell : (wr.alloc (.cells #[.string x.nm, .int .i64 x.ino] 57)).cell? ⟨wr.heap.size, 0, none⟩ = some (.string x.nm) := by
        rw [cell_of_row _ wr.heap.size _ _ _ _ (heap_alloc_new wr _)]; rfl
      by_cases h0 : x.nm.size = 0
      · have g3 : x.nm = ⟨#[]⟩ := by
          obtain ⟨⟨⟨l⟩⟩, _⟩ := x
          have : l = [] := List.eq_nil_of_length_eq_zero h0
          simp [this]
        have HT2 : Hid (namesL (es.take (k + 1)) = L) := by rw [Hid, HT'.out, if_neg (by omega), List.append_nil]
        have g0 : (x.nm.toList == []) = true := by rw [g3, ByteArray.toList_eq]; rfl
        clear HT' hL h0 g3
        go_wp2_with fail
        go_roundw
        case rel =>
          refine ⟨k + 1, by omega, by go_num, B1, ?_⟩
          rw [HT2.out]; exact ho1
        case measure => simp [intOf]; omega
      · have h1 : 1 ≤ x.nm.size := by omega
        have HT2 : Hid (namesL (es.take (k + 1)) = L ++ [x.nm.data.toList]) := by rw [Hid, HT'.out, if_pos h1]
        have g0 : (x.nm.toList == []) = false := beq_eq_false_iff_ne.2 (str_some h1)
        clear HT' hL h0 h1
        have B2 := B1.alloc B1.size (.cells #[.string x.nm] 9)
        have hN2 := B2.size
        have ho2 := own_kept1 ho1 ((Below.refl _ _).alloc (Nat.le_refl _) (.cells #[.string x.nm] 9))
        have hc2 : ∀ j u, ([.string x.nm] : List Value)[j]? = some u → ((wr.alloc (.cells #[.string x.nm, .int .i64 x.ino] 57)).alloc (.cells #[.string x.nm] 9)).cell? ((⟨wr.heap.size + 1, 0, none⟩ : Addr).add j) = some u := by
          intro j u hu
          have hj : j = 0 := by have := (List.getElem?_eq_some_iff.1 hu).1; simp at this; omega
          subst hj
          cases hu
          have e : (wr.alloc (.cells #[.string x.nm, .int .i64 x.ino] 57)).heap.size = wr.heap.size + 1 := by simp
          rw [← e]
          exact cell_one_new _ (.string x.nm) 9 0 _ rfl
        have hlL : L.length ≤ 1000000000 := by omega
        clear hn1
        go_wp2_with (at_builtin; go_must (refine wpList_append_own_at _ rfl _ (.tmp 18) 49 rfl w.heap.size 9 i9 (.string ByteArray.empty) 1 16 Tryd.underlying49 h9 hz90 hz91 hz92 rfl (by decide) _ L.length (L.map encStr) rfl ho2 _ 1 1 [.string x.nm] rfl rfl hc2 ?n2 ?n3 ?n4 hN2 ?next))
        case n2 => intro u hu; simp at hu; subst hu; rfl
        case n3 => unfold maxLen; omega
        case n4 => omega
        case next =>
          intro u w3 ho3 hg3 _ _
          have B3 := B2.trans (grown_below ho2 hg3 hN2)
          have ho4 : w3.ownsRow w.heap.size 9 1 u (namesL (es.take (k + 1))).length ((namesL (es.take (k + 1))).map encStr) := by
            rw [HT2.out, List.length_append, List.map_append]
            simpa [encStr_data] using ho3
          clear ho3 hg3 ho2 ho1 ho hc2 hN2 B2 B1
          go_wp2_with fail
          go_roundw
          case rel => exact ⟨k + 1, by omega, by go_num, B3, ho4⟩
          case measure => simp [intOf]; omega
    · have q1 : ¬ (k : Int) < es.length := by omega
      have e8 : es.take k = es := List.take_of_length_le (by omega)
      rw [e8] at ho
      have hn1 := hle es
      obtain ⟨L, hL⟩ : ∃ L, Hid (namesL es = L) := ⟨_, rfl⟩
      rw [hL.out] at ho hn1
      clear e8 hle
      go_wp2_with fail
      refine (sort_any w.heap.size u3 L _ ho (by omega) B.size).mono ?_
      rintro e w1 ⟨rfl, ho1, B1⟩
      have B2 := B.trans B1
      go_wp2_with fail
      go_ret
      refine ⟨_, rfl, ?_, B2⟩
      rw [hL.out]
      exact ho1
end Go.Proofs.YtbhfmceapffhnaaDoor

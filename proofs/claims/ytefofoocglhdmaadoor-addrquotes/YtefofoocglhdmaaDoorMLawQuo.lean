/-
  AddrQuotes.
-/
import Derived.Test.YtefofoocglhdmaaDoorMBack0
import Derived.Test.YtefofoocglhdmaaDoorMFrame
namespace Go.Proofs.YtefofoocglhdmaaDoor
open Go.RowKit

theorem Bq.form {w : World} {v : Value} {ts : List Bool} (h : Bq w v ts) : ∃ a c, v = .slice a ts.length c := by
  rcases h with ⟨rfl, rfl⟩ | ⟨x, c, rfl, _⟩
  · exact ⟨none, 0, rfl⟩
  · exact ⟨some x, c, rfl⟩
theorem Bq.below {w w' : World} {v : Value} {ts : List Bool} (h : Bq w v ts) (hb : Below w.heap.size w w') : Bq w' v ts := by
  rcases h with h | ⟨x, c, e, h1, h2, h3⟩
  · exact .inl h
  · exact .inr ⟨x, c, e, h1, h2, fun j hj => (Chg.ofBelowT hb).cell (h3 j hj) (fun h => h)⟩
theorem Bs.form {w : World} {v : Value} {xs : List Int} (h : Bs w v xs) : ∃ a c, v = .slice a xs.length c := by
  rcases h with ⟨rfl, rfl⟩ | ⟨x, c, rfl, _⟩
  · exact ⟨none, 0, rfl⟩
  · exact ⟨some x, c, rfl⟩
/-- After k bytes. -/
def QK (t l : ByteArray) (k : Nat) : Prop := l.data.toList.length = k ∧ l.data.toList.all prt = true ∧ Qt t.data.toList l.data.toList ∧ t.size ≤ 2 * k

set_option maxHeartbeats 6400000 in
set_option maxRecDepth 100000 in
theorem law_quotes (N : Nat) (v u : Value) (xs : List Int) (ts : List Bool) (w : World) (hv : Bs w v xs) (hx : ∀ x ∈ xs, 0 ≤ x ∧ x < 256) (hu : Bq w u ts) (hV : Vr N w) :
    Calls Tryd.prog 8 #[v, u] w fun e w' => e = .returned (.bool true) ∧ Below w.heap.size w w' := by
  obtain ⟨a, c, rfl⟩ := hv.form
  obtain ⟨a2, c2, rfl⟩ := hu.form
  have HK : Hid (Calls Tryd.prog 9 #[] w fun e w' => e = .returned (.bool true) ∧ Below w.heap.size w w') := known_any N w hV
  have HV : Hid (Vr N w) := hV
  have HX : Hid (Bs w (.slice a xs.length c) xs) := hv
  have HT : Hid (Bq w (.slice a2 ts.length c2) ts) := hu
  have HR : Hid (∀ x ∈ xs, 0 ≤ x ∧ x < 256) := hx
  clear hV hv hu hx
  by_cases h0 : xs.length = 0
  · have q0 : ((xs.length : Int) == 0) = true := by simp [h0]
    clear h0
    go_enter Tryd.func8, Tryd.ntmps8
    go_wp2_with (go_at_call 9; refine HK.out.mono ?_; rintro e w1 ⟨rfl, hB1⟩)
    go_ret
    exact ⟨rfl, hB1⟩
  have q0 : ((xs.length : Int) == 0) = false := beq_eq_false_iff_ne.2 (by omega)
  by_cases h64 : 64 < xs.length
  · have q1 : (64 : Int) < xs.length := by omega
    clear h0 h64
    go_enter Tryd.func8, Tryd.ntmps8
    go_wp2_with (go_at_call 9; refine HK.out.mono ?_; rintro e w1 ⟨rfl, hB1⟩)
    go_ret
    exact ⟨rfl, hB1⟩
  have q1 : ¬ (64 : Int) < xs.length := by omega
  have hn : xs.length ≤ 64 := by omega
  have HN0 : Hid (¬ xs.length = 0) := h0
  clear h0 h64
  go_enter Tryd.func8, Tryd.ntmps8
  go_wp2_with (go_at_call 9; refine HK.out.mono ?_; rintro e w1 ⟨rfl, hB1⟩)
  have HB1 : Hid (Below w.heap.size w w1) := hB1
  clear hB1 HK
  go_loopw [5, 6, 7] (fun tv lv i wr => ∃ (k : Nat) (t l : ByteArray), tv = .string t ∧ lv = .string l ∧ i = .int .i64 k ∧ k ≤ xs.length ∧ Hid (Below w.heap.size w wr ∧ QK t l k)) (fun _ _ i _ => xs.length - (intOf i).toNat)
  case atStart => exact ⟨0, ⟨#[]⟩, ⟨#[]⟩, rfl, rfl, rfl, Nat.zero_le _, HB1.out, rfl, rfl, Qt.nil, Nat.zero_le _⟩
  case round =>
    obtain ⟨k, t, l, rfl, rfl, rfl, hk, hA⟩ := hrel
    by_cases hlt : k < xs.length
    · have q2 : (k : Int) < xs.length := by omega
      obtain ⟨x, hxa, hcx⟩ : ∃ x : Addr, a = some x ∧ wr.cell? (x.add k) = some (.int .u8 (xs.getD k 0)) := by
        rcases HX.out.kept (Chg.ofBelowT hA.out.1) (fun _ _ _ _ _ h => h) with ⟨e, e2⟩ | ⟨x, c3, e, h1, h2, h3⟩
        · rw [e2] at hlt; simp at hlt
        · injection e with e _ _
          exact ⟨x, e, h3 k hlt⟩
      subst hxa
      obtain ⟨n, hn256, hxn⟩ : ∃ n : Nat, n < 256 ∧ xs.getD k 0 = (n : Int) := by
        have hm : xs.getD k 0 ∈ xs := by simp only [List.getD, List.getElem?_eq_getElem hlt, Option.getD_some]; exact List.getElem_mem hlt
        have := HR.out _ hm
        exact ⟨(xs.getD k 0).toNat, by omega, by omega⟩
      rw [hxn] at hcx
      clear hxn
      have hb : 32 + n % 95 < 256 := by omega
      obtain ⟨y, hy⟩ : ∃ y : UInt8, y.toNat = 32 + n % 95 := ⟨UInt8.ofNat (32 + n % 95), by simp; omega⟩
      have hyi : (32 + (n : Int) % 95) = (y.toNat : Int) := by omega
      have e2 : strC [32 + (n : Int) % 95] = bl [y] := by rw [hyi]; exact strC_iB [y]
      have r := run_strC (Bs.one wr (32 + (n : Int) % 95))
      have r2 := run_strC (Bs.one (wr.alloc (.cells #[.int .u8 (32 + (n : Int) % 95)] 5)) (32 + (n : Int) % 95))
      rw [e2] at r r2
      rw [show (wr.alloc (.cells #[.int .u8 (32 + (n : Int) % 95)] 5)).heap.size = wr.heap.size + 1 by simp] at r2
      obtain ⟨Y, hY⟩ : ∃ Y, bl [y] = Y := ⟨_, rfl⟩
      have hYs : Y.size = 1 := by rw [← hY]; rfl
      rw [hY] at r r2
      have hp : prt y = true := by unfold prt; rw [hy, Bool.and_eq_true, decide_eq_true_eq, decide_eq_true_eq]; omega
      obtain ⟨hl1, hl2, hl3, hl4⟩ := hA.out.2
      have hls := sz_list l
      have b1 : ¬ 9223372036854775807 < l.size + Y.size := by omega
      have b2 : ¬ 9223372036854775807 < t.size + Y.size := by omega
      have b3 : ¬ 9223372036854775807 < t.size + 1 + Y.size := by omega
      have b4 : ¬ 9223372036854775807 < t.size + 1 := by omega
      have hz : (l ++ Y).data.toList = l.data.toList ++ [y] := by rw [← hY]; simp
      have HBn : Hid (Below w.heap.size w ((wr.alloc (.cells #[.int .u8 (32 + (n : Int) % 95)] 5)).alloc (.cells #[.int .u8 (32 + (n : Int) % 95)] 5))) := (hA.out.1.alloc hA.out.1.size _).alloc (hA.out.1.alloc hA.out.1.size _).size _
      have HW1 : Hid (Below w.heap.size w (wr.alloc (.cells #[.int .u8 (32 + (n : Int) % 95)] 5))) := hA.out.1.alloc hA.out.1.size _
      have HP : Hid (Qt (t ++ ⟨#[92]⟩ ++ Y).data.toList (l ++ Y).data.toList) := by
        show Qt _ _
        rw [hz, show (t ++ ⟨#[92]⟩ ++ Y : ByteArray).data.toList = t.data.toList ++ [92, y] by rw [← hY]; simp]
        exact hl3.slash hp
      have HQ : Hid (¬ y = 34 → ¬ y = 92 → Qt (t ++ Y).data.toList (l ++ Y).data.toList) := fun h1 h2 => by
        rw [hz, show (t ++ Y : ByteArray).data.toList = t.data.toList ++ [y] by rw [← hY]; simp]
        exact hl3.plain h1 h2 hp
      have HL : Hid ((l ++ Y).data.toList.length = k + 1 ∧ (l ++ Y).data.toList.all prt = true) := by
        show _ ∧ _
        rw [hz]
        refine ⟨by rw [List.length_append, hl1]; rfl, ?_⟩
        rw [List.all_append, hl2]
        simp [hp]
      have HZ1 : Hid ((t ++ ⟨#[92]⟩ ++ Y).size ≤ 2 * (k + 1)) := by show _ ≤ _; rw [ByteArray.size_append, ByteArray.size_append]; show t.size + 1 + Y.size ≤ _; omega
      have HZ2 : Hid ((t ++ Y).size ≤ 2 * (k + 1)) := by show _ ≤ _; rw [ByteArray.size_append]; omega
      have Hy : Hid (y.toNat = 32 + n % 95) := hy
      have HY : Hid (∀ i : Nat, y.toNat = i → i < 256 → y = UInt8.ofNat i) := fun i h1 _ => by rw [← h1]; simp
      clear e2 hY hYs hl1 hl2 hl3 hl4 hls hz hp hA hy hyi hb
      by_cases h34 : n % 95 = 2
      · have q3 : ((32 + (n : Int) % 95) == 34) = true := by rw [beq_iff_eq]; omega
        clear h34
        go_wp2_with fail
        go_roundw
        case rel => exact ⟨k + 1, _, _, rfl, rfl, by go_num, by omega, HBn.out, HL.out.1, HL.out.2, HP.out, HZ1.out⟩
        case measure => simp [intOf]; omega
      · have q3 : ((32 + (n : Int) % 95) == 34) = false := beq_eq_false_iff_ne.2 (by omega)
        by_cases h92 : n % 95 = 60
        · have q4 : ((32 + (n : Int) % 95) == 92) = true := by rw [beq_iff_eq]; omega
          clear h34 h92
          go_wp2_with fail
          go_roundw
          case rel => exact ⟨k + 1, _, _, rfl, rfl, by go_num, by omega, HBn.out, HL.out.1, HL.out.2, HP.out, HZ1.out⟩
          case measure => simp [intOf]; omega
        · have q4 : ((32 + (n : Int) % 95) == 92) = false := beq_eq_false_iff_ne.2 (by omega)
          have hq : Qt (t ++ Y).data.toList (l ++ Y).data.toList := HQ.out (by intro e; have := Hy.out; rw [e] at this; revert this; show ¬ 34 = _; omega) (by intro e; have := Hy.out; rw [e] at this; revert this; show ¬ 92 = _; omega)
          have HQ2 := toHid hq
          clear h34 h92 hq
          by_cases hkt : k < ts.length
          · have q5 : (k : Int) < ts.length := by omega
            obtain ⟨x2, hxa2, hcx2⟩ : ∃ x2 : Addr, a2 = some x2 ∧ (wr.alloc (.cells #[.int .u8 (32 + (n : Int) % 95)] 5)).cell? (x2.add k) = some (.bool (ts.getD k false)) := by
              rcases (HT.out.below (HW1.out)) with ⟨e, e2⟩ | ⟨x, c3, e, h1, h2, h3⟩
              · rw [e2] at hkt; simp at hkt
              · injection e with e _ _
                exact ⟨x, e, h3 k hkt⟩
            subst hxa2
            obtain ⟨b, hb⟩ : ∃ b, ts.getD k false = b := ⟨_, rfl⟩
            rw [hb] at hcx2
            clear hb hkt
            cases b with
            | true =>
              go_wp2_with fail
              go_roundw
              case rel => exact ⟨k + 1, _, _, rfl, rfl, by go_num, by omega, HBn.out, HL.out.1, HL.out.2, HP.out, HZ1.out⟩
              case measure => simp [intOf]; omega
            | false =>
              go_wp2_with fail
              go_roundw
              case rel => exact ⟨k + 1, _, _, rfl, rfl, by go_num, by omega, HBn.out, HL.out.1, HL.out.2, HQ2.out, HZ2.out⟩
              case measure => simp [intOf]; omega
          · have q5 : ¬ (k : Int) < ts.length := by omega
            clear hkt
            go_wp2_with fail
            go_roundw
            case rel => exact ⟨k + 1, _, _, rfl, rfl, by go_num, by omega, HBn.out, HL.out.1, HL.out.2, HQ2.out, HZ2.out⟩
            case measure => simp [intOf]; omega
    · have q2 : ¬ (k : Int) < xs.length := by omega
      obtain ⟨hl1, hl2, hl3, hl4⟩ := hA.out.2
      have hk2 : k = xs.length := by omega
      have hne := HN0.out
      have hls := sz_list l
      have hL : locB l.data.toList = true := by
        unfold locB
        rw [hl2, decide_eq_true (show 1 ≤ l.data.toList.length by omega), decide_eq_true (show l.data.toList.length ≤ 64 by omega)]; rfl
      have h1 := parseR_quoted hl3 hL
      have h2 := rgt_xy hL
      have h3 := parseR_prn h2
      have h4 : (prn l.data.toList [120, 46, 121]).length ≤ 256 := by
        rcases rgt_parts h2 with ⟨_, e⟩ | ⟨e1, _, _, e2⟩
        · cases e
        · unfold prn
          rw [if_pos h2, e1, if_neg (by decide)]
          exact e2
      have HP1 : Hid (∀ w1, Vr N w1 → Calls Tryd.prog 12 #[.string (⟨#[60, 34]⟩ ++ t ++ ⟨#[34, 64, 120, 46, 121, 62]⟩)] w1 fun e w' => e = .returned (.tuple #[adV l ⟨#[120, 46, 121]⟩, .int .i64 0]) ∧ Below w1.heap.size w1 w') := fun w1 h => by
        have := Parse_any N (⟨#[60, 34]⟩ ++ t ++ ⟨#[34, 64, 120, 46, 121, 62]⟩) w1 (by rw [ByteArray.size_append, ByteArray.size_append]; show 2 + t.size + 6 ≤ _; omega) h
        rw [show (⟨#[60, 34]⟩ ++ t ++ ⟨#[34, 64, 120, 46, 121, 62]⟩ : ByteArray).data.toList = 60 :: 34 :: (t.data.toList ++ [34, 64, 120, 46, 121, 62]) by simp, h1] at this
        exact this
      obtain ⟨P, hP⟩ : ∃ P, bl (prn l.data.toList [120, 46, 121]) = P := ⟨_, rfl⟩
      have HPr : Hid (∀ w1, Vr N w1 → Calls Tryd.prog 25 #[adV l ⟨#[120, 46, 121]⟩] w1 fun e w' => e = .returned (.string P) ∧ Below w1.heap.size w1 w') := fun w1 h => by
        have := print_any N l ⟨#[120, 46, 121]⟩ w1 (by omega) (by decide) h
        rw [show (⟨#[120, 46, 121]⟩ : ByteArray).data.toList = [120, 46, 121] from rfl, hP] at this
        exact this
      have HP2 : Hid (∀ w1, Vr N w1 → Calls Tryd.prog 12 #[.string P] w1 fun e w' => e = .returned (.tuple #[adV l ⟨#[120, 46, 121]⟩, .int .i64 0]) ∧ Below w1.heap.size w1 w') := fun w1 h => by
        have := Parse_any N P w1 (by rw [← hP, bl_size]; omega) h
        rw [show P.data.toList = prn l.data.toList [120, 46, 121] by rw [← hP], h3] at this
        exact this
      have b1 : ¬ 9223372036854775807 < 2 + t.size := by omega
      have b2 : ¬ 9223372036854775807 < 2 + t.size + 6 := by omega
      have HBr := toHid hA.out.1
      clear h1 h2 h3 h4 hP hL hl1 hl2 hl3 hl4 hk2 hne hls hA
      go_wp2_with (first
        | (go_at_call 12; with_reducible refine (HP1.out _ (HV.out.new HBr.out)).mono ?_; rintro e w3 ⟨rfl, hB⟩; have A1 := Ad.new w3 l ⟨#[120, 46, 121]⟩; have B1 := alloc_below w3 (.cells #[.string l, .string ⟨#[120, 46, 121]⟩] 24); have HB3 := toHid ((HBr.out.trans (hB.mono HBr.out.size)).trans (B1.mono (Nat.le_trans HBr.out.size hB.size))); clear hB B1)
        | (go_at_call 25; with_reducible refine (HPr.out _ (HV.out.new HB3.out)).mono ?_; rintro e w4 ⟨rfl, hB⟩; have A2 := A1.more hB; have HB4 := toHid (HB3.out.trans (hB.mono HB3.out.size)); clear hB)
        | (go_at_call 12; with_reducible refine (HP2.out _ (HV.out.new HB4.out)).mono ?_; rintro e w5 ⟨rfl, hB⟩; have A3 := A2.more hB; have A5 := Ad.new w5 l ⟨#[120, 46, 121]⟩; have B5 := alloc_below w5 (.cells #[.string l, .string ⟨#[120, 46, 121]⟩] 24); have A4 := A3.more B5; have HB5 := toHid ((HB4.out.trans (hB.mono HB4.out.size)).trans (B5.mono (Nat.le_trans HB4.out.size hB.size))); have c0 := A4.c0; have c1 := A4.c1; have d0 := A5.c0; have d1 := A5.c1; clear hB B5))
      go_ret
      exact ⟨rfl, HB5.out⟩
end Go.Proofs.YtefofoocglhdmaaDoor

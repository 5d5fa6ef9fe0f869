/-
  LineBounds.
-/
import Derived.Test.YtfbildadidfolaaLBd
namespace Go.Proofs.Ytfbildadidfolaa
open Go.RowKit

theorem feed_all (m : Nat) (a : List Int) (h : ∀ x ∈ a, x ≠ 13) (hl : a.length = m - 2) : (Sp.new m).feed a = (⟨m, a, m - 2, false⟩, []) := by
  rw [Sp.feed_next, Sp.next_all _ _ rfl h]
  have e : (Sp.new m).add a = ⟨m, a, m - 2, false⟩ := by
    unfold Sp.add Sp.room
    simp [hl]
    exact List.take_of_length_le (by omega)
  rw [e]
theorem feed_end (m : Nat) (a : List Int) (h : ∀ x ∈ a, x ≠ 13) (hl : a.length = m - 2) : (⟨m, a, m - 2, false⟩ : Sp).feed [13, 10] = (Sp.new m, [⟨strC a, false⟩]) := by
  have h1 := feed_line m a h
  rw [Sp.feed_app, feed_all m a h hl] at h1
  have h2 : a.take (m - 2) = a := List.take_of_length_le (by omega)
  have h3 : decide (m - 2 < a.length) = false := by simp; omega
  rw [h2, h3] at h1
  simp at h1
  exact Prod.ext h1.1 h1.2
theorem strC_size (xs : List Int) : (strC xs).size = xs.length := by
  have h := congrArg List.length (strC_list xs)
  rw [List.length_map, Array.length_toList] at h
  exact h
theorem new_wf {m : Nat} (h : 2 ≤ m) (h2 : m ≤ 65536) : (Sp.new m).Wf := ⟨h, h2, by show 0 = min 0 (m - 2); omega⟩
theorem new_bound {m k : Nat} (h : 2 ≤ k) (h2 : k ≤ 65536) : (mayB (k : Int) && ((Sp.new m).st == 0)) = true ∧ (Sp.new m).bound (k : Int) = Sp.new k := by
  have e : (mayB (k : Int) && ((Sp.new m).st == 0)) = true := by
    have : (Sp.new m).st = 0 := rfl
    rw [this]
    unfold mayB
    simp
    omega
  refine ⟨e, ?_⟩
  rw [Sp.bound_yes _ _ e]
  simp
/-- All that LineBounds is told. -/
theorem bounds_pure (mn M2 kn : Nat) (c : Int) (hM : mn = M2 + 2) (h1 : 1 ≤ M2) (h2 : mn ≤ 3000) (hc : c ≠ 13) :
    ∃ (S1 : Sp) (T : ByteArray), T.size = M2 ∧ (Sp.new mn).feed (List.replicate M2 c) = (S1, []) ∧ S1.Wf ∧ S1.hold = M2 ∧ (∀ x : Int, (mayB x && (S1.st == 0)) = false ∧ S1.bound x = S1) ∧ S1.feed [13, 10] = (Sp.new mn, [⟨T, false⟩]) ∧
      (∃ T2, (Sp.new (mn + 1)).feed (List.replicate (M2 + 1) c ++ [13, 10]) = (Sp.new (mn + 1), [⟨T2, false⟩])) ∧ (Sp.new mn).feed (List.replicate (M2 + kn + 1) c ++ [13, 10]) = (Sp.new mn, [⟨T, true⟩]) := by
  have hr : ∀ n, ∀ x ∈ List.replicate n c, x ≠ 13 := fun n x hx => by rw [List.eq_of_mem_replicate hx]; exact hc
  have hl : (List.replicate M2 c).length = mn - 2 := by simp; omega
  have hf := feed_all mn _ (hr M2) hl
  refine ⟨_, strC (List.replicate M2 c), by rw [strC_size]; simp, hf, ?_, ?_, ?_, feed_end mn _ (hr M2) hl, ⟨strC ((List.replicate (M2 + 1) c).take (mn + 1 - 2)), ?_⟩, ?_⟩
  · have := (new_wf (m := mn) (by omega) (by omega)).feed (List.replicate M2 c)
    rw [hf] at this
    exact this
  · show (List.replicate M2 c).length + 0 = M2
    simp
  · have hst : (⟨mn, List.replicate M2 c, mn - 2, false⟩ : Sp).st = 1 := by
      unfold Sp.st
      rw [if_neg (by simp), if_neg (show ¬ mn - 2 = 0 by omega)]
    intro x
    have e : (mayB x && ((⟨mn, List.replicate M2 c, mn - 2, false⟩ : Sp).st == 0)) = false := by rw [hst]; simp
    exact ⟨e, Sp.bound_no _ _ e⟩
  · rw [feed_line (mn + 1) _ (hr (M2 + 1)), show decide (mn + 1 - 2 < (List.replicate (M2 + 1) c).length) = false from by simp; omega]
  · rw [feed_line mn _ (hr (M2 + kn + 1)), show decide (mn - 2 < (List.replicate (M2 + kn + 1) c).length) = true from by simp; omega, List.take_replicate, show min (mn - 2) (M2 + kn + 1) = M2 by omega]
set_option maxHeartbeats 3200000 in
set_option maxRecDepth 100000 in
theorem law_bounds (m c k : Int) (w : World) :
    Calls Try.prog 6 #[.int .i64 m, .int .u8 c, .int .i64 k] w fun e w' => e = .returned (.bool true) ∧ Below w.heap.size w w' := by
  by_cases a1 : m < 3
  · go_enter Try.func6, Try.ntmps6
    go_wp2_with (go_at_call 7; refine (known_any _).mono ?_; rintro e w1 ⟨rfl, B⟩)
    go_ret
    exact ⟨rfl, B⟩
  by_cases a2 : 3000 < m
  · go_enter Try.func6, Try.ntmps6
    go_wp2_with (go_at_call 7; refine (known_any _).mono ?_; rintro e w1 ⟨rfl, B⟩)
    go_ret
    exact ⟨rfl, B⟩
  by_cases a3 : k < 0
  · go_enter Try.func6, Try.ntmps6
    go_wp2_with (go_at_call 7; refine (known_any _).mono ?_; rintro e w1 ⟨rfl, B⟩)
    go_ret
    exact ⟨rfl, B⟩
  by_cases a4 : 3000 < k
  · go_enter Try.func6, Try.ntmps6
    go_wp2_with (go_at_call 7; refine (known_any _).mono ?_; rintro e w1 ⟨rfl, B⟩)
    go_ret
    exact ⟨rfl, B⟩
  by_cases a5 : c = 13
  · have p1 : (c == 13) = true := by simpa using a5
    go_enter Try.func6, Try.ntmps6
    go_wp2_with (go_at_call 7; refine (known_any _).mono ?_; rintro e w1 ⟨rfl, B⟩)
    go_ret
    exact ⟨rfl, B⟩
  have p1 : (c == 13) = false := by simpa using a5
  by_cases a6 : c = 10
  · have p2 : (c == 10) = true := by simpa using a6
    go_enter Try.func6, Try.ntmps6
    go_wp2_with (go_at_call 7; refine (known_any _).mono ?_; rintro e w1 ⟨rfl, B⟩)
    go_ret
    exact ⟨rfl, B⟩
  have p2 : (c == 10) = false := by simpa using a6
  obtain ⟨mn, rfl⟩ : ∃ mn : Nat, m = (mn : Int) := ⟨m.toNat, by omega⟩
  obtain ⟨kn, rfl⟩ : ∃ kn : Nat, k = (kn : Int) := ⟨k.toNat, by omega⟩
  obtain ⟨M2, hM2⟩ : ∃ M2, mn = M2 + 2 := ⟨mn - 2, by omega⟩
  have hC : Hid (c ≠ 13) := a5
  have hm : mayB (mn : Int) = true := by unfold mayB; simp; omega
  have HN : Hid (∀ (w1 : World) (N : Nat), N ≤ w1.heap.size → Calls Try.prog 9 #[.int .i64 (mn : Int)] w1 fun e w' => e = .returned (.tuple #[.pointer (some ⟨w1.heap.size, 0, none⟩), .int .i64 0]) ∧ LsS N w1.heap.size w' (.slice none 0 0) (Sp.new mn) ∧ Chg (fun _ => False) w1 w') := fun w1 N hN => new_yes mn hm w1 N hN
  clear hm a5 a6
  have HM : Hid (mn = M2 + 2) := hM2
  clear hM2
  go_enter Try.func6, Try.ntmps6
  go_wp2_with (first
    | (go_at_call 7; refine (known_any _).mono ?_; rintro e w1 ⟨rfl, B⟩)
    | (go_at_call 9; refine (HN.out _ w.heap.size B.size).mono ?_; clear HN; rintro e w2 ⟨rfl, L2, C2⟩))
  obtain ⟨p, hp⟩ : ∃ p, w1.heap.size = p := ⟨_, rfl⟩
  obtain ⟨N, hN⟩ : ∃ N, Hid (w.heap.size = N) := ⟨_, rfl⟩
  have H0 : Hid (Bd N p w w2 (Sp.new mn) c (.slice none 0 0) 0 [] (.slice none 0 0)) := by
    rw [← hN.out, ← hp]
    exact ⟨L2, (fun k h => by cases h), B.trans (C2.toBelow.mono B.size), World.ownsRow_nil _ _ _ _, fun q h => by cases h⟩
  rw [hp]
  clear hp L2 C2 B
  obtain ⟨i5, hi5, hz5, hs5, hb5⟩ := info5
  go_loopw [9, 10] (fun b0 i wr => ∃ (bv : Value) (j : Nat), bv = b0 ∧ i = .int .i64 j ∧ j ≤ M2 ∧ Hid (Bd N p w wr (Sp.new mn) c bv j [] (.slice none 0 0))) (fun _ i _ => M2 - (intOf i).toNat)
  case atStart => exact ⟨_, 0, rfl, rfl, Nat.zero_le _, H0⟩
  case round =>
    clear H0
    obtain ⟨bv, j, rfl, rfl, hj, H⟩ := hrel
    by_cases hjt : j < M2
    · have q1 : (j : Int) < (mn : Int) - 2 := by have := HM.out; omega
      have HA := H.out.more (Chg.alloc (fun _ => False) wr (.cells #[.int .u8 c] 5))
      have o1 := HA.own
      have hN1 := HA.ls.N
      have hb1 : (List.replicate j c).length + [c].length ≤ 1099511627776 := by simp; omega
      go_wp2_with (at_builtin; go_must (refine wpList_app rfl (.tmp 61) (.tmp 63) 31 rfl N i5 Try.underlying31 hi5 hz5 hs5 hb5 _ _ j (List.replicate j c) [c] rfl o1 rfl (Bs.lit wr [c] (0, 0) (by simp)) hb1 hN1 ?_; intro v3 w3 ho hg hn))
      have HP := toHid (HA.push ho hg hn)
      clear HA o1 hN1 hb1 ho hg hn H
      go_wp2_with fail
      go_roundw
      case rel =>
        exact ⟨_, j + 1, rfl, by go_num, hjt, HP⟩
      case measure => simp [intOf]; omega
    · have q1 : ¬ (j : Int) < (mn : Int) - 2 := by have := HM.out; omega
      obtain rfl : j = M2 := by omega
      have hM := HM.out
      obtain ⟨S1, T, hT, e1, w1', hh, hbd, e2, ⟨T2, e3⟩, e4⟩ := bounds_pure mn j kn c hM (by omega) (by omega) hC.out
      have hW0 : (Sp.new mn).Wf := new_wf (by omega) (by omega)
      have F1 := H.out.feed hW0 (fun k => bv.ownBlock = some k) (Bs.ofOwns H.out.own) (In.own H.out.own (fun _ h => h)) H.out.self (by simp; omega)
      rw [e1] at F1
      have F1' := toHid F1
      have HE := toHid (And.intro hT (And.intro w1' (And.intro hh (And.intro hbd (And.intro e2 (And.intro e3 e4))))))
      have HW0 := toHid hW0
      obtain ⟨ba, bc, rfl⟩ := own_sl H.out.own
      clear F1 H e1 hM hT w1' hh hbd e2 e3 e4 hW0
      go_wp2_with fail
      refine F1'.out.mono ?_
      clear F1'
      rintro e w3 ⟨v3, xa, xc, rfl, B3, _⟩
      have H3 := toHid B3
      have HH := toHid (B3.held HE.out.2.1)
      rw [HE.out.2.2.1] at HH
      have M1 := B3.most HE.out.2.1 ((mn : Int) + 5)
      rw [(HE.out.2.2.2.1 _).1, (HE.out.2.2.2.1 _).2] at M1
      have M1' := toHid M1
      clear B3 M1
      go_wp2_with (first
        | (go_at_call 19; refine HH.out.mono ?_; clear HH; rintro e wd ⟨rfl, hwd⟩; obtain rfl := hwd)
        | (go_at_call 14; refine M1'.out.mono ?_; clear M1'; rintro e w4 ⟨rfl, B4⟩))
      have kc := fun (w : World) (C : Array Value) (n c : Nat) => Lib.run_convert_bytes_const (P := Try.prog) w 31 5 C n c Try.underlying31 Try.underlying5
      have B5 := B4.more (Chg.alloc (fun _ => False) w4 (.cells (bcells [13, 10]).toArray 5 (2, 3)))
      have F2 := B5.feed HE.out.2.1 (fun k => k = w4.heap.size) (Bs.lit w4 [13, 10] (2, 3) (by simp)) (fun a n c e h0 => by injection e with e1 e2 e3; injection e1 with e1; subst e1; rfl)
        (fun k hk => by subst hk; exact ⟨by simp, by have := B4.ls.lt; omega, fun e => by have := (own_ge B4.ls.own e).2; omega⟩) (by simp)
      rw [HE.out.2.2.2.2.1] at F2
      have F2' := toHid F2
      rw [show (bcells [13, 10]).toArray = #[.int .u8 13, .int .u8 10] from rfl] at F2'
      clear B4 B5 F2 H3
      go_wp2_with (go_at_call 18; refine F2'.out.mono ?_; clear F2'; rintro e w5 ⟨v5, ya, yc, rfl, _, hy⟩)
      obtain ⟨yb, yo, rfl, B5⟩ := hy (by simp)
      clear hy kc
      simp only [List.getD_cons_zero] at B5
      have M2' := toHid (B5.most HW0.out ((mn + 1 : Nat) : Int))
      rw [(new_bound (m := mn) (k := mn + 1) (by omega) (by omega)).1, (new_bound (m := mn) (k := mn + 1) (by omega) (by omega)).2, show ((mn + 1 : Nat) : Int) = (mn : Int) + 1 from by omega] at M2'
      clear B5
      have D1 := toHid (show 0 < j by have := HM.out; omega)
      refine M2'.out.mono ?_
      clear M2'
      rintro e w6 ⟨rfl, B6⟩
      obtain ⟨t1, x1, t2, x2, hr1, hr2, B7, O7, D7⟩ := B6.line D1.out (by have := HM.out; omega) 31 31
      have F3 := B7.feed (new_wf (m := mn + 1) (by omega) (by omega)) (fun k => t2.ownBlock = some k) (Bs.ofOwns O7) (In.own O7 (fun _ h => h)) D7 (by have := HM.out; simp; omega)
      rw [HE.out.2.2.2.2.2.1] at F3
      have F3' := toHid F3
      obtain ⟨ta2, tc2, rfl⟩ := own_sl O7
      clear B6 B7 O7 D7 F3
      go_wp2_with (first
        | (at_builtin; refine Lib.wpList_append_run _ rfl (.tmp 83) (.tmp 85) 31 31 rfl _ _ rfl rfl _ _ hr1 ?_; clear hr1)
        | (at_builtin; refine Lib.wpList_append_run _ rfl (.tmp 86) (.const (.string ⟨#[13, 10]⟩)) 31 9 rfl _ _ rfl rfl _ _ hr2 ?_; clear hr2)
        | (go_at_call 18; refine F3'.out.mono ?_; clear F3'; rintro e w8 ⟨v8, za, zc, rfl, _, hz⟩))
      obtain ⟨zb, zo, rfl, B8⟩ := hz (by simp)
      clear hz
      simp only [List.getD_cons_zero] at B8
      have M3 := (B8.weak [(⟨zb, zo + 1, none⟩, .bool false), (⟨yb, yo, none⟩, .string T), (⟨yb, yo + 1, none⟩, .bool false)] (fun q hq => List.mem_cons_of_mem _ hq)).most (new_wf (by omega) (by omega)) (mn : Int)
      rw [(new_bound (m := mn + 1) (k := mn) (by omega) (by omega)).1, (new_bound (m := mn + 1) (k := mn) (by omega) (by omega)).2] at M3
      have M3' := toHid M3
      clear B8 M3
      refine M3'.out.mono ?_
      clear M3'
      rintro e w9 ⟨rfl, B9⟩
      have H9 := toHid B9
      clear B9
      go_wp2_with fail
      go_loopw [9, 18] (fun b0 i wr => ∃ (bv : Value) (q : Nat), bv = b0 ∧ i = .int .i64 q ∧ q ≤ kn ∧ Hid (Bd N p w wr (Sp.new mn) c bv (j + q) [(⟨zb, zo + 1, none⟩, .bool false), (⟨yb, yo, none⟩, .string T), (⟨yb, yo + 1, none⟩, .bool false)] v8)) (fun _ i _ => kn - (intOf i).toNat)
      case atStart => exact ⟨_, 0, rfl, rfl, Nat.zero_le _, H9⟩
      case round =>
        clear H9
        obtain ⟨bv, q, rfl, rfl, hq, H⟩ := hrel
        by_cases hqt : q < kn
        · have q2 : (q : Int) < kn := by omega
          have HA := H.out.more (Chg.alloc (fun _ => False) wr (.cells #[.int .u8 c] 5))
          have o1 := HA.own
          have hN1 := HA.ls.N
          have hb1 : (List.replicate (j + q) c).length + [c].length ≤ 1099511627776 := by have := HM.out; simp; omega
          go_wp2_with (at_builtin; go_must (refine wpList_app rfl (.tmp 97) (.tmp 99) 31 rfl N i5 Try.underlying31 hi5 hz5 hs5 hb5 _ _ (j + q) (List.replicate (j + q) c) [c] rfl o1 rfl (Bs.lit wr [c] (0, 0) (by simp)) hb1 hN1 ?_; intro v3 w3 ho hg hn))
          have HP := toHid (HA.push ho hg hn)
          clear HA o1 hN1 hb1 ho hg hn H
          go_wp2_with fail
          go_roundw
          case rel => exact ⟨_, q + 1, rfl, by go_num, hqt, HP⟩
          case measure => simp [intOf]; omega
        · have q2 : ¬ (q : Int) < kn := by omega
          obtain rfl : q = kn := by omega
          obtain ⟨t1, x1, t2, x2, hr1, hr2, B7, O7, D7⟩ := H.out.line (by have := D1.out; omega) (by have := HM.out; omega) 31 31
          have F4 := B7.feed HW0.out (fun k => t2.ownBlock = some k) (Bs.ofOwns O7) (In.own O7 (fun _ h => h)) D7 (by have := HM.out; simp; omega)
          rw [HE.out.2.2.2.2.2.2] at F4
          have F4' := toHid F4
          obtain ⟨ta2, tc2, rfl⟩ := own_sl O7
          obtain ⟨bb, bd, rfl⟩ := own_sl H.out.own
          clear B7 O7 D7 F4 H
          go_wp2_with (first
            | (at_builtin; refine Lib.wpList_append_run _ rfl (.tmp 102) (.tmp 104) 31 31 rfl _ _ rfl rfl _ _ hr1 ?_; clear hr1)
            | (at_builtin; refine Lib.wpList_append_run _ rfl (.tmp 105) (.const (.string ⟨#[13, 10]⟩)) 31 9 rfl _ _ rfl rfl _ _ hr2 ?_; clear hr2)
            | (go_at_call 18; refine F4'.out.mono ?_; clear F4'; rintro e w8 ⟨v9, wa, wc, rfl, _, hw⟩
               obtain ⟨wb, wo, rfl, BW⟩ := hw (by simp)
               clear hw
               simp only [List.getD_cons_zero] at BW
               obtain ⟨f0, f1, f2, f3, f4⟩ : _ ∧ _ ∧ _ ∧ _ ∧ _ := ⟨(BW.kp (⟨wb, wo, none⟩, .string T) (by simp)).1, (BW.kp (⟨wb, wo + 1, none⟩, .bool true) (by simp)).1, (BW.kp (⟨zb, zo + 1, none⟩, .bool false) (by simp)).1, (BW.kp (⟨yb, yo, none⟩, .string T) (by simp)).1, (BW.kp (⟨yb, yo + 1, none⟩, .bool false) (by simp)).1⟩
               have hTs := HE.out.1
               have hm2 : (mn : Int) - 2 = (T.size : Int) := by have := HM.out; omega
               have HBW := toHid BW
               clear BW))
          have HQ : Hid (∀ n, Calls Try.prog 19 #[.pointer (some ⟨p, 0, none⟩)] (w8.drewN n) fun e w' => e = .returned (.int .i64 0) ∧ w' = w8.drewN n) := fun n => (HBW.out.more (Chg.drewN (fun _ => False) w8 n)).held HW0.out
          go_quiet (first | (go_at_call 19; exact Calls.quiet_of_same (HQ.out _)))
          go_wp2_with fail
          go_ret
          exact ⟨by simp, by rw [hN.out]; exact below_drN HBW.out.bel nq⟩
end Go.Proofs.Ytfbildadidfolaa

/-
  LineCuts.
-/
import Derived.Test.YtfbildadidfolaaLCu
namespace Go.Proofs.Ytfbildadidfolaa
open Go.RowKit

set_option maxHeartbeats 3200000 in
set_option maxRecDepth 100000 in
theorem law_cuts (m : Int) (bv cv : Value) (bs cs : List Int) (w : World) (hb : Bs w bv bs) (hc : Iz w cv cs) :
    Calls Try.prog 4 #[.int .i64 m, bv, cv] w fun e w' => e = .returned (.bool true) ∧ Below w.heap.size w w' := by
  obtain ⟨iL, hiL, hzL, hsL, hbL⟩ := infoL
  obtain ⟨ca, cc, rfl⟩ := hc.form
  obtain ⟨ba, bc, rfl, hbc, _⟩ := hb.form
  have HC := toHidC hc
  have HB := toHidC hb
  clear hc hb
  by_cases h1 : 4096 < bs.length
  · have q1 : 4096 < (bs.length : Int) := by omega
    go_enter Try.func4, Try.ntmps4
    go_wp2_with (go_at_call 7; refine (known_any _).mono ?_; rintro e w1 ⟨rfl, B⟩)
    go_ret
    exact ⟨rfl, B⟩
  have q1 : ¬ 4096 < (bs.length : Int) := by omega
  by_cases h2 : 300 < cs.length
  · have q2 : 300 < (cs.length : Int) := by omega
    go_enter Try.func4, Try.ntmps4
    go_wp2_with (go_at_call 7; refine (known_any _).mono ?_; rintro e w1 ⟨rfl, B⟩)
    go_ret
    exact ⟨rfl, B⟩
  have q2 : ¬ 300 < (cs.length : Int) := by omega
  cases hm : mayB m with
  | false =>
    have HM := toHidC hm
    clear hm
    go_enter Try.func4, Try.ntmps4
    go_wp2_with (first
      | (go_at_call 7; refine (known_any _).mono ?_; rintro e w1 ⟨rfl, B⟩)
      | (go_at_call 10; refine (right_any m _).mono ?_; rintro e w3 ⟨rfl, rfl⟩; rw [HM.out]))
    go_ret
    exact ⟨rfl, B⟩
  | true =>
    have HM := toHidC hm
    obtain ⟨mn, rfl, hW⟩ := mayB_nat hm
    have HN : Hid (∀ (w1 : World) (N : Nat), N ≤ w1.heap.size → Calls Try.prog 9 #[.int .i64 (mn : Int)] w1 fun e w' => e = .returned (.tuple #[.pointer (some ⟨w1.heap.size, 0, none⟩), .int .i64 0]) ∧ LsS N w1.heap.size w' (.slice none 0 0) (Sp.new mn) ∧ Chg (fun _ => False) w1 w') := fun w1 N hN => new_yes mn hm w1 N hN
    clear hm
    have HW := toHidC hW
    clear hW
    go_enter Try.func4, Try.ntmps4
    go_wp2_with (first
      | (go_at_call 7; refine (known_any _).mono ?_; rintro e w1 ⟨rfl, B⟩)
      | (go_at_call 10; refine (right_any mn _).mono ?_; rintro e w3 ⟨rfl, hw3⟩; subst hw3; rw [HM.out]))
    refine (HN.out _ w.heap.size B.size).mono ?_
    rintro e w2 ⟨rfl, L2, C2⟩
    go_wp2_with fail
    refine (HN.out _ w.heap.size (Nat.le_trans B.size C2.size)).mono ?_
    rintro e w4 ⟨rfl, L4, C4⟩
    have B4 : Below w.heap.size w w4 := (B.trans (C2.toBelow.mono B.size)).trans (C4.toBelow.mono (Nat.le_trans B.size C2.size))
    have P4 := L2.more C4
    have hpq : w3.heap.size ≠ w2.heap.size := by have := L2.lt; omega
    obtain ⟨p, hp⟩ : ∃ p, w3.heap.size = p := ⟨_, rfl⟩
    obtain ⟨q, hq⟩ : ∃ q, w2.heap.size = q := ⟨_, rfl⟩
    obtain ⟨N, hN⟩ : ∃ N, Hid (w.heap.size = N) := ⟨_, rfl⟩
    rw [hp, hq] at hpq
    rw [hp, hN.out] at P4
    rw [hq, hN.out] at L4
    rw [hN.out] at B4
    rw [hp, hq]
    have HBN : Hid (Bs w4 (.slice ba bs.length bc) bs ∧ In (fun k => k < N) (.slice ba bs.length bc)) := by
      refine ⟨HB.out.kept (S := fun k => N ≤ k) ⟨B4.os, B4.tape, B4.output, B4.size, fun k _ hn => B4.block k (by omega)⟩ (fun a n c e h0 => ?_), fun a n c e h0 => ?_⟩
      · injection e with e1 e2 e3
        subst e1; subst e2
        have := HB.out.lt h0
        rw [hN.out] at this
        omega
      · injection e with e1 e2 e3
        subst e1; subst e2
        have := HB.out.lt h0
        rw [hN.out] at this
        exact this
    have FW := feed_any N q w4 _ (.slice ba bs.length bc) (Sp.new mn) bs (fun k => k < N) HW.out L4 HBN.out.1 HBN.out.2 (fun k hk => ⟨Nat.lt_of_lt_of_le hk L4.N, (by have := L4.le; omega), fun e => by cases e⟩) (by omega)
    have FW' := toHidC FW
    have HS := toHidC (And.intro P4 (And.intro L4 (And.intro B4 hpq)))
    clear hp hq L2 C2 L4 C4 B B4 P4 FW hpq HM HN
    go_wp2_with (go_at_call 18; refine FW'.out.mono ?_; clear FW'; rintro e w5 ⟨vt, wv, rfl, HF⟩)
    have HF' := toHidC HF
    obtain ⟨wa, wc, rfl⟩ := own_sl HF.2.2.1
    clear HF
    have HBel : Hid (Below N w w5) := HS.out.2.2.1.trans (HS.out.2.1.belowN HF'.out.2.1)
    obtain ⟨K, hK⟩ : ∃ K : Nat → Prop, Hid (K = fun k => k = q ∨ vt.ownBlock = some k ∨ (Value.slice wa ((Sp.new mn).feed bs).2.length wc).ownBlock = some k) := ⟨_, rfl⟩
    have H0 : Hid (Cu N p K w5 w5 mn bs (.slice ba bs.length bc) (.slice none 0 0) bs (.slice none 0 0) (Sp.new mn) []) := by
      have hp4 := HS.out.1.lt
      have hne : ∀ k, k < w4.heap.size → k ≠ q → ¬ K k := fun k hk hkq hKk => by
        rw [hK.out] at hKk
        rcases hKk with e | e | e
        · exact hkq e
        · exact (HF'.out.2.1.new k e).elim (fun e => by cases e) (fun h => by omega)
        · have := (own_ge HF'.out.2.2.1 e).1
          omega
      refine ⟨HBN.out.1.stays HBN.out.2 HF'.out.2.1.chg (fun k hk e => e.elim (fun e => by have := HS.out.2.1.le; omega) (fun e => by cases e)), HBN.out.2, HW.out, rfl, by simp, HS.out.1.kept HF'.out.2.1.chg (fun e => e.elim HS.out.2.2.2 (fun e => by cases e)) (fun k h => by cases h), Chg.refl _ _, World.ownsRow_nil _ _ _ _, (fun k h => by cases h), hne p hp4 HS.out.2.2.2, (fun k h => by cases h), fun k hk => ?_, by simp⟩
      rw [hK.out] at hk
      rcases hk with rfl | e | e
      · exact HF'.out.1.lt
      · exact (own_ge HF'.out.1.own e).2
      · exact (own_ge HF'.out.2.2.1 e).2
    go_loopw [12, 13, 14] (fun g0 r0 i0 wr => ∃ (gv rv : Value) (i : Nat) (rs : List Int) (v : Value) (S : Sp) (gs : List Ln), gv = g0 ∧ rv = r0 ∧ i0 = .int .i64 i ∧ i ≤ cs.length + 1 ∧ Hid (i ≤ cs.length ∨ rs = []) ∧ Hid (Cu N p K w5 wr mn bs rv gv rs v S gs)) (fun _ r i _ => (cs.length - (intOf i).toNat) + lenOf r)
    case atStart => exact ⟨_, _, 0, bs, _, Sp.new mn, [], rfl, rfl, rfl, by omega, .inl (Nat.zero_le _), H0⟩
    case round =>
      clear H0
      obtain ⟨gv, rv, i, rs, v, S, gs, rfl, rfl, rfl, hi, hir, H⟩ := hrel
      obtain ⟨ra, rc, rfl, hrc, _⟩ := H.out.rb.form
      obtain ⟨ga, gc, rfl⟩ := own_sl H.out.go
      have hrl : rs.length ≤ 4096 := by have := H.out.le; omega
      by_cases h0 : 0 < rs.length
      · have q3 : (0 : Int) < rs.length := by omega
        by_cases hic : i < cs.length
        · have q4 : (i : Int) < cs.length := by omega
          obtain ⟨cb, co, rfl, hcell, hcb⟩ := HC.out.nth hic
          rw [hN.out] at hcb
          have ccell := (World.cell?_of_block (((HBel.out.trans (H.out.ch.below (by rw [← hN.out]; exact HBel.out.size) (fun k hk => hk.2)))).block cb hcb)).trans hcell
          obtain ⟨z, hz⟩ : ∃ z, cs.getD i 0 = z := ⟨_, rfl⟩
          rw [hz] at ccell
          have hcl := cut_le z rs.length
          clear hcell
          by_cases hneg : Int.tmod z ((rs.length : Int) + 1) < 0
          · obtain ⟨n, hzn⟩ : ∃ n : Nat, Int.tmod z ((rs.length : Int) + 1) = -(n : Int) := ⟨(Int.tmod z ((rs.length : Int) + 1)).natAbs, by omega⟩
            rw [hzn] at hneg hcl
            have hn : n ≤ rs.length := by omega
            clear hcl
            have HG := toHidC (H.out.feed n hn (by omega))
            have HL : Hid (n ≤ rs.length ∧ rs.length ≤ rc ∧ S.most = mn ∧ gs.length + rs.length ≤ bs.length ∧ rs.length ≤ 4096) := ⟨hn, hrc, H.out.mo, H.out.le, hrl⟩
            have p5 : n ≤ rs.length := hn
            have p6 : rs.length ≤ rc := hrc
            obtain ⟨rb, ro, rfl, _⟩ := H.out.rb.atC (k := 0) (by omega)
            have HH : Hid (∀ (w3 : World) (g3 rv : Value) (v9 : Value) (L : List Ln), Cu N p K w5 w3 mn bs rv g3 (rs.drop n) v9 (S.feed (rs.take n)).1 (gs ++ L) → Calls Try.prog 19 #[.pointer (some ⟨p, 0, none⟩)] w3 fun e w' => e = .returned (.int .i64 ((S.feed (rs.take n)).1.hold : Int)) ∧ w' = w3) := fun w3 g3 rv v9 L h => h.held
            obtain ⟨S9, hS9⟩ : ∃ S9, (S.feed (rs.take n)).1 = S9 := ⟨_, rfl⟩
            rw [hS9] at HG HH
            have q6 : ¬ (mn : Int) ≤ S9.hold := by
              have h1 := (H.out.wf.feed (rs.take n)).hold
              rw [Sp.feed_most, H.out.mo, hS9] at h1
              omega
            clear H hS9
            by_cases hc1 : rc = n
            · subst hc1
              go_wp2_with (first
                | (go_at_call 18; refine HG.out.mono ?_; clear HG; rintro e w9 ⟨L, o, v9, rfl, O9, U9, hlen9, hN9, HCu⟩)
                | (at_builtin; go_must (refine wpList_appL rfl (.tmp 74) (.tmp 79) 36 rfl N 47 iL Try.underlying36 hiL hzL hsL hbL _ _ gs.length gs L rfl O9 rfl U9 (by omega) hN9 ?_; intro g3 w3 ho hg hn3
                                        have C3 := toHidC (HCu g3 w3 ho hg hn3)
                                        clear HCu O9 U9 hlen9 hN9 ho hg hn3))
                | (go_at_call 19; refine (HH.out _ _ _ _ _ C3.out).mono ?_; rintro e wd ⟨rfl, hwd⟩; obtain rfl := hwd))
              rw [if_pos trivial, show rs.length - rc = 0 by omega, Nat.sub_self] at C3
              go_roundw
              case rel => exact ⟨_, _, i + 1, rs.drop rc, v9, S9, gs ++ L, rfl, rfl, by go_num, by omega, .inl (by omega), C3⟩
              case measure =>
                show cs.length - ((i : Int) + 1).toNat + 0 < cs.length - (i : Int).toNat + rs.length
                omega
            · go_wp2_with (first
                | (go_at_call 18; refine HG.out.mono ?_; clear HG; rintro e w9 ⟨L, o, v9, rfl, O9, U9, hlen9, hN9, HCu⟩)
                | (at_builtin; go_must (refine wpList_appL rfl (.tmp 74) (.tmp 79) 36 rfl N 47 iL Try.underlying36 hiL hzL hsL hbL _ _ gs.length gs L rfl O9 rfl U9 (by omega) hN9 ?_; intro g3 w3 ho hg hn3
                                        have C3 := toHidC (HCu g3 w3 ho hg hn3)
                                        clear HCu O9 U9 hlen9 hN9 ho hg hn3))
                | (go_at_call 19; refine (HH.out _ _ _ _ _ C3.out).mono ?_; rintro e wd ⟨rfl, hwd⟩; obtain rfl := hwd))
              rw [if_neg hc1] at C3
              simp only [Option.map_some, addr_addC] at C3
              go_roundw
              case rel => exact ⟨_, _, i + 1, rs.drop n, v9, S9, gs ++ L, rfl, rfl, by go_num, by omega, .inl (by omega), C3⟩
              case measure =>
                show cs.length - ((i : Int) + 1).toNat + (rs.length - n) < cs.length - (i : Int).toNat + rs.length
                omega
          · obtain ⟨n, hzn⟩ : ∃ n : Nat, Int.tmod z ((rs.length : Int) + 1) = (n : Int) := ⟨(Int.tmod z ((rs.length : Int) + 1)).natAbs, by omega⟩
            rw [hzn] at hneg hcl
            have hn : n ≤ rs.length := by omega
            clear hcl
            have HG := toHidC (H.out.feed n hn (by omega))
            have HL : Hid (n ≤ rs.length ∧ rs.length ≤ rc ∧ S.most = mn ∧ gs.length + rs.length ≤ bs.length ∧ rs.length ≤ 4096) := ⟨hn, hrc, H.out.mo, H.out.le, hrl⟩
            have p5 : n ≤ rs.length := hn
            have p6 : rs.length ≤ rc := hrc
            obtain ⟨rb, ro, rfl, _⟩ := H.out.rb.atC (k := 0) (by omega)
            have HH : Hid (∀ (w3 : World) (g3 rv : Value) (v9 : Value) (L : List Ln), Cu N p K w5 w3 mn bs rv g3 (rs.drop n) v9 (S.feed (rs.take n)).1 (gs ++ L) → Calls Try.prog 19 #[.pointer (some ⟨p, 0, none⟩)] w3 fun e w' => e = .returned (.int .i64 ((S.feed (rs.take n)).1.hold : Int)) ∧ w' = w3) := fun w3 g3 rv v9 L h => h.held
            obtain ⟨S9, hS9⟩ : ∃ S9, (S.feed (rs.take n)).1 = S9 := ⟨_, rfl⟩
            rw [hS9] at HG HH
            have q6 : ¬ (mn : Int) ≤ S9.hold := by
              have h1 := (H.out.wf.feed (rs.take n)).hold
              rw [Sp.feed_most, H.out.mo, hS9] at h1
              omega
            clear H hS9
            by_cases hc1 : rc = n
            · subst hc1
              go_wp2_with (first
                | (go_at_call 18; refine HG.out.mono ?_; clear HG; rintro e w9 ⟨L, o, v9, rfl, O9, U9, hlen9, hN9, HCu⟩)
                | (at_builtin; go_must (refine wpList_appL rfl (.tmp 74) (.tmp 79) 36 rfl N 47 iL Try.underlying36 hiL hzL hsL hbL _ _ gs.length gs L rfl O9 rfl U9 (by omega) hN9 ?_; intro g3 w3 ho hg hn3
                                        have C3 := toHidC (HCu g3 w3 ho hg hn3)
                                        clear HCu O9 U9 hlen9 hN9 ho hg hn3))
                | (go_at_call 19; refine (HH.out _ _ _ _ _ C3.out).mono ?_; rintro e wd ⟨rfl, hwd⟩; obtain rfl := hwd))
              rw [if_pos trivial, show rs.length - rc = 0 by omega, Nat.sub_self] at C3
              go_roundw
              case rel => exact ⟨_, _, i + 1, rs.drop rc, v9, S9, gs ++ L, rfl, rfl, by go_num, by omega, .inl (by omega), C3⟩
              case measure =>
                show cs.length - ((i : Int) + 1).toNat + 0 < cs.length - (i : Int).toNat + rs.length
                omega
            · go_wp2_with (first
                | (go_at_call 18; refine HG.out.mono ?_; clear HG; rintro e w9 ⟨L, o, v9, rfl, O9, U9, hlen9, hN9, HCu⟩)
                | (at_builtin; go_must (refine wpList_appL rfl (.tmp 74) (.tmp 79) 36 rfl N 47 iL Try.underlying36 hiL hzL hsL hbL _ _ gs.length gs L rfl O9 rfl U9 (by omega) hN9 ?_; intro g3 w3 ho hg hn3
                                        have C3 := toHidC (HCu g3 w3 ho hg hn3)
                                        clear HCu O9 U9 hlen9 hN9 ho hg hn3))
                | (go_at_call 19; refine (HH.out _ _ _ _ _ C3.out).mono ?_; rintro e wd ⟨rfl, hwd⟩; obtain rfl := hwd))
              rw [if_neg hc1] at C3
              simp only [Option.map_some, addr_addC] at C3
              go_roundw
              case rel => exact ⟨_, _, i + 1, rs.drop n, v9, S9, gs ++ L, rfl, rfl, by go_num, by omega, .inl (by omega), C3⟩
              case measure =>
                show cs.length - ((i : Int) + 1).toNat + (rs.length - n) < cs.length - (i : Int).toNat + rs.length
                omega
        · have q4 : ¬ (i : Int) < cs.length := by omega
          have hi2 : i ≤ cs.length := hir.out.resolve_right (fun e => by rw [e] at h0; simp at h0)
          have HG := toHidC (H.out.feed rs.length (Nat.le_refl _) (by omega))
          have HL : Hid (rs.length ≤ rs.length ∧ rs.length ≤ rc ∧ S.most = mn ∧ gs.length + rs.length ≤ bs.length ∧ rs.length ≤ 4096) := ⟨Nat.le_refl _, hrc, H.out.mo, H.out.le, hrl⟩
          have p5 : rs.length ≤ rs.length := Nat.le_refl _
          have p6 : rs.length ≤ rc := hrc
          obtain ⟨rb, ro, rfl, _⟩ := H.out.rb.atC (k := 0) (by omega)
          have HH : Hid (∀ (w3 : World) (g3 rv : Value) (v9 : Value) (L : List Ln), Cu N p K w5 w3 mn bs rv g3 (rs.drop rs.length) v9 (S.feed (rs.take rs.length)).1 (gs ++ L) → Calls Try.prog 19 #[.pointer (some ⟨p, 0, none⟩)] w3 fun e w' => e = .returned (.int .i64 ((S.feed (rs.take rs.length)).1.hold : Int)) ∧ w' = w3) := fun w3 g3 rv v9 L h => h.held
          obtain ⟨S9, hS9⟩ : ∃ S9, (S.feed (rs.take rs.length)).1 = S9 := ⟨_, rfl⟩
          rw [hS9] at HG HH
          have q6 : ¬ (mn : Int) ≤ S9.hold := by
            have h1 := (H.out.wf.feed (rs.take rs.length)).hold
            rw [Sp.feed_most, H.out.mo, hS9] at h1
            omega
          clear H hS9
          by_cases hc1 : rc = rs.length
          · subst hc1
            go_wp2_with (first
              | (go_at_call 18; refine HG.out.mono ?_; clear HG; rintro e w9 ⟨L, o, v9, rfl, O9, U9, hlen9, hN9, HCu⟩)
              | (at_builtin; go_must (refine wpList_appL rfl (.tmp 74) (.tmp 79) 36 rfl N 47 iL Try.underlying36 hiL hzL hsL hbL _ _ gs.length gs L rfl O9 rfl U9 (by omega) hN9 ?_; intro g3 w3 ho hg hn3
                                      have C3 := toHidC (HCu g3 w3 ho hg hn3)
                                      clear HCu O9 U9 hlen9 hN9 ho hg hn3))
              | (go_at_call 19; refine (HH.out _ _ _ _ _ C3.out).mono ?_; rintro e wd ⟨rfl, hwd⟩; obtain rfl := hwd))
            rw [if_pos trivial, Nat.sub_self] at C3
            go_roundw
            case rel => exact ⟨_, _, i + 1, rs.drop rs.length, v9, S9, gs ++ L, rfl, rfl, by go_num, by omega, .inr (by simp), C3⟩
            case measure =>
              show cs.length - ((i : Int) + 1).toNat + 0 < cs.length - (i : Int).toNat + rs.length
              omega
          · go_wp2_with (first
              | (go_at_call 18; refine HG.out.mono ?_; clear HG; rintro e w9 ⟨L, o, v9, rfl, O9, U9, hlen9, hN9, HCu⟩)
              | (at_builtin; go_must (refine wpList_appL rfl (.tmp 74) (.tmp 79) 36 rfl N 47 iL Try.underlying36 hiL hzL hsL hbL _ _ gs.length gs L rfl O9 rfl U9 (by omega) hN9 ?_; intro g3 w3 ho hg hn3
                                      have C3 := toHidC (HCu g3 w3 ho hg hn3)
                                      clear HCu O9 U9 hlen9 hN9 ho hg hn3))
              | (go_at_call 19; refine (HH.out _ _ _ _ _ C3.out).mono ?_; rintro e wd ⟨rfl, hwd⟩; obtain rfl := hwd))
            rw [if_neg hc1] at C3
            simp only [Option.map_some, addr_addC, Nat.sub_self] at C3
            go_roundw
            case rel => exact ⟨_, _, i + 1, rs.drop rs.length, v9, S9, gs ++ L, rfl, rfl, by go_num, by omega, .inr (by simp), C3⟩
            case measure =>
              show cs.length - ((i : Int) + 1).toNat + 0 < cs.length - (i : Int).toNat + rs.length
              omega
      · have q3 : ¬ (0 : Int) < rs.length := by omega
        obtain rfl : rs = [] := List.eq_nil_of_length_eq_zero (by omega)
        have hE : ((Sp.new mn).feed bs).2 = gs ∧ ((Sp.new mn).feed bs).1 = S := by
          rw [H.out.eq]
          exact ⟨by simp [Sp.feed], rfl⟩
        have HE := toHidC hE
        have E1 : ((Sp.new mn).feed bs).2.length = gs.length := by rw [hE.1]
        have HS : Hid (LsS N p wr v S ∧ Chg (fun k => ¬ K k ∧ N ≤ k) w5 wr ∧ wr.ownsRow N 47 2 (.slice ga gs.length gc) gs.length (lcells gs) ∧ S.Wf) := ⟨H.out.ls, H.out.ch, H.out.go, H.out.wf⟩
        have HT : Hid (LsS N q wr vt S ∧ Lns wr (.slice wa gs.length wc) gs) := by
          have h1 := HF'.out.1
          have h3 := HF'.out.2.2.1
          rw [hE.2] at h1
          rw [hE.1] at h3
          refine ⟨h1.kept H.out.ch (fun h => h.1 (by rw [hK.out]; exact .inl rfl)) (fun k hk h => h.1 (by rw [hK.out]; exact .inr (.inl hk))), Lns.ofOwns (own_kept h3 H.out.ch (fun k hk h => h.1 (by rw [hK.out]; exact .inr (.inr (by rw [hE.1]; exact hk)))))⟩
        have hgl : gs.length ≤ 4096 := by have := H.out.le; simp at this; omega
        clear H hE
        go_wp2_with fail
        have E2 := toHidC E1
        clear E1
        generalize wr = wz at *
        go_loopw [16] (fun i wq => ∃ k : Nat, i = .int .i64 k ∧ k ≤ gs.length ∧ Hid (Chg (fun _ => False) wz wq)) (fun i _ => gs.length - (intOf i).toNat)
        case atStart => exact ⟨0, rfl, Nat.zero_le _, Chg.refl _ _⟩
        case round =>
          obtain ⟨k, rfl, hk, HQ⟩ := hrel
          by_cases hkt : k < gs.length
          · have q5 : (k : Int) < gs.length := by omega
            have g1 := (Lns.ofOwns HS.out.2.2.1).more HQ.out
            have g2 := HT.out.2.more HQ.out
            obtain ⟨b1, o1, rfl, hc1⟩ := g1.nth hkt
            obtain ⟨b2, o2, rfl, hc2⟩ := g2.nth hkt
            obtain ⟨c1, c2⟩ := hc1 k hkt
            obtain ⟨d1, d2⟩ := hc2 k hkt
            obtain ⟨x, hx⟩ : ∃ x, gs.getD k Ln.zero = x := ⟨_, rfl⟩
            rw [hx] at c1 c2 d1 d2
            clear hc1 hc2 g1 g2 hx
            have hne := fun w => neqL x w
            go_wp2_with fail
            go_quiet (fail)
            have HQ' : Hid (Chg (fun _ => False) wz (wr.drewN nq)) := HQ.out.trans (Chg.drewN _ _ _) (fun _ _ h => h)
            go_wp2_with fail
            go_roundw
            case rel => exact ⟨k + 1, by go_num, hkt, HQ'⟩
            case measure => simp [intOf]; omega
          · have q5 : ¬ (k : Int) < gs.length := by omega
            have he : ∀ S : Sp, (S.held.length + if S.st = 2 then 1 else 0) = S.hold := fun S => by
              unfold Sp.hold
              congr 1
              by_cases h : S.cr = true
              · rw [if_pos h, if_pos (st_two h)]
              · rw [if_neg h, if_neg (by unfold Sp.st; rw [if_neg h]; split <;> decide)]
            have hl : S.held.length ≤ 65536 := by have := HS.out.2.2.2.len; have := HS.out.2.2.2.hi; omega
            have K1 := held_any N p wr v S.most S.st S.held S.long (HS.out.1.more HQ.out) hl
            have K2 := held_any N q wr vt S.most S.st S.held S.long (HT.out.1.more HQ.out) hl
            rw [he S] at K1 K2
            have K1' := toHidC K1
            have K2' := toHidC K2
            have HB9 : Hid (Below w.heap.size w wr) := by
              have h1 : Below N w wz := HBel.out.trans (HS.out.2.1.below (by rw [← hN.out]; exact HBel.out.size) (fun k hk => hk.2))
              rw [hN.out]
              exact h1.trans (HQ.out.toBelow.mono (Nat.le_trans HS.out.1.N (Nat.le_refl _)))
            clear K1 K2 he hl
            go_wp2_with (first
              | (go_at_call 19; refine K1'.out.mono ?_; clear K1'; rintro e wd ⟨rfl, hwd⟩; obtain rfl := hwd)
              | (go_at_call 19; refine K2'.out.mono ?_; clear K2'; rintro e wd ⟨rfl, hwd⟩; obtain rfl := hwd))
            go_ret
            exact ⟨by simp, HB9.out⟩
end Go.Proofs.Ytfbildadidfolaa

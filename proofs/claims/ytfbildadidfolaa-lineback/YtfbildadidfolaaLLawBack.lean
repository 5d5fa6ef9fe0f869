/-
  LineBack.
-/
import Derived.Test.YtfbildadidfolaaLBack
namespace Go.Proofs.Ytfbildadidfolaa
open Go.RowKit

/-- A splitter between two lines. -/
def Idle (N p m : Nat) (w0 w : World) : Prop := (∃ v, LsS N p w v (Sp.new m)) ∧ Below N w0 w

theorem sB_app (s : ByteArray) : sB (s ++ ⟨#[13, 10]⟩) = sB s ++ [13, 10] := by
  unfold sB
  rw [ByteArray.data_append, Array.toList_append, List.map_append]
  rfl
theorem sB_ne (s : ByteArray) (h : ∀ i, (hi : i < s.size) → s[i] ≠ 13) : ∀ x ∈ sB s, x ≠ 13 := by
  intro x hx e
  unfold sB at hx
  obtain ⟨y, hy, rfl⟩ := List.mem_map.1 hx
  obtain ⟨j, hj, rfl⟩ := List.mem_iff_getElem.1 hy
  have hj2 : j < s.size := by simpa using hj
  refine h j hj2 (UInt8.toNat_inj.1 ?_)
  have e2 : (s.data.toList[j]).toNat = 13 := by omega
  exact e2
/-- A line fed and told: its text, whether it was too long. -/
theorem feed_back (N p m : Nat) (w0 w wx : World) (s : ByteArray) (n c D : Nat) (hW : (Sp.new m).Wf) (hI : Idle N p m w0 w) (hC : Chg (fun _ => False) w wx) (hD : w.heap.size = D) (hn : (s ++ ⟨#[13, 10]⟩ : ByteArray).size = n) (hs : s.size ≤ 300)
    (hB : Bs wx (.slice (some ⟨D, 0, none⟩) n c) (sB (s ++ ⟨#[13, 10]⟩))) (hne : ∀ x ∈ sB s, x ≠ 13) (b o : Nat) (hb : b < N) (hc : w.cell? ⟨b, o, none⟩ = some (.string s)) :
    Calls Try.prog 18 #[.pointer (some ⟨p, 0, none⟩), .slice (some ⟨D, 0, none⟩) n c] wx fun e w9 => ∃ b9 o9 c9, e = .returned (.slice (some ⟨b9, o9, none⟩) 1 c9) ∧
      w9.cell? ⟨b9, o9, none⟩ = some (.string (s.extract 0 (m - 2))) ∧ w9.cell? ⟨b9, o9 + 1, none⟩ = some (.bool (decide (m - 2 < s.size))) ∧ w9.cell? ⟨b, o, none⟩ = some (.string s) ∧ Hid (Idle N p m w0 w9) := by
  obtain ⟨⟨v, L⟩, hbel⟩ := hI
  have hl : (sB (s ++ ⟨#[13, 10]⟩)).length = n := by rw [sB_len]; exact hn
  have hlt := L.lt
  refine (feed_any N p wx v _ (Sp.new m) (sB (s ++ ⟨#[13, 10]⟩)) (fun k => k = D) hW (L.more hC) hB (fun a n c e h0 => by injection e with e1 e2 e3; injection e1 with e1; subst e1; rfl)
    (fun k hk => ⟨?_, by omega, fun e => by have := (own_ge L.own e).2; omega⟩) (by rw [hl, ← hn, ByteArray.size_append]; have : (⟨#[13, 10]⟩ : ByteArray).size = 2 := rfl; omega)).mono fun e w9 h9 => ?_
  · have h0 : 0 < n := by rw [← hn, ByteArray.size_append]; have : (⟨#[13, 10]⟩ : ByteArray).size = 2 := rfl; omega
    have := hB.lt h0
    subst hk
    exact this
  · obtain ⟨v9, o1, he, h1, h2, h3, h4⟩ := h9
    rw [sB_app, feed_line m _ hne] at h3 h1
    have hx := Lns.ofOwns h3
    obtain ⟨a, c9, rfl⟩ := hx.form
    obtain ⟨b9, o9, rfl, hc9⟩ := hx.nth (k := 0) (by simp)
    obtain ⟨x0, x1⟩ := hc9 0 (by simp)
    have hbl := (L.more hC).belowN h2
    refine ⟨b9, o9, c9, he, ?_, ?_, ?_, ⟨_, h1⟩, ?_⟩
    · rw [← strC_take]
      simpa using x0
    · rw [sB_len] at x1
      simpa using x1
    · have h5 : wx.cell? ⟨b, o, none⟩ = some (.string s) := hC.cell hc (fun h => h)
      exact (World.cell?_of_block (hbl.block b hb)).trans h5
    · exact (hbel.trans (hC.toBelow.mono L.N)).trans hbl

set_option maxHeartbeats 3200000 in
set_option maxRecDepth 100000 in
theorem law_back (m : Int) (tv : Value) (ss : List ByteArray) (w : World) (hv : Tx w tv ss) :
    Calls Try.prog 5 #[.int .i64 m, tv] w fun e w' => e = .returned (.bool true) ∧ Below w.heap.size w w' := by
  obtain ⟨ta, tc, rfl⟩ := hv.form
  have HV : Hid (Tx w (.slice ta ss.length tc) ss) := hv
  clear hv
  by_cases h1 : 60 < ss.length
  · have q1 : 60 < (ss.length : Int) := by omega
    go_enter Try.func5, Try.ntmps5
    go_wp2_with (go_at_call 7; refine (known_any _).mono ?_; rintro e w1 ⟨rfl, B⟩)
    go_ret
    exact ⟨rfl, B⟩
  have q1 : ¬ 60 < (ss.length : Int) := by omega
  cases hm : mayB m with
  | false =>
    have HM : Hid (mayB m = false) := hm
    clear hm
    go_enter Try.func5, Try.ntmps5
    go_wp2_with (first
      | (go_at_call 7; refine (known_any _).mono ?_; rintro e w1 ⟨rfl, B⟩)
      | (go_at_call 10; refine (right_any m _).mono ?_; rintro e w3 ⟨rfl, rfl⟩; rw [HM.out]))
    go_ret
    exact ⟨rfl, B⟩
  | true =>
    have HM : Hid (mayB m = true) := hm
    obtain ⟨mn, rfl, hW⟩ := mayB_nat hm
    have HN : Hid (∀ (w1 : World) (N : Nat), N ≤ w1.heap.size → Calls Try.prog 9 #[.int .i64 (mn : Int)] w1 fun e w' => e = .returned (.tuple #[.pointer (some ⟨w1.heap.size, 0, none⟩), .int .i64 0]) ∧ LsS N w1.heap.size w' (.slice none 0 0) (Sp.new mn) ∧ Chg (fun _ => False) w1 w') := fun w1 N hN => new_yes mn hm w1 N hN
    clear hm
    go_enter Try.func5, Try.ntmps5
    go_wp2_with (first
      | (go_at_call 7; refine (known_any _).mono ?_; rintro e w1 ⟨rfl, B⟩)
      | (go_at_call 10; refine (right_any mn _).mono ?_; rintro e w3 ⟨rfl, hw3⟩; subst hw3; rw [HM.out])
      | (go_at_call 9; refine (HN.out _ w.heap.size B.size).mono ?_; clear HN; rintro e w2 ⟨rfl, L2, C2⟩))
    obtain ⟨p, hp⟩ : ∃ p, w3.heap.size = p := ⟨_, rfl⟩
    obtain ⟨N, hN⟩ : ∃ N, Hid (w.heap.size = N) := ⟨_, rfl⟩
    have HI : Hid (Idle N p mn w w2) := by
      rw [← hN.out, ← hp]
      exact ⟨⟨_, L2⟩, B.trans (C2.toBelow.mono B.size)⟩
    rw [hp]
    clear hp L2 C2 B HM
    go_loopw [7] (fun i wr => ∃ k : Nat, i = .int .i64 k ∧ k ≤ ss.length ∧ Hid (Idle N p mn w wr)) (fun i _ => ss.length - (intOf i).toNat)
    case atStart => exact ⟨0, rfl, Nat.zero_le _, HI⟩
    case round =>
      clear HI
      obtain ⟨k, rfl, hk, HI⟩ := hrel
      by_cases hlt : k < ss.length
      · have q2 : (k : Int) < ss.length := by omega
        have hx := HV.out.below (by rw [hN.out]; exact HI.out.2)
        obtain ⟨b, off, rfl, hc⟩ := hx.nth hlt
        have ck := hc k hlt
        obtain ⟨s, hs⟩ : ∃ s, ss.getD k ByteArray.empty = s := ⟨_, rfl⟩
        rw [hs] at ck
        have BL : Hid (b < N) := by
          obtain ⟨b2, off2, e2, hc2⟩ := HV.out.nth hlt
          injection e2 with e2
          injection e2 with e2
          subst e2
          have := World.block_lt_of_cell? w _ (hc2 k hlt)
          show b < N
          rw [← hN.out]
          exact this
        clear hx hc hs
        by_cases h3 : 300 < s.size
        · have q3 : 300 < (s.size : Int) := by omega
          go_wp2_with fail
          go_ret
          exact ⟨rfl, by rw [hN.out]; exact HI.out.2⟩
        have q3 : ¬ 300 < (s.size : Int) := by omega
        go_wp2_with fail
        go_loopw [8] (fun i wq => ∃ j : Nat, i = .int .i64 j ∧ j ≤ s.size ∧ wr = wq ∧ Hid (∀ i, (hi : i < s.size) → i < j → s[i] ≠ 13)) (fun i _ => s.size - (intOf i).toNat)
        case atStart => exact ⟨0, rfl, Nat.zero_le _, rfl, fun i _ h => by omega⟩
        case round =>
          obtain ⟨j, rfl, hj, rfl, HA⟩ := hrel
          by_cases hjt : j < s.size
          · have q4 : (j : Int) < s.size := by omega
            by_cases h13 : s[j] = 13
            · have p1 : ((s[j].toNat : Int) == 13) = true := by rw [h13]; rfl
              clear h13
              go_wp2_with fail
              go_ret
              exact ⟨rfl, by rw [hN.out]; exact HI.out.2⟩
            have p1 : ((s[j].toNat : Int) == 13) = false := by
              refine beq_eq_false_iff_ne.2 fun e => h13 ?_
              exact UInt8.toNat_inj.1 (by have : s[j].toNat = 13 := by omega
                                          simpa using this)
            by_cases h10 : s[j] = 10
            · have p2 : ((s[j].toNat : Int) == 10) = true := by rw [h10]; rfl
              clear h10 h13
              go_wp2_with fail
              go_ret
              exact ⟨rfl, by rw [hN.out]; exact HI.out.2⟩
            have p2 : ((s[j].toNat : Int) == 10) = false := by
              refine beq_eq_false_iff_ne.2 fun e => h10 ?_
              exact UInt8.toNat_inj.1 (by have : s[j].toNat = 10 := by omega
                                          simpa using this)
            have HA' : Hid (∀ i, (hi : i < s.size) → i < j + 1 → s[i] ≠ 13) := fun i hi h => by
              rcases (by omega : i < j ∨ i = j) with h | rfl
              · exact HA.out i hi h
              · exact h13
            clear h13 h10
            go_wp2_with fail
            go_roundw
            case rel => exact ⟨j + 1, by go_num, hjt, trivial, HA'⟩
            case measure => simp [intOf]; omega
          · have q4 : ¬ (j : Int) < s.size := by omega
            have q5 : ¬ 9223372036854775807 < s.size + 2 := by omega
            have hne := sB_ne s (fun i hi => HA.out i hi (by omega))
            obtain ⟨cc, wx, hcv, hCx, hBx, _⟩ := conv_bytes wr (s ++ ⟨#[13, 10]⟩) (by rw [ByteArray.size_append]; have : (⟨#[13, 10]⟩ : ByteArray).size = 2 := rfl; omega)
            obtain ⟨n, hn⟩ : ∃ n, (s ++ ⟨#[13, 10]⟩ : ByteArray).size = n := ⟨_, rfl⟩
            rw [hn] at hcv hBx
            obtain ⟨M2, hM2⟩ : ∃ M2, mn - 2 = M2 := ⟨_, rfl⟩
            have HF := feed_back N p mn w wr wx s n cc _ hW HI.out hCx rfl hn (by omega) hBx hne b (off + k) BL.out ck
            rw [hM2] at HF
            have hw : IntKind.i64.wrap ((mn : Int) - 2) = (M2 : Int) := by rw [IntKind.wrap_i64]; have := hW.lo; have := hW.hi; simp at *; omega
            by_cases hlg : M2 < s.size
            · have ht : s.extract 0 M2 = s.extract 0 M2 := rfl
              rw [show decide (M2 < s.size) = true from by simpa using hlg] at HF
              have HF' := toHid HF
              clear hne hCx hBx hn HI HA HF
              go_wp2_with (go_at_call 18; refine HF'.out.mono ?_; clear HF'; rintro e w9 ⟨b9, o9, c9, rfl, z0, z1, ck, HI⟩)
              have g1 : decide (M2 < s.size) = true := by simpa using hlg
              have g2 : decide ((M2 : Int) < s.size) = true := by simpa using hlg
              go_quiet (fail)
              obtain ⟨X, hX⟩ : ∃ X, w9.drewN nq = X := ⟨_, rfl⟩
              have y0 : X.cell? ⟨b9, o9, none⟩ = some (.string (s.extract 0 M2)) := hX ▸ z0
              have y1 : X.cell? ⟨b9, o9 + 1, none⟩ = some (.bool true) := hX ▸ z1
              have yk : X.cell? ⟨b, off + k, none⟩ = some (.string s) := hX ▸ ck
              have HJ : Hid (Idle N p mn w X) := hX ▸ ⟨HI.out.1.elim fun v h => ⟨v, h.more (Chg.drewN _ _ _)⟩, below_drN HI.out.2 nq⟩
              rw [hX]
              clear hX z0 z1 ck HI
              go_wp2_with fail
              go_quiet (fail)
              have HK : Hid (Idle N p mn w (X.drewN nq)) := ⟨HJ.out.1.elim fun v h => ⟨v, h.more (Chg.drewN _ _ _)⟩, below_drN HJ.out.2 nq⟩
              go_wp2_with fail
              go_roundw
              case rel => exact ⟨k + 1, by go_num, hlt, HK⟩
              case measure => simp [intOf]; omega
            · rw [show decide (M2 < s.size) = false from by simpa using hlg, show s.extract 0 M2 = s from by rw [← strC_take, List.take_of_length_le (by rw [sB_len]; omega), strC_all]] at HF
              have HF' := toHid HF
              clear hne hCx hBx hn HI HA HF
              go_wp2_with (go_at_call 18; refine HF'.out.mono ?_; clear HF'; rintro e w9 ⟨b9, o9, c9, rfl, z0, z1, ck, HI⟩)
              have g1 : decide (M2 < s.size) = false := by simpa using hlg
              have g2 : decide ((M2 : Int) < s.size) = false := by simpa using hlg
              go_quiet (fail)
              obtain ⟨X, hX⟩ : ∃ X, w9.drewN nq = X := ⟨_, rfl⟩
              have y0 : X.cell? ⟨b9, o9, none⟩ = some (.string s) := hX ▸ z0
              have y1 : X.cell? ⟨b9, o9 + 1, none⟩ = some (.bool false) := hX ▸ z1
              have yk : X.cell? ⟨b, off + k, none⟩ = some (.string s) := hX ▸ ck
              have HJ : Hid (Idle N p mn w X) := hX ▸ ⟨HI.out.1.elim fun v h => ⟨v, h.more (Chg.drewN _ _ _)⟩, below_drN HI.out.2 nq⟩
              rw [hX]
              clear hX z0 z1 ck HI
              go_wp2_with fail
              go_quiet (fail)
              have HK : Hid (Idle N p mn w (X.drewN nq)) := ⟨HJ.out.1.elim fun v h => ⟨v, h.more (Chg.drewN _ _ _)⟩, below_drN HJ.out.2 nq⟩
              go_wp2_with fail
              go_roundw
              case rel => exact ⟨k + 1, by go_num, hlt, HK⟩
              case measure => simp [intOf]; omega
      · have q2 : ¬ (k : Int) < ss.length := by omega
        obtain ⟨⟨v, L⟩, B⟩ := HI.out
        have HH : Hid (Calls Try.prog 19 #[.pointer (some ⟨p, 0, none⟩)] wr fun e w' => e = .returned (.int .i64 0) ∧ w' = wr) := held_any N p wr v mn 0 [] _ L (by decide)
        clear L
        go_wp2_with (go_at_call 19; refine HH.out.mono ?_; rintro e wd ⟨rfl, hwd⟩; subst hwd)
        go_ret
        exact ⟨rfl, by rw [hN.out]; exact B⟩
end Go.Proofs.Ytfbildadidfolaa

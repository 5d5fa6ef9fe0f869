/-
  CodecFixed answers true for every argument, in every world that holds codec's table; nothing that was there has changed.
-/
import Derived.Test.YtdninfmmikaimaaDoorPuts
namespace Go.Proofs.YtdninfmmikaimaaDoor
open Go.RowKit

theorem fixB_get (bs : List Int) (size : Int) (k : Nat) (hk : k < (min size 65536).toNat) : (fixB bs size).getD k 0 = if k < bs.length then bs.getD k 0 else 0 := by
  unfold fixB
  generalize (min size 65536).toNat = S at *
  by_cases h : k < bs.length
  · rw [if_pos h]
    have h2 : k < min S bs.length := by omega
    simp [List.getD, List.getElem?_append, h, h2]
  · rw [if_neg h]
    have h2 : ¬ k < min S bs.length := by omega
    simp only [List.getD, List.getElem?_append, List.length_take, h2, if_false, List.getElem?_replicate]
    split <;> rfl
theorem leTo_one (n : Int) : leTo n 1 = [n % 256] := by simp [leTo]


theorem own_cell {w : World} {N g n cap : Nat} {L : List Int} (o : w.ownsRow N 5 1 (.slice (some ⟨g, 0, none⟩) n cap) n (bcells L)) : ∀ j, j < n → w.cell? ⟨g, j, none⟩ = some (.int .u8 (L.getD j 0)) := by
  intro j hj
  have hl : L.length = n := by have := o.1; simpa [bcells] using this
  rw [o.cellAt j (by omega)]
  have : j < L.length := by omega
  simp [bcells, List.getD, this]
theorem fixed_cells {w : World} {N g n cap : Nat} {ahead size : Int} {bs : List Int} (o : w.ownsRow N 5 1 (.slice (some ⟨g, 0, none⟩) (n + 1) cap) (n + 1) (bcells ([] ++ leTo ahead 1 ++ fixB bs size))) (hn : n = (min size 65536).toNat) :
    w.cell? ⟨g, 0, none⟩ = some (.int .u8 (ahead % 256)) ∧ ∀ j, j < n → w.cell? ⟨g, j + 1, none⟩ = some (.int .u8 (if j < bs.length then bs.getD j 0 else 0)) := by
  have e : [] ++ leTo ahead 1 ++ fixB bs size = ahead % 256 :: fixB bs size := by rw [leTo_one]; rfl
  rw [e] at o
  have h := own_cell o
  refine ⟨h 0 (by omega), fun j hj => ?_⟩
  rw [h (j + 1) (by omega), ← fixB_get bs size j (by omega)]
  rfl

set_option maxHeartbeats 2000000 in
set_option maxRecDepth 100000 in
theorem law_fixed_mid (b : Value) (bs : List Int) (n : Nat) (ahead : Int) (w : World) (hT : Tab w) (hb : Bs w b bs) (hbl : bs.length ≤ 4096) (hn : n ≤ 8192) :
    Calls Tryd.prog 8 #[b, .int .i64 n, .int .i64 ahead] w fun e w' => e = .returned (.bool true) ∧ Below w.heap.size w w' := by
  obtain ⟨ab, cb, rfl, hcb⟩ := hb.form
  have k1 : decide ((4096 : Int) < (bs.length : Int)) = false := by simp; omega
  have k2 : decide ((8192 : Int) < (n : Int)) = false := by simp; omega
  have k3 : decide ((1099511627776 : Int) < (n : Int)) = false := by simp; omega
  have k4 : decide ((n : Int) < 0) = false := by simp
  have k5 : decide ((65536 : Int) < (n : Int)) = false := by simp; omega
  go_enter Tryd.func8, Tryd.ntmps8
  go_wp2_with fail
  refine (known_any w hT).mono ?_
  rintro e w1 ⟨rfl, B1⟩
  go_wp2_with fail
  refine (newWriter_any w.heap.size w1 B1.size).mono ?_
  rintro e w2 ⟨rfl, a2, hw2⟩
  have B2 : Below w.heap.size w w2 := by rw [hw2]; exact B1.alloc B1.size _
  clear hw2
  go_wp2_with fail
  refine (u8_any w.heap.size _ ahead _ _ _ a2 (by simp)).mono ?_
  rintro e w3 ⟨rfl, v3, h3⟩
  have B3 := B2.trans (h3.belowW a2)
  have a3 := h3.wr
  clear a2 B2 h3
  have hb3 : Bs w3 (.slice ab bs.length cb) bs := hb.under B3
  go_wp2_with fail
  refine (fixed_any w.heap.size _ _ _ n _ bs _ a3 hb3 (by simp [leTo_len])).mono ?_
  rintro e w4 ⟨rfl, v4, h4⟩
  have B4 := B3.trans (h4.belowW a3)
  have a4 := h4.wr
  clear a3 B3 h4 hb3
  have hlen : ([] ++ leTo ahead 1 ++ fixB bs n).length = n + 1 := by simp [leTo_len, fixB_len]; omega
  go_wp2_with fail
  refine (done_any w.heap.size _ _ _ _ a4 (by omega)).mono ?_
  rintro e w5 ⟨u, rfl, h5⟩
  have B5 := B4.trans (h5.2.1.below a4.N (fun _ h => h.elim))
  have hb5 : Bs w5 (.slice ab bs.length cb) bs := hb.under B5
  have o5 := h5.1
  rw [hlen] at o5
  obtain ⟨g, cap, rfl⟩ := own_form o5 (by omega)
  clear a4 B4 h5
  obtain ⟨L1, L2⟩ := fixed_cells o5 (by omega)
  clear o5 hlen
  go_wp2_with fail
  go_loop [10] (fun i => ∃ k : Nat, k ≤ n ∧ i = .int .i64 k) (fun i => n - (intOf i).toNat)
  case atStart => exact ⟨0, Nat.zero_le _, rfl⟩
  case round =>
    obtain ⟨k, hk, rfl⟩ := hrel
    by_cases hlt : k < n
    · have hc := L2 k hlt
      clear L2
      have g1 : (k : Int) < (n : Int) := by omega
      have g2 : (k : Int) + 1 < (n : Int) + 1 := by omega
      by_cases hkb : k < bs.length
      · rw [if_pos hkb] at hc
        obtain ⟨b, off, rfl, hcs⟩ := hb5.at hkb
        have hcb := hcs k hkb
        clear hcs hb5 hb
        generalize bs.getD k 0 = x at *
        have g3 : (k : Int) < (bs.length : Int) := by omega
        go_wp2
        go_roundw
        case rel => exact ⟨k + 1, by omega, by go_num⟩
        case measure => simp [intOf]; omega
      · rw [if_neg hkb] at hc
        have g3 : ¬ ((k : Int) < (bs.length : Int)) := by omega
        clear hb5 hb
        go_wp2
        go_roundw
        case rel => exact ⟨k + 1, by omega, by go_num⟩
        case measure => simp [intOf]; omega
    · clear L2 hb5 hb
      go_wp2
      go_ret
      exact ⟨rfl, B5⟩
set_option maxHeartbeats 2000000 in
set_option maxRecDepth 100000 in
theorem law_fixed_neg (b : Value) (bs : List Int) (size : Int) (ahead : Int) (w : World) (hT : Tab w) (hb : Bs w b bs) (hbl : bs.length ≤ 4096) (hn : size < 0) :
    Calls Tryd.prog 8 #[b, .int .i64 size, .int .i64 ahead] w fun e w' => e = .returned (.bool true) ∧ Below w.heap.size w w' := by
  obtain ⟨ab, cb, rfl, hcb⟩ := hb.form
  have k1 : decide ((4096 : Int) < (bs.length : Int)) = false := by simp; omega
  have k2 : decide ((8192 : Int) < size) = false := by simp; omega
  have k3 : decide ((1099511627776 : Int) < size) = false := by simp; omega
  have k4 : decide (size < 0) = true := by simp; omega
  go_enter Tryd.func8, Tryd.ntmps8
  go_wp2_with fail
  refine (known_any w hT).mono ?_
  rintro e w1 ⟨rfl, B1⟩
  go_wp2_with fail
  refine (newWriter_any w.heap.size w1 B1.size).mono ?_
  rintro e w2 ⟨rfl, a2, hw2⟩
  have B2 : Below w.heap.size w w2 := by rw [hw2]; exact B1.alloc B1.size _
  clear hw2
  go_wp2_with fail
  refine (u8_any w.heap.size _ ahead _ _ _ a2 (by simp)).mono ?_
  rintro e w3 ⟨rfl, v3, h3⟩
  have B3 := B2.trans (h3.belowW a2)
  have a3 := h3.wr
  clear a2 B2 h3
  have hb3 : Bs w3 (.slice ab bs.length cb) bs := hb.under B3
  go_wp2_with fail
  refine (fixed_any w.heap.size _ _ _ size _ bs _ a3 hb3 (by simp [leTo_len])).mono ?_
  rintro e w4 ⟨rfl, v4, h4⟩
  have B4 := B3.trans (h4.belowW a3)
  have a4 := h4.wr
  clear a3 B3 h4 hb3
  have hlen : ([] ++ leTo ahead 1 ++ fixB bs size).length = 0 + 1 := by simp [leTo_len, fixB_len]; omega
  go_wp2_with fail
  refine (done_any w.heap.size _ _ _ _ a4 (by omega)).mono ?_
  rintro e w5 ⟨u, rfl, h5⟩
  have B5 := B4.trans (h5.2.1.below a4.N (fun _ h => h.elim))
  have hb5 : Bs w5 (.slice ab bs.length cb) bs := hb.under B5
  have o5 := h5.1
  rw [hlen] at o5
  obtain ⟨g, cap, rfl⟩ := own_form o5 (by omega)
  clear a4 B4 h5
  obtain ⟨L1, L2⟩ := fixed_cells o5 (by omega)
  clear o5 hlen
  go_wp2_with fail
  go_loop [10] (fun i => ∃ k : Nat, k ≤ 0 ∧ i = .int .i64 k) (fun i => 0 - (intOf i).toNat)
  case atStart => exact ⟨0, Nat.zero_le _, rfl⟩
  case round =>
    obtain ⟨k, hk, rfl⟩ := hrel
    obtain rfl : k = 0 := by omega
    clear L2 hb5 hb
    go_wp2
    go_ret
    exact ⟨rfl, B5⟩
set_option maxHeartbeats 2000000 in
set_option maxRecDepth 1000000 in
theorem law_fixed_big (b : Value) (bs : List Int) (size : Int) (ahead : Int) (w : World) (hT : Tab w) (hb : Bs w b bs) (hbl : bs.length ≤ 4096) (hn : 65536 < size) (hn2 : size ≤ 1099511627776) :
    Calls Tryd.prog 8 #[b, .int .i64 size, .int .i64 ahead] w fun e w' => e = .returned (.bool true) ∧ Below w.heap.size w w' := by
  obtain ⟨ab, cb, rfl, hcb⟩ := hb.form
  have k1 : decide ((4096 : Int) < (bs.length : Int)) = false := by simp; omega
  have k2 : decide ((8192 : Int) < size) = true := by simp; omega
  have k2b : decide (size ≤ 65536) = false := by simp; omega
  have k3 : decide ((1099511627776 : Int) < size) = false := by simp; omega
  have k4 : decide (size < 0) = false := by simp; omega
  have k5 : decide ((65536 : Int) < size) = true := by simp; omega
  go_enter Tryd.func8, Tryd.ntmps8
  go_wp2_with fail
  refine (known_any w hT).mono ?_
  rintro e w1 ⟨rfl, B1⟩
  go_wp2_with fail
  refine (newWriter_any w.heap.size w1 B1.size).mono ?_
  rintro e w2 ⟨rfl, a2, hw2⟩
  have B2 : Below w.heap.size w w2 := by rw [hw2]; exact B1.alloc B1.size _
  clear hw2
  go_wp2_with fail
  refine (u8_any w.heap.size _ ahead _ _ _ a2 (by simp)).mono ?_
  rintro e w3 ⟨rfl, v3, h3⟩
  have B3 := B2.trans (h3.belowW a2)
  have a3 := h3.wr
  clear a2 B2 h3
  have hb3 : Bs w3 (.slice ab bs.length cb) bs := hb.under B3
  go_wp2_with fail
  refine (fixed_any w.heap.size _ _ _ size _ bs _ a3 hb3 (by simp [leTo_len])).mono ?_
  rintro e w4 ⟨rfl, v4, h4⟩
  have B4 := B3.trans (h4.belowW a3)
  have a4 := h4.wr
  clear a3 B3 h4 hb3
  have hlen : ([] ++ leTo ahead 1 ++ fixB bs size).length = 65536 + 1 := by simp [leTo_len, fixB_len]; omega
  go_wp2_with fail
  refine (done_any w.heap.size _ _ _ _ a4 (by omega)).mono ?_
  rintro e w5 ⟨u, rfl, h5⟩
  have B5 := B4.trans (h5.2.1.below a4.N (fun _ h => h.elim))
  have hb5 : Bs w5 (.slice ab bs.length cb) bs := hb.under B5
  have o5 := h5.1
  rw [hlen] at o5
  obtain ⟨g, cap, rfl⟩ := own_form o5 (by omega)
  clear a4 B4 h5
  obtain ⟨L1, L2⟩ := fixed_cells o5 (by omega)
  clear o5 hlen
  go_wp2_with fail
  go_loop [10] (fun i => ∃ k : Nat, k ≤ 65536 ∧ i = .int .i64 k) (fun i => 65536 - (intOf i).toNat)
  case atStart => exact ⟨0, Nat.zero_le _, rfl⟩
  case round =>
    obtain ⟨k, hk, rfl⟩ := hrel
    by_cases hlt : k < 65536
    · have hc := L2 k hlt
      clear L2
      have g1 : (k : Int) < (65536 : Int) := by omega
      have g2 : (k : Int) + 1 < (65536 : Int) + 1 := by omega
      by_cases hkb : k < bs.length
      · rw [if_pos hkb] at hc
        obtain ⟨b, off, rfl, hcs⟩ := hb5.at hkb
        have hcb := hcs k hkb
        clear hcs hb5 hb
        generalize bs.getD k 0 = x at *
        have g3 : (k : Int) < (bs.length : Int) := by omega
        go_wp2
        go_roundw
        case rel => exact ⟨k + 1, by omega, by go_num⟩
        case measure => simp [intOf]; omega
      · rw [if_neg hkb] at hc
        have g3 : ¬ ((k : Int) < (bs.length : Int)) := by omega
        clear hb5 hb
        go_wp2
        go_roundw
        case rel => exact ⟨k + 1, by omega, by go_num⟩
        case measure => simp [intOf]; omega
    · clear L2 hb5 hb
      go_wp2
      go_ret
      exact ⟨rfl, B5⟩
set_option maxHeartbeats 800000 in
set_option maxRecDepth 100000 in
theorem law_fixed_out (b : Value) (bs : List Int) (size : Int) (ahead : Int) (w : World) (hT : Tab w) (hb : Bs w b bs) (h : 4096 < bs.length ∨ (8192 < size ∧ size ≤ 65536) ∨ 1099511627776 < size) :
    Calls Tryd.prog 8 #[b, .int .i64 size, .int .i64 ahead] w fun e w' => e = .returned (.bool true) ∧ Below w.heap.size w w' := by
  obtain ⟨ab, cb, rfl, hcb⟩ := hb.form
  by_cases h1 : 4096 < bs.length
  · have k1 : decide ((4096 : Int) < (bs.length : Int)) = true := by simp; omega
    go_enter Tryd.func8, Tryd.ntmps8
    go_wp2_with fail
    refine (known_any w hT).mono ?_
    rintro e w1 ⟨rfl, B1⟩
    go_wp2
    go_ret
    exact ⟨rfl, B1⟩
  have k1 : decide ((4096 : Int) < (bs.length : Int)) = false := by simp; omega
  by_cases h2 : 8192 < size ∧ size ≤ 65536
  · have k2 : decide ((8192 : Int) < size) = true := by simp; omega
    have k2b : decide (size ≤ 65536) = true := by simp; omega
    go_enter Tryd.func8, Tryd.ntmps8
    go_wp2_with fail
    refine (known_any w hT).mono ?_
    rintro e w1 ⟨rfl, B1⟩
    go_wp2
    go_ret
    exact ⟨rfl, B1⟩
  · have k2 : decide ((8192 : Int) < size) = true := by simp; omega
    have k2b : decide (size ≤ 65536) = false := by simp; omega
    have k3 : decide ((1099511627776 : Int) < size) = true := by simp; omega
    go_enter Tryd.func8, Tryd.ntmps8
    go_wp2_with fail
    refine (known_any w hT).mono ?_
    rintro e w1 ⟨rfl, B1⟩
    go_wp2
    go_ret
    exact ⟨rfl, B1⟩

theorem law_fixed (b : Value) (bs : List Int) (size : Int) (ahead : Int) (w : World) (hT : Tab w) (hb : Bs w b bs) :
    Calls Tryd.prog 8 #[b, .int .i64 size, .int .i64 ahead] w fun e w' => e = .returned (.bool true) ∧ Below w.heap.size w w' := by
  by_cases h : 4096 < bs.length ∨ (8192 < size ∧ size ≤ 65536) ∨ 1099511627776 < size
  · exact law_fixed_out b bs size ahead w hT hb h
  · by_cases h0 : size < 0
    · exact law_fixed_neg b bs size ahead w hT hb (by omega) h0
    · by_cases h1 : 65536 < size
      · exact law_fixed_big b bs size ahead w hT hb (by omega) h1 (by omega)
      · obtain ⟨n, rfl⟩ := Int.eq_ofNat_of_zero_le (show 0 ≤ size by omega)
        exact law_fixed_mid b bs n ahead w hT hb (by omega) (by omega)
end Go.Proofs.YtdninfmmikaimaaDoor

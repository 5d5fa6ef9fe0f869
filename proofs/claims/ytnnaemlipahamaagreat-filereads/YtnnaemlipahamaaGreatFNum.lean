/-
  Numbers in a block of numbers: number, setNumber of package file.
-/
import Derived.Test.YtnnaemlipahamaaGreatFEach
import Derived.Test.YtnnaemlipahamaaGreatFNode
import Derived.Test.YtnnaemlipahamaaGreatReader
namespace Go.Proofs.YtnnaemlipahamaaGreat
open Go.RowKit Go.Maps

theorem num_val (xs : List Int) (j : Nat) : num xs j = valB [xs.getD (4 * j) 0, xs.getD (4 * j + 1) 0, xs.getD (4 * j + 2) 0, xs.getD (4 * j + 3) 0] := by
  unfold num
  simp only [valB]
  omega
theorem fourth {a b c d : Int} {k : Nat} (hk : k < 4) {xs : List Int} {j : Nat} (ha : a = xs.getD (4 * j) 0) (hb : b = xs.getD (4 * j + 1) 0) (hc : c = xs.getD (4 * j + 2) 0) (hd : d = xs.getD (4 * j + 3) 0) : [a, b, c, d].getD k 0 = xs.getD (4 * j + k) 0 := by
  have h : k = 0 ∨ k = 1 ∨ k = 2 ∨ k = 3 := by omega
  rcases h with rfl | rfl | rfl | rfl
  · exact ha
  · exact hb
  · exact hc
  · exact hd
set_option maxHeartbeats 1600000 in
set_option maxRecDepth 100000 in
theorem fnum_any (v : Value) (xs : List Int) (j : Nat) (w : World) (h : Bs w v xs) (hb : IsBy xs) (hl : xs.length = 512) (hj : j < 128) :
    Calls Tryz.prog 132 #[v, .int .i64 (j : Int)] w fun e w' => e = .returned (.int .i64 (num xs j)) ∧ w' = w := by
  obtain ⟨a, c, rfl, hlc⟩ := h.formB
  obtain ⟨b, off, rfl, hcs⟩ := h.atC (k := 0) (by omega)
  have hc4 : ∀ k, k < 4 → w.cell? ⟨b, off + 4 * j + k, none⟩ = some (.int .u8 (xs.getD (4 * j + k) 0)) := fun k hk => by
    have := hcs (4 * j + k) (by omega)
    rw [← Nat.add_assoc] at this
    exact this
  rw [num_val]
  obtain ⟨ds, hds⟩ : ∃ ds, [xs.getD (4 * j) 0, xs.getD (4 * j + 1) 0, xs.getD (4 * j + 2) 0, xs.getD (4 * j + 3) 0] = ds := ⟨_, rfl⟩
  rw [hds]
  have hdl : ds.length = 4 := by rw [← hds]; rfl
  have hB : IsB ds := by
    rw [← hds]
    intro x hx
    simp only [List.mem_cons, List.not_mem_nil, or_false] at hx
    rcases hx with rfl | rfl | rfl | rfl <;> exact isBy_getD hb _
  have hd4 : ∀ k, k < 4 → w.cell? ⟨b, off + 4 * j + k, none⟩ = some (.int .u8 (ds.getD k 0)) := fun k hk => by
    rw [hc4 k hk, ← hds, fourth hk rfl rfl rfl rfl]
  have hdl' : Hid (ds.length = 4) := hdl
  have HD : Hid (∀ k, k < 4 → w.cell? ⟨b, off + 4 * j + k, none⟩ = some (.int .u8 (ds.getD k 0))) := hd4
  have hlc' : 512 ≤ c := by omega
  rw [hl]
  clear hcs hc4 hds hdl hd4 h hlc hl
  have k1 : ((j : Int) + 1) * 4 - (j : Int) * 4 = 4 := by omega
  go_enter Tryz.func132, Tryz.ntmps132
  go_wp2
  go_loop [5, 16] (fun n i => ∃ (k : Nat), k ≤ 4 ∧ i = .int .i64 k ∧ n = .int .i64 (valB (ds.take k))) (fun _ i => 4 - (intOf i).toNat)
  case atStart => exact ⟨0, Nat.zero_le _, rfl, rfl⟩
  case round =>
    obtain ⟨k, hk, rfl, rfl⟩ := hrel
    by_cases hlt : k < 4
    · have hc : w.cell? ⟨b, off + j * 4 + k, none⟩ = some (.int .u8 (ds.getD k 0)) := by rw [Nat.mul_comm j 4]; exact HD.out k hlt
      have hx := hB.at (k := k) (by have := hdl'.out; omega)
      have hv := valB_bd (ds.take k) (hB.take k)
      have hkl : (ds.take k).length = k := by have := hdl'.out; simp; omega
      rw [hkl] at hv
      have HS : Hid (bits .or .i64 (valB (ds.take k)) (wrap64 (ds.getD k 0 * 2 ^ (8 * k))) = valB (ds.take (k + 1))) := by
        rw [valB_take ds k (by have := hdl'.out; omega)]
        exact or_step k _ _ (by omega) hv.1 hv.2 hx.1 hx.2
      clear hv hkl hB
      generalize valB (ds.take k) = m at *
      generalize ds.getD k 0 = x at *
      obtain ⟨hx0, hx1⟩ := hx
      have hki : (k : Int) < (((j + 1) * 4 - j * 4 : Nat) : Int) := by omega
      have hki2 : k < (j + 1) * 4 - j * 4 := by omega
      go_wp2
      go_roundw
      case rel => exact ⟨k + 1, by omega, by go_num, by rw [HS.out]⟩
      case measure => simp [intOf]; omega
    · have hki : ¬ ((k : Int) < (((j + 1) * 4 - j * 4 : Nat) : Int)) := by omega
      go_wp2
      go_ret
      refine ⟨?_, rfl⟩
      have e : ds.take k = ds := List.take_of_length_le (by have := hdl'.out; omega)
      rw [← e]; simp [e]
theorem Mp.cellAt {w : World} {g : Nat} {v : Value} {xs : List Int} (h : Mp w g v xs) {j : Nat} (hj : j < xs.length) : w.cell? ⟨g, j, none⟩ = some (.int .u8 (xs.getD j 0)) := by
  rcases h with ⟨rfl, rfl⟩ | ⟨c, cur, ty, rfl, hb, hl, hm, hc⟩
  · simp at hj
  · rw [cell_of_row _ _ _ _ _ _ hb]
    exact hc j hj
theorem Mp.freeAt {w : World} {g : Nat} {v : Value} {xs : List Int} (h : Mp w g v xs) (j : Nat) (hx : xs ≠ []) : w.frozen? ⟨g, j, none⟩ = false := by
  rcases h with ⟨rfl, e⟩ | ⟨c, cur, ty, rfl, hb, hl, hm, hc⟩
  · exact absurd e hx
  · simp [World.frozen?, hb]
/-- The first k of four bytes set. -/
def setUp (xs : List Int) (j : Nat) (x : Int) : Nat → List Int
  | 0 => xs
  | k + 1 => (setUp xs j x k).set (4 * j + k) (x / 256 ^ k % 256)
theorem setUp_len (xs : List Int) (j : Nat) (x : Int) : ∀ k, (setUp xs j x k).length = xs.length
  | 0 => rfl
  | k + 1 => by simp [setUp, setUp_len xs j x k]
theorem setUp_four (xs : List Int) (j : Nat) (x : Int) : setUp xs j x 4 = setNum xs j x := by
  simp [setUp, setNum]
set_option maxHeartbeats 1600000 in
set_option maxRecDepth 100000 in
theorem fset_any (g : Nat) (v : Value) (xs : List Int) (j : Nat) (x : Int) (w : World) (h : Mp w g v xs) (hl : xs.length = 512) (hj : j < 128) (_hx0 : 0 ≤ x) (_hx1 : x < 4294967296) :
    Calls Tryz.prog 134 #[v, .int .i64 (j : Int), .int .i64 x] w fun e w' => e = .returned (.tuple #[]) ∧ Mp w' g v (setNum xs j x) ∧ Chg (fun b => b = g) w w' := by
  obtain ⟨c, hv⟩ : ∃ c, v = .slice (some ⟨g, 0, none⟩) 512 c ∧ 512 ≤ c := by
    rcases h with ⟨_, rfl⟩ | ⟨c, cur, ty, rfl, _, h2, _⟩
    · cases hl
    · exact ⟨c, by rw [hl], by omega⟩
  obtain ⟨rfl, hc⟩ := hv
  rw [← setUp_four]
  go_enter Tryz.func134, Tryz.ntmps134
  go_wp2
  go_loopw [7] (fun i wr => ∃ k : Nat, k ≤ 4 ∧ i = .int .i64 k ∧ Mp wr g (.slice (some ⟨g, 0, none⟩) 512 c) (setUp xs j x k) ∧ Chg (fun b => b = g) w wr) (fun i _ => 4 - (intOf i).toNat)
  case atStart => exact ⟨0, by omega, rfl, h, Chg.refl _ _⟩
  case round =>
    obtain ⟨k, hk, rfl, hm, hch⟩ := hrel
    by_cases hlt : k < 4
    · have hsl := setUp_len xs j x k
      have hin : 4 * j + k < (setUp xs j x k).length := by omega
      have hc1 : wr.cell? ⟨g, j * 4 + k, none⟩ = some (.int .u8 ((setUp xs j x k).getD (j * 4 + k) 0)) := hm.cellAt (by omega)
      have hf1 := hm.freeAt (j * 4 + k) (by intro e; rw [e] at hin; simp at hin)
      have hm2 := hm.set hin (x / 256 ^ k % 256)
      have e : (2 : Int) ^ (8 * k) = 256 ^ k := by rw [Int.pow_mul]; rfl
      have HZ : Hid (Mp (wr.setCell ⟨g, j * 4 + k, none⟩ (.int .u8 (x / 2 ^ (8 * k) % 256))) g (.slice (some ⟨g, 0, none⟩) 512 c) (setUp xs j x (k + 1))) := by
        rw [e, Nat.mul_comm j 4]; exact hm2
      have HC : Hid (Chg (fun b => b = g) w wr) := hch
      clear hm hm2 e hch hsl hin
      go_wp2
      go_roundw
      case rel => exact ⟨k + 1, by omega, by go_num, HZ.out, HC.out.trans (Chg.setCell (S := fun b => b = g) _ _ _ rfl) (fun _ _ h => h)⟩
      case measure => simp [intOf]; omega
    · go_wp2
      go_end0
      obtain rfl : k = 4 := by omega
      exact ⟨rfl, hm, hch⟩
end Go.Proofs.YtnnaemlipahamaaGreat

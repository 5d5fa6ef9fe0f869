/-
  Contracts of the reader of package codec: what NewReader, fail, take, number, U8, U16, U32, Fixed, Bytes and End answer and leave.
-/
import Derived.Test.YtdcmcgdalanjjaaGreatFixed
import Derived.BigQuiet
import Derived.Deep.QuietTactic
namespace Go.Proofs.YtdcmcgdalanjjaaGreat
open Go.RowKit

/-- A reader: its struct lies in block p; the slice v of what is left reads xs; its fault is f; behind a fault nothing is left. -/
structure Rd (N : Nat) (w : World) (p : Nat) (v : Value) (xs : List Int) (f : Int) : Prop where
  le : N ≤ p
  blk : w.heap[p]? = some (.cells #[v, .int .i64 f] 119 (0, 0))
  bs : Bs w v xs
  ne : ∀ a n c, v = .slice (some a) n c → 0 < n → a.block < p
  nil : f ≠ 0 → v = .slice none 0 0 ∧ xs = []

/-- From w to w' the reader at p alone has changed. -/
structure RdTo (N p : Nat) (w w' : World) (v' : Value) (xs' : List Int) (f' : Int) : Prop where
  rd : Rd N w' p v' xs' f'
  chg : Chg (fun k => k = p) w w'

theorem Rd.lt {N p : Nat} {w : World} {v : Value} {xs : List Int} {f : Int} (h : Rd N w p v xs f) : p < w.heap.size := (Array.getElem?_eq_some_iff.1 h.blk).1
theorem Rd.cell0 {N p : Nat} {w : World} {v : Value} {xs : List Int} {f : Int} (h : Rd N w p v xs f) : w.cell? ⟨p, 0, none⟩ = some v := by
  rw [cell_of_row w p 0 _ _ _ h.blk]; rfl
theorem Rd.cell1 {N p : Nat} {w : World} {v : Value} {xs : List Int} {f : Int} (h : Rd N w p v xs f) : w.cell? ⟨p, 1, none⟩ = some (.int .i64 f) := by
  rw [cell_of_row w p 1 _ _ _ h.blk]; rfl
theorem Rd.fr {N p : Nat} {w : World} {v : Value} {xs : List Int} {f : Int} (h : Rd N w p v xs f) (j : Nat) : w.frozen? ⟨p, j, none⟩ = false := by
  simp [World.frozen?, h.blk]
theorem Rd.slice {N p : Nat} {w : World} {v : Value} {xs : List Int} {f : Int} (h : Rd N w p v xs f) : ∃ a c, v = .slice a xs.length c ∧ xs.length ≤ c := by
  rcases h.bs with ⟨rfl, rfl⟩ | ⟨a, c, rfl, hl, _⟩
  · exact ⟨none, 0, rfl, Nat.le_refl _⟩
  · exact ⟨_, _, rfl, hl⟩
theorem RdTo.refl {N p : Nat} {w : World} {v : Value} {xs : List Int} {f : Int} (h : Rd N w p v xs f) : RdTo N p w w v xs f := ⟨h, Chg.refl _ _⟩
theorem RdTo.trans {N p : Nat} {w w1 w2 : World} {v1 v2 : Value} {x1 x2 : List Int} {f1 f2 : Int} (a : RdTo N p w w1 v1 x1 f1) (b : RdTo N p w1 w2 v2 x2 f2) : RdTo N p w w2 v2 x2 f2 :=
  ⟨b.rd, a.chg.trans b.chg (fun _ _ h => h)⟩
/-- Into a world in which nothing of the reader's has changed. -/
theorem Rd.kept {S : Nat → Prop} {N p : Nat} {w w' : World} {v : Value} {xs : List Int} {f : Int} (h : Rd N w p v xs f) (hc : Chg S w w') (hp : ¬ S p) (hv : ∀ a n c, v = .slice (some a) n c → 0 < n → ¬ S a.block) : Rd N w' p v xs f :=
  ⟨h.le, (hc.block p h.lt hp).trans h.blk, h.bs.kept hc hv, h.ne, h.nil⟩

set_option maxHeartbeats 800000 in
theorem fail_not (N p : Nat) (v : Value) (xs : List Int) (f e : Int) (w : World) (hr : Rd N w p v xs f) (hf : f ≠ 0) :
    Calls Tryz.prog 97 #[.pointer (some ⟨p, 0, none⟩), .int .i64 e] w fun r w' => r = .returned (.tuple #[]) ∧ w' = w := by
  have h0 := hr.cell0
  have h1 := hr.cell1
  have hb : (f == 0) = false := by simpa using hf
  go_enter Tryz.func97, Tryz.ntmps97
  go_wp2
  go_end0
  exact ⟨rfl, rfl⟩

set_option maxHeartbeats 800000 in
theorem fail_first (N p : Nat) (v : Value) (xs : List Int) (e : Int) (w : World) (hr : Rd N w p v xs 0) :
    Calls Tryz.prog 97 #[.pointer (some ⟨p, 0, none⟩), .int .i64 e] w fun r w' => r = .returned (.tuple #[]) ∧ RdTo N p w w' (.slice none 0 0) [] e := by
  have h0 := hr.cell0
  have h1 := hr.cell1
  have f0 := hr.fr 0
  have f1 := hr.fr 1
  obtain ⟨a, c, rfl, _⟩ := hr.slice
  go_enter Tryz.func97, Tryz.ntmps97
  go_wp2
  go_end0
  refine ⟨rfl, ⟨hr.le, ?_, .inl ⟨rfl, rfl⟩, (fun a n c e => by cases e), fun _ => ⟨rfl, rfl⟩⟩, ?_⟩
  · have g1 := heap_setCell_same w p 1 _ 119 (.int .i64 e) hr.blk
    have g2 := heap_setCell_same _ p 0 _ 119 (.slice none 0 0) g1
    simpa using g2
  · exact (Chg.setCell (S := fun k => k = p) w ⟨p, 1, none⟩ _ rfl).trans (Chg.setCell (S := fun k => k = p) _ ⟨p, 0, none⟩ _ rfl) (fun _ _ h => h)

set_option maxHeartbeats 800000 in
theorem take_fault (N p : Nat) (v : Value) (xs : List Int) (f n : Int) (w : World) (hr : Rd N w p v xs f) (hf : f ≠ 0) :
    Calls Tryz.prog 98 #[.pointer (some ⟨p, 0, none⟩), .int .i64 n] w fun r w' => r = .returned (.slice none 0 0) ∧ w' = w := by
  have h0 := hr.cell0
  have h1 := hr.cell1
  have hb : (f == 0) = false := by simpa using hf
  obtain ⟨rfl, rfl⟩ := hr.nil hf
  by_cases hn : 0 < n
  · go_enter Tryz.func98, Tryz.ntmps98
    go_wp2_with fail
    refine (fail_not N p _ _ f 2 _ hr hf).mono ?_
    rintro e w' ⟨rfl, rfl⟩
    go_wp2
    go_ret
    exact ⟨rfl, rfl⟩
  · go_enter Tryz.func98, Tryz.ntmps98
    go_wp2
    go_ret
    exact ⟨rfl, rfl⟩

set_option maxHeartbeats 800000 in
theorem take_short (N p : Nat) (v : Value) (xs : List Int) (n : Int) (w : World) (hr : Rd N w p v xs 0) (hn : (xs.length : Int) < n) :
    Calls Tryz.prog 98 #[.pointer (some ⟨p, 0, none⟩), .int .i64 n] w fun r w' => r = .returned (.slice none 0 0) ∧ RdTo N p w w' (.slice none 0 0) [] 2 := by
  have h0 := hr.cell0
  have h1 := hr.cell1
  obtain ⟨a, c, rfl, _⟩ := hr.slice
  go_enter Tryz.func98, Tryz.ntmps98
  go_wp2_with fail
  refine (fail_first N p _ _ 2 _ hr).mono ?_
  rintro e w' ⟨rfl, ht⟩
  have k0 := ht.rd.cell0
  have k1 := ht.rd.cell1
  go_wp2
  go_ret
  exact ⟨rfl, ht⟩

theorem add_add (a : Addr) (n j : Nat) : (a.add n).add j = a.add (n + j) := by
  unfold Addr.add
  by_cases h : n = 0
  · subst h; simp
  · by_cases k : j = 0
    · subst k; simp
    · have e : ¬ (n + j = 0) := by omega
      simp [h, k, Nat.add_assoc]
theorem add_block (a : Addr) (n : Nat) : (a.add n).block = a.block := by unfold Addr.add; split <;> rfl

/-- The rest of a slice of bytes. -/
theorem Bs.rest {w : World} {a : Option Addr} {c n : Nat} {xs : List Int} (h : Bs w (.slice a xs.length c) xs) (hn : n ≤ xs.length) (hc : ¬ c = n) : Bs w (.slice (Option.map (fun x => x.add n) a) (xs.length - n) (c - n)) (xs.drop n) := by
  rcases h with ⟨e, rfl⟩ | ⟨a, c', e, hl, hm, hcell⟩
  · cases e; simp at hn; omega
  · cases e
    have hlen : (xs.drop n).length = xs.length - n := by simp
    refine .inr ⟨a.add n, c - n, by rw [hlen]; rfl, by omega, by omega, fun j hj => ?_⟩
    rw [hlen] at hj
    rw [add_add, hcell (n + j) (by omega)]
    simp [List.getD, List.getElem?_drop]
theorem Bs.rest0 {w : World} {a : Option Addr} {n : Nat} {xs : List Int} (h : Bs w (.slice a xs.length n) xs) (hn : n ≤ xs.length) : Bs w (.slice a (xs.length - n) 0) (xs.drop n) := by
  rcases h with ⟨e, rfl⟩ | ⟨a, c', e, hl, hm, hcell⟩
  · cases e; exact .inl ⟨rfl, by simp⟩
  · cases e
    have hlen : (xs.drop n).length = xs.length - n := by simp
    refine .inr ⟨a, 0, by rw [hlen], by omega, by omega, fun j hj => ?_⟩
    omega

theorem Rd.took {N p : Nat} {w : World} {a a' : Option Addr} {n' c c' n : Nat} {xs : List Int} (hr : Rd N w p (.slice a xs.length c) xs 0) (hn : n ≤ xs.length) (hn' : n' = xs.length - n) (hb : Bs w (.slice a' n' c') (xs.drop n)) (ha : ∀ x, a' = some x → 0 < n' → ∃ y, a = some y ∧ x.block = y.block) :
    (∃ x, RdTo N p w (w.setCell ⟨p, 0, none⟩ (.slice a' n' c')) x (xs.drop n) 0) ∧ Bs (w.setCell ⟨p, 0, none⟩ (.slice a' n' c')) (.slice a n n) (xs.take n) ∧
      ∀ (b : Addr) (m k : Nat), Value.slice a n n = .slice (some b) m k → 0 < m → ¬ b.block = p ∧ b.block < w.heap.size := by
  have hch : Chg (fun k => k = p) w (w.setCell ⟨p, 0, none⟩ (.slice a' n' c')) := Chg.setCell (S := fun k => k = p) w ⟨p, 0, none⟩ _ rfl
  refine ⟨⟨.slice a' n' c', ⟨hr.le, ?_, ?_, ?_, fun h => absurd rfl h⟩, hch⟩, ?_, ?_⟩
  · have g1 := heap_setCell_same w p 0 _ 119 (.slice a' n' c') hr.blk
    simpa using g1
  · refine hb.kept hch (fun b m k e h0 => ?_)
    cases e
    obtain ⟨y, rfl, e2⟩ := ha b rfl h0
    rw [e2]
    exact Nat.ne_of_lt (hr.ne y _ _ rfl (by omega))
  · intro b m k e h0
    cases e
    obtain ⟨y, rfl, e2⟩ := ha b rfl h0
    rw [e2]
    exact hr.ne y _ _ rfl (by omega)
  · refine (Bs.front hr.bs hn).kept hch (fun b m k e h0 => ?_)
    cases e
    exact Nat.ne_of_lt (hr.ne b _ _ rfl (by omega))
  · intro b m k e h0
    cases e
    refine ⟨Nat.ne_of_lt (hr.ne b _ _ rfl (by omega)), ?_⟩
    rcases hr.bs with ⟨e, _⟩ | ⟨a2, c2, e, hl, hm, hcell⟩
    · cases e
    · cases e
      have := World.block_lt_of_cell? w _ (hcell 0 (by omega))
      rw [add_block] at this
      exact this

set_option maxHeartbeats 800000 in
theorem take_some (N p : Nat) (v : Value) (xs : List Int) (n : Nat) (w : World) (hr : Rd N w p v xs 0) (hn : n ≤ xs.length) :
    Calls Tryz.prog 98 #[.pointer (some ⟨p, 0, none⟩), .int .i64 n] w fun r w' => ∃ u v', r = .returned u ∧ RdTo N p w w' v' (xs.drop n) 0 ∧ Bs w' u (xs.take n) ∧ (∀ a m c, u = .slice (some a) m c → 0 < m → a.block ≠ p ∧ a.block < w.heap.size) := by
  have h0 := hr.cell0
  have h1 := hr.cell1
  have f0 := hr.fr 0
  have f1 := hr.fr 1
  obtain ⟨a, c, rfl, hc⟩ := hr.slice
  have hn' : ¬ ((xs.length : Int) < (n : Int)) := by omega
  have hn1 : (n : Int) ≤ (xs.length : Int) := by omega
  have hn2 : (n : Int) ≤ (c : Int) := by omega
  go_enter Tryz.func98, Tryz.ntmps98
  go_wp2
  · have hcn : c = n := by assumption
    subst hcn
    have H := hr.took hn rfl (Bs.rest0 hr.bs hn) (fun x e _ => ⟨x, e, rfl⟩)
    go_ret
    exact ⟨_, rfl, H.1, H.2.1, H.2.2⟩
  · have hcn : ¬ c = n := by assumption
    have H := hr.took hn rfl (Bs.rest hr.bs hn hcn) (fun x e _ => by cases a with | none => cases e | some y => cases e; exact ⟨y, rfl, add_block _ _⟩)
    go_ret
    exact ⟨_, rfl, H.1, H.2.1, H.2.2⟩
end Go.Proofs.YtdcmcgdalanjjaaGreat

namespace Go.Proofs.YtdcmcgdalanjjaaGreat
open Go.RowKit

/-- Each is a byte. -/
def IsB (xs : List Int) : Prop := ∀ x ∈ xs, 0 ≤ x ∧ x < 256
theorem IsB.take {xs : List Int} (h : IsB xs) (n : Nat) : IsB (xs.take n) := fun x hx => h x (List.mem_of_mem_take hx)
theorem IsB.drop {xs : List Int} (h : IsB xs) (n : Nat) : IsB (xs.drop n) := fun x hx => h x (List.mem_of_mem_drop hx)
theorem IsB.at {xs : List Int} (h : IsB xs) {k : Nat} (hk : k < xs.length) : 0 ≤ xs.getD k 0 ∧ xs.getD k 0 < 256 := by
  have : xs.getD k 0 ∈ xs := by simp [List.getD, hk]
  exact h _ this

/-- The number whose bytes are xs, the lowest first. -/
def valB : List Int → Int
  | [] => 0
  | x :: r => x + 256 * valB r
theorem valB_snoc (l : List Int) (x : Int) : valB (l ++ [x]) = valB l + x * 256 ^ l.length := by
  induction l with
  | nil => simp [valB]
  | cons y r ih =>
    simp only [List.cons_append, valB, ih, List.length_cons, Int.pow_succ, Int.mul_add]
    have : x * (256 ^ r.length * 256) = 256 * (x * 256 ^ r.length) := by
      rw [← Int.mul_assoc, Int.mul_comm (x * 256 ^ r.length) 256]
    omega
theorem valB_bd (l : List Int) (h : IsB l) : 0 ≤ valB l ∧ valB l < 256 ^ l.length := by
  induction l with
  | nil => simp [valB]
  | cons y r ih =>
    have h1 := ih (fun x hx => h x (List.mem_cons_of_mem _ hx))
    have h2 := h y (List.mem_cons_self ..)
    simp only [valB, List.length_cons, Int.pow_succ]
    omega
theorem valB_take (l : List Int) (k : Nat) (hk : k < l.length) : valB (l.take (k + 1)) = valB (l.take k) + l.getD k 0 * 256 ^ k := by
  have e : l.take (k + 1) = l.take k ++ [l.getD k 0] := by
    rw [List.take_succ_eq_append_getElem hk]; simp [List.getD, hk]
  rw [e, valB_snoc]
  have : (l.take k).length = k := by simp; omega
  rw [this]

theorem i64_or_nat (a b : Nat) (ha : a < 9223372036854775808) (hb : b < 9223372036854775808) : bits .or .i64 (a : Int) (b : Int) = ((a ||| b : Nat) : Int) := by
  have hx : a ||| b < 2 ^ 63 := Nat.or_lt_two_pow (by omega) (by omega)
  show IntKind.i64.wrap ((BitVec.ofInt 64 (a : Int) ||| BitVec.ofInt 64 (b : Int)).toNat : Int) = _
  rw [BitVec.toNat_or, ofInt_u64 a (by omega), ofInt_u64 b (by omega), IntKind.wrap_i64]
  omega
theorem or_join (i : Nat) (m y : Int) (hm0 : 0 ≤ m) (hm1 : m < 2 ^ i) (hy0 : 0 ≤ y) (hy1 : y % 2 ^ i = 0) (hi : i ≤ 24) (hy2 : y < 4294967296) : bits .or .i64 m (wrap64 y) = m + y := by
  have e : wrap64 y = y := by unfold wrap64; omega
  rw [e]
  have hp : (2 : Int) ^ i ≤ 2 ^ 24 := by
    have h1 : (2 : Nat) ^ i ≤ 2 ^ 24 := Nat.pow_le_pow_right (by omega) hi
    exact_mod_cast h1
  obtain ⟨M, rfl⟩ := Int.eq_ofNat_of_zero_le hm0
  obtain ⟨Y, rfl⟩ := Int.eq_ofNat_of_zero_le hy0
  have h1 : M < 2 ^ i := by exact_mod_cast hm1
  have h2 : Y % 2 ^ i = 0 := by exact_mod_cast hy1
  rw [i64_or_nat M Y (by omega) (by omega), Nat.or_comm, nat_join i Y M h2 h1]
  omega
theorem or_step (k : Nat) (m x : Int) (hk : k < 4) (hm0 : 0 ≤ m) (hm1 : m < 256 ^ k) (hx0 : 0 ≤ x) (hx1 : x < 256) : bits .or .i64 m (wrap64 (x * 2 ^ (8 * k))) = m + x * 256 ^ k := by
  have e : (2 : Int) ^ (8 * k) = 256 ^ k := by rw [Int.pow_mul]; rfl
  rw [e]
  have p1 : (256 : Int) ^ 1 = 256 := by decide
  have p2 : (256 : Int) ^ 2 = 65536 := by decide
  have p3 : (256 : Int) ^ 3 = 16777216 := by decide
  have q8 : (2 : Int) ^ 8 = 256 := by decide
  have q16 : (2 : Int) ^ 16 = 65536 := by decide
  have q24 : (2 : Int) ^ 24 = 16777216 := by decide
  have hc : k = 0 ∨ k = 1 ∨ k = 2 ∨ k = 3 := by omega
  rcases hc with rfl | rfl | rfl | rfl
  · rw [Int.pow_zero] at hm1 ⊢
    exact or_join 0 m _ hm0 (by rw [Int.pow_zero]; exact hm1) (by omega) (by rw [Int.pow_zero]; omega) (by omega) (by omega)
  · rw [p1] at hm1 ⊢
    exact or_join 8 m _ hm0 (by rw [q8]; exact hm1) (by omega) (by rw [q8]; omega) (by omega) (by omega)
  · rw [p2] at hm1 ⊢
    exact or_join 16 m _ hm0 (by rw [q16]; exact hm1) (by omega) (by rw [q16]; omega) (by omega) (by omega)
  · rw [p3] at hm1 ⊢
    exact or_join 24 m _ hm0 (by rw [q24]; exact hm1) (by omega) (by rw [q24]; omega) (by omega) (by omega)

/-- A slice of bytes that is not empty: where it lies. -/
theorem Bs.atC {w : World} {a : Option Addr} {c n k : Nat} {xs : List Int} (h : Bs w (.slice a n c) xs) (hk : k < xs.length) : ∃ b off, a = some ⟨b, off, none⟩ ∧ ∀ j, j < xs.length → w.cell? ⟨b, off + j, none⟩ = some (.int .u8 (xs.getD j 0)) := by
  rcases h with ⟨e, rfl⟩ | ⟨x, c', e, hl, hm, hcell⟩
  · simp at hk
  · cases e
    obtain ⟨b, off, spot⟩ := x
    have h0 := hcell 0 (by omega)
    have hspot : spot = none := by simpa [Addr.add] using World.cell?_spot h0
    subst hspot
    refine ⟨b, off, rfl, fun j hj => ?_⟩
    have := hcell j hj
    unfold Addr.add at this
    split at this
    · rename_i e; subst e; simpa using this
    · exact this

set_option maxHeartbeats 800000 in
set_option maxRecDepth 100000 in
theorem number40 (v : Value) (bs : List Int) (w : World) (hb : Bs w v bs) (hB : IsB bs) (hl : bs.length ≤ 4) :
    Calls Tryz.prog 99 #[v] w fun e w' => e = .returned (.int .i64 (valB bs)) ∧ w' = w := by
  obtain ⟨ab, cb, hbv, hcb⟩ : ∃ a c, v = .slice a bs.length c ∧ bs.length ≤ c := by
    rcases hb with ⟨rfl, rfl⟩ | ⟨a, c, rfl, h, _⟩
    · exact ⟨none, 0, rfl, Nat.le_refl _⟩
    · exact ⟨_, _, rfl, h⟩
  subst hbv
  go_enter Tryz.func99, Tryz.ntmps99
  go_wp2
  go_loop [3, 8] (fun n i => ∃ (k : Nat), k ≤ bs.length ∧ i = .int .i64 k ∧ n = .int .i64 (valB (bs.take k))) (fun _ i => bs.length - (intOf i).toNat)
  case atStart => exact ⟨0, Nat.zero_le _, rfl, rfl⟩
  case round =>
    obtain ⟨k, hk, rfl, rfl⟩ := hrel
    by_cases hlt : k < bs.length
    · obtain ⟨b, off, rfl, hcs⟩ := hb.atC hlt
      have hc := hcs k hlt
      have hx := hB.at hlt
      have hv := valB_bd (bs.take k) (hB.take k)
      have hkl : (bs.take k).length = k := by simp; omega
      rw [hkl] at hv
      have HS : Hid (bits .or .i64 (valB (bs.take k)) (wrap64 (bs.getD k 0 * 2 ^ (8 * k))) = valB (bs.take (k + 1))) := by
        rw [valB_take bs k hlt]
        exact or_step k _ _ (by omega) hv.1 hv.2 hx.1 hx.2
      clear hcs hv hkl hB hb
      generalize valB (bs.take k) = m at *
      generalize bs.getD k 0 = x at *
      obtain ⟨hx0, hx1⟩ := hx
      have hki : (k : Int) < (bs.length : Int) := by omega
      go_wp2
      go_roundw
      case rel => exact ⟨k + 1, by omega, by go_num, by rw [HS.out]⟩
      case measure => simp [intOf]; omega
    · go_wp2
      go_ret
      refine ⟨?_, rfl⟩
      have e : bs.take k = bs := List.take_of_length_le (by omega)
      rw [← e]; simp [e]
end Go.Proofs.YtdcmcgdalanjjaaGreat

namespace Go.Proofs.YtdcmcgdalanjjaaGreat
open Go.RowKit

/-- What a reader holds: the bytes that are left, and the fault. -/
structure RS where
  xs : List Int
  f : Int
def failS (s : RS) (e : Int) : RS := if s.f = 0 then ⟨[], e⟩ else s
def tkS (s : RS) (n : Int) : RS := if s.f = 0 then (if (s.xs.length : Int) < n then ⟨[], 2⟩ else ⟨s.xs.drop n.toNat, 0⟩) else s
def tkV (s : RS) (n : Int) : List Int := if s.f = 0 then (if (s.xs.length : Int) < n then [] else s.xs.take n.toNat) else []
def fxI (s : RS) (n : Int) : RS := if n < 0 then failS s 1 else s
def bsI (s : RS) (most : Int) : RS := if most < valB (tkV s 4) then failS (tkS s 4) 5 else tkS s 4
def endV (s : RS) : Int := if s.f = 0 ∧ s.xs ≠ [] then 3 else s.f

abbrev RdS (N : Nat) (w : World) (p : Nat) (v : Value) (s : RS) : Prop := Rd N w p v s.xs s.f
abbrev RdSTo (N p : Nat) (w w' : World) (v' : Value) (s' : RS) : Prop := RdTo N p w w' v' s'.xs s'.f

theorem tkV_len (s : RS) (n : Int) (hn : 0 ≤ n) : ((tkV s n).length : Int) ≤ n := by
  unfold tkV; split
  · split
    · simpa using hn
    · simp; omega
  · simpa using hn
theorem tkV_le (s : RS) (n : Int) : (tkV s n).length ≤ s.xs.length := by
  unfold tkV; split
  · split
    · simp
    · simp; omega
  · simp
theorem tkS_le (s : RS) (n : Int) : (tkS s n).xs.length ≤ s.xs.length := by
  unfold tkS; split
  · split <;> simp
  · simp
theorem failS_le (s : RS) (e : Int) : (failS s e).xs.length ≤ s.xs.length := by
  unfold failS; split <;> simp
theorem IsB.tkV {s : RS} (h : IsB s.xs) (n : Int) : IsB (tkV s n) := by
  unfold Go.Proofs.YtdcmcgdalanjjaaGreat.tkV; split
  · split
    · intro x hx; cases hx
    · exact h.take _
  · intro x hx; cases hx
theorem IsB.tkS {s : RS} (h : IsB s.xs) (n : Int) : IsB (tkS s n).xs := by
  unfold Go.Proofs.YtdcmcgdalanjjaaGreat.tkS; split
  · split
    · intro x hx; cases hx
    · exact h.drop _
  · exact h
theorem IsB.failS {s : RS} (h : IsB s.xs) (e : Int) : IsB (failS s e).xs := by
  unfold Go.Proofs.YtdcmcgdalanjjaaGreat.failS; split
  · intro x hx; cases hx
  · exact h
theorem IsB.fxI {s : RS} (h : IsB s.xs) (n : Int) : IsB (fxI s n).xs := by
  unfold Go.Proofs.YtdcmcgdalanjjaaGreat.fxI; split
  · exact h.failS 1
  · exact h
theorem IsB.bsI {s : RS} (h : IsB s.xs) (n : Int) : IsB (bsI s n).xs := by
  unfold Go.Proofs.YtdcmcgdalanjjaaGreat.bsI; split
  · exact (h.tkS 4).failS 5
  · exact h.tkS 4

theorem fail_any (N p : Nat) (v : Value) (s : RS) (e : Int) (w : World) (hr : RdS N w p v s) :
    Calls Tryz.prog 97 #[.pointer (some ⟨p, 0, none⟩), .int .i64 e] w fun r w' => r = .returned (.tuple #[]) ∧ ∃ v', RdSTo N p w w' v' (failS s e) := by
  obtain ⟨xs, f⟩ := s
  by_cases hf : f = 0
  · subst hf
    refine (fail_first N p v xs e w hr).mono ?_
    rintro r w' ⟨rfl, h⟩
    exact ⟨rfl, _, h⟩
  · refine (fail_not N p v xs f e w hr hf).mono ?_
    rintro r w' ⟨rfl, rfl⟩
    refine ⟨rfl, v, ?_⟩
    simp only [failS, if_neg hf]
    exact RdTo.refl hr

theorem take_any (N p : Nat) (v : Value) (s : RS) (n : Int) (w : World) (hr : RdS N w p v s) (hn : s.f = 0 → 0 ≤ n) :
    Calls Tryz.prog 98 #[.pointer (some ⟨p, 0, none⟩), .int .i64 n] w fun r w' => ∃ u, r = .returned u ∧ (∃ v', RdSTo N p w w' v' (tkS s n)) ∧ Bs w' u (tkV s n) ∧ ∀ a m c, u = .slice (some a) m c → 0 < m → a.block ≠ p ∧ a.block < w.heap.size := by
  obtain ⟨xs, f⟩ := s
  by_cases hf : f = 0
  · subst hf
    by_cases hl : (xs.length : Int) < n
    · refine (take_short N p v xs n w hr hl).mono ?_
      rintro r w' ⟨rfl, h⟩
      simp only [tkS, tkV, if_pos hl, if_true]
      exact ⟨_, rfl, ⟨_, h⟩, .inl ⟨rfl, rfl⟩, fun a m c e => by cases e⟩
    · have h0 := hn rfl
      obtain ⟨k, rfl⟩ := Int.eq_ofNat_of_zero_le h0
      refine (take_some N p v xs k w hr (by omega)).mono ?_
      rintro r w' ⟨u, v', rfl, h1, h2, h3⟩
      simp only [tkS, tkV, if_neg hl, if_true]
      exact ⟨u, rfl, ⟨v', h1⟩, h2, h3⟩
  · refine (take_fault N p v xs f n w hr hf).mono ?_
    rintro r w' ⟨rfl, rfl⟩
    simp only [tkS, tkV, if_neg hf]
    exact ⟨_, rfl, ⟨v, RdTo.refl hr⟩, .inl ⟨rfl, rfl⟩, fun a m c e => by cases e⟩

set_option maxHeartbeats 800000 in
set_option maxHeartbeats 800000 in
theorem ru16_any (N p : Nat) (v : Value) (s : RS) (w : World) (hr : RdS N w p v s) (hB : IsB s.xs) :
    Calls Tryz.prog 88 #[.pointer (some ⟨p, 0, none⟩)] w fun r w' => r = .returned (.int .i64 (valB (tkV s 2))) ∧ ∃ v', RdSTo N p w w' v' (tkS s 2) := by
  go_enter Tryz.func88, Tryz.ntmps88
  go_wp2_with fail
  refine (take_any N p v s 2 _ hr (fun _ => by omega)).mono ?_
  rintro r w1 ⟨u, rfl, h1, h2, _⟩
  have hl := tkV_len s 2 (by omega)
  go_wp2_with fail
  refine (number40 u _ _ h2 (hB.tkV 2) (by omega)).mono ?_
  rintro r w2 ⟨rfl, rfl⟩
  go_wp2
  go_ret
  exact ⟨rfl, h1⟩
set_option maxHeartbeats 800000 in
/-- Behind a copy the reader is as it was. -/
theorem RdTo.fresh {N p : Nat} {w w1 w2 : World} {v1 u : Value} {x1 : List Int} {f1 : Int} {ys : List Int} (h : RdTo N p w w1 v1 x1 f1) (hf : FreshN N w1 w2 u ys) : RdTo N p w w2 v1 x1 f1 :=
  ⟨h.rd.kept hf.2.1 (fun h => h) (fun _ _ _ _ _ h => h), h.chg.trans hf.2.1 (fun _ _ h => h.elim)⟩
theorem Rd.N {N p : Nat} {w : World} {v : Value} {xs : List Int} {f : Int} (h : Rd N w p v xs f) : N ≤ w.heap.size := by have := h.le; have := h.lt; omega

set_option maxHeartbeats 800000 in
theorem rfixed_any (N p : Nat) (v : Value) (s : RS) (n : Int) (w : World) (hr : RdS N w p v s) (hlen : s.xs.length ≤ 1099511627776) :
    Calls Tryz.prog 87 #[.pointer (some ⟨p, 0, none⟩), .int .i64 n] w fun r w' => ∃ u, r = .returned u ∧ (∃ v', RdSTo N p w w' v' (tkS (fxI s n) n)) ∧ w'.ownsRow N 5 1 u (tkV (fxI s n) n).length (bcells (tkV (fxI s n) n)) ∧ ∀ k, u.ownBlock = some k → w.heap.size ≤ k := by
  have hlt : ∀ s' : RS, s'.xs.length ≤ s.xs.length → (tkV s' n).length ≤ 1099511627776 := fun s' h => by have := tkV_le s' n; omega
  by_cases hn : n < 0
  · have e : fxI s n = failS s 1 := by simp [fxI, hn]
    rw [e]
    go_enter Tryz.func87, Tryz.ntmps87
    go_wp2_with fail
    refine (fail_any N p v s 1 _ hr).mono ?_
    rintro r w1 ⟨rfl, v1, h1⟩
    go_wp2_with fail
    refine (take_any N p v1 (failS s 1) n _ h1.rd (fun h0 => ?_)).mono ?_
    · exfalso; unfold failS at h0; split at h0
      · simp at h0
      · rename_i h; exact h h0
    rintro r w2 ⟨u, rfl, ⟨v2, h2⟩, h3, _⟩
    go_wp2_with fail
    refine (fresh_any N u _ _ h3 (hlt _ (failS_le s 1)) h2.rd.N).mono ?_
    rintro r w3 ⟨u3, rfl, h4⟩
    go_wp2
    go_ret
    have h5 := (h1.trans h2).fresh h4
    exact ⟨u3, rfl, ⟨v2, h5⟩, h4.1, fun k hk => Nat.le_trans (h1.trans h2).chg.size (h4.2.2 k hk)⟩
  · have e : fxI s n = s := by simp [fxI, hn]
    rw [e]
    go_enter Tryz.func87, Tryz.ntmps87
    go_wp2_with fail
    refine (take_any N p v s n _ hr (fun _ => by omega)).mono ?_
    rintro r w2 ⟨u, rfl, ⟨v2, h2⟩, h3, _⟩
    go_wp2_with fail
    refine (fresh_any N u _ _ h3 (hlt _ (Nat.le_refl _)) h2.rd.N).mono ?_
    rintro r w3 ⟨u3, rfl, h4⟩
    go_wp2
    go_ret
    exact ⟨u3, rfl, ⟨v2, h2.fresh h4⟩, h4.1, fun k hk => Nat.le_trans h2.chg.size (h4.2.2 k hk)⟩

set_option maxHeartbeats 800000 in
set_option maxHeartbeats 800000 in
set_option maxHeartbeats 800000 in
theorem newReader_any (N : Nat) (b : Value) (bs : List Int) (w : World) (hb : Bs w b bs) (hlen : bs.length ≤ 1099511627776) (hN : N ≤ w.heap.size) :
    Calls Tryz.prog 86 #[b] w fun r w' => ∃ p v', r = .returned (.pointer (some ⟨p, 0, none⟩)) ∧ RdS N w' p v' ⟨bs, 0⟩ ∧ Chg (fun _ => False) w w' ∧ w.heap.size ≤ p := by
  go_enter Tryz.func86, Tryz.ntmps86
  go_wp2_with fail
  refine (fresh_any N b bs _ hb hlen hN).mono ?_
  rintro r w1 ⟨u, rfl, h1⟩
  obtain ⟨a, c, rfl⟩ := cown_slice h1.1
  go_wp2
  go_ret
  refine ⟨_, _, rfl, ⟨?_, heap_alloc_new w1 _, ?_, ?_, fun h => absurd rfl h⟩, h1.2.1.trans (Chg.alloc _ _ _) (fun _ _ h => h), h1.2.1.size⟩
  · have := h1.2.1.size; omega
  · exact (Bs.ofOwns h1.1).kept (Chg.alloc (fun _ => False) _ _) (fun _ _ _ _ _ h => h)
  · intro x n k e h0
    cases e
    have := (h1.1.lt x.block rfl).2
    omega
end Go.Proofs.YtdcmcgdalanjjaaGreat

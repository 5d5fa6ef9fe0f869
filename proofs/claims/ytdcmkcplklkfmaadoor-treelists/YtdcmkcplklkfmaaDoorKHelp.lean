/-
  Words on writers and readers that stay, bytes as a string, what numbers are laid as.
-/
import Derived.Test.YtdcmkcplklkfmaaDoorReads
import Derived.Lib.SlBytesConst
namespace Go.Proofs.YtdcmkcplklkfmaaDoor
open Go.RowKit

theorem WrToT.below {T : TypeId} {N p : Nat} {w w' : World} {v v' : Value} {xs : List Int} (h : WrToT T N p w v w' v' xs) (hN : N ≤ w.heap.size) (hp : N ≤ p) (hv : ∀ k, v.ownBlock = some k → N ≤ k) : Below N w w' :=
  h.chg.below hN (fun k hk => by rcases hk with rfl | hk; exact hp; exact hv k hk)
theorem WrT.N {T : TypeId} {N p : Nat} {w : World} {v : Value} {xs : List Int} (h : WrT T N w p v xs) : N ≤ w.heap.size := by have := h.le; have := h.lt; omega
theorem WrT.keep {S : Nat → Prop} {T : TypeId} {N p : Nat} {w w' : World} {v : Value} {xs : List Int} (h : WrT T N w p v xs) (hc : Chg S w w') (hS : ∀ k, ¬ S k) : WrT T N w' p v xs := by
  refine ⟨h.le, (hc.block p h.lt (hS p)).trans h.blk, h.own.kept (row := none) ⟨hc.os, hc.tape, hc.output, hc.size, fun k hk _ => hc.block k hk (hS k)⟩ ?_, h.ne⟩
  cases hv : v.ownBlock <;> simp
theorem WrToT.belowW {T : TypeId} {N p : Nat} {w w' : World} {v v' : Value} {xs ys : List Int} (h : WrToT T N p w v w' v' xs) (hw : WrT T N w p v ys) : Below N w w' :=
  h.below hw.N hw.le (fun k hk => (hw.own.lt k hk).1)
theorem Bs.under {w w' : World} {v : Value} {xs : List Int} (h : Bs w v xs) (hb : Below w.heap.size w w') : Bs w' v xs := by
  rcases h with h | ⟨a, c, rfl, hl, hm, hcell⟩
  · exact .inl h
  · refine .inr ⟨a, c, rfl, hl, hm, fun j hj => ?_⟩
    have h1 := hcell j hj
    exact (hb.cell (World.block_lt_of_cell? w _ h1)).trans h1
theorem Bs.drewNC {w : World} {v : Value} {xs : List Int} (h : Bs w v xs) (n : Nat) : Bs (w.drewN n) v xs := h
theorem Bs.litC (w : World) (xs : List Int) (fr : Nat × Nat) (hx : xs.length ≤ 1099511627776) : Bs (w.alloc (.cells (bcells xs).toArray 5 fr)) (.slice (some ⟨w.heap.size, 0, none⟩) xs.length xs.length) xs := by
  refine .inr ⟨⟨w.heap.size, 0, none⟩, xs.length, rfl, Nat.le_refl _, by unfold maxLen; omega, fun j hj => ?_⟩
  have e : (⟨w.heap.size, 0, none⟩ : Addr).add j = ⟨w.heap.size, j, none⟩ := by unfold Addr.add; split <;> simp_all
  rw [e, cell_of_row _ _ _ _ _ _ (heap_alloc_new w _)]
  simp [bcells, List.getD, hj]
theorem Bs.low {w : World} {ab : Option Addr} {cb n k : Nat} {bs : List Int} (h : Bs w (.slice ab n cb) bs) (hk : k ≤ n) : Bs w (.slice ab k cb) (bs.take k) := by
  rcases h with ⟨e, rfl⟩ | ⟨a, c, e, hl, hm, hc⟩
  · cases e
    have : k = 0 := by omega
    subst this
    exact .inl ⟨rfl, by simp⟩
  · cases e
    have hlen : (bs.take k).length = k := by simp; omega
    refine .inr ⟨a, cb, by rw [hlen], by omega, by omega, fun j hj => ?_⟩
    rw [hlen] at hj
    rw [hc j (by omega)]
    simp [List.getD, hj]
def strC (xs : List Int) : ByteArray := xs.foldl (fun r n => r.push (UInt8.ofNat n.toNat)) ByteArray.empty
theorem run_strC {w : World} {u : Value} {xs : List Int} (h : Bs w u xs) : (convert 33 9 u).run Tryd.prog w = .ok (.string (strC xs)) w := by
  rcases h with ⟨rfl, rfl⟩ | ⟨a, c, rfl, hl, hm, hcell⟩
  · rw [run_convert_bytes_string w 33 9 5 _ _ _ Tryd.underlying33 Tryd.underlying5 Tryd.underlying9]
    rfl
  · rw [run_convert_bytes_string w 33 9 5 _ _ _ Tryd.underlying33 Tryd.underlying5 Tryd.underlying9]
    refine run_bytesToString w a xs.length c xs ?_
    have h1 := run_loadCells_list (P := Tryd.prog) w a (bcells xs) (fun j u hu => by obtain ⟨hj, rfl⟩ := bcells_get hu; exact hcell j hj)
    simpa [bcells] using h1
theorem Bs.formC {w : World} {v : Value} {xs : List Int} (h : Bs w v xs) : ∃ a c, v = .slice a xs.length c ∧ xs.length ≤ c := by
  rcases h with ⟨rfl, rfl⟩ | ⟨a, c, rfl, h, _⟩
  · exact ⟨none, 0, rfl, Nat.le_refl _⟩
  · exact ⟨_, _, rfl, h⟩
theorem fixB_get (bs : List Int) (size : Int) (k : Nat) (hk : k < (min size 65536).toNat) : (fixB bs size).getD k 0 = if k < bs.length then bs.getD k 0 else 0 := by
  unfold fixB
  generalize (min size 65536).toNat = S at *
  by_cases h : k < bs.length
  · rw [if_pos h]
    have h2 : k < min S bs.length := by omega
    simp [List.getD, List.getElem?_append, h, h2]
  · rw [if_neg h]
    have h2 : ¬ k < min S bs.length := by omega
    simp only [List.getD, List.getElem?_append, List.length_take, h2, if_false, List.getElem?_replicate]
    split <;> rfl
theorem leTo_one (n : Int) : leTo n 1 = [n % 256] := by simp [leTo]
theorem own_cell {w : World} {N g n cap : Nat} {L : List Int} (o : w.ownsRow N 5 1 (.slice (some ⟨g, 0, none⟩) n cap) n (bcells L)) : ∀ j, j < n → w.cell? ⟨g, j, none⟩ = some (.int .u8 (L.getD j 0)) := by
  intro j hj
  have hl : L.length = n := by have := o.1; simpa [bcells] using this
  rw [o.cellAt j (by omega)]
  have : j < L.length := by omega
  simp [bcells, List.getD, this]
theorem isB_leTo (n : Int) (k : Nat) : IsB (leTo n k) := by
  intro x hx
  obtain ⟨i, _, rfl⟩ := List.mem_map.1 hx
  omega
theorem isB_app {a b : List Int} (ha : IsB a) (hb : IsB b) : IsB (a ++ b) := by
  intro x hx
  rcases List.mem_append.1 hx with h | h
  · exact ha x h
  · exact hb x h
theorem valB_leTo (n : Int) (k : Nat) : valB (leTo n k) = n % 256 ^ k := by
  induction k with
  | zero => simp [leTo, valB]
  | succ k ih =>
    rw [leTo_succ, valB_snoc, ih, leTo_len, Int.pow_succ]
    have hp : (0 : Int) < 256 ^ k := Int.pow_pos (by decide)
    have h1 := Int.emod_add_mul_ediv n (256 ^ k)
    have h2 := Int.emod_add_mul_ediv (n / 256 ^ k) 256
    have hr0 := Int.emod_nonneg n (Int.ne_of_gt hp)
    have hr1 := Int.emod_lt_of_pos n hp
    have hq0 := Int.emod_nonneg (n / 256 ^ k) (show (256 : Int) ≠ 0 by decide)
    have hq1 := Int.emod_lt_of_pos (n / 256 ^ k) (show (0 : Int) < 256 by decide)
    have h3 := Int.emod_add_mul_ediv n (256 ^ k * 256)
    have e : n / (256 ^ k * 256) = n / 256 ^ k / 256 := by rw [div_pow, Int.pow_succ]
    rw [e] at h3
    have h4 : (256 : Int) ^ k * (n / 256 ^ k) = 256 ^ k * (n / 256 ^ k % 256) + 256 ^ k * 256 * (n / 256 ^ k / 256) := by
      rw [Int.mul_assoc, ← Int.mul_add, h2]
    have h5 : n / 256 ^ k % 256 * 256 ^ k = 256 ^ k * (n / 256 ^ k % 256) := Int.mul_comm ..
    omega
theorem and_mask (n : Int) (i : Nat) (hi : i ≤ 32) : bits .and .i64 n ((2 ^ i - 1 : Nat) : Int) = n % 2 ^ i := by
  have hp : (2 : Nat) ^ i ≤ 2 ^ 32 := Nat.pow_le_pow_right (by omega) hi
  have hp0 : 0 < (2 : Nat) ^ i := Nat.pow_pos (by omega)
  show IntKind.i64.wrap ((BitVec.ofInt 64 n &&& BitVec.ofInt 64 ((2 ^ i - 1 : Nat) : Int)).toNat : Int) = _
  rw [BitVec.toNat_and, ofInt_u64 (2 ^ i - 1) (by omega), Nat.and_two_pow_sub_one_eq_mod, BitVec.toNat_ofInt, IntKind.wrap_i64]
  have hm := Nat.mod_lt (n % ((2 ^ 64 : Nat) : Int)).toNat hp0
  have e1 : (((n % ((2 ^ 64 : Nat) : Int)).toNat % 2 ^ i : Nat) : Int) = n % 2 ^ i := by
    rw [Int.natCast_emod, Int.toNat_of_nonneg (Int.emod_nonneg _ (by decide)), Int.natCast_pow, Int.natCast_pow]
    have : ((2 : Int) ^ i) ∣ 2 ^ 64 := ⟨2 ^ (64 - i), by rw [← Int.pow_add]; congr 1; omega⟩
    exact Int.emod_emod_of_dvd n this
  rw [← e1]
  omega
theorem tk_app (a r : List Int) (n : Int) (h : n = (a.length : Int)) : tkV ⟨a ++ r, 0⟩ n = a ∧ tkS ⟨a ++ r, 0⟩ n = ⟨r, 0⟩ := by
  subst h
  have h1 : ¬ (((a ++ r).length : Int) < (a.length : Int)) := by simp; omega
  simp only [tkV, tkS, if_true, if_neg h1, Int.toNat_natCast]
  exact ⟨List.take_left, by rw [List.drop_left]⟩
theorem leTo_four (n : Int) : leTo n 4 = [n % 256, n / 256 % 256, n / 65536 % 256, n / 16777216 % 256] := by
  have p2 : (256 : Int) ^ 2 = 65536 := by decide
  have p3 : (256 : Int) ^ 3 = 16777216 := by decide
  simp [leTo, List.range_succ, p2, p3]
theorem strC_list (xs : List Int) : (strC xs).data.toList = xs.map (fun n => UInt8.ofNat n.toNat) := by
  have h : ∀ (l : List Int) (s : ByteArray), (l.foldl (fun r n => r.push (UInt8.ofNat n.toNat)) s).data.toList = s.data.toList ++ l.map (fun n => UInt8.ofNat n.toNat) := by
    intro l
    induction l with
    | nil => intro s; simp
    | cons x r ih => intro s; rw [List.foldl_cons, ih]; simp [ByteArray.push]
  have := h xs ByteArray.empty
  simpa [strC] using this
theorem strC_map (xs ys : List Int) (hx : IsB xs) (hy : IsB ys) (h : xs.map (fun n => UInt8.ofNat n.toNat) = ys.map (fun n => UInt8.ofNat n.toNat)) : xs = ys := by
  induction xs generalizing ys with
  | nil => cases ys with
    | nil => rfl
    | cons y s => simp at h
  | cons x r ih =>
    cases ys with
    | nil => simp at h
    | cons y s =>
      simp only [List.map_cons, List.cons.injEq] at h
      have a := hx x (List.mem_cons_self ..)
      have b := hy y (List.mem_cons_self ..)
      have e : x = y := by
        have h1 := congrArg UInt8.toNat h.1
        rw [UInt8.toNat_ofNat', UInt8.toNat_ofNat'] at h1
        omega
      rw [e, ih s (fun z hz => hx z (List.mem_cons_of_mem _ hz)) (fun z hz => hy z (List.mem_cons_of_mem _ hz)) h.2]
theorem strC_inj (xs ys : List Int) (hx : IsB xs) (hy : IsB ys) (h : strC xs = strC ys) : xs = ys := by
  refine strC_map xs ys hx hy ?_
  rw [← strC_list, ← strC_list, h]
theorem strC_ne (xs ys : List Int) (hx : IsB xs) (hy : IsB ys) (h : xs ≠ ys) : ((strC xs).toList == (strC ys).toList) = false := by
  rw [ByteArray.toList_eq, ByteArray.toList_eq, strC_list, strC_list]
  simp only [beq_eq_false_iff_ne, ne_eq]
  exact fun e => h (strC_map xs ys hx hy e)
theorem lit_own (w : World) (N : Nat) (hN : N ≤ w.heap.size) : (w.alloc (.cells #[] 5)).ownsRow N 5 1 (.slice (some ⟨w.heap.size, 0, none⟩) 0 0) 0 (bcells []) :=
  World.ownsRow_lit (base := N) (e := 5) (size := 1) w #[] 0 hN (by simp [maxLen]) rfl
theorem lit_grown {w w1 : World} (hg : (w.alloc (.cells #[] 5)).grownBy w1 (some w.heap.size)) : Chg (fun _ => False) w w1 :=
  ⟨hg.os, hg.tape, hg.output, Nat.le_trans (by simp) hg.size, fun k hk _ => (hg.block k (by simp; omega) (by intro e; cases e; omega)).trans (Below.heap_alloc w _ k hk)⟩
theorem own_monoC {w : World} {N N' : Nat} {v : Value} {n : Nat} {xs : List Value} (h : w.ownsRow N' 5 1 v n xs) (hN : N ≤ N') : w.ownsRow N 5 1 v n xs := by
  refine ⟨h.1, ?_⟩
  rcases h.2 with h2 | ⟨g, cap, cur, e, hb, r⟩
  · exact .inl h2
  · exact .inr ⟨g, cap, cur, e, by omega, r⟩
theorem Chg.ofBelowC {w w' : World} (h : Below w.heap.size w w') : Chg (fun _ => False) w w' := ⟨h.os, h.tape, h.output, h.size, fun k hk _ => h.block k hk⟩
theorem Below.ofGrown {w w' : World} {N : Nat} (h : w.grownBy w' none) (hN : N ≤ w.heap.size) : Below N w w' := ⟨h.os, h.tape, h.output, h.size, fun k hk => h.block k (by omega) (by simp)⟩
theorem grown_undrew {w w' : World} {row : Option Nat} (h : w.drew.grownBy w' row) : w.grownBy w' row := ⟨h.os, h.tape, h.output, h.size, h.block⟩
theorem fixB_take (bs : List Int) (size : Int) (k : Nat) (hk : k < (min size 65536).toNat) : (fixB bs size).take (k + 1) = (fixB bs size).take k ++ [if k < bs.length then bs.getD k 0 else 0] := by
  have hl : k < (fixB bs size).length := by rw [fixB_len]; exact hk
  rw [List.take_succ_eq_append_getElem hl, ← fixB_get bs size k hk]
  simp [List.getD, hl]
end Go.Proofs.YtdcmkcplklkfmaaDoor

/-
  known answers true, in every world that holds codec's table; nothing that was there has changed.
-/
import Derived.Test.YtdninfmmikaimaaDoorSum
import Derived.Lib.SlBytesConst
namespace Go.Proofs.YtdninfmmikaimaaDoor
open Go.RowKit

theorem WrToT.below {T : TypeId} {N p : Nat} {w w' : World} {v v' : Value} {xs : List Int} (h : WrToT T N p w v w' v' xs) (hN : N ≤ w.heap.size) (hp : N ≤ p) (hv : ∀ k, v.ownBlock = some k → N ≤ k) : Below N w w' :=
  h.chg.below hN (fun k hk => by rcases hk with rfl | hk; exact hp; exact hv k hk)
theorem WrT.N {T : TypeId} {N p : Nat} {w : World} {v : Value} {xs : List Int} (h : WrT T N w p v xs) : N ≤ w.heap.size := by have := h.le; have := h.lt; omega
theorem WrT.keep {S : Nat → Prop} {T : TypeId} {N p : Nat} {w w' : World} {v : Value} {xs : List Int} (h : WrT T N w p v xs) (hc : Chg S w w') (hS : ∀ k, ¬ S k) : WrT T N w' p v xs := by
  refine ⟨h.le, (hc.block p h.lt (hS p)).trans h.blk, h.own.kept (row := none) ⟨hc.os, hc.tape, hc.output, hc.size, fun k hk _ => hc.block k hk (hS k)⟩ ?_, h.ne⟩
  cases hv : v.ownBlock <;> simp
/-- The writer's changes are all among the blocks from N on. -/
theorem WrToT.belowW {T : TypeId} {N p : Nat} {w w' : World} {v v' : Value} {xs ys : List Int} (h : WrToT T N p w v w' v' xs) (hw : WrT T N w p v ys) : Below N w w' :=
  h.below hw.N hw.le (fun k hk => (hw.own.lt k hk).1)
theorem RdTo.belowR {N p : Nat} {w w' : World} {v v' : Value} {xs ys : List Int} {f g : Int} (h : RdTo N p w w' v' xs f) (hr : Rd N w p v ys g) : Below N w w' :=
  h.chg.below hr.N (fun k hk => by rw [hk]; exact hr.le)
theorem Tab.below {N : Nat} {w w' : World} (h : Tab w) (hb : Below N w w') (hN : 0 < N) : Tab w' := fun j hj => (hb.cell (p := ⟨0, j, none⟩) hN).trans (h j hj)

/-- What came in reads as it did. -/
theorem Bs.under {w w' : World} {v : Value} {xs : List Int} (h : Bs w v xs) (hb : Below w.heap.size w w') : Bs w' v xs := by
  rcases h with h | ⟨a, c, rfl, hl, hm, hcell⟩
  · exact .inl h
  · refine .inr ⟨a, c, rfl, hl, hm, fun j hj => ?_⟩
    have h1 := hcell j hj
    exact (hb.cell (World.block_lt_of_cell? w _ h1)).trans h1

theorem Bs.drewN {w : World} {v : Value} {xs : List Int} (h : Bs w v xs) (n : Nat) : Bs (w.drewN n) v xs := h

/-- A slice literal of bytes reads its bytes, marked or not. -/
theorem Bs.lit (w : World) (xs : List Int) (fr : Nat × Nat) (hx : xs.length ≤ 1099511627776) : Bs (w.alloc (.cells (bcells xs).toArray 5 fr)) (.slice (some ⟨w.heap.size, 0, none⟩) xs.length xs.length) xs := by
  refine .inr ⟨⟨w.heap.size, 0, none⟩, xs.length, rfl, Nat.le_refl _, by unfold maxLen; omega, fun j hj => ?_⟩
  have e : (⟨w.heap.size, 0, none⟩ : Addr).add j = ⟨w.heap.size, j, none⟩ := by unfold Addr.add; split <;> simp_all
  rw [e, cell_of_row _ _ _ _ _ _ (heap_alloc_new w _)]
  simp [bcells, List.getD, hj]

theorem Bs.low {w : World} {ab : Option Addr} {cb n k : Nat} {bs : List Int} (h : Bs w (.slice ab n cb) bs) (hk : k ≤ n) : Bs w (.slice ab k cb) (bs.take k) := by
  rcases h with ⟨e, rfl⟩ | ⟨a, c, e, hl, hm, hc⟩
  · cases e
    have : k = 0 := by omega
    subst this
    exact .inl ⟨rfl, by simp⟩
  · cases e
    have hlen : (bs.take k).length = k := by simp; omega
    refine .inr ⟨a, cb, by rw [hlen], by omega, by omega, fun j hj => ?_⟩
    rw [hlen] at hj
    rw [hc j (by omega)]
    simp [List.getD, hj]

/-- The bytes as a string. -/
def strOf (xs : List Int) : ByteArray := xs.foldl (fun r n => r.push (UInt8.ofNat n.toNat)) ByteArray.empty
theorem run_str {w : World} {u : Value} {xs : List Int} (h : Bs w u xs) : (convert 28 9 u).run Tryd.prog w = .ok (.string (strOf xs)) w := by
  rcases h with ⟨rfl, rfl⟩ | ⟨a, c, rfl, hl, hm, hcell⟩
  · rw [run_convert_bytes_string w 28 9 5 _ _ _ Tryd.underlying28 Tryd.underlying5 Tryd.underlying9]
    rfl
  · rw [run_convert_bytes_string w 28 9 5 _ _ _ Tryd.underlying28 Tryd.underlying5 Tryd.underlying9]
    refine run_bytesToString w a xs.length c xs ?_
    have h1 := run_loadCells_list (P := Tryd.prog) w a (bcells xs) (fun j u hu => by obtain ⟨hj, rfl⟩ := bcells_get hu; exact hcell j hj)
    simpa [bcells] using h1

set_option maxHeartbeats 2000000 in
set_option maxRecDepth 100000 in
theorem known_any (w : World) (hT : Tab w) :
    Calls Tryd.prog 9 #[] w fun e w' => e = .returned (.bool true) ∧ Below w.heap.size w w' := by
  have hN0 : 0 < w.heap.size := by have := World.block_lt_of_cell? w _ (hT 0 (by omega)); simpa using this
  have kc := fun (w : World) (C : Array Value) (n c : Nat) => Lib.run_convert_bytes_const (P := Tryd.prog) w 28 5 C n c Tryd.underlying28 Tryd.underlying5
  go_enter Tryd.func9, Tryd.ntmps9
  go_wp2_with fail
  refine (newWriter_any w.heap.size w (Nat.le_refl _)).mono ?_
  rintro e w1 ⟨rfl, a1, hw1⟩
  have B1 : Below w.heap.size w w1 := by rw [hw1]; exact (Below.refl _ _).alloc (Nat.le_refl _) _
  clear hw1
  go_wp2_with fail
  refine (u8_any w.heap.size _ 255 _ _ _ a1 (by simp)).mono ?_
  rintro e w2 ⟨rfl, v2, h2⟩
  have B2 := B1.trans (h2.belowW a1)
  have a2 := h2.wr
  clear a1 B1 h2
  go_wp2_with fail
  refine (u16_any w.heap.size _ 4660 _ _ _ a2 (by simp [leTo_len])).mono ?_
  rintro e w3 ⟨rfl, v3, h3⟩
  have B3 := B2.trans (h3.belowW a2)
  have a3 := h3.wr
  clear a2 B2 h3
  go_wp2_with fail
  refine (u32_any w.heap.size _ (-1) _ _ _ a3 (by simp [leTo_len])).mono ?_
  rintro e w4 ⟨rfl, v4, h4⟩
  have B4 := B3.trans (h4.belowW a3)
  have a4 := h4.wr
  clear a3 B3 h4
  go_wp2_with fail
  have b5 : Bs (w4.alloc (.cells #[.int .u8 97] 5 (1, 2))) (.slice (some ⟨w4.heap.size, 0, none⟩) 1 1) [97] := Bs.lit w4 [97] _ (by simp)
  have c5 : Chg (fun _ => False) w4 (w4.alloc (.cells #[.int .u8 97] 5 (1, 2))) := Chg.alloc _ _ _
  have a5 := a4.keep c5 (fun _ h => h)
  have B5 := B4.trans (c5.below a4.N (fun _ h => h.elim))
  clear a4 B4 c5
  refine (fixed_any w.heap.size _ _ _ 2 _ [97] _ a5 b5 (by simp [leTo_len])).mono ?_
  rintro e w6 ⟨rfl, v6, h6⟩
  have B6 := B5.trans (h6.belowW a5)
  have a6 := h6.wr
  clear a5 B5 h6 b5
  go_wp2_with fail
  have b7 : Bs (w6.alloc (.cells #[.int .u8 120, .int .u8 121, .int .u8 122] 5 (3, 4))) (.slice (some ⟨w6.heap.size, 0, none⟩) 3 3) [120, 121, 122] := Bs.lit w6 [120, 121, 122] _ (by simp)
  have c7 : Chg (fun _ => False) w6 (w6.alloc (.cells #[.int .u8 120, .int .u8 121, .int .u8 122] 5 (3, 4))) := Chg.alloc _ _ _
  have a7 := a6.keep c7 (fun _ h => h)
  have B7 := B6.trans (c7.below a6.N (fun _ h => h.elim))
  have p7 : Apart (.slice (some ⟨w6.heap.size, 0, none⟩) 3 3) v6 w.heap.size := by
    intro a n c e _
    cases e
    refine ⟨?_, fun hk => ?_⟩
    · have := a6.lt; simp; omega
    · have := (a6.own.lt _ hk).2; simp at this
  clear a6 B6 c7
  refine (bytes_any w.heap.size _ _ _ _ [120, 121, 122] _ a7 b7 p7 (by decide)).mono ?_
  rintro e w8 ⟨rfl, v8, h8⟩
  have B8 := B7.trans (h8.belowW a7)
  have a8 := h8.wr
  clear a7 B7 h8 b7 p7
  have hall : [] ++ leTo 255 1 ++ leTo 4660 2 ++ leTo (-1) 4 ++ fixB [97] 2 ++ leTo ([120, 121, 122] : List Int).length 4 ++ [120, 121, 122] = [255, 52, 18, 255, 255, 255, 255, 97, 0, 3, 0, 0, 0, 120, 121, 122] := by decide
  rw [hall] at a8
  clear hall
  go_wp2_with fail
  refine (done_any w.heap.size _ _ _ _ a8 (by simp)).mono ?_
  rintro e w9 ⟨u9, rfl, h9⟩
  have B9 := B8.trans (h9.2.1.below a8.N (fun _ h => h.elim))
  have b9 := Bs.ofOwns h9.1
  have z9 := h9.2.1.size
  have N9 : w.heap.size ≤ w9.heap.size := B9.size
  clear a8 B8 h9 z9
  go_wp2_with fail
  refine (newReader_any w.heap.size _ _ _ b9 (by simp) N9).mono ?_
  rintro e w10 ⟨p, v10, rfl, a10, c10, hp⟩
  have B10 := B9.trans (c10.below N9 (fun _ h => h.elim))
  have hu : ∀ a n c, u9 = .slice (some a) n c → 0 < n → a.block ≠ p := by
    intro a n c e h0
    subst e
    rcases b9 with ⟨e, _⟩ | ⟨a2, c2, e, _, _, hc⟩
    · cases e
    · cases e
      have := World.block_lt_of_cell? w9 _ (hc 0 (by simp))
      rw [add_block] at this
      omega
  have b10 := b9.kept c10 (fun _ _ _ _ _ h => h)
  clear b9 c10 B9 N9 hp
  have hB0 : IsB [255, 52, 18, 255, 255, 255, 255, 97, 0, 3, 0, 0, 0, 120, 121, 122] := by intro x hx; simp at hx; omega
  go_wp2_with fail
  refine (ru8_any w.heap.size p v10 ⟨[255, 52, 18, 255, 255, 255, 255, 97, 0, 3, 0, 0, 0, 120, 121, 122], 0⟩ _ a10 hB0).mono ?_
  rintro e w11 ⟨he, v11, h11⟩
  obtain rfl : e = .returned (.int .i64 255) := he
  have B11 := B10.trans (h11.belowR a10)
  have b11 := b10.kept h11.chg (fun a n c e h0 h => hu a n c e h0 h)
  have a11 : RdS w.heap.size w11 p v11 ⟨[52, 18, 255, 255, 255, 255, 97, 0, 3, 0, 0, 0, 120, 121, 122], 0⟩ := h11.rd
  clear a10 B10 b10 h11
  go_wp2_with fail
  refine (ru16_any w.heap.size p v11 ⟨[52, 18, 255, 255, 255, 255, 97, 0, 3, 0, 0, 0, 120, 121, 122], 0⟩ _ a11 (hB0.drop 1)).mono ?_
  rintro e w12 ⟨he, v12, h12⟩
  obtain rfl : e = .returned (.int .i64 4660) := he
  have B12 := B11.trans (h12.belowR a11)
  have b12 := b11.kept h12.chg (fun a n c e h0 h => hu a n c e h0 h)
  have a12 : RdS w.heap.size w12 p v12 ⟨[255, 255, 255, 255, 97, 0, 3, 0, 0, 0, 120, 121, 122], 0⟩ := h12.rd
  clear a11 B11 b11 h12
  go_wp2_with fail
  refine (ru32_any w.heap.size p v12 ⟨[255, 255, 255, 255, 97, 0, 3, 0, 0, 0, 120, 121, 122], 0⟩ _ a12 (hB0.drop 3)).mono ?_
  rintro e w13 ⟨he, v13, h13⟩
  obtain rfl : e = .returned (.int .i64 4294967295) := he
  have B13 := B12.trans (h13.belowR a12)
  have b13 := b12.kept h13.chg (fun a n c e h0 h => hu a n c e h0 h)
  have a13 : RdS w.heap.size w13 p v13 ⟨[97, 0, 3, 0, 0, 0, 120, 121, 122], 0⟩ := h13.rd
  clear a12 B12 b12 h13
  go_wp2_with fail
  refine (rfixed_any w.heap.size p v13 ⟨[97, 0, 3, 0, 0, 0, 120, 121, 122], 0⟩ 2 _ a13 (by simp)).mono ?_
  rintro e w14 ⟨u14, rfl, ⟨v14, h14⟩, o14, _⟩
  have B14 := B13.trans (h14.belowR a13)
  have b14 := b13.kept h14.chg (fun a n c e h0 h => hu a n c e h0 h)
  have a14 : RdS w.heap.size w14 p v14 ⟨[3, 0, 0, 0, 120, 121, 122], 0⟩ := h14.rd
  have s14 := run_str (Bs.ofOwns o14)
  have t14 : strOf (tkV (fxI ⟨[97, 0, 3, 0, 0, 0, 120, 121, 122], 0⟩ 2) 2) = ⟨#[97, 0]⟩ := by rfl
  rw [t14] at s14
  clear a13 B13 b13 h14 o14 t14
  go_wp2_with fail
  refine (rbytes_any w.heap.size p v14 ⟨[3, 0, 0, 0, 120, 121, 122], 0⟩ 3 _ a14 (hB0.drop 9) (by simp)).mono ?_
  rintro e w15 ⟨u15, rfl, ⟨v15, h15⟩, o15, _⟩
  have B15 := B14.trans (h15.belowR a14)
  have b15 := b14.kept h15.chg (fun a n c e h0 h => hu a n c e h0 h)
  have a15 : RdS w.heap.size w15 p v15 ⟨[], 0⟩ := h15.rd
  have s15 := run_str (Bs.ofOwns o15)
  have t15 : strOf (tkV (bsI ⟨[3, 0, 0, 0, 120, 121, 122], 0⟩ 3) (valB (tkV ⟨[3, 0, 0, 0, 120, 121, 122], 0⟩ 4))) = ⟨#[120, 121, 122]⟩ := by rfl
  rw [t15] at s15
  clear a14 B14 b14 h15 o15 t15 s14
  go_wp2_with fail
  refine (end_any w.heap.size p v15 ⟨[], 0⟩ _ a15).mono ?_
  rintro e w16 ⟨he, rfl⟩
  obtain rfl : e = .returned (.int .i64 0) := he
  clear a15 s15
  obtain ⟨ua, uc, rfl, huc⟩ : ∃ a c, u9 = .slice a 16 c ∧ 16 ≤ c := by
    rcases b15 with ⟨_, e⟩ | ⟨a, c, e, h, _⟩
    · cases e
    · exact ⟨some a, c, e, h⟩
  have s16 := run_str (Bs.low b15 (k := 3) (by omega))
  have t16 : strOf ([255, 52, 18, 255, 255, 255, 255, 97, 0, 3, 0, 0, 0, 120, 121, 122].take 3) = ⟨#[255, 52, 18]⟩ := by rfl
  rw [t16] at s16
  have huc3 : (3 : Int) ≤ (uc : Int) := by omega
  clear t16 hu
  have b17 : Bs (w16.alloc (.cells #[.int .u8 49, .int .u8 50, .int .u8 51, .int .u8 52, .int .u8 53, .int .u8 54, .int .u8 55, .int .u8 56, .int .u8 57] 5 (9, 10))) (.slice (some ⟨w16.heap.size, 0, none⟩) 9 9) [49, 50, 51, 52, 53, 54, 55, 56, 57] := Bs.lit w16 [49, 50, 51, 52, 53, 54, 55, 56, 57] _ (by simp)
  have B17 : Below w.heap.size w (w16.alloc (.cells #[.int .u8 49, .int .u8 50, .int .u8 51, .int .u8 52, .int .u8 53, .int .u8 54, .int .u8 55, .int .u8 56, .int .u8 57] 5 (9, 10))) := B15.alloc B15.size _
  have hB1 : IsB [49, 50, 51, 52, 53, 54, 55, 56, 57] := by intro x hx; simp at hx; omega
  have T17 := hT.below B17 hN0
  go_wp2_with fail
  refine (sum_any _ _ _ b17 hB1 T17 (by simp)).mono ?_
  rintro e w18 ⟨he, rfl⟩
  have tsum : ((4294967295 - crcN 4294967295 [49, 50, 51, 52, 53, 54, 55, 56, 57] : Nat) : Int) = 3421780262 := by decide
  rw [tsum] at he
  subst he
  clear s16 b17 T17
  go_wp2
  go_ret
  exact ⟨rfl, B17⟩
end Go.Proofs.YtdninfmmikaimaaDoor

/-
  Words on writers and readers that stay, bytes as a string, what numbers are laid as.
-/
import Derived.Test.YtlnjnimenihhnaaGreatDoorReads
import Derived.Lib.SlBytesConst
import Derived.Deep.RegionWith
import Derived.Deep.DrawnRows
import Derived.BigQuiet
import Derived.Deep.QuietTactic
namespace Go.Proofs.YtlnjnimenihhnaaGreatDoor
open Go.RowKit

theorem WrToT.below {T : TypeId} {N p : Nat} {w w' : World} {v v' : Value} {xs : List Int} (h : WrToT T N p w v w' v' xs) (hN : N ≤ w.heap.size) (hp : N ≤ p) (hv : ∀ k, v.ownBlock = some k → N ≤ k) : Below N w w' :=
  h.chg.below hN (fun k hk => by rcases hk with rfl | hk; exact hp; exact hv k hk)
theorem WrT.N {T : TypeId} {N p : Nat} {w : World} {v : Value} {xs : List Int} (h : WrT T N w p v xs) : N ≤ w.heap.size := by have := h.le; have := h.lt; omega
theorem WrT.keep {S : Nat → Prop} {T : TypeId} {N p : Nat} {w w' : World} {v : Value} {xs : List Int} (h : WrT T N w p v xs) (hc : Chg S w w') (hS : ∀ k, ¬ S k) : WrT T N w' p v xs := by
  refine ⟨h.le, (hc.block p h.lt (hS p)).trans h.blk, h.own.kept (row := none) ⟨hc.os, hc.tape, hc.output, hc.size, fun k hk _ => hc.block k hk (hS k)⟩ ?_, h.ne⟩
  cases hv : v.ownBlock <;> simp
theorem WrToT.belowW {T : TypeId} {N p : Nat} {w w' : World} {v v' : Value} {xs ys : List Int} (h : WrToT T N p w v w' v' xs) (hw : WrT T N w p v ys) : Below N w w' :=
  h.below hw.N hw.le (fun k hk => (hw.own.lt k hk).1)
theorem Bs.under {w w' : World} {v : Value} {xs : List Int} (h : Bs w v xs) (hb : Below w.heap.size w w') : Bs w' v xs := by
  rcases h with h | ⟨a, c, rfl, hl, hm, hcell⟩
  · exact .inl h
  · refine .inr ⟨a, c, rfl, hl, hm, fun j hj => ?_⟩
    have h1 := hcell j hj
    exact (hb.cell (World.block_lt_of_cell? w _ h1)).trans h1
theorem Bs.litC (w : World) (xs : List Int) (fr : Nat × Nat) (hx : xs.length ≤ 1099511627776) : Bs (w.alloc (.cells (bcells xs).toArray 5 fr)) (.slice (some ⟨w.heap.size, 0, none⟩) xs.length xs.length) xs := by
  refine .inr ⟨⟨w.heap.size, 0, none⟩, xs.length, rfl, Nat.le_refl _, by unfold maxLen; omega, fun j hj => ?_⟩
  have e : (⟨w.heap.size, 0, none⟩ : Addr).add j = ⟨w.heap.size, j, none⟩ := by unfold Addr.add; split <;> simp_all
  rw [e, cell_of_row _ _ _ _ _ _ (heap_alloc_new w _)]
  simp [bcells, List.getD, hj]
def strC (xs : List Int) : ByteArray := xs.foldl (fun r n => r.push (UInt8.ofNat n.toNat)) ByteArray.empty
theorem run_strC {w : World} {u : Value} {xs : List Int} (h : Bs w u xs) : (convert 33 9 u).run Tryz.prog w = .ok (.string (strC xs)) w := by
  rcases h with ⟨rfl, rfl⟩ | ⟨a, c, rfl, hl, hm, hcell⟩
  · rw [run_convert_bytes_string w 33 9 5 _ _ _ Tryz.underlying33 Tryz.underlying5 Tryz.underlying9]
    rfl
  · rw [run_convert_bytes_string w 33 9 5 _ _ _ Tryz.underlying33 Tryz.underlying5 Tryz.underlying9]
    refine run_bytesToString w a xs.length c xs ?_
    have h1 := run_loadCells_list (P := Tryz.prog) w a (bcells xs) (fun j u hu => by obtain ⟨hj, rfl⟩ := bcells_get hu; exact hcell j hj)
    simpa [bcells] using h1
theorem Bs.formC {w : World} {v : Value} {xs : List Int} (h : Bs w v xs) : ∃ a c, v = .slice a xs.length c ∧ xs.length ≤ c := by
  rcases h with ⟨rfl, rfl⟩ | ⟨a, c, rfl, h, _⟩
  · exact ⟨none, 0, rfl, Nat.le_refl _⟩
  · exact ⟨_, _, rfl, h⟩
theorem isB_leTo (n : Int) (k : Nat) : IsB (leTo n k) := by
  intro x hx
  obtain ⟨i, _, rfl⟩ := List.mem_map.1 hx
  omega
theorem isB_app {a b : List Int} (ha : IsB a) (hb : IsB b) : IsB (a ++ b) := by
  intro x hx
  rcases List.mem_append.1 hx with h | h
  · exact ha x h
  · exact hb x h
theorem strC_list (xs : List Int) : (strC xs).data.toList = xs.map (fun n => UInt8.ofNat n.toNat) := by
  have h : ∀ (l : List Int) (s : ByteArray), (l.foldl (fun r n => r.push (UInt8.ofNat n.toNat)) s).data.toList = s.data.toList ++ l.map (fun n => UInt8.ofNat n.toNat) := by
    intro l
    induction l with
    | nil => intro s; simp
    | cons x r ih => intro s; rw [List.foldl_cons, ih]; simp [ByteArray.push]
  have := h xs ByteArray.empty
  simpa [strC] using this
theorem strC_map (xs ys : List Int) (hx : IsB xs) (hy : IsB ys) (h : xs.map (fun n => UInt8.ofNat n.toNat) = ys.map (fun n => UInt8.ofNat n.toNat)) : xs = ys := by
  induction xs generalizing ys with
  | nil => cases ys with
    | nil => rfl
    | cons y s => simp at h
  | cons x r ih =>
    cases ys with
    | nil => simp at h
    | cons y s =>
      simp only [List.map_cons, List.cons.injEq] at h
      have a := hx x (List.mem_cons_self ..)
      have b := hy y (List.mem_cons_self ..)
      have e : x = y := by
        have h1 := congrArg UInt8.toNat h.1
        rw [UInt8.toNat_ofNat', UInt8.toNat_ofNat'] at h1
        omega
      rw [e, ih s (fun z hz => hx z (List.mem_cons_of_mem _ hz)) (fun z hz => hy z (List.mem_cons_of_mem _ hz)) h.2]
theorem strC_inj (xs ys : List Int) (hx : IsB xs) (hy : IsB ys) (h : strC xs = strC ys) : xs = ys := by
  refine strC_map xs ys hx hy ?_
  rw [← strC_list, ← strC_list, h]
theorem strC_ne (xs ys : List Int) (hx : IsB xs) (hy : IsB ys) (h : xs ≠ ys) : ((strC xs).toList == (strC ys).toList) = false := by
  rw [ByteArray.toList_eq, ByteArray.toList_eq, strC_list, strC_list]
  simp only [beq_eq_false_iff_ne, ne_eq]
  exact fun e => h (strC_map xs ys hx hy e)
theorem own_monoC {w : World} {N N' : Nat} {v : Value} {n : Nat} {xs : List Value} (h : w.ownsRow N' 5 1 v n xs) (hN : N ≤ N') : w.ownsRow N 5 1 v n xs := by
  refine ⟨h.1, ?_⟩
  rcases h.2 with h2 | ⟨g, cap, cur, e, hb, r⟩
  · exact .inl h2
  · exact .inr ⟨g, cap, cur, e, by omega, r⟩
theorem Chg.ofBelowC {w w' : World} (h : Below w.heap.size w w') : Chg (fun _ => False) w w' := ⟨h.os, h.tape, h.output, h.size, fun k hk _ => h.block k hk⟩
theorem Below.ofGrown {w w' : World} {N : Nat} (h : w.grownBy w' none) (hN : N ≤ w.heap.size) : Below N w w' := ⟨h.os, h.tape, h.output, h.size, fun k hk => h.block k (by omega) (by simp)⟩
end Go.Proofs.YtlnjnimenihhnaaGreatDoor

namespace Go.Proofs.YtlnjnimenihhnaaGreatDoor
open Go.RowKit


/-- The table of package codec, as numbers. -/
def tabN : List Nat := [0, 498536548, 997073096, 651767980, 1994146192, 1802195444, 1303535960, 1342533948, 3988292384, 4027552580, 3604390888, 3412177804, 2607071920, 2262029012, 2685067896, 3183342108]
theorem tabN_lt (j : Nat) : tabN.getD j 0 < 4294967296 := by
  by_cases h : j < 16
  · have : ∀ i : Fin 16, tabN.getD i.val 0 < 4294967296 := by decide
    exact this ⟨j, h⟩
  · have : tabN.getD j 0 = 0 := by simp [List.getD, tabN, h]
    omega
/-- The table lies in the world. -/
def Tab (w : World) : Prop := ∀ j, j < 16 → w.cell? ⟨0, j, none⟩ = some (.int .u32 ((tabN.getD j 0 : Nat) : Int))

/-- Half a byte of the sum, by the table; a byte; bytes. -/
def halfN (c : Nat) : Nat := (c / 16) ^^^ tabN.getD (c % 16) 0
def stepN (c x : Nat) : Nat := halfN (halfN (c ^^^ x))
def crcN (c : Nat) (bs : List Int) : Nat := bs.foldl (fun c x => stepN c x.toNat) c
theorem halfN_lt (c : Nat) (h : c < 4294967296) : halfN c < 4294967296 := Nat.xor_lt_two_pow (n := 32) (by omega) (tabN_lt _)
theorem crcN_snoc (c : Nat) (l : List Int) (x : Int) : crcN c (l ++ [x]) = stepN (crcN c l) x.toNat := by simp [crcN]
theorem crcN_take (c : Nat) (l : List Int) (k : Nat) (hk : k < l.length) : crcN c (l.take (k + 1)) = stepN (crcN c (l.take k)) (l.getD k 0).toNat := by
  have e : l.take (k + 1) = l.take k ++ [l.getD k 0] := by
    rw [List.take_succ_eq_append_getElem hk]; simp [List.getD, hk]
  rw [e, crcN_snoc]

/-- One half in the walk's own forms. -/
theorem half_forms {w : World} (hT : Tab w) (c : Nat) (hc : c < 4294967296) : ∃ i t c' : Nat, bits .and .u32 (c : Int) 15 = (i : Int) ∧ i < 16 ∧ w.cell? ⟨0, i, none⟩ = some (.int .u32 (t : Int)) ∧ bits .xor .u32 ((c : Int) / 16) (t : Int) = (c' : Int) ∧ c' < 4294967296 ∧ c' = halfN c := by
  refine ⟨c % 16, tabN.getD (c % 16) 0, halfN c, ?_, by omega, hT _ (by omega), ?_, halfN_lt c hc, rfl⟩
  · have := u32_and_nat c 15 hc (by omega)
    have e : c &&& 15 = c % 16 := by
      have := Nat.and_two_pow_sub_one_eq_mod c 4
      simpa using this
    rw [e] at this
    exact this
  · have h1 := u32_xor_nat (c / 16) (tabN.getD (c % 16) 0) (by omega) (tabN_lt _)
    have e : ((c / 16 : Nat) : Int) = (c : Int) / 16 := by omega
    rw [e] at h1
    exact h1
theorem byte_forms (s : Nat) (x : Int) (hs : s < 4294967296) (hx0 : 0 ≤ x) (hx1 : x < 256) : ∃ c : Nat, bits .xor .u32 (s : Int) x = (c : Int) ∧ c < 4294967296 ∧ c = s ^^^ x.toNat := by
  obtain ⟨X, rfl⟩ := Int.eq_ofNat_of_zero_le hx0
  exact ⟨s ^^^ X, u32_xor_nat s X hs (by omega), Nat.xor_lt_two_pow (n := 32) (by omega) (by omega), by simp⟩

theorem nat_turned (c : Nat) (h : c < 4294967296) : 4294967295 ^^^ c = 4294967295 - c := by
  have h1 : (BitVec.allOnes 32 ^^^ BitVec.ofNat 32 c).toNat = (~~~ BitVec.ofNat 32 c).toNat := by rw [BitVec.allOnes_xor]
  rw [BitVec.toNat_xor, BitVec.toNat_not, BitVec.toNat_allOnes, BitVec.toNat_ofNat, Nat.mod_eq_of_lt (by omega)] at h1
  simpa using h1
theorem turned (c : Nat) (h : c < 4294967296) : bits .xor .u32 IntKind.u32.max (c : Int) = ((4294967295 - c : Nat) : Int) := by
  have h1 := u32_xor_nat 4294967295 c (by omega) h
  rw [nat_turned c h] at h1
  exact h1
theorem ret_eq {k : IntKind} {a b : Int} (h : a = b) : Ending.returned (.int k a) = .returned (.int k b) := by rw [h]

set_option maxHeartbeats 800000 in
set_option maxRecDepth 100000 in
theorem sum_any (v : Value) (bs : List Int) (w : World) (hb : Bs w v bs) (hB : IsB bs) (hT : Tab w) (hlen : bs.length ≤ 1099511627776) :
    Calls Tryz.prog 134 #[v] w fun e w' => e = .returned (.int .u32 ((4294967295 - crcN 4294967295 bs : Nat) : Int)) ∧ w' = w := by
  obtain ⟨ab, cb, hbv, hcb⟩ : ∃ a c, v = .slice a bs.length c ∧ bs.length ≤ c := by
    rcases hb with ⟨rfl, rfl⟩ | ⟨a, c, rfl, h, _⟩
    · exact ⟨none, 0, rfl, Nat.le_refl _⟩
    · exact ⟨_, _, rfl, h⟩
  subst hbv
  go_enter Tryz.func134, Tryz.ntmps134
  go_wp2
  go_loop [3, 8] (fun n i => ∃ (k : Nat) (s : Nat), k ≤ bs.length ∧ i = .int .i64 k ∧ n = .int .u32 s ∧ s < 4294967296 ∧ Hid (s = crcN 4294967295 (bs.take k))) (fun _ i => bs.length - (intOf i).toNat)
  case atStart => exact ⟨0, 4294967295, Nat.zero_le _, rfl, rfl, by omega, by simp [Hid, crcN]⟩
  case round =>
    obtain ⟨k, s, hk, rfl, rfl, hs1, HS⟩ := hrel
    by_cases hlt : k < bs.length
    · obtain ⟨b, off, rfl, hcs⟩ := hb.atC hlt
      have hc := hcs k hlt
      have hx := hB.at hlt
      have HC := crcN_take 4294967295 bs k hlt
      rw [← HS.out] at HC
      clear hcs hB hb
      generalize bs.getD k 0 = x at *
      obtain ⟨hx0, hx1⟩ := hx
      have hki : (k : Int) < (bs.length : Int) := by omega
      obtain ⟨c1, r1, b1, e1⟩ := byte_forms s x hs1 hx0 hx1
      obtain ⟨i1, t1, c2, r2, l2, j2, r3, b2, e2⟩ := half_forms hT c1 b1
      obtain ⟨i2, t2, c3, r4, l4, j4, r5, b3, e3⟩ := half_forms hT c2 b2
      have HE : Hid (c3 = crcN 4294967295 (bs.take (k + 1))) := by rw [HC, e3, e2, e1]; rfl
      clear HC e1 e2 e3 hT HS
      have l2' : (i1 : Int) < 16 := by omega
      have l4' : (i2 : Int) < 16 := by omega
      go_wp2
      go_roundw
      case rel => exact ⟨k + 1, c3, by omega, by go_num, rfl, b3, HE⟩
      case measure => simp [intOf]; omega
    · go_wp2
      go_ret
      refine ⟨?_, rfl⟩
      have e : bs.take k = bs := List.take_of_length_le (by omega)
      have hs : s = crcN 4294967295 bs := by rw [HS.out, e]
      subst hs
      clear hb hB hT HS
      exact ret_eq (turned _ hs1)
theorem Tab.below {N : Nat} {w w' : World} (h : Tab w) (hb : Below N w w') (hN : 0 < N) : Tab w' := fun j hj => (hb.cell (p := ⟨0, j, none⟩) hN).trans (h j hj)
end Go.Proofs.YtlnjnimenihhnaaGreatDoor

namespace Go.Proofs.YtlnjnimenihhnaaGreatDoor
open Go.RowKit


/-- One bit of the division. -/
def bitN (c : Nat) : Nat := (c / 2) ^^^ (if c % 2 = 1 then 3988292384 else 0)

end Go.Proofs.YtlnjnimenihhnaaGreatDoor

namespace Go.Proofs.YtlnjnimenihhnaaGreatDoor
open Go.RowKit


/-- k bits of the division. -/
def bitsN : Nat → Nat → Nat
  | 0, c => c
  | k + 1, c => bitN (bitsN k c)
/-- The sum of bytes. -/
def sumV (bs : List Int) : Nat := 4294967295 - crcN 4294967295 bs
end Go.Proofs.YtlnjnimenihhnaaGreatDoor

namespace Go.Proofs.YtlnjnimenihhnaaGreatDoor
open Go.RowKit
attribute [local go_sem ↓] Go.wp_at_zero Go.wp_at_succ


theorem sumV_lt (bs : List Int) : sumV bs < 4294967296 := by unfold sumV; omega

theorem seal_mid {w w1 : World} {v : Value} {bs : List Int} {n : Nat} (hb : Bs w v bs) (own1 : w1.ownsRow w.heap.size 5 1 (.slice (some ⟨w.heap.size, 0, none⟩) 0 n) 0 []) (grow1 : w.grownBy w1 none) :
    Wr w.heap.size (w1.alloc (.cells #[.slice (some ⟨w.heap.size, 0, none⟩) 0 n] 189)) w1.heap.size (.slice (some ⟨w.heap.size, 0, none⟩) 0 n) [] ∧ Bs (w1.alloc (.cells #[.slice (some ⟨w.heap.size, 0, none⟩) 0 n] 189)) v bs ∧ Below w.heap.size w (w1.alloc (.cells #[.slice (some ⟨w.heap.size, 0, none⟩) 0 n] 189)) := by
  have hB := (Below.ofGrown grow1 (Nat.le_refl _)).alloc grow1.size (.cells #[.slice (some ⟨w.heap.size, 0, none⟩) 0 n] 189)
  refine ⟨⟨grow1.size, heap_alloc_new w1 _, own1.alloc _, ?_⟩, hb.under hB, hB⟩
  have := (own1.lt w.heap.size rfl).2
  simp [Value.ownBlock]
  omega

set_option maxHeartbeats 1600000 in
set_option maxRecDepth 100000 in
theorem seal_any (N : Nat) (v : Value) (bs : List Int) (w : World) (hb : Bs w v bs) (hB : IsB bs) (hT : Tab w) (hN : N ≤ w.heap.size) (hlen : bs.length ≤ 1000000) :
    Calls Tryz.prog 124 #[v] w fun e w' => ∃ u, e = .returned u ∧ FreshN N w w' u (bs ++ leTo (sumV bs) 4) := by
  have hN0 : 0 < w.heap.size := by have := World.block_lt_of_cell? w _ (hT 0 (by omega)); simpa using this
  obtain ⟨i0, hi, hz0, hz1, hz2⟩ := info_parts cinfo5
  obtain ⟨ab, cb, rfl, hcb⟩ := hb.formC
  have hsm := sumV_lt bs
  have hl0 : ([] : List Int).length + bs.length ≤ 1099511627776 := by simp; omega
  go_enter Tryz.func124, Tryz.ntmps124
  go_wp2_with (first | (at_builtin; go_must (refine wpList_app rfl (.tmp 10) (.tmp 11) 33 rfl w.heap.size i0 Tryz.underlying33 hi hz0 hz1 hz2 (.slice (some ⟨w.heap.size, 0, none⟩) 0 (bs.length + 4)) _ 0 [] bs rfl M1.own rfl M2 hl0 M1.N ?_; intro v3 w3 hown hgrow hat; simp only [Nat.zero_add, List.nil_append] at hown; obtain ⟨ht2, hc1, hf1⟩ := M1.pushAt hgrow hown (by simpa using hat); obtain ⟨g, cap, rfl⟩ := cown_slice hown)) | (refine wpList_make_own _ rfl _ (.tmp 6) 33 rfl w.heap.size 5 i0 (.int .u8 0) 1 Tryz.underlying33 hi hz0 hz1 .i64 .i64 _ (bs.length + 4) rfl rfl (by omega) (by rw [hz2]; omega) (by unfold maxLen; omega) (Nat.le_refl _) ?_; intro w1 own1 grow1; obtain ⟨M1, M2, M3⟩ := seal_mid (v := .slice ab bs.length cb) hb own1 grow1))
  have B4 := M3.trans (ht2.belowW M1)
  have a4 := ht2.wr
  have hb4 := hb.under B4
  have T4 := hT.below B4 hN0
  clear hown hgrow hat hc1 hf1 ht2 M1 M2 M3 own1 grow1
  generalize w3.setCell ⟨w1.heap.size, 0, none⟩ (.slice g bs.length cap) = w4 at *
  refine (sum_any _ bs _ hb4 hB T4 (by omega)).mono ?_
  rintro e w5 ⟨he, rfl⟩
  rw [show (4294967295 - crcN 4294967295 bs) = sumV bs from rfl] at he
  subst he
  have HSM : Hid (sumV bs = sumV bs) := rfl
  generalize hq : sumV bs = sm at *
  have HQ : Hid (sumV bs = sm) := hq
  clear hq HSM
  go_wp2_with fail
  refine (u32_any w.heap.size _ sm _ bs _ a4 (by omega)).mono ?_
  rintro e w6 ⟨rfl, v6, h6⟩
  have B6 := B4.trans (h6.belowW a4)
  have c6 := h6.wr.cell
  have F : FreshN N w w6 v6 (bs ++ leTo sm 4) := ⟨own_monoC h6.wr.own hN, Chg.ofBelowC B6, fun k hk => (h6.wr.own.lt k hk).1⟩
  clear B4 a4 hb4 T4 h6 B6
  go_wp2
  go_ret
  rw [HQ.out]
  exact ⟨v6, rfl, F⟩

/-- What Open says of bytes: the body, or the error. -/
def openE (bs : List Int) : Int := if bs.length < 4 then 2 else if valB (bs.drop (bs.length - 4)) ≠ (sumV (bs.take (bs.length - 4)) : Int) then 4 else 0
def openV (bs : List Int) : List Int := if openE bs = 0 then bs.take (bs.length - 4) else []

end Go.Proofs.YtlnjnimenihhnaaGreatDoor

namespace Go.Proofs.YtlnjnimenihhnaaGreatDoor
open Go.RowKit

theorem most_any (w : World) : Calls Tryz.prog 54 #[] w fun e w' => e = .returned (.int .i64 8458240) ∧ w' = w := by
  go_enter Tryz.func54, Tryz.ntmps54
  go_wp2
  go_ret
  exact ⟨rfl, rfl⟩

/-- Where a block stands, by its number. -/
def plL (i : Int) : Int := if i < 136 then (if i < 8 then 0 else 1) else 2
def plA (i : Int) : Int := if i < 8 then i else if i < 136 then i - 8 else (i - 136) / 128
def plB (i : Int) : Int := if i < 136 then 0 else (i - 136) % 128
def inPl (i : Int) : Prop := 0 ≤ i ∧ i < 16520
instance (i : Int) : Decidable (inPl i) := by unfold inPl; infer_instance
abbrev plV (l a b : Int) : Value := .agg #[.int .i64 l, .int .i64 a, .int .i64 b]
abbrev plO (T : TypeId) (l a b : Int) : Obj := .cells #[.int .i64 l, .int .i64 a, .int .i64 b] T

set_option maxHeartbeats 800000 in
theorem where_neg (i : Int) (w : World) (h0 : i < 0) :
    Calls Tryz.prog 100 #[.int .i64 i] w fun e w' => e = .returned (.tuple #[plV (0) (0) (0), .int .i64 1]) ∧ w' = w.alloc (plO 156 (0) (0) (0)) := by
  have k : decide (i < 0) = true := by simpa using h0
  go_enter Tryz.func100, Tryz.ntmps100
  go_wp2_with fail
  refine bodyPost_ret (v := .tuple #[plV (0) (0) (0), .int .i64 1]) (by simp [results, Tryz.results100, go_sem]) rfl ⟨rfl, rfl⟩
set_option maxHeartbeats 800000 in
theorem where_big (i : Int) (w : World) (h0 : 16520 ≤ i) :
    Calls Tryz.prog 100 #[.int .i64 i] w fun e w' => e = .returned (.tuple #[plV (0) (0) (0), .int .i64 1]) ∧ w' = w.alloc (plO 156 (0) (0) (0)) := by
  have k0 : decide (i < 0) = false := by simp; omega
  have k0' : ¬ i < 0 := by omega
  go_enter Tryz.func100, Tryz.ntmps100
  go_wp2_with fail
  refine bodyPost_ret (v := .tuple #[plV (0) (0) (0), .int .i64 1]) (by simp [results, Tryz.results100, go_sem]) rfl ⟨rfl, rfl⟩
set_option maxHeartbeats 800000 in
theorem where_dir (i : Int) (w : World) (h0 : 0 ≤ i) (h1 : i < 8) :
    Calls Tryz.prog 100 #[.int .i64 i] w fun e w' => e = .returned (.tuple #[plV (0) (i) (0), .int .i64 0]) ∧ w' = w.alloc (plO 156 (0) (i) (0)) := by
  have k0' : ¬ i < 0 := by omega
  have k1 : ¬ 16520 ≤ i := by omega
  go_enter Tryz.func100, Tryz.ntmps100
  go_wp2_with fail
  refine bodyPost_ret (v := .tuple #[plV (0) (i) (0), .int .i64 0]) (by simp [results, Tryz.results100, go_sem]) rfl ⟨rfl, rfl⟩
set_option maxHeartbeats 800000 in
theorem where_one (i : Int) (w : World) (h0 : 8 ≤ i) (h1 : i < 136) :
    Calls Tryz.prog 100 #[.int .i64 i] w fun e w' => e = .returned (.tuple #[plV (1) (i - 8) (0), .int .i64 0]) ∧ w' = w.alloc (plO 156 (1) (i - 8) (0)) := by
  have k0' : ¬ i < 0 := by omega
  have k1 : ¬ 16520 ≤ i := by omega
  have k2 : ¬ i < 8 := by omega
  go_enter Tryz.func100, Tryz.ntmps100
  go_wp2_with fail
  refine bodyPost_ret (v := .tuple #[plV (1) (i - 8) (0), .int .i64 0]) (by simp [results, Tryz.results100, go_sem]) rfl ⟨rfl, rfl⟩
set_option maxHeartbeats 800000 in
theorem where_two (i : Int) (w : World) (h0 : 136 ≤ i) (h1 : i < 16520) :
    Calls Tryz.prog 100 #[.int .i64 i] w fun e w' => e = .returned (.tuple #[plV (2) ((i - 136) / 128) ((i - 136) % 128), .int .i64 0]) ∧ w' = w.alloc (plO 156 (2) ((i - 136) / 128) ((i - 136) % 128)) := by
  have k0' : ¬ i < 0 := by omega
  have k1 : ¬ 16520 ≤ i := by omega
  have k2 : ¬ i < 8 := by omega
  have k3 : ¬ i < 136 := by omega
  go_enter Tryz.func100, Tryz.ntmps100
  go_wp2_with fail
  refine bodyPost_ret (v := .tuple #[plV (2) ((i - 136) / 128) ((i - 136) % 128), .int .i64 0]) (by simp [results, Tryz.results100, go_sem]) rfl ⟨rfl, rfl⟩
theorem where_out (i : Int) (w : World) (h : ¬ inPl i) :
    Calls Tryz.prog 100 #[.int .i64 i] w fun e w' => e = .returned (.tuple #[plV 0 0 0, .int .i64 1]) ∧ w' = w.alloc (plO 156 0 0 0) := by
  unfold inPl at h
  by_cases h0 : i < 0
  · exact where_neg i w h0
  · exact where_big i w (by omega)
/-- How many blocks of bytes, of numbers, of both. -/
def blkN (s : Int) : Int := if 0 ≤ s ∧ s ≤ 8458240 then (s + 511) / 512 else 0
def innN (s : Int) : Int := if blkN s ≤ 8 then 0 else if blkN s ≤ 136 then 1 else 2 + (blkN s - 9) / 128
def allN (s : Int) : Int := blkN s + innN s
theorem blkN_bd (s : Int) : 0 ≤ blkN s ∧ blkN s ≤ 16520 := by
  unfold blkN
  split <;> omega

set_option maxHeartbeats 800000 in
theorem blocks_any (s : Int) (w : World) :
    Calls Tryz.prog 86 #[.int .i64 s] w fun e w' => e = .returned (.int .i64 (blkN s)) ∧ w' = w := by
  unfold blkN
  by_cases h : s < 0
  · rw [if_neg (by omega)]
    go_enter Tryz.func86, Tryz.ntmps86
    go_wp2
    go_ret
    exact ⟨rfl, rfl⟩
  · by_cases h1 : s ≤ 8458240
    · rw [if_pos ⟨by omega, h1⟩]
      have h0 : 0 ≤ s := by omega
      have k1 : ¬ 8458240 < s := by omega
      have k2 : decide (8458240 < s) = false := by simpa using k1
      have e : s + 512 - 1 = s + 511 := by omega
      go_enter Tryz.func86, Tryz.ntmps86
      go_wp2_with fail
      refine (most_any _).mono ?_
      rintro e w1 ⟨rfl, rfl⟩
      go_wp2
      go_ret
      exact ⟨by first | rfl | exact ret_eq (by omega), rfl⟩
    · rw [if_neg (by omega)]
      have h0 : 0 ≤ s := by omega
      have k1 : 8458240 < s := by omega
      have k2 : decide (8458240 < s) = true := by simpa using k1
      go_enter Tryz.func86, Tryz.ntmps86
      go_wp2_with fail
      refine (most_any _).mono ?_
      rintro e w1 ⟨rfl, rfl⟩
      go_wp2
      go_ret
      exact ⟨rfl, rfl⟩
set_option maxHeartbeats 800000 in
theorem refBlocks_any (s : Int) (w : World) :
    Calls Tryz.prog 89 #[.int .i64 s] w fun e w' => e = .returned (.int .i64 (blkN s)) ∧ w' = w := by
  unfold blkN
  by_cases h : s < 0
  · rw [if_neg (by omega)]
    go_enter Tryz.func89, Tryz.ntmps89
    go_wp2
    go_ret
    exact ⟨rfl, rfl⟩
  · by_cases h1 : s ≤ 8458240
    · rw [if_pos ⟨by omega, h1⟩]
      have h0 : 0 ≤ s := by omega
      have k1 : ¬ 8458240 < s := by omega
      have k2 : decide (8458240 < s) = false := by simpa using k1
      go_enter Tryz.func89, Tryz.ntmps89
      go_wp2
      go_ret
      exact ⟨by first | rfl | exact ret_eq (by omega), rfl⟩
    · rw [if_neg (by omega)]
      have h0 : 0 ≤ s := by omega
      have k1 : 8458240 < s := by omega
      have k2 : decide (8458240 < s) = true := by simpa using k1
      go_enter Tryz.func89, Tryz.ntmps89
      go_wp2
      go_ret
      exact ⟨rfl, rfl⟩
set_option maxHeartbeats 800000 in
theorem inner_none (s : Int) (w : World) (h : blkN s = 0) :
    Calls Tryz.prog 87 #[.int .i64 s] w fun e w' => e = .returned (.int .i64 (0)) ∧ Chg (fun _ => False) w w' := by
  have hbd := blkN_bd s
  go_enter Tryz.func87, Tryz.ntmps87
  go_wp2_with fail
  refine (blocks_any s _).mono ?_
  rintro e w1 ⟨rfl, rfl⟩
  generalize blkN s = n at *
  subst h
  clear hbd
  go_wp2_with fail
  refine (where_out (-1) _ (by unfold inPl; omega)).mono ?_
  rintro e w2 ⟨rfl, hw2⟩
  have C2 : Chg (fun _ => False) w1 w2 := by rw [hw2]; exact Chg.alloc _ _ _
  clear hw2
  go_wp2
  go_ret
  refine ⟨by first | rfl | exact ret_eq (by omega), ?_⟩
  first | exact C2 | exact C2.trans (Chg.alloc _ _ _) (fun _ _ h => h)
set_option maxHeartbeats 800000 in
theorem inner_dir (s : Int) (w : World) (h : 1 ≤ blkN s) (h1 : blkN s ≤ 8) :
    Calls Tryz.prog 87 #[.int .i64 s] w fun e w' => e = .returned (.int .i64 (0)) ∧ Chg (fun _ => False) w w' := by
  have hbd := blkN_bd s
  go_enter Tryz.func87, Tryz.ntmps87
  go_wp2_with fail
  refine (blocks_any s _).mono ?_
  rintro e w1 ⟨rfl, rfl⟩
  generalize blkN s = n at *
  have wr : IntKind.i64.wrap (n - 1) = n - 1 := by rw [IntKind.wrap_i64]; omega
  go_wp2_with fail
  refine (where_dir (n - 1) _ (by omega) (by omega)).mono ?_
  rintro e w2 ⟨rfl, hw2⟩
  have C2 : Chg (fun _ => False) w1 w2 := by rw [hw2]; exact Chg.alloc _ _ _
  clear hw2
  go_wp2
  go_ret
  refine ⟨by first | rfl | exact ret_eq (by omega), ?_⟩
  first | exact C2 | exact C2.trans (Chg.alloc _ _ _) (fun _ _ h => h)
set_option maxHeartbeats 800000 in
theorem inner_one (s : Int) (w : World) (h : 9 ≤ blkN s) (h1 : blkN s ≤ 136) :
    Calls Tryz.prog 87 #[.int .i64 s] w fun e w' => e = .returned (.int .i64 (1)) ∧ Chg (fun _ => False) w w' := by
  have hbd := blkN_bd s
  go_enter Tryz.func87, Tryz.ntmps87
  go_wp2_with fail
  refine (blocks_any s _).mono ?_
  rintro e w1 ⟨rfl, rfl⟩
  generalize blkN s = n at *
  have wr : IntKind.i64.wrap (n - 1) = n - 1 := by rw [IntKind.wrap_i64]; omega
  go_wp2_with fail
  refine (where_one (n - 1) _ (by omega) (by omega)).mono ?_
  rintro e w2 ⟨rfl, hw2⟩
  have C2 : Chg (fun _ => False) w1 w2 := by rw [hw2]; exact Chg.alloc _ _ _
  clear hw2
  go_wp2
  go_ret
  refine ⟨by first | rfl | exact ret_eq (by omega), ?_⟩
  first | exact C2 | exact C2.trans (Chg.alloc _ _ _) (fun _ _ h => h)
set_option maxHeartbeats 800000 in
theorem inner_two (s : Int) (w : World) (h : 137 ≤ blkN s) :
    Calls Tryz.prog 87 #[.int .i64 s] w fun e w' => e = .returned (.int .i64 (2 + (blkN s - 9) / 128)) ∧ Chg (fun _ => False) w w' := by
  have hbd := blkN_bd s
  go_enter Tryz.func87, Tryz.ntmps87
  go_wp2_with fail
  refine (blocks_any s _).mono ?_
  rintro e w1 ⟨rfl, rfl⟩
  obtain ⟨n, HN⟩ : ∃ n, Hid (blkN s = n) := ⟨_, rfl⟩
  rw [HN.out] at h hbd
  rw [HN.out]
  have wr : IntKind.i64.wrap (n - 1) = n - 1 := by rw [IntKind.wrap_i64]; omega
  have qd : 0 ≤ (n - 1 - 136) / 128 ∧ (n - 1 - 136) / 128 < 200 := by omega
  go_wp2_with fail
  refine (where_two (n - 1) _ (by omega) (by omega)).mono ?_
  rintro e w2 ⟨rfl, hw2⟩
  have C2 : Chg (fun _ => False) w1 w2 := by rw [hw2]; exact Chg.alloc _ _ _
  clear hw2
  go_wp2
  go_ret
  refine ⟨by first | rfl | exact ret_eq (by rw [HN.out]; omega), ?_⟩
  first | exact C2 | exact C2.trans (Chg.alloc _ _ _) (fun _ _ h => h)
theorem inner_any (s : Int) (w : World) :
    Calls Tryz.prog 87 #[.int .i64 s] w fun e w' => e = .returned (.int .i64 (innN s)) ∧ Chg (fun _ => False) w w' := by
  have hbd := blkN_bd s
  unfold innN
  by_cases h8 : blkN s ≤ 8
  · rw [if_pos h8]
    by_cases h0 : blkN s = 0
    · exact inner_none s w h0
    · exact inner_dir s w (by omega) h8
  · rw [if_neg h8]
    by_cases h136 : blkN s ≤ 136
    · rw [if_pos h136]
      exact inner_one s w (by omega) h136
    · rw [if_neg h136]
      exact inner_two s w (by omega)

set_option maxHeartbeats 800000 in
theorem refInner_any (s : Int) (w : World) :
    Calls Tryz.prog 90 #[.int .i64 s] w fun e w' => e = .returned (.int .i64 (innN s)) ∧ w' = w := by
  have hbd := blkN_bd s
  unfold innN
  obtain ⟨n, HN⟩ : ∃ n, Hid (blkN s = n) := ⟨_, rfl⟩
  rw [HN.out] at hbd
  by_cases h8 : n ≤ 8
  · rw [if_pos (by rw [HN.out]; exact h8)]
    go_enter Tryz.func90, Tryz.ntmps90
    go_wp2_with fail
    refine (refBlocks_any s _).mono ?_
    rintro e w1 ⟨rfl, rfl⟩
    rw [HN.out]
    go_wp2
    go_ret
    exact ⟨rfl, rfl⟩
  · by_cases h136 : n ≤ 136
    · rw [if_neg (by rw [HN.out]; exact h8), if_pos (by rw [HN.out]; exact h136)]
      go_enter Tryz.func90, Tryz.ntmps90
      go_wp2_with fail
      refine (refBlocks_any s _).mono ?_
      rintro e w1 ⟨rfl, rfl⟩
      rw [HN.out]
      go_wp2
      go_ret
      exact ⟨rfl, rfl⟩
    · rw [if_neg (by rw [HN.out]; exact h8), if_neg (by rw [HN.out]; exact h136)]
      go_enter Tryz.func90, Tryz.ntmps90
      go_wp2_with fail
      refine (refBlocks_any s _).mono ?_
      rintro e w1 ⟨rfl, rfl⟩
      rw [HN.out]
      go_wp2
      go_ret
      exact ⟨by first | rfl | exact ret_eq (by rw [HN.out]; omega), rfl⟩

theorem innN_bd (s : Int) : 0 ≤ innN s ∧ innN s ≤ 200 := by
  have := blkN_bd s
  unfold innN
  split
  · omega
  · split <;> omega
theorem allN_bd (s : Int) : 0 ≤ allN s ∧ allN s ≤ 20000 := by
  have := blkN_bd s
  have := innN_bd s
  unfold allN
  omega

set_option maxHeartbeats 800000 in
theorem all_any (s : Int) (w : World) :
    Calls Tryz.prog 55 #[.int .i64 s] w fun e w' => e = .returned (.int .i64 (allN s)) ∧ Chg (fun _ => False) w w' := by
  have b1 := blkN_bd s
  have b2 := innN_bd s
  unfold allN
  go_enter Tryz.func55, Tryz.ntmps55
  go_wp2_with fail
  refine (blocks_any s _).mono ?_
  rintro e w1 ⟨rfl, rfl⟩
  go_wp2_with fail
  refine (inner_any s _).mono ?_
  rintro e w2 ⟨rfl, C2⟩
  go_wp2
  go_ret
  exact ⟨rfl, C2⟩
set_option maxHeartbeats 800000 in
theorem refAll_any (s : Int) (w : World) :
    Calls Tryz.prog 64 #[.int .i64 s] w fun e w' => e = .returned (.int .i64 (allN s)) ∧ w' = w := by
  have b1 := blkN_bd s
  have b2 := innN_bd s
  unfold allN
  go_enter Tryz.func64, Tryz.ntmps64
  go_wp2_with fail
  refine (refBlocks_any s _).mono ?_
  rintro e w1 ⟨rfl, rfl⟩
  go_wp2_with fail
  refine (refInner_any s _).mono ?_
  rintro e w2 ⟨rfl, rfl⟩
  go_wp2
  go_ret
  exact ⟨rfl, rfl⟩
end Go.Proofs.YtlnjnimenihhnaaGreatDoor

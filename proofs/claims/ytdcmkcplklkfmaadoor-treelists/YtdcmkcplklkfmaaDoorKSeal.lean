/-
  Contracts of Seal and Open of package codec.
-/
import Derived.Test.YtdcmkcplklkfmaaDoorKRefSum
import Derived.Deep.RegionWith
import Derived.Deep.DrawnRows
namespace Go.Proofs.YtdcmkcplklkfmaaDoor
open Go.RowKit
attribute [local go_sem ↓] Go.wp_at_zero Go.wp_at_succ


theorem sumV_lt (bs : List Int) : sumV bs < 4294967296 := by unfold sumV; omega

theorem seal_mid {w w1 : World} {v : Value} {bs : List Int} {n : Nat} (hb : Bs w v bs) (own1 : w1.ownsRow w.heap.size 5 1 (.slice (some ⟨w.heap.size, 0, none⟩) 0 n) 0 []) (grow1 : w.grownBy w1 none) :
    Wr w.heap.size (w1.alloc (.cells #[.slice (some ⟨w.heap.size, 0, none⟩) 0 n] 144)) w1.heap.size (.slice (some ⟨w.heap.size, 0, none⟩) 0 n) [] ∧ Bs (w1.alloc (.cells #[.slice (some ⟨w.heap.size, 0, none⟩) 0 n] 144)) v bs ∧ Below w.heap.size w (w1.alloc (.cells #[.slice (some ⟨w.heap.size, 0, none⟩) 0 n] 144)) := by
  have hB := (Below.ofGrown grow1 (Nat.le_refl _)).alloc grow1.size (.cells #[.slice (some ⟨w.heap.size, 0, none⟩) 0 n] 144)
  refine ⟨⟨grow1.size, heap_alloc_new w1 _, own1.alloc _, ?_⟩, hb.under hB, hB⟩
  have := (own1.lt w.heap.size rfl).2
  simp [Value.ownBlock]
  omega

set_option maxHeartbeats 1600000 in
set_option maxRecDepth 100000 in
theorem seal_any (N : Nat) (v : Value) (bs : List Int) (w : World) (hb : Bs w v bs) (hB : IsB bs) (hT : Tab w) (hN : N ≤ w.heap.size) (hlen : bs.length ≤ 1000000) :
    Calls Tryd.prog 89 #[v] w fun e w' => ∃ u, e = .returned u ∧ FreshN N w w' u (bs ++ leTo (sumV bs) 4) := by
  have hN0 : 0 < w.heap.size := by have := World.block_lt_of_cell? w _ (hT 0 (by omega)); simpa using this
  obtain ⟨i0, hi, hz0, hz1, hz2⟩ := info_parts cinfo5
  obtain ⟨ab, cb, rfl, hcb⟩ := hb.formC
  have hsm := sumV_lt bs
  have hl0 : ([] : List Int).length + bs.length ≤ 1099511627776 := by simp; omega
  go_enter Tryd.func89, Tryd.ntmps89
  go_wp2_with (first | (at_builtin; go_must (refine wpList_app rfl (.tmp 10) (.tmp 11) 33 rfl w.heap.size i0 Tryd.underlying33 hi hz0 hz1 hz2 (.slice (some ⟨w.heap.size, 0, none⟩) 0 (bs.length + 4)) _ 0 [] bs rfl M1.own rfl M2 hl0 M1.N ?_; intro v3 w3 hown hgrow hat; simp only [Nat.zero_add, List.nil_append] at hown; obtain ⟨ht2, hc1, hf1⟩ := M1.pushAt hgrow hown (by simpa using hat); obtain ⟨g, cap, rfl⟩ := cown_slice hown)) | (refine wpList_make_own _ rfl _ (.tmp 6) 33 rfl w.heap.size 5 i0 (.int .u8 0) 1 Tryd.underlying33 hi hz0 hz1 .i64 .i64 _ (bs.length + 4) rfl rfl (by omega) (by rw [hz2]; omega) (by unfold maxLen; omega) (Nat.le_refl _) ?_; intro w1 own1 grow1; obtain ⟨M1, M2, M3⟩ := seal_mid (v := .slice ab bs.length cb) hb own1 grow1))
  have B4 := M3.trans (ht2.belowW M1)
  have a4 := ht2.wr
  have hb4 := hb.under B4
  have T4 := hT.below B4 hN0
  clear hown hgrow hat hc1 hf1 ht2 M1 M2 M3 own1 grow1
  generalize w3.setCell ⟨w1.heap.size, 0, none⟩ (.slice g bs.length cap) = w4 at *
  refine (sum_any _ bs _ hb4 hB T4 (by omega)).mono ?_
  rintro e w5 ⟨he, rfl⟩
  rw [show (4294967295 - crcN 4294967295 bs) = sumV bs from rfl] at he
  subst he
  have HSM : Hid (sumV bs = sumV bs) := rfl
  generalize hq : sumV bs = sm at *
  have HQ : Hid (sumV bs = sm) := hq
  clear hq HSM
  go_wp2_with fail
  refine (u32_any w.heap.size _ sm _ bs _ a4 (by omega)).mono ?_
  rintro e w6 ⟨rfl, v6, h6⟩
  have B6 := B4.trans (h6.belowW a4)
  have c6 := h6.wr.cell
  have F : FreshN N w w6 v6 (bs ++ leTo sm 4) := ⟨own_monoC h6.wr.own hN, Chg.ofBelowC B6, fun k hk => (h6.wr.own.lt k hk).1⟩
  clear B4 a4 hb4 T4 h6 B6
  go_wp2
  go_ret
  rw [HQ.out]
  exact ⟨v6, rfl, F⟩

/-- What Open says of bytes: the body, or the error. -/
def openE (bs : List Int) : Int := if bs.length < 4 then 2 else if valB (bs.drop (bs.length - 4)) ≠ (sumV (bs.take (bs.length - 4)) : Int) then 4 else 0
def openV (bs : List Int) : List Int := if openE bs = 0 then bs.take (bs.length - 4) else []

end Go.Proofs.YtdcmkcplklkfmaaDoor

/-
  Contracts of Seal and Open of package codec.
-/
import Derived.Test.YtbhfmceapffhnaaDoorKRefSum
import Derived.Deep.RegionWith
import Derived.Deep.DrawnRows
namespace Go.Proofs.YtbhfmceapffhnaaDoor
open Go.RowKit
attribute [local go_sem ↓] Go.wp_at_zero Go.wp_at_succ


theorem sumV_lt (bs : List Int) : sumV bs < 4294967296 := by unfold sumV; omega

theorem seal_mid {w w1 : World} {v : Value} {bs : List Int} {n : Nat} (hb : Bs w v bs) (own1 : w1.ownsRow w.heap.size 5 1 (.slice (some ⟨w.heap.size, 0, none⟩) 0 n) 0 []) (grow1 : w.grownBy w1 none) :
    Wr w.heap.size (w1.alloc (.cells #[.slice (some ⟨w.heap.size, 0, none⟩) 0 n] 106)) w1.heap.size (.slice (some ⟨w.heap.size, 0, none⟩) 0 n) [] ∧ Bs (w1.alloc (.cells #[.slice (some ⟨w.heap.size, 0, none⟩) 0 n] 106)) v bs ∧ Below w.heap.size w (w1.alloc (.cells #[.slice (some ⟨w.heap.size, 0, none⟩) 0 n] 106)) := by
  have hB := (Below.ofGrown grow1 (Nat.le_refl _)).alloc grow1.size (.cells #[.slice (some ⟨w.heap.size, 0, none⟩) 0 n] 106)
  refine ⟨⟨grow1.size, heap_alloc_new w1 _, own1.alloc _, ?_⟩, hb.under hB, hB⟩
  have := (own1.lt w.heap.size rfl).2
  simp [Value.ownBlock]
  omega

set_option maxHeartbeats 1600000 in
set_option maxRecDepth 100000 in
theorem seal_any (N : Nat) (v : Value) (bs : List Int) (w : World) (hb : Bs w v bs) (hB : IsB bs) (hT : Tab w) (hN : N ≤ w.heap.size) (hlen : bs.length ≤ 1000000) :
    Calls Tryd.prog 45 #[v] w fun e w' => ∃ u, e = .returned u ∧ FreshN N w w' u (bs ++ leTo (sumV bs) 4) := by
  have hN0 : 0 < w.heap.size := by have := World.block_lt_of_cell? w _ (hT 0 (by omega)); simpa using this
  obtain ⟨i0, hi, hz0, hz1, hz2⟩ := info_parts cinfo5
  obtain ⟨ab, cb, rfl, hcb⟩ := hb.formC
  have hsm := sumV_lt bs
  have hl0 : ([] : List Int).length + bs.length ≤ 1099511627776 := by simp; omega
  go_enter Tryd.func45, Tryd.ntmps45
  go_wp2_with (first | (at_builtin; go_must (refine wpList_app rfl (.tmp 10) (.tmp 11) 52 rfl w.heap.size i0 Tryd.underlying52 hi hz0 hz1 hz2 (.slice (some ⟨w.heap.size, 0, none⟩) 0 (bs.length + 4)) _ 0 [] bs rfl M1.own rfl M2 hl0 M1.N ?_; intro v3 w3 hown hgrow hat; simp only [Nat.zero_add, List.nil_append] at hown; obtain ⟨ht2, hc1, hf1⟩ := M1.pushAt hgrow hown (by simpa using hat); obtain ⟨g, cap, rfl⟩ := cown_slice hown)) | (refine wpList_make_own _ rfl _ (.tmp 6) 52 rfl w.heap.size 5 i0 (.int .u8 0) 1 Tryd.underlying52 hi hz0 hz1 .i64 .i64 _ (bs.length + 4) rfl rfl (by omega) (by rw [hz2]; omega) (by unfold maxLen; omega) (Nat.le_refl _) ?_; intro w1 own1 grow1; obtain ⟨M1, M2, M3⟩ := seal_mid (v := .slice ab bs.length cb) hb own1 grow1))
  have B4 := M3.trans (ht2.belowW M1)
  have a4 := ht2.wr
  have hb4 := hb.under B4
  have T4 := hT.below B4 hN0
  clear hown hgrow hat hc1 hf1 ht2 M1 M2 M3 own1 grow1
  generalize w3.setCell ⟨w1.heap.size, 0, none⟩ (.slice g bs.length cap) = w4 at *
  refine (sum_any _ bs _ hb4 hB T4 (by omega)).mono ?_
  rintro e w5 ⟨he, rfl⟩
  rw [show (4294967295 - crcN 4294967295 bs) = sumV bs from rfl] at he
  subst he
  have HSM : Hid (sumV bs = sumV bs) := rfl
  generalize hq : sumV bs = sm at *
  have HQ : Hid (sumV bs = sm) := hq
  clear hq HSM
  go_wp2_with fail
  refine (u32_any w.heap.size _ sm _ bs _ a4 (by omega)).mono ?_
  rintro e w6 ⟨rfl, v6, h6⟩
  have B6 := B4.trans (h6.belowW a4)
  have c6 := h6.wr.cell
  have F : FreshN N w w6 v6 (bs ++ leTo sm 4) := ⟨own_monoC h6.wr.own hN, Chg.ofBelowC B6, fun k hk => (h6.wr.own.lt k hk).1⟩
  clear B4 a4 hb4 T4 h6 B6
  go_wp2
  go_ret
  rw [HQ.out]
  exact ⟨v6, rfl, F⟩

/-- What Open says of bytes: the body, or the error. -/
def openE (bs : List Int) : Int := if bs.length < 4 then 2 else if valB (bs.drop (bs.length - 4)) ≠ (sumV (bs.take (bs.length - 4)) : Int) then 4 else 0
def openV (bs : List Int) : List Int := if openE bs = 0 then bs.take (bs.length - 4) else []

set_option maxHeartbeats 1600000 in
set_option maxRecDepth 100000 in
theorem open_any (N : Nat) (v : Value) (bs : List Int) (w : World) (hb : Bs w v bs) (hB : IsB bs) (hT : Tab w) (hN : N ≤ w.heap.size) (hlen : bs.length ≤ 1000000) :
    Calls Tryd.prog 50 #[v] w fun e w' => ∃ u, e = .returned (.tuple #[u, .int .i64 (openE bs)]) ∧ FreshN N w w' u (openV bs) := by
  obtain ⟨ab, cb, rfl, hcb⟩ := hb.formC
  by_cases h4 : bs.length < 4
  · have e1 : openE bs = 2 := by simp [openE, h4]
    have e2 : openV bs = [] := by simp [openV, e1]
    rw [e1, e2]
    have k1 : (bs.length : Int) - 4 < 0 := by omega
    clear e1 e2 hb
    go_enter Tryd.func50, Tryd.ntmps50
    go_wp2
    go_ret2
    exact ⟨_, rfl, World.ownsRow_nil _ _ _ _, Chg.refl _ _, fun k hk => by cases hk⟩
  · obtain ⟨n, hn⟩ : ∃ n, bs.length = n + 4 := ⟨bs.length - 4, by omega⟩
    have en : bs.length - 4 = n := by omega
    have hbody : Bs w (.slice ab n n) (bs.take n) := Bs.front hb (by omega)
    have htail : Bs w (.slice (if cb = n then ab else Option.map (fun x => x.add n) ab) (bs.length - n) (cb - n)) (bs.drop n) := by
      by_cases hc : cb = n
      · omega
      · rw [if_neg hc]; exact Bs.rest hb (by omega) hc
    have hcn : ¬ cb = n := by omega
    rw [if_neg hcn] at htail
    have htl : (bs.drop n).length = 4 := by simp; omega
    have e0 : openE bs = if valB (bs.drop n) ≠ (sumV (bs.take n) : Int) then 4 else 0 := by simp [openE, h4, en]
    have hsm := sumV_lt (bs.take n)
    have hvb := valB_bd (bs.drop n) (hB.drop n)
    rw [htl] at hvb
    have hbl : bs.length - n = 4 := by omega
    rw [hbl] at htail
    have g0 : (bs.length : Int) - 4 = (n : Int) := by omega
    have g1 : (n : Int) ≤ (cb : Int) := by omega
    have g2 : (n : Int) ≤ (bs.length : Int) := by omega
    go_enter Tryd.func50, Tryd.ntmps50
    go_wp2_with fail
    refine (number40 _ (bs.drop n) _ htail (hB.drop n) (by omega)).mono ?_
    rintro e w1 ⟨rfl, rfl⟩
    go_wp2_with fail
    refine (sum_any _ (bs.take n) _ hbody (hB.take n) hT (by simp; omega)).mono ?_
    rintro e w2 ⟨he, rfl⟩
    rw [show (4294967295 - crcN 4294967295 (bs.take n)) = sumV (bs.take n) from rfl] at he
    subst he
    have eV0 : openV bs = if openE bs = 0 then bs.take n else [] := by rw [openV, en]
    have HE0 : Hid (openE bs = if valB (bs.drop n) ≠ (sumV (bs.take n) : Int) then 4 else 0) := e0
    have HV0 : Hid (openV bs = if openE bs = 0 then bs.take n else []) := eV0
    have hlt2 : (bs.take n).length ≤ 1099511627776 := by simp; omega
    clear e0 eV0 hb htail htl en hbl
    generalize hx : valB (bs.drop n) = x at *
    generalize hy : sumV (bs.take n) = y at *
    clear hx hy
    by_cases hxy : x = (y : Int)
    · have e1 : openE bs = 0 := by rw [HE0.out]; simp [hxy]
      have e2 : openV bs = bs.take n := by rw [HV0.out, if_pos e1]
      subst hxy
      have HE : Hid (openE bs = 0 ∧ openV bs = bs.take n) := ⟨e1, e2⟩
      clear e1 e2 HE0 HV0
      go_wp2_with fail
      refine (fresh_any N _ (bs.take n) _ hbody hlt2 hN).mono ?_
      rintro e w3 ⟨u3, rfl, F3⟩
      go_wp2
      go_ret2
      rw [HE.out.1, HE.out.2]
      exact ⟨u3, rfl, F3⟩
    · have e1 : openE bs = 4 := by rw [HE0.out]; simp [hxy]
      have e2 : openV bs = [] := by rw [HV0.out, e1]; rfl
      have HE : Hid (openE bs = 4 ∧ openV bs = []) := ⟨e1, e2⟩
      have k9 : (x == (y : Int)) = false := by simpa using hxy
      clear e1 e2 HE0 HV0 hxy
      go_wp2
      go_ret2
      rw [HE.out.1, HE.out.2]
      exact ⟨_, rfl, World.ownsRow_nil _ _ _ _, Chg.refl _ _, fun k hk => by cases hk⟩
end Go.Proofs.YtbhfmceapffhnaaDoor

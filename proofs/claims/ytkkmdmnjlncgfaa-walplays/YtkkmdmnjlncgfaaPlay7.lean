/-
  The acts of a play: Read of the transaction.
-/
import Derived.Test.YtkkmdmnjlncgfaaPlay6
namespace Go.Proofs.Ytkkmdmnjlncgfaa
open Go.RowKit Go.Maps

section
variable {X : Nat → Prop} {w0 w w' : World} {pd pp pl q pr : Nat} {tv : Value} {R : Rf} {lb lc db dc nb nc : Nat} {nv : Value} {f f' : Nat → List Int} {com own com' : Nat → Option (List Int)} {pend wrote N k : Nat} {live : Bool}

theorem Cor.readT (h : Cor R f com pend true own wrote) (ho : ∀ n b, own n = some b → n < 70 ∧ b.length = 512) {n : Nat} (hn : n < 70) : (if (R.W n).toList.isEmpty = true then R.L n else R.W n) = strOf (ovr (ovr f com) own n) := by
  rw [(h.w rfl).1 n hn, wstr_empty _ (fun b e => (ho n b e).2), h.l n hn]
  cases hc : own n with
  | none => rw [ovr_none hc]; rfl
  | some b => rw [ovr_some hc]; rfl
/-- Read of both. -/
theorem tread_both (n : Int) (w1 : World) (h : PlAt X w0 w1 pp pl (.pointer (some ⟨q, 0, none⟩)) pr R lb lc db dc nb nc nv) (ht : TxUp X w0 w1 pd pl q 70 f com pend true own wrote (1000 + 128 * k)) (hc : Cor R f com pend true own wrote) (hw : -9223372036854775808 ≤ n ∧ n ≤ 9223372036854775807) (hk : k < 1000) :
    Calls Try.prog 30 #[.pointer (some ⟨q, 0, none⟩), .int .i64 n] w1 fun e w2 => ∃ ua ul uc E t, e = .returned (.tuple #[.slice ua ul uc, .int .i64 E]) ∧ Hid (Chg (fun _ => False) w1 w2 ∧ (∀ w', Chg (fun _ => False) w2 w' → (convert 39 9 (.slice ua ul uc)).run Try.prog w' = .ok (.string t) w') ∧
      ∀ w', Chg (fun _ => False) w2 w' → Calls Try.prog 47 #[.pointer (some ⟨pr, 0, none⟩), .int .i64 n] w' fun e w3 => e = .returned (.tuple #[.string t, .int .i64 E]) ∧ w3 = w') := by
  by_cases hn : 0 ≤ n ∧ n < 70
  · obtain ⟨m, rfl⟩ : ∃ m : Nat, n = (m : Int) := ⟨n.toNat, by omega⟩
    have hm : m < 70 := by omega
    refine (tread_up m ht hm (by omega)).mono ?_
    rintro e w2 ⟨u, rfl, fr⟩
    have hlen : (ovr (ovr f com) own m).length = 512 := by
      have h0 := ovr_len (tv := .pointer (some ⟨q, 0, none⟩)) (.inr ⟨q, rfl, ht⟩) hm
      unfold ovr at h0 ⊢
      cases hc : own m with
      | none => exact h0
      | some b => exact (ht.lt m b hc).2
    obtain ⟨ua, uc, rfl⟩ := fr.form512 hlen
    refine ⟨ua, 512, uc, 0, strOf (ovr (ovr f com) own m), rfl, fr.chg, fun w' hc' => run_str (fr.bs.kept hc' (fun _ _ _ _ _ h => h)), fun w' hc' => ?_⟩
    refine (rread_any m w' ((h.kept fr.chg).kept hc').rf hm hc.o).mono ?_
    rintro e w3 ⟨rfl, rfl⟩
    rw [hc.readT ht.lt hm]
    exact ⟨rfl, rfl⟩
  · refine (tread_out_up n ht hw hn).mono ?_
    rintro e w2 ⟨rfl, rfl⟩
    refine ⟨none, 0, 0, 1, ByteArray.empty, rfl, Chg.refl _ _, fun w' _ => run_str (xs := []) (.inl ⟨rfl, rfl⟩), fun w' hc' => ?_⟩
    exact rread_out n w' (h.kept hc').rf hn

set_option maxHeartbeats 3200000 in
set_option maxRecDepth 100000 in
theorem pstep_tread (n : Int) (bv : Value) (w : World) (h : Pl w0 w pd pp k) (hk : k < 1000) (hw : -9223372036854775808 ≤ n ∧ n ≤ 9223372036854775807) :
    Calls Try.prog 13 #[.pointer (some ⟨pp, 0, none⟩), .agg #[.int .i64 7, .int .i64 n, bv]] w fun e w' => e = .returned (.bool true) ∧ Pl w0 w' pd pp (k + 1) := by
  have HP : Hid (Pl w0 w pd pp k) := h
  obtain ⟨X, pl, tv, pr, R, lb, lc, db, dc, nb, nc, nv, f, com, pend, live, own, wrote, p1, u1, c1, b1, b2, x1, x2, x3⟩ := h.enter (.cells #[.int .i64 7, .int .i64 n, bv] 41)
  obtain ⟨w1, hw1⟩ : ∃ w1, w.alloc (.cells #[.int .i64 7, .int .i64 n, bv] 41) = w1 := ⟨_, rfl⟩
  have HW : Hid (Chg (fun _ => False) w w1) := by rw [← hw1]; exact Chg.alloc (fun _ => False) w _
  have d1 := p1.c1
  have d2 := p1.c2
  have e3 := p1.rf.c3
  have HW1 : Hid (w.alloc (.cells #[.int .i64 7, .int .i64 n, bv] 41) = w1) := hw1
  have cN : w1.cell? ⟨w.heap.size, 1, none⟩ = some (.int .i64 n) := by rw [← hw1, cell_of_row _ _ 1 _ _ _ (heap_alloc_new w _)]; rfl
  rw [hw1] at p1 u1
  have HQ0 : Hid (∀ w', Chg (fun _ => False) w1 w' → Pl w0 w' pd pp (k + 1)) := fun w' hc => (HP.out.more (HW.out.trans hc (fun _ _ h => h))).up (by omega)
  clear h HP HW hw1 b1 b2 x1 x2 x3
  rcases u1 with ⟨rfl, e, l1⟩ | ⟨q, rfl, t1⟩
  · have hq := neqT_nn
    clear p1 l1 c1 cN e3 d2
    go_enter Try.func13, Try.ntmps13
    go_wp2
    go_ret
    rw [HW1.out]
    exact ⟨rfl, HQ0.out _ (Chg.refl _ _)⟩
  · have hq := neqT_some ⟨q, 0, none⟩
    cases live with
    | false =>
      rw [c1.o] at e3
      clear p1 t1 c1 cN
      go_enter Try.func13, Try.ntmps13
      go_wp2
      go_ret
      rw [HW1.out]
      exact ⟨rfl, HQ0.out _ (Chg.refl _ _)⟩
    | true =>
      rw [c1.o] at e3
      have kd := Chg.drew (fun _ => False) w1
      have TR : Hid _ := tread_both n w1.drew (p1.kept kd) (t1.more kd) c1 hw hk
      have HK : Hid (PlAt X w0 w1 pp pl (.pointer (some ⟨q, 0, none⟩)) pr R lb lc db dc nb nc nv ∧ TxUp X w0 w1 pd pl q 70 f com pend true own wrote (1000 + 128 * k) ∧ R.wrote = wrote) := ⟨p1, t1, (c1.w rfl).2⟩
      clear p1 t1 c1 kd
      go_enter Try.func13, Try.ntmps13
      go_wp2_with fail
      rw [HW1.out]
      rw [HW1.out] at d1 d2 e3
      clear e3
      go_region_held (fun w' => w'.cell? ⟨pp, 1, none⟩ = some (.pointer (some ⟨q, 0, none⟩)) ∧ w'.cell? ⟨w.heap.size, 1, none⟩ = some (.int .i64 n))
        (first | assumption | exact ⟨d1, cN⟩ | exact ⟨(HT.out.1).cell d1 (fun h => h), (HT.out.1).cell cN (fun h => h)⟩)
        (first | (go_at_call 30; refine (show Calls _ _ _ _ _ from TR.out).mono ?_; clear TR; rintro e w2 ⟨ua, ul, uc, E, t, rfl, HT⟩))
      have hch : Chg (fun _ => False) w1 w2 := (Chg.drew (fun _ => False) w1).trans HT.out.1 (fun _ _ h => h)
      have p2 := HK.out.1.kept hch
      have g1 := p2.c1
      have g2 := p2.c2
      have g5 := p2.rf.c5
      rw [HK.out.2.2] at g5
      have gN := hch.cell cN (fun h => h)
      have k1 := Chg.drew (fun _ => False) w2
      have k2 := k1.trans (Chg.drew (fun _ => False) w2.drew) (fun _ _ h => h)
      have RR : Hid _ := HT.out.2.2 w2.drew k1
      have s1 := HT.out.2.1 w2.drew.drew k2
      have WR : Hid _ := twrites_up ((HK.out.2.1.more hch).more k2)
      have HQ : Hid (Pl w0 w2.drew.drew pd pp (k + 1)) := HQ0.out _ (hch.trans k2 (fun _ _ h => h))
      have hse := str_same t
      clear HT HK p2 hch k1 k2 cN d1 d2 HQ0 HW1
      go_wp2_with fail
      go_region_held (fun w' => w'.cell? ⟨pp, 2, none⟩ = some (.pointer (some ⟨pr, 0, none⟩)) ∧ w'.cell? ⟨w.heap.size, 1, none⟩ = some (.int .i64 n))
        (first | assumption | exact ⟨g2, gN⟩)
        (first | (go_at_call 47; refine (show Calls _ _ _ _ _ from RR.out).mono ?_; clear RR; rintro e w3 ⟨rfl, rfl⟩))
      go_wp2_with fail
      go_region_held (fun w' => (convert 39 9 (.slice ua ul uc)).run Try.prog w' = .ok (.string t) w' ∧ w'.cell? ⟨pp, 1, none⟩ = some (.pointer (some ⟨q, 0, none⟩)) ∧ w'.cell? ⟨pp, 2, none⟩ = some (.pointer (some ⟨pr, 0, none⟩)) ∧ w'.cell? ⟨pr, 5, none⟩ = some (.int .i64 (wrote : Int)))
        (first | assumption | exact ⟨s1, g1, g2, g5⟩)
        (first | (go_at_call 31; refine (show Calls _ _ _ _ _ from WR.out).mono ?_; clear WR; rintro e w3 ⟨rfl, rfl⟩))
      all_goals
        go_wp2
        go_ret
        exact ⟨rfl, HQ.out⟩
end
end Go.Proofs.Ytkkmdmnjlncgfaa

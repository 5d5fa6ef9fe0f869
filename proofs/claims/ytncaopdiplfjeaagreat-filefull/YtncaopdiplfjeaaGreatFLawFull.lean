/-
  FileFull answers true for every two numbers.
-/
import Derived.Test.YtncaopdiplfjeaaGreatFPre
import Derived.Test.YtncaopdiplfjeaaGreatFAll
import Derived.Test.YtncaopdiplfjeaaGreatFTimes
namespace Go.Proofs.YtncaopdiplfjeaaGreat
open Go.RowKit Go.Maps

set_option maxRecDepth 100000 in
set_option maxHeartbeats 6400000 in
theorem law_full (blocks first : Int) (w : World) :
    Calls Tryz.prog 4 #[.int .i64 blocks, .int .i64 first] w fun e w' => e = .returned (.bool true) ∧ Chg (fun _ => False) w w' := by
  have KN : Hid (Calls Tryz.prog 8 #[] w fun e w' => e = .returned (.bool true) ∧ Hid (Chg (fun _ => False) w w')) := (known_any w).mono (by rintro e w' ⟨rfl, h⟩; exact ⟨rfl, h⟩)
  by_cases g1 : blocks < 1
  · have k1 : decide (blocks < 1) = true := by simpa using g1
    go_enter Tryz.func4, Tryz.ntmps4
    go_wp2_with fail
    refine KN.out.mono ?_
    rintro e w1 ⟨rfl, HC⟩
    go_wp2
    go_ret
    exact ⟨rfl, HC.out⟩
  have k1 : decide (blocks < 1) = false := by simpa using g1
  by_cases g2 : 60 < blocks
  · have k2 : decide (60 < blocks) = true := by simpa using g2
    go_enter Tryz.func4, Tryz.ntmps4
    go_wp2_with fail
    refine KN.out.mono ?_
    rintro e w1 ⟨rfl, HC⟩
    go_wp2
    go_ret
    exact ⟨rfl, HC.out⟩
  have k2 : decide (60 < blocks) = false := by simpa using g2
  by_cases g3 : first < 0
  · have k3 : decide (first < 0) = true := by simpa using g3
    go_enter Tryz.func4, Tryz.ntmps4
    go_wp2_with fail
    refine KN.out.mono ?_
    rintro e w1 ⟨rfl, HC⟩
    go_wp2
    go_ret
    exact ⟨rfl, HC.out⟩
  have k3 : decide (first < 0) = false := by simpa using g3
  by_cases g4 : 4096 < first
  · have k4 : decide (4096 < first) = true := by simpa using g4
    go_enter Tryz.func4, Tryz.ntmps4
    go_wp2_with fail
    refine KN.out.mono ?_
    rintro e w1 ⟨rfl, HC⟩
    go_wp2
    go_ret
    exact ⟨rfl, HC.out⟩
  have k4 : decide (4096 < first) = false := by simpa using g4
  obtain ⟨n, rfl⟩ : ∃ n : Nat, blocks = (n : Int) := ⟨blocks.toNat, by omega⟩
  obtain ⟨S, rfl⟩ : ∃ S : Nat, first = (S : Int) := ⟨first.toNat, by omega⟩
  have n1 : 1 ≤ n := by omega
  have n2 : n ≤ 60 := by omega
  have s1 : S ≤ 4096 := by omega
  have K1 : ¬ (n < 1) := by omega
  have K2 : ¬ (60 < n) := by omega
  have K4 : ¬ (4096 < S) := by omega
  have D1 : decide (n < 1) = false := by simp; omega
  have D2 : decide (60 < n) = false := by simp; omega
  have D4 : decide (4096 < S) = false := by simp; omega
  obtain ⟨oz, hmk, hbz⟩ := makeNc S (by omega)
  have MD : Hid (∀ w1, Calls Tryz.prog 10 #[.int .i64 (n : Int)] w1 fun e w' => ∃ bb pl, e = .returned (.pointer (some ⟨bb, 0, none⟩)) ∧ w'.cell? ⟨bb, 0, none⟩ = some (.pointer (some ⟨pl, 0, none⟩)) ∧
      Hid (Calls Tryz.prog 11 #[.pointer (some ⟨pl, 0, none⟩)] w' fun e w2 => ∃ q X, e = .returned (.tuple #[.pointer (some ⟨q, 0, none⟩), .int .i64 0]) ∧ Hid (Tp X w1 bb pl q n ndK [] w2) ∧ Hid (X bb))) := fun w1 => by
    refine (made_any n w1 n1 (by omega)).mono ?_
    rintro e w' ⟨X, bb, pd, pl, pr, g, V, rfl, hmd, _⟩
    refine ⟨bb, pl, rfl, by rw [cell_of_row _ _ _ _ _ _ hmd.bx]; rfl, ?_⟩
    refine (tp_begin hmd n1 (by omega) (Nd.free_kind 1)).mono ?_
    rintro e w2 ⟨q, rfl, h⟩
    exact ⟨q, X, rfl, h, hmd.x.1⟩
  clear g1 g2 g3 g4
  go_enter Tryz.func4, Tryz.ntmps4
  go_wp2_with fail
  refine KN.out.mono ?_
  clear KN
  rintro e w1 ⟨rfl, HC⟩
  go_wp2_with fail
  refine (show Calls _ _ _ _ _ from MD.out w1).mono ?_
  clear MD k1 k2 k3 k4 K1 K2 K4 D1 D2 D4
  rintro e w2 ⟨bb, pl, rfl, c0, BG⟩
  have hq1 := eqB_some ⟨bb, 0, none⟩
  go_wp2_with fail
  refine (show Calls _ _ _ _ _ from BG.out).mono ?_
  clear BG
  rintro e w3 ⟨q, X, rfl, HT, HXB⟩
  obtain ⟨pr, hb3⟩ := HT.out.bx
  have d0 : w3.cell? ⟨bb, 1, none⟩ = some (.int .i64 0) := by rw [cell_of_row _ _ _ _ _ _ hb3]; rfl
  have d1 : w3.cell? ⟨bb, 2, none⟩ = some (.int .i64 1) := by rw [cell_of_row _ _ _ _ _ _ hb3]; rfl
  have d2 : w3.cell? ⟨bb, 3, none⟩ = some (.int .i64 (n : Int)) := by rw [cell_of_row _ _ _ _ _ _ hb3]; rfl
  have hq2 := eqT_some ⟨q, 0, none⟩
  have hbb3 : bb < w3.heap.size := lt_of_block hb3
  have HB3 : Hid (w3.heap[bb]? = some (.cells #[.pointer (some ⟨pl, 0, none⟩), .int .i64 0, .int .i64 1, .int .i64 (n : Int), .pointer (some ⟨pr, 0, none⟩)] 45 (0, 0))) := hb3
  clear hb3 c0
  obtain ⟨ec, HEC⟩ : ∃ ec : Int, Hid ((allM (blkC S) ≤ n → ec = 0) ∧ (n < allM (blkC S) → ec = 7)) := by
    by_cases h : allM (blkC S) ≤ n
    · exact ⟨0, fun _ => rfl, fun h' => absurd h (by omega)⟩
    · exact ⟨7, fun h' => absurd h' h, fun _ => rfl⟩
  have AP : Hid (∀ wb u, Chg (fun _ => False) w3 wb → Bs wb u (zeros S) → (∀ g, u.ownBlock = some g → w3.heap.size ≤ g ∧ g < wb.heap.size) → Calls Tryz.prog 17 #[.pointer (some ⟨q, 0, none⟩), PV 0 1 n, ndK.v, u] wb fun e w5 => ∃ nd', e = .returned (.tuple #[nd'.v, .int .i64 ec]) ∧ bb < w5.heap.size ∧ w5.heap[bb]? = w3.heap[bb]? ∧ Hid (Ret w3 wb w5 (fun _ w6 => (allM (blkC S) ≤ n → Tp X w1 bb pl q n nd' (zeros S) w6) ∧ (n < allM (blkC S) → Tp X w1 bb pl q n ndK [] w6) ∧ w6.heap[bb]? = w3.heap[bb]?))) := fun wb u hc hb hub => by
    have hxb : X bb := HXB.out
    by_cases hfit : allM (blkC S) ≤ n
    · obtain rfl := HEC.out.1 hfit
      refine (tp_box HT.out (by simp [zeros_len]; omega) (isBy_zeros S) (by simpa [zeros_len] using hfit) (by simp only [zeros_len, List.length_nil, Nat.zero_add]; omega) u hc hb (fun g hg _ => .inr (hub g hg))).mono ?_
      rintro e w5 ⟨nd', rfl, hr, hsz, hs5⟩
      have h5 := hs5 bb hxb
      refine ⟨nd', rfl, lt_of_block (h5.trans HB3.out), h5, ⟨hr.keep, fun w6 r h1 h2 c6 => ?_, fun w6 r h1 h2 c6 => ?_⟩⟩
      · have := hr.old w6 r h1 h2 c6
        exact ⟨fun _ => by simpa using this.1.less (fun k hk => .inl hk), fun h => absurd hfit (by omega), this.2 bb hxb⟩
      · have := hr.new w6 r h1 h2 c6
        exact ⟨fun _ => by simpa using this.1.less (fun k hk => .inl hk), fun h => absurd hfit (by omega), this.2 bb hxb⟩
    · obtain rfl := HEC.out.2 (by omega)
      refine (tp_full u (HT.out.more hc) (by simp [zeros_len]; omega) hb (by simp only [zeros_len, List.length_nil, Nat.zero_add]; omega) (by show allM (blkC 0) ≤ n; simp [allM, innM, blkC])).mono ?_
      rintro e w5 ⟨rfl, hc5⟩
      have h35 := hc.trans hc5 (fun _ _ h => h)
      refine ⟨Nd.no, rfl, by have := h35.size; omega, h35.block bb hbb3 (fun h => h), Ret.none hc hc5 (fun w6 _ _ _ c6 => ⟨fun h => absurd h hfit, fun _ => HT.out.more c6, c6.block bb hbb3 (fun h => h)⟩)⟩
  unfold PV at AP
  simp only [Nd.v] at AP
  have hne3 : ¬ w3.heap.size = bb := by omega
  have hne4 : ¬ w3.heap.size + 1 = bb := by omega
  clear hbb3
  go_wp2_with fail
  go_cut [8, 9] (fun x8 x9 wc => ∃ r nd', x8 = .pointer (some ⟨r, 0, none⟩) ∧ x9 = .int .i64 ec ∧ NdB 29 wc r nd' ∧ Hid ((allM (blkC S) ≤ n → Tp X w1 bb pl q n nd' (zeros S) wc) ∧ (n < allM (blkC S) → Tp X w1 bb pl q n ndK [] wc) ∧ wc.heap[bb]? = w3.heap[bb]?))
  case first =>
    go_region_held (fun w' => w'.cell? ⟨bb, 1, none⟩ = some (.int .i64 0) ∧ w'.cell? ⟨bb, 2, none⟩ = some (.int .i64 1) ∧ w'.cell? ⟨bb, 3, none⟩ = some (.int .i64 (n : Int))) (go_keep) ((go_at_call 17; refine (AP.out _ _ (by (repeat first | exact Chg.refl _ _ | with_reducible apply Chg.dr | with_reducible apply Chg.al)) (hbz _ _ (by (repeat first | with_reducible exact heap_new' (by simp) | with_reducible apply hn_dr | with_reducible apply hn_al))) (by intro g hg; simp [Value.ownBlock] at hg; subst hg; constructor <;> first | omega | (simp; done) | (simp; omega))).mono ?_; rintro e w5 ⟨⟨kd, lk, zz, e0, e1, e2, e3, e4, e5, e6, e7, on, tw⟩, rfl, hb5, hs5, HR⟩; have hs5' := hs5.trans HB3.out; have g0 : w5.cell? ⟨bb, 1, none⟩ = some (.int .i64 0) := (by rw [cell_of_row _ _ _ _ _ _ hs5']; rfl); have g1 : w5.cell? ⟨bb, 2, none⟩ = some (.int .i64 1) := (by rw [cell_of_row _ _ _ _ _ _ hs5']; rfl); have g2 : w5.cell? ⟨bb, 3, none⟩ = some (.int .i64 (n : Int)) := (by rw [cell_of_row _ _ _ _ _ _ hs5']; rfl); have hne5 : ¬ w5.heap.size = bb := (by omega); clear hb5 hs5 hs5'; first | ((with_reducible have hnc := Ret.shA (oz := oz) HR.out); obtain ⟨r0, r1, r2, r3, r4, r5, r6, r7, r8, r9, r10, r11, r12⟩ := hnc.at; have fr5 := hnc.fr; simp only [Nd.no] at r0 r1 r2 r3 r4 r5 r6 r7 r8 r9 r10 r11 r12; have hpt := Ret.put HR.out hnc (by omega) (by first | (simp; done) | (simp; omega)) ⟨kd, lk, zz, e0, e1, e2, e3, e4, e5, e6, e7, on, tw⟩; have HPT : Hid _ := hpt; clear hpt hnc) | ((with_reducible have hnc := Ret.shB (oz := oz) HR.out); obtain ⟨r0, r1, r2, r3, r4, r5, r6, r7, r8, r9, r10, r11, r12⟩ := hnc.at; have fr5 := hnc.fr; simp only [Nd.no] at r0 r1 r2 r3 r4 r5 r6 r7 r8 r9 r10 r11 r12; have hpt := Ret.put HR.out hnc (by omega) (by first | (simp; done) | (simp; omega)) ⟨kd, lk, zz, e0, e1, e2, e3, e4, e5, e6, e7, on, tw⟩; have HPT : Hid _ := hpt; clear hpt hnc) | skip))
    · go_wp2_with fail
      obtain ⟨P1, P2⟩ := Ret.box1 (m := ⟨kd, lk, zz, e0, e1, e2, e3, e4, e5, e6, e7, on, tw⟩) HR.out
      go_meet
      exact ⟨_, _, rfl, rfl, P1, P2⟩
    all_goals
      go_wp2_with fail
      obtain ⟨P1, P2⟩ := HPT.out
      unfold putNd at P1 P2
      simp only at P1 P2
      go_meet
      exact ⟨_, _, rfl, rfl, P1, P2⟩
  case rest =>
    obtain ⟨r, ⟨kd, lk, zz, e0, e1, e2, e3, e4, e5, e6, e7, on, tw⟩, rfl, rfl, hn5, HQ⟩ := hcut
    clear AP hmk hbz hne3 hne4 d0 d1 d2 hq2
    have hb5 := HQ.out.2.2.trans HB3.out
    have hbb5 := lt_of_block hb5
    obtain ⟨A, hA⟩ : ∃ A, allM (blkC S) = A := ⟨_, rfl⟩
    rw [hA] at HQ HEC
    have AL : Hid (∀ wx : World, Calls Tryz.prog 18 #[.int .i64 (S : Int)] wx fun e w' => e = .returned (.int .i64 (A : Int)) ∧ Hid (Chg (fun _ => False) wx w')) := fun wx => by
      refine (all_any (S : Int) wx).mono ?_
      rintro e w' ⟨rfl, hc⟩
      exact ⟨by rw [(allN_blk (s := S) (by omega)).1, hA], hc⟩
    by_cases hfit : A ≤ n
    · obtain rfl := HEC.out.1 hfit
      have HT5 := HQ.out.1 hfit
      have k1 : ¬ (n < A) := by omega
      have k2 : decide (n < A) = false := by simp; omega
      clear HQ HEC HT
      go_wp2_with fail
      refine (show Calls _ _ _ _ _ from AL.out _).mono ?_
      rintro e w6 ⟨rfl, HC6⟩
      have HT6 : Hid (Tp X w1 bb pl q n ⟨kd, lk, zz, e0, e1, e2, e3, e4, e5, e6, e7, on, tw⟩ (zeros S) w6) := HT5.more HC6.out
      have HN6 : Hid (NdB 29 w6 r ⟨kd, lk, zz, e0, e1, e2, e3, e4, e5, e6, e7, on, tw⟩) := hn5.kept HC6.out (fun h => h)
      have HB6 : Hid _ := (HC6.out.block bb hbb5 (fun h => h)).trans hb5
      have HSA : Hid (allM (blkC S) ≤ n) := by rw [hA]; exact hfit
      have AL2 : Hid (∀ (m : Nat) (z : Int) (wx : World), z = (m : Int) → m ≤ 100000 → Calls Tryz.prog 18 #[.int .i64 z] wx fun e w' => e = .returned (.int .i64 ((allM (blkC m) : Nat) : Int)) ∧ Hid (Chg (fun _ => False) wx w')) := fun m z wx hz hm => by
        subst hz
        refine (all_any (m : Int) wx).mono ?_
        rintro e w' ⟨rfl, hc⟩
        exact ⟨by rw [(allN_blk (s := m) (by omega)).1], hc⟩
      clear AL HT5 hn5 hb5 hbb5 HC6 hA hfit
      go_wp2
      clear k1 k2
      go_loopw [12] (fun x wr => ∃ m, x = .int .i64 ((m : Nat) : Int) ∧ m ≤ 31000 ∧ Hid (S ≤ m ∧ allM (blkC m) ≤ n ∧ Chg (fun _ => False) w6 wr)) (fun x _ => 40000 - (intOf x).toNat)
      case atStart => exact ⟨S, rfl, by omega, Nat.le_refl _, HSA.out, Chg.refl _ _⟩
      case round =>
        obtain ⟨m, rfl, hm, HM⟩ := hrel
        obtain ⟨A2, hA2⟩ : ∃ A2, allM (blkC (m + 512)) = A2 := ⟨_, rfl⟩
        have ALm : Hid _ := AL2.out (m + 512) ((m : Int) + 512) wr (by omega) (by omega)
        rw [hA2] at ALm
        have hg2 : blkC (m + 512) ≤ allM (blkC (m + 512)) := by unfold allM; omega
        by_cases h2 : A2 ≤ n
        · have k2 : decide (A2 ≤ n) = true := by simpa using h2
          have HM2 : Hid (m + 512 ≤ 31000 ∧ allM (blkC (m + 512)) ≤ n) := ⟨by unfold blkC at *; omega, by omega⟩
          clear hg2 hA2
          go_wp2_with fail
          refine (show Calls _ _ _ _ _ from ALm.out).mono ?_
          clear ALm
          rintro e w7 ⟨rfl, HC7⟩
          go_wp2
          go_roundw
          case rel => exact ⟨m + 512, by go_num, HM2.out.1, by have := HM.out.1; omega, HM2.out.2, HM.out.2.2.trans HC7.out (fun _ _ h => h)⟩
          case measure => simp [intOf]; omega
        · have k2 : decide (A2 ≤ n) = false := by simpa using h2
          have hgM : allM (blkC m) ≤ n := HM.out.2.1
          have hgB : blkC m ≤ allM (blkC m) := by unfold allM; omega
          obtain ⟨Mb, hMb⟩ : ∃ Mb, 512 * blkC m = Mb := ⟨_, rfl⟩
          have hSM : S ≤ m := HM.out.1
          have hq1 : ((m : Int) + 511) / 512 * 512 = (Mb : Int) := by rw [← hMb]; unfold blkC; omega
          have hmb : m ≤ Mb := by rw [← hMb]; unfold blkC; omega
          have hMb2 : Mb ≤ 30720 := by omega
          obtain ⟨Z2, hZ2⟩ : ∃ Z2, Mb - S + 1 = Z2 := ⟨_, rfl⟩
          have hz2 : (Mb : Int) - (S : Int) + 1 = (Z2 : Int) := by omega
          have hwA : IntKind.i64.wrap ((Mb : Int) - (S : Int)) = (Mb : Int) - (S : Int) := by rw [IntKind.wrap_i64]; omega
          have hwB : IntKind.i64.wrap ((Mb : Int) - (S : Int) + 1) = (Z2 : Int) := by rw [IntKind.wrap_i64]; omega
          have hwC : IntKind.i64.wrap (Z2 : Int) = (Z2 : Int) := by rw [IntKind.wrap_i64]; omega
          have HBL : Hid (S + Z2 = Mb + 1 ∧ allM (blkC (Mb + 1)) = A2 ∧ Z2 ≤ 40000 ∧ n < A2) := ⟨by omega, by rw [← hA2, ← hMb]; congr 1; unfold blkC; omega, by omega, by omega⟩
          obtain ⟨oz2, hmk, hbz⟩ := makeNc Z2 (by omega)
          have HCR : Hid (Chg (fun _ => False) w6 wr) := HM.out.2.2
          have hn2 : n < A2 := by omega
          have k3 : decide (n < A2) = true := by simpa using hn2
          clear hg2 hgM hgB hMb hZ2 HM hm hSM hmb hA2
          go_wp2_with fail
          refine (show Calls _ _ _ _ _ from ALm.out).mono ?_
          clear ALm
          rintro e w7 ⟨rfl, HC7⟩
          have hc67 := HCR.out.trans HC7.out (fun _ _ h => h)
          have hT7 := HT6.out.more hc67
          have hn7 := HN6.out.kept hc67 (fun h => h)
          have hb7 := (hc67.block bb (lt_of_block HB6.out) (fun h => h)).trans HB6.out
          obtain ⟨ob, hob⟩ : ∃ ob : Obj, (Obj.cells #[.pointer (some ⟨pl, 0, none⟩), .int .i64 0, .int .i64 1, .int .i64 (n : Int), .pointer (some ⟨pr, 0, none⟩)] 45 (0, 0)) = ob := ⟨_, rfl⟩
          obtain ⟨orx, horx⟩ : ∃ orx : Obj, (Obj.cells #[.int .i64 kd, .int .i64 lk, .int .i64 zz, .int .i64 e0, .int .i64 e1, .int .i64 e2, .int .i64 e3, .int .i64 e4, .int .i64 e5, .int .i64 e6, .int .i64 e7, .int .i64 on, .int .i64 tw] 29 (0, 0)) = orx := ⟨_, rfl⟩
          have kb4 : w7.heap[bb]? = some ob := hb7.trans (by rw [hob])
          have kr4 : w7.heap[r]? = some orx := hn7.trans (by rw [horx])
          have HOR : Hid (∀ wx : World, wx.heap[r]? = some orx → NdB 29 wx r ⟨kd, lk, zz, e0, e1, e2, e3, e4, e5, e6, e7, on, tw⟩) := fun wx h => by rw [← horx] at h; exact h
          have HS : ∀ w' : World, w'.heap[bb]? = some ob → w'.heap[r]? = some orx → w'.cell? ⟨bb, 1, none⟩ = some (.int .i64 0) ∧ w'.cell? ⟨bb, 2, none⟩ = some (.int .i64 1) ∧ w'.cell? ⟨bb, 3, none⟩ = some (.int .i64 (n : Int)) ∧ w'.cell? ⟨r, 0, none⟩ = some (.int .i64 kd) ∧ w'.cell? ⟨r, 1, none⟩ = some (.int .i64 lk) ∧ w'.cell? ⟨r, 2, none⟩ = some (.int .i64 zz) ∧ w'.cell? ⟨r, 3, none⟩ = some (.int .i64 e0) ∧ w'.cell? ⟨r, 4, none⟩ = some (.int .i64 e1) ∧ w'.cell? ⟨r, 5, none⟩ = some (.int .i64 e2) ∧ w'.cell? ⟨r, 6, none⟩ = some (.int .i64 e3) ∧ w'.cell? ⟨r, 7, none⟩ = some (.int .i64 e4) ∧ w'.cell? ⟨r, 8, none⟩ = some (.int .i64 e5) ∧ w'.cell? ⟨r, 9, none⟩ = some (.int .i64 e6) ∧ w'.cell? ⟨r, 10, none⟩ = some (.int .i64 e7) ∧ w'.cell? ⟨r, 11, none⟩ = some (.int .i64 on) ∧ w'.cell? ⟨r, 12, none⟩ = some (.int .i64 tw) := fun w' h1 h2 => by
            subst hob horx
            have hn : NdAt w' r ⟨kd, lk, zz, e0, e1, e2, e3, e4, e5, e6, e7, on, tw⟩ := NdAt.ofBlk h2
            exact ⟨by rw [cell_of_row _ _ _ _ _ _ h1]; rfl, by rw [cell_of_row _ _ _ _ _ _ h1]; rfl, by rw [cell_of_row _ _ _ _ _ _ h1]; rfl, hn.c0, hn.c1, hn.c2, hn.c3, hn.c4, hn.c5, hn.c6, hn.c7, hn.c8, hn.c9, hn.c10, hn.c11, hn.c12⟩
          have hbb7 := lt_of_block kb4
          have hr7 := lt_of_block kr4
          have AP : Hid (∀ wb u, Chg (fun _ => False) w7 wb → Bs wb u (zeros Z2) → Calls Tryz.prog 17 #[.pointer (some ⟨q, 0, none⟩), PV 0 1 n, Nd.v ⟨kd, lk, zz, e0, e1, e2, e3, e4, e5, e6, e7, on, tw⟩, u] wb fun e w5 => e = .returned (.tuple #[Nd.no.v, .int .i64 7]) ∧ w5.heap[bb]? = some ob ∧ w5.heap[r]? = some orx ∧ Hid (Ret w7 wb w5 (fun _ w8 => Tp X w1 bb pl q n ⟨kd, lk, zz, e0, e1, e2, e3, e4, e5, e6, e7, on, tw⟩ (zeros S) w8 ∧ w8.heap[r]? = some orx))) := fun wb u hc hb => by
            have hbl := HBL.out
            refine (tp_full u (hT7.more hc) (by simp only [zeros_len]; omega) hb (by simp only [zeros_len]; rw [hbl.1, hbl.2.1]; exact hbl.2.2.2) (by simp only [zeros_len]; exact HSA.out)).mono ?_
            rintro e w5 ⟨rfl, hc5⟩
            have h75 := hc.trans hc5 (fun _ _ h => h)
            exact ⟨rfl, (h75.block bb hbb7 (fun h => h)).trans kb4, (h75.block r hr7 (fun h => h)).trans kr4, Ret.none hc hc5 (fun w8 _ _ _ c8 => ⟨hT7.more c8, (c8.block r hr7 (fun h => h)).trans kr4⟩)⟩
          have hne1 : ¬ w7.heap.size = bb := by omega
          have hne2 : ¬ w7.heap.size + 1 = bb := by omega
          have hne3 : ¬ w7.heap.size = r := by omega
          have hne4 : ¬ w7.heap.size + 1 = r := by omega
          unfold PV at AP
          simp only [Nd.v, Nd.no] at AP
          clear hc67 hT7 hn7 hb7 hob horx hbb7 hr7 HC7 HT6 HN6 HB6 HCR
          go_wp2_with fail
          go_cut [14] (fun x14 wc => x14 = .int .i64 7 ∧ Hid (Tp X w1 bb pl q n ⟨kd, lk, zz, e0, e1, e2, e3, e4, e5, e6, e7, on, tw⟩ (zeros S) wc ∧ wc.heap[r]? = some orx))
          case first =>
            go_region_held (fun w' => w'.cell? ⟨bb, 1, none⟩ = some (.int .i64 0) ∧ w'.cell? ⟨bb, 2, none⟩ = some (.int .i64 1) ∧ w'.cell? ⟨bb, 3, none⟩ = some (.int .i64 (n : Int)) ∧ w'.cell? ⟨r, 0, none⟩ = some (.int .i64 kd) ∧ w'.cell? ⟨r, 1, none⟩ = some (.int .i64 lk) ∧ w'.cell? ⟨r, 2, none⟩ = some (.int .i64 zz) ∧ w'.cell? ⟨r, 3, none⟩ = some (.int .i64 e0) ∧ w'.cell? ⟨r, 4, none⟩ = some (.int .i64 e1) ∧ w'.cell? ⟨r, 5, none⟩ = some (.int .i64 e2) ∧ w'.cell? ⟨r, 6, none⟩ = some (.int .i64 e3) ∧ w'.cell? ⟨r, 7, none⟩ = some (.int .i64 e4) ∧ w'.cell? ⟨r, 8, none⟩ = some (.int .i64 e5) ∧ w'.cell? ⟨r, 9, none⟩ = some (.int .i64 e6) ∧ w'.cell? ⟨r, 10, none⟩ = some (.int .i64 e7) ∧ w'.cell? ⟨r, 11, none⟩ = some (.int .i64 on) ∧ w'.cell? ⟨r, 12, none⟩ = some (.int .i64 tw)) (exact HS _ (by (repeat' first | with_reducible assumption | with_reducible apply hn_dr | with_reducible apply hn_al | with_reducible apply hn_set)) (by (repeat' first | with_reducible assumption | with_reducible apply hn_dr | with_reducible apply hn_al | with_reducible apply hn_set))) ((go_at_call 17; refine (AP.out _ _ (by (repeat first | exact Chg.refl _ _ | with_reducible apply Chg.dr | with_reducible apply Chg.al)) (hbz _ _ (by (repeat first | with_reducible exact heap_new' (by simp) | with_reducible apply hn_dr | with_reducible apply hn_al)))).mono ?_; rintro e w5 ⟨rfl, kb5, kr5, HR⟩; have hne5 : ¬ w5.heap.size = bb := (by have := lt_of_block kb5; omega); have hne6 : ¬ w5.heap.size = r := (by have := lt_of_block kr5; omega); first | ((with_reducible have hnc := Ret.shA (oz := oz2) HR.out); obtain ⟨r0, r1, r2, r3, r4, r5, r6, r7, r8, r9, r10, r11, r12⟩ := hnc.at; have fr5 := hnc.fr; simp only [Nd.no] at r0 r1 r2 r3 r4 r5 r6 r7 r8 r9 r10 r11 r12; have hpt := Ret.put HR.out hnc (by omega) (by first | (simp; done) | (simp; omega)) Nd.no; have HPT : Hid _ := hpt; clear hpt hnc) | ((with_reducible have hnc := Ret.shB (oz := oz2) HR.out); obtain ⟨r0, r1, r2, r3, r4, r5, r6, r7, r8, r9, r10, r11, r12⟩ := hnc.at; have fr5 := hnc.fr; simp only [Nd.no] at r0 r1 r2 r3 r4 r5 r6 r7 r8 r9 r10 r11 r12; have hpt := Ret.put HR.out hnc (by omega) (by first | (simp; done) | (simp; omega)) Nd.no; have HPT : Hid _ := hpt; clear hpt hnc) | skip))
            · go_wp2_with fail
              obtain ⟨P1, P2⟩ := Ret.box1 (m := Nd.no) HR.out
              simp only [Nd.no, Nd.o] at P2
              go_meet
              exact ⟨rfl, P2⟩
            all_goals
              go_wp2_with fail
              obtain ⟨P1, P2⟩ := HPT.out
              unfold putNd at P2
              simp only [Nd.no] at P2
              go_meet
              exact ⟨rfl, P2⟩
          case rest =>
            obtain ⟨rfl, HQ⟩ := hcut
            have ALn : Hid _ := AL2.out (Mb + 1) ((Mb : Int) + 1) wc (by omega) (by omega)
            rw [HBL.out.2.1] at ALn
            have RD : Hid (∀ wx, Chg (fun _ => False) wc wx → Calls Tryz.prog 19 #[tI q, Nd.v ⟨kd, lk, zz, e0, e1, e2, e3, e4, e5, e6, e7, on, tw⟩, .int .i64 0, .int .i64 ((S : Int) + 9)] wx fun e w' => ∃ a cu, e = .returned (.tuple #[.slice a S cu, .int .i64 0]) ∧ Hid (Chg (fun _ => False) w w')) := fun wx hc => by
              have HA := tp_read 0 (S + 9) (HQ.out.1.more hc) (by omega) (by omega)
              refine HA.mono ?_
              rintro e w' ⟨u, rfl, hu⟩
              rw [List.drop_zero, List.take_of_length_le (by rw [zeros_len]; omega)] at hu
              obtain ⟨a, cu, rfl⟩ := own_sl5 hu.own
              rw [zeros_len]
              exact ⟨a, cu, rfl, (HC.out.trans HQ.out.1.chg (fun _ _ h => h)).trans (hc.trans hu.chg (fun _ _ h => h)) (fun _ _ h => h)⟩
            have HR7 : Hid (∀ wx, Chg (fun _ => False) wc wx → NdB 29 wx r ⟨kd, lk, zz, e0, e1, e2, e3, e4, e5, e6, e7, on, tw⟩) := fun wx hc => HOR.out wx ((hc.block r (lt_of_block HQ.out.2) (fun h => h)).trans HQ.out.2)
            clear AP HS HOR HQ hmk hbz hne1 hne2 hne3 hne4 kb4 kr4 k2 AL2
            go_wp2_with fail
            refine (show Calls _ _ _ _ _ from ALn.out).mono ?_
            clear ALn
            rintro e w8 ⟨rfl, HC8⟩
            obtain ⟨f0, f1, f2, f3, f4, f5, f6, f7, f8, f9, f10, f11, f12⟩ := (HR7.out w8 HC8.out).at
            simp only at f0 f1 f2 f3 f4 f5 f6 f7 f8 f9 f10 f11 f12
            have RD8 : Hid _ := RD.out w8 HC8.out
            clear RD HR7
            go_wp2_with fail
            refine (show Calls _ _ _ _ _ from RD8.out).mono ?_
            clear RD8 f0 f1 f2 f3 f4 f5 f6 f7 f8 f9 f10 f11 f12
            rintro e w9 ⟨a, cu, rfl, HC9⟩
            go_wp2
            go_ret
            exact ⟨rfl, HC9.out⟩
    · obtain rfl := HEC.out.2 (by omega)
      have HT5 := HQ.out.2.1 (by omega)
      have k1 : n < A := by omega
      have k2 : decide (n < A) = true := by simp; omega
      have FR : Hid (∀ wx : World, Chg (fun _ => False) wc wx → Calls Tryz.prog 13 #[PV 0 1 n, .pointer (some ⟨q, 0, none⟩)] wx fun e w' => e = .returned (.tuple #[.int .i64 (n : Int), .int .i64 0]) ∧ Hid (Chg (fun _ => False) w w')) := fun wx hc => by
        refine (tp_free (HT5.more hc) (by show allM (blkC 0) ≤ n; simp [allM, innM, blkC])).mono ?_
        rintro e w' ⟨rfl, hc'⟩
        exact ⟨by simp [allM, innM, blkC], (HC.out.trans HT5.chg (fun _ _ h => h)).trans (hc.trans hc' (fun _ _ h => h)) (fun _ _ h => h)⟩
      unfold PV at FR
      clear HQ HEC HT HT5
      go_wp2_with fail
      refine (show Calls _ _ _ _ _ from AL.out _).mono ?_
      rintro e w6 ⟨rfl, HC6⟩
      have hb6 := (HC6.out.block bb hbb5 (fun h => h)).trans hb5
      have d0 : w6.cell? ⟨bb, 1, none⟩ = some (.int .i64 0) := by rw [cell_of_row _ _ _ _ _ _ hb6]; rfl
      have d1 : w6.cell? ⟨bb, 2, none⟩ = some (.int .i64 1) := by rw [cell_of_row _ _ _ _ _ _ hb6]; rfl
      have d2 : w6.cell? ⟨bb, 3, none⟩ = some (.int .i64 (n : Int)) := by rw [cell_of_row _ _ _ _ _ _ hb6]; rfl
      have FR6 : Hid _ := FR.out w6 HC6.out
      clear hb6 hb5 AL FR
      go_wp2_with fail
      refine (show Calls _ _ _ _ _ from FR6.out).mono ?_
      rintro e w7 ⟨rfl, HC7⟩
      clear FR6 d0 d1 d2
      go_wp2
      go_ret
      exact ⟨rfl, HC7.out⟩
end Go.Proofs.YtncaopdiplfjeaaGreat

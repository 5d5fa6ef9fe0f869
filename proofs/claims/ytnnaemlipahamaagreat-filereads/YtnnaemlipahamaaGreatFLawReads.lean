/-
  FileReads answers true for all rows of bytes, numbers, bytes.
-/
import Derived.Test.YtnnaemlipahamaaGreatFRdG
import Derived.Test.YtnnaemlipahamaaGreatFAll
import Derived.BigQuiet
import Derived.Deep.RegionHeld3
import Derived.OwnWalk
import Derived.Deep.DeepMust
import Derived.Deep.CutBlock
import Derived.Deep.DeepCutAuto
import Derived.Deep.QuietTactic
namespace Go.Proofs.YtnnaemlipahamaaGreat
open Go.RowKit Go.Maps

set_option maxRecDepth 100000 in
set_option maxHeartbeats 12800000 in
theorem law_reads (lv pv : Value) (ll : List (List Int)) (off n size : Int) (pb : List Int) (w : World) (hl : Bss w lv ll) (hpb : Bs w pv pb) (hpy : IsBy pb) (hon : off ≤ 9223372036854775807) (hnn : n ≤ 9223372036854775807) (hsn : size ≤ 9223372036854775807) :
    Calls Tryz.prog 4 #[lv, .int .i64 off, .int .i64 n, .int .i64 size, pv] w fun e w' => e = .returned (.bool true) ∧ Chg (fun _ => False) w w' := by
  have KN : Hid (Calls Tryz.prog 6 #[] w fun e w' => e = .returned (.bool true) ∧ Hid (Chg (fun _ => False) w w')) := (known_any w).mono (by rintro e w' ⟨rfl, h⟩; exact ⟨rfl, h⟩)
  obtain ⟨la, lc, rfl⟩ := hl.form
  obtain ⟨pa, pn, pc, rfl, hpn⟩ : ∃ pa pn pc, pv = .slice pa pn pc ∧ pb.length = pn := by
    rcases hpb with ⟨rfl, rfl⟩ | ⟨a, c, rfl, _⟩
    · exact ⟨_, _, _, rfl, rfl⟩
    · exact ⟨_, _, _, rfl, rfl⟩
  by_cases g1 : 12 < ll.length
  · have k1 : decide (12 < (ll.length : Int)) = true := by simp; omega
    have k1' : 12 < (ll.length : Int) := by omega
    go_enter Tryz.func4, Tryz.ntmps4
    go_wp2_with fail
    refine KN.out.mono ?_
    rintro e w1 ⟨rfl, HC⟩
    go_wp2
    go_ret
    exact ⟨rfl, HC.out⟩
  have k1 : decide (12 < (ll.length : Int)) = false := by simp; omega
  have k1' : ¬ 12 < (ll.length : Int) := by omega
  by_cases g2 : 300 < pn
  · have k2 : decide (300 < (pn : Int)) = true := by simp; omega
    have k2' : 300 < (pn : Int) := by omega
    go_enter Tryz.func4, Tryz.ntmps4
    go_wp2_with fail
    refine KN.out.mono ?_
    rintro e w1 ⟨rfl, HC⟩
    go_wp2
    go_ret
    exact ⟨rfl, HC.out⟩
  have k2 : decide (300 < (pn : Int)) = false := by simp; omega
  have k2' : ¬ 300 < (pn : Int) := by omega
  have MD : Hid (∀ w1, Calls Tryz.prog 8 #[.int .i64 120] w1 fun e w' => ∃ (p : Pm) (X : Nat → Prop), e = .returned (.pointer (some ⟨p.bb, 0, none⟩)) ∧ Hid (p.w0 = w1 ∧ p.n = 120 ∧ Btw p X (Fm.none ndK Nd.no) (fun _ => false) 1 w')) := fun w1 => by
    refine (made_any 120 w1 (by decide) (by decide)).mono ?_
    rintro e w' ⟨X, bb, pd, pl, pr, g, V, rfl, hmd, _⟩
    exact ⟨_, X, rfl, rfl, rfl, btw_made hmd (Nd.free_kind 1) (Nd.free_kind 0) (by decide) (by decide)⟩
  have HG1 : Hid (ll.length ≤ 12) := (show ll.length ≤ 12 by omega)
  have HG2 : Hid (pn ≤ 300) := (show pn ≤ 300 by omega)
  have HL : Hid (Bss w (.slice la ll.length lc) ll) := hl
  have HPB : Hid (Bs w (.slice pa pn pc) pb) := hpb
  have HPY : Hid (IsBy pb) := hpy
  have HPN : Hid (pb.length = pn) := hpn
  clear g1 g2 hl hpb hpy hpn
  go_enter Tryz.func4, Tryz.ntmps4
  go_wp2_with fail
  refine KN.out.mono ?_
  clear KN
  rintro e w1 ⟨rfl, HC⟩
  go_wp2_with fail
  refine (show Calls _ _ _ _ _ from MD.out w1).mono ?_
  clear MD k1 k2 k1' k2'
  rintro e w2 ⟨p, X, rfl, H0⟩
  have hq1 := eqB_some ⟨p.bb, 0, none⟩
  obtain ⟨c0, -⟩ := bb_cells H0.out.2.2.bz
  have BG : Hid (Calls Tryz.prog 9 #[.pointer (some ⟨p.pl, 0, none⟩)] w2 fun e w' => ∃ q, e = .returned (.tuple #[.pointer (some ⟨q, 0, none⟩), .int .i64 0]) ∧ Hid (RdZ p (fun _ => false) w'.heap.size q [] (.slice none 0 0) ndK (w'.alloc (ndK.o 29)))) := by
    refine (btw_begin H0.out.2.2 (by decide)).mono ?_
    rintro e w' ⟨q, rfl, hb, hs⟩
    exact ⟨q, rfl, rd_start hb H0.out.2.1⟩
  have HP : Hid (p.w0 = w1) := H0.out.1
  clear H0
  go_wp2_with fail
  refine (show Calls _ _ _ _ _ from BG.out).mono ?_
  clear BG c0
  rintro e w3 ⟨q, rfl, HZ0⟩
  have hq2 := eqT_some ⟨q, 0, none⟩
  obtain ⟨rx, HRX⟩ : ∃ rx, Hid (w3.heap.size = rx) := ⟨_, rfl⟩
  rw [HRX.out] at HZ0
  go_wp2
  rw [HRX.out]
  clear HRX
  go_loopw [15, 16] (fun v x wr => ∃ (k : Nat) (nd : Nd), x = .int .i64 ((k : Nat) : Int) ∧ k ≤ ll.length ∧ Hid ((ll.take k).flatten.length ≤ 1500 * k) ∧ Hid (RdZ p (fun _ => false) rx q (ll.take k).flatten v nd wr)) (fun _ x _ => ll.length - (intOf x).toNat)
  case atStart => exact ⟨0, ndK, rfl, Nat.zero_le _, by simp [Hid], by simpa using HZ0⟩
  case round =>
    obtain ⟨k, ⟨kd, lk, zz, e0, e1, e2, e3, e4, e5, e6, e7, on, tw⟩, rfl, hk, HLN, HZ⟩ := hrel
    clear HZ0
    have HCW : Hid (Chg (fun _ => False) w wr) := HC.out.trans (by have := HZ.out.chg; rw [HP.out] at this; exact this) (fun _ _ h => h)
    obtain ⟨bs, hbs⟩ : ∃ bs, Hid ((ll.take k).flatten = bs) := ⟨_, rfl⟩
    rw [hbs.out] at HLN HZ
    have hl12 : ll.length ≤ 12 := HG1.out
    by_cases hlt : k < ll.length
    · have kin : (k : Int) < (ll.length : Int) := by omega
      obtain ⟨lb, lo, u, rfl, cw, hbw, hy1⟩ := HL.out.nth hlt
      have c1 := HCW.out.cell cw (fun h => h)
      have hb1 := hbw.kept HCW.out (fun _ _ _ _ _ h => h)
      obtain ⟨row, hrow⟩ : ∃ row, Hid (ll.getD k [] = row) := ⟨_, rfl⟩
      rw [hrow.out] at hb1 hy1 hbw
      have hlow : Hid (∀ g, u.ownBlock = some g → 0 < row.length → g < p.w0.heap.size) := fun g hg h0 => by
        have := hbw.blk hg h0
        have h6 := HC.out.size
        rw [HP.out]
        omega
      have hlbW : Hid (lb < p.w0.heap.size) := by
        show lb < _
        have h7 : lb < w.heap.size := World.block_lt_of_cell? w ⟨lb, lo + k, none⟩ cw
        have h6 := HC.out.size
        rw [HP.out]
        omega
      have HCX : Hid (∀ w', Chg (fun _ => False) p.w0 w' → w'.cell? ⟨lb, lo + k, none⟩ = some u ∧ Bs w' u row) := fun w' hc => by
        rw [HP.out] at hc
        have h8 := HC.out.trans hc (fun _ _ h => h)
        exact ⟨h8.cell cw (fun h => h), hbw.kept h8 (fun _ _ _ _ _ h => h)⟩
      clear cw hbw
      obtain ⟨ua, un, uc, rfl, hun⟩ : ∃ ua un uc, u = .slice ua un uc ∧ row.length = un := by
        rcases hb1 with ⟨rfl, rfl⟩ | ⟨a, c, rfl, _⟩
        · exact ⟨_, _, _, rfl, rfl⟩
        · exact ⟨_, _, _, rfl, rfl⟩
      have HNX : Hid ((ll.take (k + 1)).flatten = bs ++ row) := by
        show _ = _
        rw [List.take_add_one, List.flatten_append, hbs.out, List.getElem?_eq_getElem hlt]
        have : ll[k] = row := by rw [← hrow.out]; simp [List.getD, hlt]
        simp [this]
      have HB1 : Hid (Bs wr (.slice ua un uc) row) := hb1
      have HY1 : Hid (IsBy row) := hy1
      have HUN : Hid (row.length = un) := hun
      clear hb1 hy1 hun
      by_cases hu : 1500 < un
      · have ku : 1500 < (un : Int) := by omega
        go_wp2_with fail
        go_ret
        exact ⟨rfl, HCW.out⟩
      · have ku : ¬ 1500 < (un : Int) := by omega
        obtain ⟨-, d1, d2, d3, -, hbb⟩ := bb_cells HZ.out.bz.choose_spec
        have hrx := HZ.out.nd.lt
        have HN : Hid (p.n = 120) := HZ.out.n
        rw [HN.out] at d3
        have hlb := World.block_lt_of_cell? wr _ c1
        have hne1 : ¬ wr.heap.size = p.bb := by omega
        have hne2 : ¬ wr.heap.size = rx := by omega
        have hne3 : ¬ wr.heap.size = lb := by simp at hlb; omega
        obtain ⟨ob, hob⟩ : ∃ ob : Obj, (Obj.cells #[.pointer (some ⟨p.pl, 0, none⟩), .int .i64 0, .int .i64 1, .int .i64 (p.n : Int), .pointer (some ⟨p.pr, 0, none⟩)] 45 (0, 0)) = ob := ⟨_, rfl⟩
        obtain ⟨orx, horx⟩ : ∃ orx : Obj, (Obj.cells #[.int .i64 kd, .int .i64 lk, .int .i64 zz, .int .i64 e0, .int .i64 e1, .int .i64 e2, .int .i64 e3, .int .i64 e4, .int .i64 e5, .int .i64 e6, .int .i64 e7, .int .i64 on, .int .i64 tw] 29 (0, 0)) = orx := ⟨_, rfl⟩
        obtain ⟨ol, hol⟩ : ∃ ol : Obj, wr.heap[lb]? = some ol := ⟨wr.heap[lb], Array.getElem?_eq_getElem hlb⟩
        have kb4 : wr.heap[p.bb]? = some ob := by rw [← hob]; exact HZ.out.bz.choose_spec.bx
        have kr4 : wr.heap[rx]? = some orx := by rw [← horx]; exact HZ.out.nd
        have HCL : Hid (∀ w' : World, w'.heap[lb]? = some ol → w'.cell? ⟨lb, lo + k, none⟩ = some (.slice ua un uc)) := fun w' h => (World.cell?_of_block (h.trans hol.symm)).trans c1
        have HS : ∀ w' : World, w'.heap[p.bb]? = some ob → w'.heap[rx]? = some orx → w'.heap[lb]? = some ol → w'.cell? ⟨p.bb, 1, none⟩ = some (.int .i64 0) ∧ w'.cell? ⟨p.bb, 2, none⟩ = some (.int .i64 1) ∧ w'.cell? ⟨p.bb, 3, none⟩ = some (.int .i64 120) ∧ w'.cell? ⟨rx, 0, none⟩ = some (.int .i64 kd) ∧ w'.cell? ⟨rx, 1, none⟩ = some (.int .i64 lk) ∧ w'.cell? ⟨rx, 2, none⟩ = some (.int .i64 zz) ∧ w'.cell? ⟨rx, 3, none⟩ = some (.int .i64 e0) ∧ w'.cell? ⟨rx, 4, none⟩ = some (.int .i64 e1) ∧ w'.cell? ⟨rx, 5, none⟩ = some (.int .i64 e2) ∧ w'.cell? ⟨rx, 6, none⟩ = some (.int .i64 e3) ∧ w'.cell? ⟨rx, 7, none⟩ = some (.int .i64 e4) ∧ w'.cell? ⟨rx, 8, none⟩ = some (.int .i64 e5) ∧ w'.cell? ⟨rx, 9, none⟩ = some (.int .i64 e6) ∧ w'.cell? ⟨rx, 10, none⟩ = some (.int .i64 e7) ∧ w'.cell? ⟨rx, 11, none⟩ = some (.int .i64 on) ∧ w'.cell? ⟨rx, 12, none⟩ = some (.int .i64 tw) ∧ w'.cell? ⟨lb, lo + k, none⟩ = some (.slice ua un uc) := fun w' h1 h2 h3 => by
          subst hob horx
          rw [HN.out] at h1
          have hn : NdAt w' rx ⟨kd, lk, zz, e0, e1, e2, e3, e4, e5, e6, e7, on, tw⟩ := NdAt.ofBlk h2
          exact ⟨by rw [cell_of_row _ _ _ _ _ _ h1]; rfl, by rw [cell_of_row _ _ _ _ _ _ h1]; rfl, by rw [cell_of_row _ _ _ _ _ _ h1]; rfl, hn.c0, hn.c1, hn.c2, hn.c3, hn.c4, hn.c5, hn.c6, hn.c7, hn.c8, hn.c9, hn.c10, hn.c11, hn.c12, HCL.out w' h3⟩
        have AP : Hid (∀ wb, Chg (fun _ => False) wr wb → Calls Tryz.prog 15 #[.pointer (some ⟨q, 0, none⟩), PV 0 1 (120 : Nat), Nd.v ⟨kd, lk, zz, e0, e1, e2, e3, e4, e5, e6, e7, on, tw⟩, .slice ua un uc] wb fun e w5 => ∃ nd', e = .returned (.tuple #[nd'.v, .int .i64 0]) ∧ w5.heap[p.bb]? = some ob ∧ w5.heap[rx]? = some orx ∧ w5.heap[lb]? = some ol ∧ Hid (Ret wr wb w5 (fun r w6 => RdC p (fun _ => false) rx q bs (bs ++ row) u15 ⟨kd, lk, zz, e0, e1, e2, e3, e4, e5, e6, e7, on, tw⟩ nd' r w6))) := fun wb hc => by
          have HA := HZ.out.append' hc (HB1.out.kept hc (fun _ _ _ _ _ h => h)) hlow.out HY1.out (by have := HLN.out; have := HUN.out; have := HG1.out; omega)
          refine HA.mono ?_
          rintro e w5 ⟨nd', rfl, hs5, hr⟩
          exact ⟨nd', rfl, (hs5 _ (.inl rfl)).trans kb4, (hs5 _ (.inr (.inl rfl))).trans kr4, (hs5 _ (.inr (.inr hlbW.out))).trans hol, hr⟩
        unfold PV at AP
        clear d1 d2 d3 hob horx hbb hrx hlb
        go_wp2_with fail
        go_cut [17, 18] from 50 to 84 (fun x17 x18 wc => ∃ r nd', x17 = .pointer (some ⟨r, 0, none⟩) ∧ x18 = .int .i64 0 ∧ NdB 29 wc r nd' ∧ Hid (RdC p (fun _ => false) rx q bs (bs ++ row) u15 ⟨kd, lk, zz, e0, e1, e2, e3, e4, e5, e6, e7, on, tw⟩ nd' r wc))
        case first =>
          refine reg18 kin kb4 kr4 hol hne1 hne2 hne3 HS AP ?_
          intro r nd' wd P1 P2 s62 s63 s64 s65 s66 s67 s68 s69 s70 s71 s72 s73 s74 s75
          go_wp2_with fail
          go_meet
          exact ⟨_, _, rfl, rfl, P1, P2⟩
        case rest =>
          obtain ⟨r, ⟨kd', lk', zz', e0', e1', e2', e3', e4', e5', e6', e7', on', tw'⟩, rfl, rfl, hn5, HQ⟩ := hcut
          have hx5 := HQ.out.nd
          obtain ⟨f0, f1, f2, f3, f4, f5, f6, f7, f8, f9, f10, f11, f12⟩ := hn5.at
          simp only at f0 f1 f2 f3 f4 f5 f6 f7 f8 f9 f10 f11 f12
          obtain ⟨r0, r1, r2, r3, r4, r5, r6, r7, r8, r9, r10, r11, r12⟩ := hx5.at
          simp only at r0 r1 r2 r3 r4 r5 r6 r7 r8 r9 r10 r11 r12
          have fr7 := hx5.fr
          obtain ⟨P1, P2⟩ := hx5.put ⟨kd', lk', zz', e0', e1', e2', e3', e4', e5', e6', e7', on', tw'⟩
          have hrl : rx ≠ lb := by
            have h1 := HQ.out.low.1
            have h2 := hlbW.out
            omega
          have cL := (HCX.out _ HQ.out.chg).1
          have cL7 := P2.cell cL (show ¬ lb = rx from fun e => hrl e.symm)
          have bL7 : Bs (putNd wc rx ⟨kd', lk', zz', e0', e1', e2', e3', e4', e5', e6', e7', on', tw'⟩) (.slice ua un uc) row := by
            refine (HCX.out _ HQ.out.chg).2.kept P2 (fun a n c e h0 hx => ?_)
            injection e with e1 e2 e3
            have := hlow.out a.block (by rw [e1]; rfl) (by have := HUN.out; omega)
            have h1 := HQ.out.low.1
            omega
          obtain ⟨na, nc, w8, hrun, hZ8⟩ := HQ.out.next P2 P1 bL7 (by have := HLN.out; have := HUN.out; have := HG1.out; omega)
          have HZ8 : Hid _ := hZ8
          have HRUN : Hid _ := hrun
          unfold putNd at HRUN cL7
          simp only at HRUN cL7
          clear AP HS HCL kb4 kr4 hol hne1 hne2 hne3 hn5 HQ hx5 P1 P2 bL7 hZ8 hrun cL
          go_wp2_with (at_builtin; go_must (refine Lib.wpList_append_run _ rfl (.tmp 79) (.tmp 83) 33 33 rfl _ _ rfl rfl _ _ HRUN.out ?next))
          go_roundw
          case rel => exact ⟨k + 1, _, by go_num, by omega, by rw [HNX.out]; show _ ≤ _; rw [List.length_append]; have := HLN.out; have := HUN.out; omega, by rw [HNX.out]; exact HZ8⟩
          case measure => simp [intOf]; omega
    · have kin : ¬ (k : Int) < (ll.length : Int) := by omega
      obtain ⟨va, vc, rfl⟩ := own_sl5 HZ.out.own
      obtain ⟨T, hT⟩ : ∃ T, bs.length = T := ⟨_, rfl⟩
      have HT : Hid (bs.length = T ∧ T ≤ 18000) := ⟨hT, by have := HLN.out; have := HG1.out; omega⟩
      rw [hT] at HZ ⊢
      clear hT
      by_cases o0 : off < 0
      · have t1 : off < 0 := by omega
        have t2 : decide (off < 0) = true := by simpa using t1
        go_wp2_with fail
        go_ret
        exact ⟨rfl, HCW.out⟩
      have o01 : ¬ off < 0 := by omega
      have o02 : decide (off < 0) = false := by simpa using o01
      by_cases o1 : (T : Int) < off
      · have t1 : (T : Int) < off := by omega
        have t2 : decide ((T : Int) < off) = true := by simpa using t1
        go_wp2_with fail
        go_ret
        exact ⟨rfl, HCW.out⟩
      have o11 : ¬ (T : Int) < off := by omega
      have o12 : decide ((T : Int) < off) = false := by simpa using o11
      by_cases n0 : n < 0
      · have t1 : n < 0 := by omega
        have t2 : decide (n < 0) = true := by simpa using t1
        go_wp2_with fail
        go_ret
        exact ⟨rfl, HCW.out⟩
      have n01 : ¬ n < 0 := by omega
      have n02 : decide (n < 0) = false := by simpa using n01
      by_cases n1 : (T : Int) < n
      · have t1 : (T : Int) < n := by omega
        have t2 : decide ((T : Int) < n) = true := by simpa using t1
        go_wp2_with fail
        go_ret
        exact ⟨rfl, HCW.out⟩
      have n11 : ¬ (T : Int) < n := by omega
      have n12 : decide ((T : Int) < n) = false := by simpa using n11
      by_cases s0 : size < 0
      · have t1 : size < 0 := by omega
        have t2 : decide (size < 0) = true := by simpa using t1
        go_wp2_with fail
        go_ret
        exact ⟨rfl, HCW.out⟩
      have s01 : ¬ size < 0 := by omega
      have s02 : decide (size < 0) = false := by simpa using s01
      by_cases s1 : (T : Int) < size
      · have t1 : (T : Int) < size := by omega
        have t2 : decide ((T : Int) < size) = true := by simpa using t1
        go_wp2_with fail
        go_ret
        exact ⟨rfl, HCW.out⟩
      have s11 : ¬ (T : Int) < size := by omega
      have s12 : decide ((T : Int) < size) = false := by simpa using s11
      obtain ⟨o, rfl⟩ : ∃ o : Nat, off = (o : Int) := ⟨off.toNat, by omega⟩
      obtain ⟨m, rfl⟩ : ∃ m : Nat, n = (m : Int) := ⟨n.toNat, by omega⟩
      obtain ⟨z, rfl⟩ : ∃ z : Nat, size = (z : Int) := ⟨size.toNat, by omega⟩
      have ho : o ≤ T := by omega
      have hm : m ≤ T := by omega
      have hz : z ≤ T := by omega
      have hTm : T ≤ 18000 := HT.out.2
      obtain ⟨X4, hQ, hvX⟩ := HZ.out.toQ
      have HQ4 : Hid (RdQ p (fun _ => false) rx q bs ⟨kd, lk, zz, e0, e1, e2, e3, e4, e5, e6, e7, on, tw⟩ X4 wr) := hQ
      have HVX : Hid (∀ g, (Value.slice va T vc).ownBlock = some g → X4 g) := hvX
      have HVB : Hid (Bs wr (.slice va T vc) bs) := by
        have := Bs.ofOwns HZ.out.own
        exact this
      have hcap : T ≤ vc := by
        rcases HVB.out with ⟨e, e2⟩ | ⟨a, c, e, hl, _⟩
        · injection e with _ e2 e3; omega
        · injection e with _ e2 e3; have := HT.out.1; omega
      obtain ⟨f0, f1, f2, f3, f4, f5, f6, f7, f8, f9, f10, f11, f12⟩ := HQ4.out.nd.at
      simp only at f0 f1 f2 f3 f4 f5 f6 f7 f8 f9 f10 f11 f12
      have RD : Hid _ := HQ4.out.read o m (by omega) (by omega)
      simp only [Nd.v] at RD
      clear HZ hQ hvX
      obtain ⟨E, hE⟩ : ∃ E, min (o + m) T = E := ⟨_, rfl⟩
      have hE1 : o ≤ E := by omega
      have hE2 : E ≤ T := by omega
      go_wp2_with fail
      refine (show Calls _ _ _ _ _ from RD.out).mono ?_
      clear RD
      rintro e w4 ⟨y, rfl, hy, HC4⟩
      go_upto_if 128 with fail
      go_cut [21] (fun x wc => x = .int .i64 (E : Int) ∧ wc = w4)
      case first =>
        by_cases hom : T < o + m
        · have km : (T : Int) < (o : Int) + (m : Int) := by omega
          have km2 : decide ((T : Int) < (o : Int) + (m : Int)) = true := by simpa using km
          have hET : T = E := by omega
          go_wp2_with fail
          go_meet
          exact ⟨by rw [← hET], rfl⟩
        · have km : ¬ (T : Int) < (o : Int) + (m : Int) := by omega
          have km2 : decide ((T : Int) < (o : Int) + (m : Int)) = false := by simpa using km
          have hET : (o : Int) + (m : Int) = (E : Int) := by omega
          go_wp2_with fail
          go_meet
          exact ⟨by first | rfl | rw [hET], rfl⟩
      case rest =>
        obtain ⟨rfl, rfl⟩ := hcut
        obtain ⟨ya, yn, yc, rfl⟩ : ∃ ya yn yc, y = .slice ya yn yc := by
          rcases hy with ⟨rfl, _⟩ | ⟨a, c, rfl, _⟩
          · exact ⟨_, _, _, rfl⟩
          · exact ⟨_, _, _, rfl⟩
        have HB4 : Hid (Bs wc (.slice va T vc) bs) := HVB.out.kept HC4.out (fun _ _ _ _ _ h => h)
        have htk : (bs.drop o).take m = (bs.drop o).take (E - o) := by
          have hl := HT.out.1
          by_cases hom : T < o + m
          · rw [List.take_of_length_le (by rw [List.length_drop]; omega), List.take_of_length_le (by rw [List.length_drop]; omega)]
          · rw [show E - o = m by omega]
        obtain ⟨St, hSt⟩ : ∃ St, strOf ((bs.drop o).take m) = St := ⟨_, rfl⟩
        have r1 := run_strN hy
        have r2 := run_strN (HB4.out.piece (lo := o) (hi := E) hE1 hE2)
        rw [← htk] at r2
        rw [hSt] at r1 r2
        obtain ⟨sv, hsv⟩ : ∃ sv, (if vc = o then va else Option.map (fun x => x.add o) va) = sv := ⟨_, rfl⟩
        rw [hsv] at r2
        have kE1 : (o : Int) ≤ (E : Int) := by omega
        have kE2 : (E : Int) ≤ (vc : Int) := by omega
        clear hy hSt htk hE
        go_wp2_with fail
        go_quiet (fail)
        have HQ5 : Hid (RdQ p (fun _ => false) rx q bs ⟨kd, lk, zz, e0, e1, e2, e3, e4, e5, e6, e7, on, tw⟩ X4 (wc.drewN nq)) := (HQ4.out.more HC4.out).more (Chg.drewN _ _ _)
        have HB5 : Hid (Bs (wc.drewN nq) (.slice va T vc) bs) := HB4.out.kept (Chg.drewN (fun _ => False) _ nq) (fun _ _ _ _ _ h => h)
        have HC5 : Hid (Chg (fun _ => False) wr (wc.drewN nq)) := HC4.out.trans (Chg.drewN _ _ _) (fun _ _ h => h)
        clear r1 r2 HB4 HC4 HQ4 HVB f0 f1 f2 f3 f4 f5 f6 f7 f8 f9 f10 f11 f12
        obtain ⟨W5, hW5⟩ : ∃ W5, wc.drewN nq = W5 := ⟨_, rfl⟩
        rw [hW5] at HQ5 HB5 HC5 ⊢
        clear hW5
        go_upto_if 149 with fail
        go_cut [15] (fun v wc => ∃ (B : List Int) (Xc : Nat → Prop) (a : Option Addr) (c : Nat), v = .slice a T c ∧ T ≤ c ∧ Hid (B.length = T) ∧ Hid (RdQ p (fun _ => false) rx q B ⟨kd, lk, zz, e0, e1, e2, e3, e4, e5, e6, e7, on, tw⟩ Xc wc) ∧ Hid (Bs wc v B) ∧ Hid (∀ g, v.ownBlock = some g → Xc g))
        case first =>
          by_cases hpt : pn ≤ T - o
          · have kp : (pn : Int) ≤ (T : Int) - (o : Int) := by omega
            have kp2 : decide ((pn : Int) ≤ (T : Int) - (o : Int)) = true := by simpa using kp
            have HBP : Hid (Bs W5 (.slice pa pn pc) pb) := by
              have h8 := HCW.out.trans HC5.out (fun _ _ h => h)
              exact HPB.out.kept h8 (fun _ _ _ _ _ h => h)
            have HPO : Hid (∀ g, (Value.slice pa pn pc).ownBlock = some g → 0 < pb.length → X4 g) := fun g hg h0 => by
              have h1 := HPB.out.blk hg h0
              have h6 := HC.out.size
              exact HQ5.out.bz.old g (by rw [HP.out]; omega)
            have PT : Hid _ := HQ5.out.put o (by have := HT.out.1; have := HPN.out; omega) HBP.out HPO.out HPY.out
            simp only [Nd.v] at PT
            obtain ⟨f0, f1, f2, f3, f4, f5, f6, f7, f8, f9, f10, f11, f12⟩ := HQ5.out.nd.at
            simp only at f0 f1 f2 f3 f4 f5 f6 f7 f8 f9 f10 f11 f12
            go_wp2_with fail
            refine (show Calls _ _ _ _ _ from PT.out).mono ?_
            clear PT f0 f1 f2 f3 f4 f5 f6 f7 f8 f9 f10 f11 f12
            rintro e w6 ⟨rfl, HQ6⟩
            go_wp2_with fail
            have hTl : bs.length = T := HT.out.1
            have hpl : pb.length = pn := HPN.out
            have VB6 : Bs w6 (.slice va T vc) bs := HB5.out.sm HQ6.out.2 HVX.out
            have PB6 : Bs w6 (.slice pa pn pc) pb := by
              have h8 := HQ6.out.1.chg
              rw [HP.out] at h8
              exact HPB.out.kept (HC.out.trans h8 (fun _ _ h => h)) (fun _ _ _ _ _ h => h)
            refine reg34 (bs := bs) (pb := pb) (fun _ _ _ _ _ h => h) ho hcap hTl hpl (by omega) hTm VB6 PB6 ?_
            intro a7 c7 V4 hc7 hB7 D4 hX7 s156 s157 s158 s159 s160 s161 s162 s163 s164 s165 s166 s167 s168 s169
            have HQ7 : Hid _ := HQ6.out.1.add D4
            have HX7 : Hid (∀ g, (Value.slice a7 T c7).ownBlock = some g → addX X4 w6.heap.size V4.heap.size g) := fun g hg => .inr (hX7 g hg)
            have HSL : Hid ((splice bs o pb).length = T) := by show _ = _; rw [splice_len (by omega)]; exact hTl
            have HB7 : Hid _ := hB7
            clear hB7 D4 hX7 VB6 PB6
            go_wp2_with fail
            go_meet
            exact ⟨splice bs o pb, _, a7, c7, rfl, hc7, HSL, HQ7, HB7, HX7⟩
          · have kp : ¬ (pn : Int) ≤ (T : Int) - (o : Int) := by omega
            have kp2 : decide ((pn : Int) ≤ (T : Int) - (o : Int)) = false := by simpa using kp
            go_wp2_with fail
            go_meet
            exact ⟨bs, X4, va, vc, rfl, hcap, HT.out.1, HQ5, HB5, HVX⟩
        case rest =>
          obtain ⟨B, Xc, a6, c6, rfl, hc6, HBL, HQ6, HB6, HX6⟩ := hcut
          have hrx := HQ6.out.nd.lt
          have HN : Hid (p.n = 120) := HQ6.out.n
          obtain ⟨ob, hob⟩ : ∃ ob : Obj, (Obj.cells #[.pointer (some ⟨p.pl, 0, none⟩), .int .i64 0, .int .i64 1, .int .i64 (p.n : Int), .pointer (some ⟨p.pr, 0, none⟩)] 45 (0, 0)) = ob := ⟨_, rfl⟩
          obtain ⟨orx, horx⟩ : ∃ orx : Obj, (Obj.cells #[.int .i64 kd, .int .i64 lk, .int .i64 zz, .int .i64 e0, .int .i64 e1, .int .i64 e2, .int .i64 e3, .int .i64 e4, .int .i64 e5, .int .i64 e6, .int .i64 e7, .int .i64 on, .int .i64 tw] 29 (0, 0)) = orx := ⟨_, rfl⟩
          have kb4 : wc.heap[p.bb]? = some ob := by rw [← hob]; exact HQ6.out.bz.bx
          have kr4 : wc.heap[rx]? = some orx := by rw [← horx]; exact HQ6.out.nd
          have hbb := lt_of_block kb4
          have hne1 : ¬ wc.heap.size = p.bb := by omega
          have hne2 : ¬ wc.heap.size = rx := by omega
          have HS : ∀ w' : World, w'.heap[p.bb]? = some ob → w'.heap[rx]? = some orx → w'.cell? ⟨p.bb, 1, none⟩ = some (.int .i64 0) ∧ w'.cell? ⟨p.bb, 2, none⟩ = some (.int .i64 1) ∧ w'.cell? ⟨p.bb, 3, none⟩ = some (.int .i64 120) ∧ w'.cell? ⟨rx, 0, none⟩ = some (.int .i64 kd) ∧ w'.cell? ⟨rx, 1, none⟩ = some (.int .i64 lk) ∧ w'.cell? ⟨rx, 2, none⟩ = some (.int .i64 zz) ∧ w'.cell? ⟨rx, 3, none⟩ = some (.int .i64 e0) ∧ w'.cell? ⟨rx, 4, none⟩ = some (.int .i64 e1) ∧ w'.cell? ⟨rx, 5, none⟩ = some (.int .i64 e2) ∧ w'.cell? ⟨rx, 6, none⟩ = some (.int .i64 e3) ∧ w'.cell? ⟨rx, 7, none⟩ = some (.int .i64 e4) ∧ w'.cell? ⟨rx, 8, none⟩ = some (.int .i64 e5) ∧ w'.cell? ⟨rx, 9, none⟩ = some (.int .i64 e6) ∧ w'.cell? ⟨rx, 10, none⟩ = some (.int .i64 e7) ∧ w'.cell? ⟨rx, 11, none⟩ = some (.int .i64 on) ∧ w'.cell? ⟨rx, 12, none⟩ = some (.int .i64 tw) := fun w' h1 h2 => by
            subst hob horx
            rw [HN.out] at h1
            have hn : NdAt w' rx ⟨kd, lk, zz, e0, e1, e2, e3, e4, e5, e6, e7, on, tw⟩ := NdAt.ofBlk h2
            exact ⟨by rw [cell_of_row _ _ _ _ _ _ h1]; rfl, by rw [cell_of_row _ _ _ _ _ _ h1]; rfl, by rw [cell_of_row _ _ _ _ _ _ h1]; rfl, hn.c0, hn.c1, hn.c2, hn.c3, hn.c4, hn.c5, hn.c6, hn.c7, hn.c8, hn.c9, hn.c10, hn.c11, hn.c12⟩
          have AP : Hid (∀ wb, Chg (fun _ => False) wc wb → Calls Tryz.prog 18 #[.pointer (some ⟨q, 0, none⟩), PV 0 1 (120 : Nat), Nd.v ⟨kd, lk, zz, e0, e1, e2, e3, e4, e5, e6, e7, on, tw⟩, .int .i64 (z : Int)] wb fun e w5 => ∃ nd', e = .returned (.tuple #[nd'.v, .int .i64 0]) ∧ Hid (nd'.sz = (z : Int)) ∧ w5.heap[p.bb]? = some ob ∧ w5.heap[rx]? = some orx ∧ Hid (Ret wc wb w5 (fun _ w6 => RdF p (fun _ => false) q (B.take z) nd' Xc wc w6))) := fun wb hc => by
            have HA := HQ6.out.cut z (by have := HBL.out; omega) hc
            refine HA.mono ?_
            rintro e w5 ⟨nd', rfl, hsz, hs5, hs6, hr⟩
            exact ⟨nd', rfl, hsz, hs5.trans kb4, hs6.trans kr4, hr⟩
          unfold PV at AP
          clear hob horx hbb hrx
          go_wp2_with fail
          go_cut [22, 23] (fun x22 x23 wd => ∃ r nd', x22 = .pointer (some ⟨r, 0, none⟩) ∧ x23 = .int .i64 0 ∧ NdB 29 wd r nd' ∧ Hid (nd'.sz = (z : Int) ∧ RdF p (fun _ => false) q (B.take z) nd' Xc wc wd))
          case first =>
            refine reg35 kb4 kr4 hne1 hne2 HS AP ?_
            intro r nd' wd P1 P2 P3 s170 s171 s172 s173 s174 s175 s176 s177 s178 s179 s180
            go_wp2_with fail
            go_meet
            exact ⟨_, _, rfl, rfl, P1, P2, P3⟩
          case rest =>
            obtain ⟨r, ⟨kd', lk', zz', e0', e1', e2', e3', e4', e5', e6', e7', on', tw'⟩, rfl, rfl, hn5, HF⟩ := hcut
            obtain rfl : zz' = (z : Int) := HF.out.1
            obtain ⟨f0, f1, f2, f3, f4, f5, f6, f7, f8, f9, f10, f11, f12⟩ := hn5.at
            simp only at f0 f1 f2 f3 f4 f5 f6 f7 f8 f9 f10 f11 f12
            have RD : Hid _ := HF.out.2.read 1048576 (by decide)
            simp only [Nd.v] at RD
            have HBd : Hid (Bs _ (.slice a6 T c6) B) := HB6.out.sm HF.out.2.sm HX6.out
            have HCd : Hid (Chg (fun _ => False) w _) := HC.out.trans (by have := HF.out.2.chg; rw [HP.out] at this; exact this) (fun _ _ h => h)
            clear AP HS kb4 kr4 hne1 hne2 HF HQ6 HB6
            go_wp2_with fail
            refine (show Calls _ _ _ _ _ from RD.out).mono ?_
            clear RD
            rintro e w9 ⟨y9, rfl, hy9, HC9⟩
            obtain ⟨y9a, y9n, y9c, rfl⟩ : ∃ ya yn yc, y9 = .slice ya yn yc := by
              rcases hy9 with ⟨rfl, _⟩ | ⟨a, c, rfl, _⟩
              · exact ⟨_, _, _, rfl⟩
              · exact ⟨_, _, _, rfl⟩
            have g2 := HC9.out.cell f2 (fun h => h)
            have HB9 : Hid (Bs w9 (.slice a6 T c6) B) := HBd.out.kept HC9.out (fun _ _ _ _ _ h => h)
            have HCF : Hid (Chg (fun _ => False) w w9) := HCd.out.trans HC9.out (fun _ _ h => h)
            have htk : (B.take z).take 1048576 = B.take z := List.take_of_length_le (by rw [List.length_take]; omega)
            rw [htk] at hy9
            obtain ⟨St2, hSt⟩ : ∃ St, strOf (B.take z) = St := ⟨_, rfl⟩
            have r1 := run_strN hy9
            have r2 := run_strN (HB9.out.top (hi := z) hz)
            rw [hSt] at r1 r2
            have kz : (z : Int) ≤ (c6 : Int) := by omega
            clear hy9 hSt htk HBd HCd HC9 f0 f1 f2 f3 f4 f5 f6 f7 f8 f9 f10 f11 f12 HB9
            go_wp2_with fail
            go_quiet (fail)
            go_wp2_with fail
            go_ret
            exact ⟨by first | rfl | simp, HCF.out.trans (Chg.drewN _ _ _) (fun _ _ h => h)⟩
end Go.Proofs.YtnnaemlipahamaaGreat

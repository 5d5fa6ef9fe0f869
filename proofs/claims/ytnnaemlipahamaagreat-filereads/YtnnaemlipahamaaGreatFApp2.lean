/-
  Append of package file, walked.
-/
import Derived.Test.YtnnaemlipahamaaGreatFApp1
namespace Go.Proofs.YtnnaemlipahamaaGreat
open Go.RowKit Go.Maps

section
variable {c : Cx} {X : Nat → Prop} {w : World} {V : Nat → List Int} {T : Nat → Bool} {nd : Nd} {B : Nat → Nat} {bs b : List Int}
set_option maxHeartbeats 1600000 in
set_option maxRecDepth 100000 in
theorem append_ok (u : Value) (hs : Fs c X w V T) (hF : File c V nd B T bs) (ho : c.Ok) (hl : bs.length + b.length ≤ 8458240) (hb : Bs w u b) (hub : ∀ g, u.ownBlock = some g → 0 < b.length → X g) (hby : IsBy b)
    (hcnt : cntT T c.n + allM (blkC (bs.length + b.length)) ≤ c.n + allM (blkC bs.length)) (hW : Wrt c (grw c.F c.n (T, B) (keysTo (blkC bs.length) (blkC (bs.length + b.length) - blkC bs.length))).2 (blkC bs.length) (blkC (bs.length + b.length))) :
    Calls Tryz.prog 15 #[.pointer (some ⟨c.q, 0, none⟩), PV c.M c.F c.n, nd.v, u] w fun e w' => ∃ nd', e = .returned (.tuple #[nd'.v, .int .i64 0]) ∧ AppTo c X V nd B T bs b w nd' w' := by
  have hsz := hF.sz
  obtain ⟨S0, hS0⟩ : ∃ S0, bs.length = S0 := ⟨_, rfl⟩
  obtain ⟨S1, hS1⟩ : ∃ S1, bs.length + b.length = S1 := ⟨_, rfl⟩
  obtain ⟨Lb, hLb⟩ : ∃ Lb, b.length = Lb := ⟨_, rfl⟩
  obtain ⟨m, hm⟩ : ∃ m, blkC bs.length = m := ⟨_, rfl⟩
  obtain ⟨m1, hm1⟩ : ∃ m1, blkC (bs.length + b.length) = m1 := ⟨_, rfl⟩
  have hmm : m ≤ m1 := by rw [← hm, ← hm1]; unfold blkC; omega
  have hM : m1 ≤ 16520 := by rw [← hm1]; unfold blkC; omega
  obtain ⟨J, hJ⟩ : ∃ J, m1 - m = J := ⟨_, rfl⟩
  have hlt := hs.tv.xlt
  have hw0 := hs.tv.chg.size
  obtain ⟨W0, hW0⟩ : ∃ W0, ((w.alloc (PO c.M c.F c.n)).alloc (nd.o 29)).alloc (Nd.no.o 29) = W0 := ⟨_, rfl⟩
  have hc0 : Chg (fun _ => False) w W0 := hW0 ▸ ((Chg.alloc (fun _ => False) w _).al _).al _
  have hz0 : W0.heap.size = w.heap.size + 3 := by rw [← hW0]; simp
  have hp0 : PAt W0 w.heap.size c.M c.F c.n := hW0 ▸ (PAt.box w c.M c.F c.n).kept ((Chg.alloc (fun _ => False) _ _).al _) (fun h => h)
  have hn0 : NdB 29 W0 (w.heap.size + 1) nd := by
    have h1 : NdB 29 ((w.alloc (PO c.M c.F c.n)).alloc (nd.o 29)) (w.heap.size + 1) nd := heap_new' (by simp)
    exact hW0 ▸ h1.kept (Chg.alloc (fun _ => False) _ _) (fun h => h)
  have hr0 : NdB 29 W0 (w.heap.size + 2) Nd.no := hW0 ▸ heap_new' (by simp)
  have hA0 : ∀ wr, Chg (fun _ => False) W0 wr → ApS c (addX X w.heap.size (w.heap.size + 3)) V nd B T m (pad bs) W0 w.heap.size (w.heap.size + 1) (w.heap.size + 2) 0 wr := fun wr hc => by
    have hf0 := hs.add hc0
    rw [hz0] at hf0
    have := hF.fl
    rw [hm] at this
    have h2 := hF.ct
    rw [hm] at h2
    exact ApS.more ⟨⟨V, nd, hf0, Gm.start this h2, hn0⟩, hp0, hr0, fun _ _ _ => rfl⟩ hc
  have hcnt' : cntT T c.n + (keysTo m J).length ≤ c.n := by
    have := keysTo_len m J
    rw [show m + J = m1 by omega] at this
    rw [hm, hm1] at hcnt
    omega
  have hW' : Wrt c (grw c.F c.n (T, B) (keysTo m J)).2 m (m + J) := by
    rw [show m + J = m1 by omega]
    rw [hm, hm1, hJ] at hW
    exact hW
  have hX1 : addX X w.heap.size (w.heap.size + 3) (w.heap.size + 1) ∧ addX X w.heap.size (w.heap.size + 3) w.heap.size ∧ addX X w.heap.size (w.heap.size + 3) (w.heap.size + 2) ∧ w.heap.size + 1 ≠ w.heap.size ∧ w.heap.size + 1 ≠ w.heap.size + 2 := ⟨.inr ⟨by omega, by omega⟩, .inr ⟨by omega, by omega⟩, .inr ⟨by omega, by omega⟩, by omega, by omega⟩
  have GW : Hid (∀ wr j, j < J → ApS c (addX X w.heap.size (w.heap.size + 3)) V nd B T m (pad bs) W0 w.heap.size (w.heap.size + 1) (w.heap.size + 2) j wr → Calls Tryz.prog 44 #[.pointer (some ⟨c.q, 0, none⟩), PV c.M c.F c.n, .pointer (some ⟨w.heap.size + 1, 0, none⟩), .int .i64 ((m + j : Nat) : Int)] wr fun e w' => e = .returned (.int .i64 0) ∧ ApS c (addX X w.heap.size (w.heap.size + 3)) V nd B T m (pad bs) W0 w.heap.size (w.heap.size + 1) (w.heap.size + 2) (j + 1) w') := fun wr j hj h => h.grow ho hj (by omega) hcnt' hW' hX1 (by omega)
  have LY : Hid (∀ wr, ApS c (addX X w.heap.size (w.heap.size + 3)) V nd B T m (pad bs) W0 w.heap.size (w.heap.size + 1) (w.heap.size + 2) J wr → ∃ nd5, NdB 29 (wr.setCell ⟨w.heap.size + 1, 2, none⟩ (.int .i64 (S1 : Int))) (w.heap.size + 1) nd5 ∧ Calls Tryz.prog 45 #[tI c.q, nd5.v, .int .i64 (S0 : Int), u] (wr.setCell ⟨w.heap.size + 1, 2, none⟩ (.int .i64 (S1 : Int))) fun e w6 => e = .returned (.int .i64 0) ∧ NdB 29 w6 (w.heap.size + 1) nd5 ∧ NdB 29 w6 (w.heap.size + 2) Nd.no ∧
      Hid (∀ w7, Chg (fun k => k = w.heap.size + 2) w6 w7 → AppTo c X V nd B T bs b w nd5 w7)) := fun wr h => by
    rw [← hm] at h hW'
    rw [← hS0, ← hS1]
    exact h.lay ho (by omega) hl hF hW' hX1 ⟨by omega, by omega⟩ (hb.kept hc0 (fun _ _ _ _ _ h => h)) (fun g hg h0 => ⟨.inl (hub g hg h0), by have := hlt g (hub g hg h0); omega⟩) hby rfl (fun k hk => ⟨.inl hk, by have := hlt k hk; omega, by have := hlt k hk; omega⟩) (fun k hk => (hc0.block k (hlt k hk) (fun h => h)).symm)
  have FR : Hid (∀ wr, Chg (fun _ => False) W0 wr → Calls Tryz.prog 11 #[PV c.M c.F c.n, .pointer (some ⟨c.q, 0, none⟩)] wr fun e w' => e = .returned (.tuple #[.int .i64 ((c.n - cntT T c.n : Nat) : Int), .int .i64 0]) ∧ Chg (fun _ => False) W0 w') := fun wr hc => by
    refine (fs_free (hs.more (hc0.trans hc (fun _ _ h => h))) ho).mono ?_
    rintro e w' ⟨rfl, h'⟩
    exact ⟨rfl, hc.trans h' (fun _ _ h => h)⟩
  have eA := allN_blk (s := S1) (by omega)
  have eB := allN_blk (s := S0) (by omega)
  rw [← hS1, hm1] at eA
  rw [← hS0, hm] at eB
  rw [hS1] at eA
  rw [hS0] at eB
  have AL1 : Hid (∀ wr, Chg (fun _ => False) W0 wr → Calls Tryz.prog 42 #[.int .i64 (S1 : Int)] wr fun e w' => e = .returned (.int .i64 (allM m1 : Int)) ∧ Chg (fun _ => False) W0 w') := fun wr hc => by
    have := all_any (S1 : Int) wr
    rw [eA.1] at this
    exact this.mono (by rintro e w' ⟨rfl, h'⟩; exact ⟨rfl, hc.trans h' (fun _ _ h => h)⟩)
  have AL0 : Hid (∀ wr, Chg (fun _ => False) W0 wr → Calls Tryz.prog 42 #[.int .i64 (S0 : Int)] wr fun e w' => e = .returned (.int .i64 (allM m : Int)) ∧ Chg (fun _ => False) W0 w') := fun wr hc => by
    have := all_any (S0 : Int) wr
    rw [eB.1] at this
    exact this.mono (by rintro e w' ⟨rfl, h'⟩; exact ⟨rfl, hc.trans h' (fun _ _ h => h)⟩)
  have BL1 : Hid (∀ wr, Calls Tryz.prog 43 #[.int .i64 (S1 : Int)] wr fun e w' => e = .returned (.int .i64 (m1 : Int)) ∧ w' = wr) := fun wr => by
    have := iblocks_any (S1 : Int) wr
    rw [eA.2] at this
    exact this
  have BL0 : Hid (∀ wr, Calls Tryz.prog 43 #[.int .i64 (S0 : Int)] wr fun e w' => e = .returned (.int .i64 (m : Int)) ∧ w' = wr) := fun wr => by
    have := iblocks_any (S0 : Int) wr
    rw [eB.2] at this
    exact this
  have MS : Hid (∀ w : World, Calls Tryz.prog 41 #[] w fun e w' => e = .returned (.int .i64 8458240) ∧ w' = w) := fun w => most_any w
  have hfree : ((c.n - cntT T c.n : Nat) : Int) ≥ (allM m1 : Int) - (allM m : Int) := by
    rw [hm, hm1] at hcnt
    have := cntT_le T c.n
    omega
  have hab : allM m1 ≤ 40000 ∧ allM m ≤ 40000 := by
    unfold allM innM
    constructor
    · split
      · omega
      · split <;> omega
    · split
      · omega
      · split <;> omega
  have hfb : c.n - cntT T c.n ≤ 16384 := by have := ho.pr.top; omega
  obtain ⟨ua, uc, rfl, huc⟩ := hb.formB
  rw [hLb] at LY
  rw [hLb]
  have hbnd : S0 + Lb ≤ 8458240 := by omega
  have hS01 : S0 + Lb = S1 := by omega
  rw [hS0] at hsz
  obtain ⟨kd, lk, zz, e0, e1, e2, e3, e4, e5, e6, e7, on, tw⟩ := nd
  obtain rfl : zz = (S0 : Int) := hsz
  have HA0 : Hid _ := hA0
  have HB : Hid (m ≤ m1 ∧ m1 - m = J) := ⟨hmm, hJ⟩
  have HHW : Hid (((w.alloc (PO c.M c.F c.n)).alloc (Nd.o ⟨kd, lk, (S0 : Int), e0, e1, e2, e3, e4, e5, e6, e7, on, tw⟩ 29)).alloc (Nd.no.o 29) = W0) := hW0
  generalize allM m1 = A1 at *
  generalize allM m = A0 at *
  generalize c.n - cntT T c.n = fr at *
  clear hs hF hb hub hby hcnt hW hcnt' hW' hX1 hA0 hn0 hr0 hp0 hc0 eA eB hlt hJ hmm hW0 hz0 hw0 hm hm1 hLb hS1 hS0 hl
  unfold PV PO at *
  have k1 : decide ((S0 : Int) < 0) = false := by simp
  have wr1 : IntKind.i64.wrap (8458240 - (S0 : Int)) = 8458240 - (S0 : Int) := by rw [IntKind.wrap_i64]; omega
  have k2 : decide (8458240 - (S0 : Int) < (Lb : Int)) = false := by simp; omega
  have k2' : ¬ (8458240 - (S0 : Int) < (Lb : Int)) := by omega
  go_enter Tryz.func15, Tryz.ntmps15
  go_wp2_with fail
  go_cut [27] (fun x wc => x = .bool false ∧ Hid (Chg (fun _ => False) W0 wc))
  case first =>
    go_region_with (first | (go_at_call 41; refine (MS.out _).mono ?_; rintro e w3 ⟨rfl, rfl⟩))
    all_goals (go_wp2_with fail; go_meet; exact ⟨rfl, HHW.out ▸ Chg.drew (fun _ => False) _⟩)
  case rest =>
    obtain ⟨rfl, HC⟩ := hcut
    have hA := (show ∀ wr, _ → _ from HA0.out) wc HC.out
    obtain ⟨_, nd0, _, hgm, hnd⟩ := hA.st
    have n2 := hnd.at.c2
    rw [hgm.same.2.2] at n2
    simp only at n2
    have p0 := hA.pool.c0
    have p1 := hA.pool.c1
    have p2 := hA.pool.c2
    have q0 := (hA.pool.kept (Chg.drew (fun _ => False) wc) (fun h => h)).c0
    have q1 := (hA.pool.kept (Chg.drew (fun _ => False) wc) (fun h => h)).c1
    have q2 := (hA.pool.kept (Chg.drew (fun _ => False) wc) (fun h => h)).c2
    have e01 : (S0 : Int) + (Lb : Int) = (S1 : Int) := by omega
    have wr2 : IntKind.i64.wrap ((S0 : Int) + (Lb : Int)) = (S1 : Int) := by rw [IntKind.wrap_i64]; omega
    have HS01 : Hid (S0 + Lb = S1) := hS01
    have hS1b : S1 ≤ 8458240 := by omega
    clear hA hgm hnd hS01 k1 k2 k2' wr1
    go_wp2_with fail
    go_region
    go_wp2_with fail
    refine (FR.out wc.drew HC.out.dr).mono ?_
    clear FR
    rintro e w1 ⟨rfl, hc1⟩
    have HC1 : Hid (Chg (fun _ => False) W0 w1) := hc1
    clear hc1 n2 p0 p1 p2 q0 q1 q2 HC e01 wr2
    go_wp2_with fail
    refine (AL1.out w1 HC1.out).mono ?_
    clear AL1
    rintro e w2 ⟨rfl, hc2⟩
    have HC2 : Hid (Chg (fun _ => False) W0 w2) := hc2
    clear hc2 HC1
    go_wp2_with fail
    refine (AL0.out w2 HC2.out).mono ?_
    clear AL0
    rintro e w3 ⟨rfl, hc3⟩
    have HC3 : Hid (Chg (fun _ => False) W0 w3) := hc3
    have kf : decide ((fr : Int) < (A1 : Int) - (A0 : Int)) = false := by simp; omega
    have kf' : ¬ ((fr : Int) < (A1 : Int) - (A0 : Int)) := by omega
    obtain ⟨hab1, hab2⟩ := hab
    clear hc3 HC2
    go_wp2_with fail
    refine (BL0.out w3).mono ?_
    clear BL0
    rintro e w4 ⟨rfl, rfl⟩
    have hA := (show ∀ wr, _ → _ from HA0.out) w4 HC3.out
    have HA : Hid (ApS c (addX X w.heap.size (w.heap.size + 3)) V ⟨kd, lk, (S0 : Int), e0, e1, e2, e3, e4, e5, e6, e7, on, tw⟩ B T m (pad bs) W0 w.heap.size (w.heap.size + 1) (w.heap.size + 2) 0 w4) := hA
    clear hA HA0 HC3 kf kf' hfree
    go_wp2_with fail
    go_loopw [14] (fun s14 wr => ∃ j : Nat, j ≤ J ∧ s14 = .int .i64 ((m + j : Nat) : Int) ∧ Hid (ApS c (addX X w.heap.size (w.heap.size + 3)) V ⟨kd, lk, (S0 : Int), e0, e1, e2, e3, e4, e5, e6, e7, on, tw⟩ B T m (pad bs) W0 w.heap.size (w.heap.size + 1) (w.heap.size + 2) j wr)) (fun s14 _ => m1 - (intOf s14).toNat)
    case atStart => exact ⟨0, by omega, rfl, HA⟩
    case round =>
      clear HA
      obtain ⟨j, hj, rfl, HX⟩ := hrel
      have hb := HB.out
      by_cases hlt : j < J
      · have k1 : ((m + j : Nat) : Int) < (m1 : Int) := by omega
        have hG := GW.out wr j hlt HX.out
        have HG : Hid _ := hG
        have p0 := HX.out.pool.c0
        have p1 := HX.out.pool.c1
        have p2 := HX.out.pool.c2
        obtain ⟨t, ht⟩ : ∃ t, m + j = t := ⟨_, rfl⟩
        rw [ht] at HG k1
        rw [ht]
        have HT : Hid (m + j = t) := ht
        clear ht hG hb hj hlt
        go_wp2_with fail
        refine (BL1.out wr).mono ?_
        rintro e w5 ⟨rfl, rfl⟩
        go_wp2_with fail
        refine (show Calls _ _ _ _ _ from HG.out).mono ?_
        clear HG
        rintro e w6 ⟨rfl, hx6⟩
        have HX6 : Hid _ := hx6
        clear hx6 p0 p1 p2
        go_wp2
        go_roundw
        case rel => exact ⟨j + 1, by have := HB.out; have := HT.out; omega, by have := HT.out; exact congrArg (Value.int .i64) (by omega), HX6⟩
        case measure => have := HT.out; simp [intOf]; omega
      · have k1 : ¬ (((m + j : Nat) : Int) < (m1 : Int)) := by omega
        obtain rfl : j = J := by omega
        obtain ⟨nd5, hn5, hl5⟩ := LY.out wr HX.out
        obtain ⟨_, nd4, _, _, hn4⟩ := HX.out.st
        have o2 := hn4.at.c2
        have f2 := hn4.fr 2
        have HL5 : Hid _ := hl5
        obtain ⟨c0, c1, c2, c3, c4, c5, c6, c7, c8, c9, c10, c11, c12⟩ := hn5.at
        obtain ⟨t, ht⟩ : ∃ t, m + j = t := ⟨_, rfl⟩
        rw [ht] at k1
        rw [ht]
        clear hl5 LY GW HX hn4 hn5 hb ht hlt
        go_wp2_with fail
        refine (BL1.out wr).mono ?_
        rintro e w5 ⟨rfl, rfl⟩
        clear BL1
        go_wp2_with fail
        refine (show Calls _ _ _ _ _ from HL5.out).mono ?_
        clear HL5
        rintro e w6 ⟨rfl, hn6, hr6, HZ⟩
        clear c0 c1 c2 c3 c4 c5 c6 c7 c8 c9 c10 c11 c12 o2 f2
        obtain ⟨c0, c1, c2, c3, c4, c5, c6, c7, c8, c9, c10, c11, c12⟩ := hn6.at
        obtain ⟨r0, r1, r2, r3, r4, r5, r6, r7, r8, r9, r10, r11, r12⟩ := hr6.at
        have fr6 := hr6.fr
        have HR6 : Hid (NdB 29 w6 (w.heap.size + 2) Nd.no) := hr6
        clear hr6 hn6
        go_wp2_with fail
        obtain ⟨P1, P2⟩ := HR6.out.put nd5
        have C9 := HZ.out _ P2
        clear c0 c1 c2 c3 c4 c5 c6 c7 c8 c9 c10 c11 c12 r0 r1 r2 r3 r4 r5 r6 r7 r8 r9 r10 r11 r12 P2 HR6 HZ fr6
        unfold putNd at P1 C9
        rw [show w.heap.size + 1 + 1 = w.heap.size + 2 from rfl]
        generalize World.setCell _ ⟨w.heap.size + 2, 12, none⟩ _ = w12 at *
        obtain ⟨c0, c1, c2, c3, c4, c5, c6, c7, c8, c9, c10, c11, c12⟩ := P1.at
        refine bodyPost_ret (v := .tuple #[nd5.v, .int .i64 0]) (by simp [results, Tryz.results15, go_sem, c0, c1, c2, c3, c4, c5, c6, c7, c8, c9, c10, c11, c12]) rfl ⟨nd5, rfl, C9⟩
end
end Go.Proofs.YtnnaemlipahamaaGreat

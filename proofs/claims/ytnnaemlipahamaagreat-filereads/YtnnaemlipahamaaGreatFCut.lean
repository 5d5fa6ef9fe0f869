/-
  Cut of package file, walked.
-/
import Derived.Test.YtnnaemlipahamaaGreatFBack
import Derived.Deep.Cut
namespace Go.Proofs.YtnnaemlipahamaaGreat
open Go.RowKit Go.Maps

theorem nd_split {w : World} {b : Nat} {n : Nd} (g : NdAt w b n) : w.cell? ⟨b, 0, none⟩ = some (.int .i64 n.kd) ∧ w.cell? ⟨b, 1, none⟩ = some (.int .i64 n.lk) ∧ w.cell? ⟨b, 2, none⟩ = some (.int .i64 n.sz) ∧ w.cell? ⟨b, 3, none⟩ = some (.int .i64 n.d0) ∧ w.cell? ⟨b, 4, none⟩ = some (.int .i64 n.d1) ∧ w.cell? ⟨b, 5, none⟩ = some (.int .i64 n.d2) ∧ w.cell? ⟨b, 6, none⟩ = some (.int .i64 n.d3) ∧ w.cell? ⟨b, 7, none⟩ = some (.int .i64 n.d4) ∧ w.cell? ⟨b, 8, none⟩ = some (.int .i64 n.d5) ∧ w.cell? ⟨b, 9, none⟩ = some (.int .i64 n.d6) ∧ w.cell? ⟨b, 10, none⟩ = some (.int .i64 n.d7) ∧ w.cell? ⟨b, 11, none⟩ = some (.int .i64 n.on) ∧ w.cell? ⟨b, 12, none⟩ = some (.int .i64 n.tw) :=
  ⟨g.c0, g.c1, g.c2, g.c3, g.c4, g.c5, g.c6, g.c7, g.c8, g.c9, g.c10, g.c11, g.c12⟩
section
variable {c : Cx} {X : Nat → Prop} {w : World} {V : Nat → List Int} {T : Nat → Bool} {nd : Nd} {B : Nat → Nat} {bs : List Int}
set_option maxHeartbeats 6400000 in
set_option maxRecDepth 100000 in
theorem cut_ok (size : Nat) (hs : Fs c X w V T) (hF : File c V nd B T bs) (ho : c.Ok) (hz : size ≤ bs.length) (hW : WrtC c B (blkC size) size) :
    Calls Tryz.prog 18 #[.pointer (some ⟨c.q, 0, none⟩), PV c.M c.F c.n, nd.v, .int .i64 (size : Int)] w fun e w' => ∃ nd', e = .returned (.tuple #[nd'.v, .int .i64 0]) ∧ CutTo c X V nd B T bs size w nd' w' := by
  have hsz := hF.sz
  have hlim := hF.lim
  obtain ⟨S0, hS0⟩ : ∃ S0, bs.length = S0 := ⟨_, rfl⟩
  obtain ⟨m, hm⟩ : ∃ m, blkC bs.length = m := ⟨_, rfl⟩
  obtain ⟨kp, hkp⟩ : ∃ kp, blkC size = kp := ⟨_, rfl⟩
  have hmm : kp ≤ m := by rw [← hm, ← hkp]; unfold blkC; omega
  have hM : m ≤ 16520 := by rw [← hm]; unfold blkC; omega
  have hkb : size ≤ 512 * kp ∧ 512 * kp ≤ size + 511 := by rw [← hkp]; unfold blkC; omega
  have hlt := hs.tv.xlt
  have hw0 := hs.tv.chg.size
  obtain ⟨W0, hW0⟩ : ∃ W0, ((w.alloc (PO c.M c.F c.n)).alloc (nd.o 29)).alloc (Nd.no.o 29) = W0 := ⟨_, rfl⟩
  have hc0 : Chg (fun _ => False) w W0 := hW0 ▸ ((Chg.alloc (fun _ => False) w _).al _).al _
  have hz0 : W0.heap.size = w.heap.size + 3 := by rw [← hW0]; simp
  have hp0 : PAt W0 w.heap.size c.M c.F c.n := hW0 ▸ (PAt.box w c.M c.F c.n).kept ((Chg.alloc (fun _ => False) _ _).al _) (fun h => h)
  have hn0 : NdB 29 W0 (w.heap.size + 1) nd := by
    have h1 : NdB 29 ((w.alloc (PO c.M c.F c.n)).alloc (nd.o 29)) (w.heap.size + 1) nd := heap_new' (by simp)
    exact hW0 ▸ h1.kept (Chg.alloc (fun _ => False) _ _) (fun h => h)
  have hr0 : NdB 29 W0 (w.heap.size + 2) Nd.no := hW0 ▸ heap_new' (by simp)
  have hA0 : ∀ wr, Chg (fun _ => False) W0 wr → CuS c (addX X w.heap.size (w.heap.size + 3)) V nd B T m kp W0 w.heap.size (w.heap.size + 1) (w.heap.size + 2) (m - kp) wr := fun wr hc => by
    have hf0 := hs.add hc0
    rw [hz0] at hf0
    have hff := hF.fl
    rw [hm] at hff
    have e : kp + (m - kp) = m := by omega
    refine CuS.more ⟨⟨V, nd, ?_, ?_, ⟨rfl, rfl, rfl⟩, fun _ _ _ _ => rfl, hn0⟩, hp0, hr0, fun _ _ _ => rfl⟩ hc
    · rw [e, Nat.sub_self, keysTo, drp_nil]; exact hf0
    · rw [e, Nat.sub_self, keysTo, drp_nil]; exact hff
  have hX1 : addX X w.heap.size (w.heap.size + 3) (w.heap.size + 1) ∧ addX X w.heap.size (w.heap.size + 3) w.heap.size ∧ addX X w.heap.size (w.heap.size + 3) (w.heap.size + 2) ∧ w.heap.size + 1 ≠ w.heap.size ∧ w.heap.size + 1 ≠ w.heap.size + 2 := ⟨.inr ⟨by omega, by omega⟩, .inr ⟨by omega, by omega⟩, .inr ⟨by omega, by omega⟩, by omega, by omega⟩
  rw [hkp] at hW
  have GW : Hid (∀ wr d, kp + d < m → CuS c (addX X w.heap.size (w.heap.size + 3)) V nd B T m kp W0 w.heap.size (w.heap.size + 1) (w.heap.size + 2) (d + 1) wr → Calls Tryz.prog 50 #[.pointer (some ⟨c.q, 0, none⟩), PV c.M c.F c.n, .pointer (some ⟨w.heap.size + 1, 0, none⟩), .int .i64 ((kp + d : Nat) : Int), .int .i64 (kp : Int)] wr fun e w' => e = .returned (.int .i64 0) ∧ CuS c (addX X w.heap.size (w.heap.size + 3)) V nd B T m kp W0 w.heap.size (w.heap.size + 1) (w.heap.size + 2) d w') := fun wr d hd h => h.drop ho hd hM hW hX1 (by omega)
  have hx0 : ∀ k, X k → addX X w.heap.size (w.heap.size + 3) k ∧ k ≠ w.heap.size + 1 ∧ k ≠ w.heap.size + 2 := fun k hk => ⟨.inl hk, by have := hlt k hk; omega, by have := hlt k hk; omega⟩
  have hh0 : ∀ k, X k → w.heap[k]? = W0.heap[k]? := fun k hk => (hc0.block k (hlt k hk) (fun h => h)).symm
  have LY : Hid (∀ wr, CuS c (addX X w.heap.size (w.heap.size + 3)) V nd B T m kp W0 w.heap.size (w.heap.size + 1) (w.heap.size + 2) 0 wr → ∃ nd4, NdB 29 wr (w.heap.size + 1) nd4 ∧ nd4.sz = nd.sz ∧ Hid (∀ u wb, Chg (fun _ => False) wr wb → Bs wb u (zeros (512 * kp - size)) → (∀ g, u.ownBlock = some g → wr.heap.size ≤ g ∧ g < wb.heap.size) → Calls Tryz.prog 45 #[tI c.q, nd4.v, .int .i64 (size : Int), u] wb fun e w6 => e = .returned (.int .i64 0) ∧ NdB 29 w6 (w.heap.size + 1) nd4 ∧ NdB 29 w6 (w.heap.size + 2) Nd.no ∧
      Hid (∀ w8, Chg (fun k => k = w.heap.size + 2) (w6.setCell ⟨w.heap.size + 1, 2, none⟩ (.int .i64 (size : Int))) w8 → CutTo c X V nd B T bs size w (nd4.set 2 (size : Int)) w8))) := fun wr h => by
    subst hm hkp
    exact h.lay ho hF hz hW hX1 ⟨by omega, by omega⟩ hx0 hh0
  have SA : Hid (∀ wr, size = S0 → CuS c (addX X w.heap.size (w.heap.size + 3)) V nd B T m kp W0 w.heap.size (w.heap.size + 1) (w.heap.size + 2) 0 wr → ∃ nd4, NdB 29 wr (w.heap.size + 1) nd4 ∧ nd4.sz = nd.sz ∧ NdB 29 wr (w.heap.size + 2) Nd.no ∧ Hid (∀ w8, Chg (fun k => k = w.heap.size + 2) (wr.setCell ⟨w.heap.size + 1, 2, none⟩ (.int .i64 (size : Int))) w8 → CutTo c X V nd B T bs size w (nd4.set 2 (size : Int)) w8)) := fun wr he h => by
    subst hm hkp
    obtain ⟨nd4, a1, a2, a3⟩ := h.same hF (he.trans hS0.symm) hX1 ⟨by omega, by omega⟩ hx0 hh0
    exact ⟨nd4, a1, a2, h.res, a3⟩
  have eA := allN_blk (s := size) (by omega)
  have eB := allN_blk (s := S0) (by omega)
  rw [← hS0, hm] at eB
  rw [hkp] at eA
  rw [hS0] at eB
  have BL1 : Hid (∀ wr, Calls Tryz.prog 43 #[.int .i64 (size : Int)] wr fun e w' => e = .returned (.int .i64 (kp : Int)) ∧ w' = wr) := fun wr => by
    have := iblocks_any (size : Int) wr
    rw [eA.2] at this
    exact this
  have BL0 : Hid (∀ wr, Calls Tryz.prog 43 #[.int .i64 (S0 : Int)] wr fun e w' => e = .returned (.int .i64 (m : Int)) ∧ w' = wr) := fun wr => by
    have := iblocks_any (S0 : Int) wr
    rw [eB.2] at this
    exact this
  have MB : Hid (∀ wz, wz = W0 → Calls Tryz.prog 46 #[nd.v] wz fun e w1 => e = .returned (.bool true) ∧ Hid (CuS c (addX X w.heap.size (w.heap.size + 3)) V nd B T m kp W0 w.heap.size (w.heap.size + 1) (w.heap.size + 2) (m - kp) w1)) := by
    rintro wz rfl
    refine (maybe_any nd _ (by omega) (by omega)).mono ?_
    rintro e w1 ⟨rfl, hc⟩
    exact ⟨rfl, hA0 w1 hc⟩
  obtain ⟨z, hzz⟩ : ∃ z, 512 * kp - size = z := ⟨_, rfl⟩
  obtain ⟨oz, hmk, hbz⟩ := makeNb z (by omega)
  rw [hzz] at LY
  rw [hS0] at hsz hz
  have HB : Hid (kp ≤ m ∧ size ≤ S0 ∧ 512 * kp = size + z ∧ m ≤ 16520 ∧ S0 ≤ 8458240) := ⟨hmm, hz, by omega, hM, by omega⟩
  obtain ⟨kd, lk, zz, e0, e1, e2, e3, e4, e5, e6, e7, on, tw⟩ := nd
  obtain rfl : zz = (S0 : Int) := hsz
  have k1 : decide ((size : Int) < 0) = false := by simp
  have k2 : decide (S0 < size) = false := by simp; omega
  have k3 : ¬ (S0 < size) := by omega
  have HHW : Hid (((w.alloc (PO c.M c.F c.n)).alloc (Nd.o ⟨kd, lk, (S0 : Int), e0, e1, e2, e3, e4, e5, e6, e7, on, tw⟩ 29)).alloc (Nd.no.o 29) = W0) := hW0
  clear hs hF ho hW hX1 hA0 hn0 hr0 hp0 hc0 eA eB hlt hmm hW0 hz0 hw0 hm hS0 hx0 hh0 hkp hkb hM hzz hlim hz
  unfold PV PO at *
  go_enter Tryz.func18, Tryz.ntmps18
  go_wp2_with fail
  refine (show Calls _ _ _ _ _ from MB.out _ HHW.out).mono ?_
  clear MB HHW
  rintro e w1 ⟨rfl, HC⟩
  go_wp2_with fail
  refine (BL1.out w1).mono ?_
  clear BL1
  rintro e w2 ⟨rfl, rfl⟩
  obtain ⟨_, nd0, _, _, hsame, _, hnd⟩ := HC.out.st
  have n2 := hnd.at.c2
  rw [hsame.2.2] at n2
  simp only at n2
  clear hnd hsame k1 k2 k3
  go_wp2_with fail
  refine (BL0.out w2).mono ?_
  clear BL0
  rintro e w3 ⟨rfl, rfl⟩
  clear n2
  have hmb : (m : Int) ≤ 16520 := by have := HB.out; omega
  go_wp2_with fail
  go_loopw [11] (fun s11 wr => ∃ d : Nat, kp + d ≤ m ∧ s11 = .int .i64 (((kp + d : Nat) : Int) - 1) ∧ Hid (CuS c (addX X w.heap.size (w.heap.size + 3)) V ⟨kd, lk, (S0 : Int), e0, e1, e2, e3, e4, e5, e6, e7, on, tw⟩ B T m kp W0 w.heap.size (w.heap.size + 1) (w.heap.size + 2) d wr)) (fun s11 _ => (intOf s11 + 1).toNat)
  case atStart => exact ⟨m - kp, by have := HB.out; omega, congrArg (Value.int .i64) (by have := HB.out; omega), HC⟩
  case round =>
    clear HC
    obtain ⟨d, hd, rfl, HX⟩ := hrel
    have hb := HB.out
    by_cases hlt : 0 < d
    · obtain ⟨t, rfl⟩ : ∃ t, d = t + 1 := ⟨d - 1, by omega⟩
      obtain ⟨x, hx⟩ : ∃ x, kp + t = x := ⟨_, rfl⟩
      have e : ((kp + (t + 1) : Nat) : Int) - 1 = (x : Int) := by omega
      have k1 : kp ≤ x := by omega
      have hxb : x ≤ 16520 := by omega
      have HG : Hid _ := GW.out wr t (by omega) HX.out
      have p0 := HX.out.pool.c0
      have p1 := HX.out.pool.c1
      have p2 := HX.out.pool.c2
      rw [hx] at HG
      rw [e]
      have HT : Hid (kp + t = x ∧ kp + (t + 1) ≤ m) := ⟨hx, hd⟩
      clear hx e hlt hd hb
      go_wp2_with fail
      refine (show Calls _ _ _ _ _ from HG.out).mono ?_
      clear HG
      rintro e w6 ⟨rfl, hx6⟩
      have HX6 : Hid _ := hx6
      clear hx6 p0 p1 p2
      go_wp2
      go_roundw
      case rel => exact ⟨t, by have := HT.out; omega, by have := HT.out; exact congrArg (Value.int .i64) (by omega), HX6⟩
      case measure => have := HT.out; simp [intOf] <;> omega
    · obtain rfl : d = 0 := by omega
      obtain ⟨y, hy⟩ : ∃ y : Int, ((kp + 0 : Nat) : Int) - 1 = y := ⟨_, rfl⟩
      have k1 : ¬ ((kp : Int) ≤ y) := by omega
      rw [hy]
      by_cases hlt2 : size < S0
      · obtain ⟨nd4, hn4, hs4, L4⟩ := LY.out wr HX.out
        obtain ⟨kd', lk', zz', e0', e1', e2', e3', e4', e5', e6', e7', on', tw'⟩ := nd4
        obtain rfl : zz' = (S0 : Int) := hs4
        obtain ⟨f0, f1, f2, f3, f4, f5, f6, f7, f8, f9, f10, f11, f12⟩ := hn4.at
        simp only at f0 f1 f2 f3 f4 f5 f6 f7 f8 f9 f10 f11 f12
        have w1 : IntKind.i64.wrap ((kp : Int) * 512) = (kp : Int) * 512 := by rw [IntKind.wrap_i64]; omega
        have w2 : IntKind.i64.wrap ((kp : Int) * 512 - (size : Int)) = (z : Int) := by rw [IntKind.wrap_i64]; omega
        have LC : Hid _ := L4.out (.slice (some ⟨wr.heap.size, 0, none⟩) z z) (wr.drew.alloc oz) ((Chg.drew (fun _ => False) wr).al _) (hbz wr.drew) (fun g hg => by
          simp [Value.ownBlock] at hg
          subst hg
          exact ⟨Nat.le_refl _, by show _ < (wr.drew.alloc oz).heap.size; rw [World.size_alloc]; exact Nat.lt_succ_self _⟩)
        have HS := fun {w' : World} (h : Chg (fun _ => False) wr w') => nd_split (hn4.at.kept h (fun h => h))
        simp only at HS
        clear hy hlt hd hb HX LY SA GW hn4 L4
        go_wp2_with fail
        go_cut [13] (fun x wc => x = .int .i64 0 ∧ Hid (NdB 29 wc (w.heap.size + 1) ⟨kd', lk', (S0 : Int), e0', e1', e2', e3', e4', e5', e6', e7', on', tw'⟩ ∧ NdB 29 wc (w.heap.size + 2) Nd.no ∧ Hid (∀ w8, Chg (fun k => k = w.heap.size + 2) (wc.setCell ⟨w.heap.size + 1, 2, none⟩ (.int .i64 (size : Int))) w8 → CutTo c X V ⟨kd, lk, (S0 : Int), e0, e1, e2, e3, e4, e5, e6, e7, on, tw⟩ B T bs size w (Nd.set ⟨kd', lk', (S0 : Int), e0', e1', e2', e3', e4', e5', e6', e7', on', tw'⟩ 2 (size : Int)) w8)))
        case first =>
          go_region_held (fun w' => w'.cell? ⟨w.heap.size + 1, 0, none⟩ = some (.int .i64 kd') ∧ w'.cell? ⟨w.heap.size + 1, 1, none⟩ = some (.int .i64 lk') ∧ w'.cell? ⟨w.heap.size + 1, 2, none⟩ = some (.int .i64 (S0 : Int)) ∧ w'.cell? ⟨w.heap.size + 1, 3, none⟩ = some (.int .i64 e0') ∧ w'.cell? ⟨w.heap.size + 1, 4, none⟩ = some (.int .i64 e1') ∧ w'.cell? ⟨w.heap.size + 1, 5, none⟩ = some (.int .i64 e2') ∧ w'.cell? ⟨w.heap.size + 1, 6, none⟩ = some (.int .i64 e3') ∧ w'.cell? ⟨w.heap.size + 1, 7, none⟩ = some (.int .i64 e4') ∧ w'.cell? ⟨w.heap.size + 1, 8, none⟩ = some (.int .i64 e5') ∧ w'.cell? ⟨w.heap.size + 1, 9, none⟩ = some (.int .i64 e6') ∧ w'.cell? ⟨w.heap.size + 1, 10, none⟩ = some (.int .i64 e7') ∧ w'.cell? ⟨w.heap.size + 1, 11, none⟩ = some (.int .i64 on') ∧ w'.cell? ⟨w.heap.size + 1, 12, none⟩ = some (.int .i64 tw'))
            (first | assumption | exact ⟨f0, f1, f2, f3, f4, f5, f6, f7, f8, f9, f10, f11, f12⟩ | exact HS (Chg.refl _ _) | exact HS (Chg.drew _ _) | exact HS (Chg.alloc _ _ _) | exact HS ((Chg.drew _ _).al _))
            (first | (go_at_call 45; refine (show Calls _ _ _ _ _ from LC.out).mono ?_; rintro e w6 ⟨rfl, hn6, hr6, HZ⟩; clear HS; have HS := fun {w' : World} (h : Chg (fun _ => False) w6 w') => nd_split (hn6.at.kept h (fun h => h)); simp only at HS))
          all_goals (go_wp2_with fail; go_meet; exact ⟨rfl, hn6, hr6, HZ⟩)
        case rest =>
          obtain ⟨rfl, HQ⟩ := hcut
          obtain ⟨hn6, hr6, HZ⟩ := HQ.out
          clear HQ LC HS f0 f1 f2 f3 f4 f5 f6 f7 f8 f9 f10 f11 f12 w1 w2
          have hn7 : NdB 29 (wc.setCell ⟨w.heap.size + 1, 2, none⟩ (.int .i64 (size : Int))) (w.heap.size + 1) ⟨kd', lk', (size : Int), e0', e1', e2', e3', e4', e5', e6', e7', on', tw'⟩ := hn6.st 2 (size : Int) (by omega)
          have hr7 : NdB 29 (wc.setCell ⟨w.heap.size + 1, 2, none⟩ (.int .i64 (size : Int))) (w.heap.size + 2) Nd.no := hr6.kept (Chg.setCell (S := fun k => k = w.heap.size + 1) _ _ _ rfl) (by omega)
          have HZ2 : Hid (∀ w8, Chg (fun k => k = w.heap.size + 2) (wc.setCell ⟨w.heap.size + 1, 2, none⟩ (.int .i64 (size : Int))) w8 → CutTo c X V ⟨kd, lk, (S0 : Int), e0, e1, e2, e3, e4, e5, e6, e7, on, tw⟩ B T bs size w ⟨kd', lk', (size : Int), e0', e1', e2', e3', e4', e5', e6', e7', on', tw'⟩ w8) := HZ.out
          have q2 := hn6.at.c2
          have g2 := hn6.fr 2
          have HN7 : Hid _ := hn7
          have HR7 : Hid _ := hr7
          clear HZ hn6 hr6 hn7 hr7
          go_upto_region 15 with fail
          generalize wc.setCell ⟨w.heap.size + 1, 2, none⟩ (.int .i64 (size : Int)) = w9 at *
          have hn7 : NdB 29 w9 (w.heap.size + 1) ⟨kd', lk', (size : Int), e0', e1', e2', e3', e4', e5', e6', e7', on', tw'⟩ := HN7.out
          have hr7 : NdB 29 w9 (w.heap.size + 2) Nd.no := HR7.out
          obtain ⟨c0, c1, c2, c3, c4, c5, c6, c7, c8, c9, c10, c11, c12⟩ := hn7.at
          obtain ⟨r0, r1, r2, r3, r4, r5, r6, r7, r8, r9, r10, r11, r12⟩ := hr7.at
          have fr6 := hr7.fr
          have HR6 : Hid (NdB 29 w9 (w.heap.size + 2) Nd.no) := hr7
          clear hr7 hn7 HN7 HR7 q2 g2
          simp only at c0 c1 c2 c3 c4 c5 c6 c7 c8 c9 c10 c11 c12
          go_wp2_with fail
          obtain ⟨P1, P2⟩ := HR6.out.put ⟨kd', lk', (size : Int), e0', e1', e2', e3', e4', e5', e6', e7', on', tw'⟩
          have C9 := HZ2.out _ P2
          clear c0 c1 c2 c3 c4 c5 c6 c7 c8 c9 c10 c11 c12 r0 r1 r2 r3 r4 r5 r6 r7 r8 r9 r10 r11 r12 P2 HR6 HZ2 fr6
          unfold putNd at P1 C9
          simp only at P1 C9
          rw [show w.heap.size + 1 + 1 = w.heap.size + 2 from rfl]
          generalize World.setCell _ ⟨w.heap.size + 2, 12, none⟩ _ = w12 at *
          obtain ⟨c0, c1, c2, c3, c4, c5, c6, c7, c8, c9, c10, c11, c12⟩ := P1.at
          refine bodyPost_ret (v := .tuple #[Nd.v ⟨kd', lk', (size : Int), e0', e1', e2', e3', e4', e5', e6', e7', on', tw'⟩, .int .i64 0]) (by simp [results, Tryz.results18, go_sem, c0, c1, c2, c3, c4, c5, c6, c7, c8, c9, c10, c11, c12]) rfl ⟨_, rfl, C9⟩
      · obtain ⟨nd4, hn6, hs4, hr6, HZ⟩ := SA.out wr (by omega) HX.out
        obtain ⟨kd', lk', zz', e0', e1', e2', e3', e4', e5', e6', e7', on', tw'⟩ := nd4
        obtain rfl : zz' = (S0 : Int) := hs4
        clear hy hlt hd hb HX LY SA GW
        have hn7 : NdB 29 (wr.setCell ⟨w.heap.size + 1, 2, none⟩ (.int .i64 (size : Int))) (w.heap.size + 1) ⟨kd', lk', (size : Int), e0', e1', e2', e3', e4', e5', e6', e7', on', tw'⟩ := hn6.st 2 (size : Int) (by omega)
        have hr7 : NdB 29 (wr.setCell ⟨w.heap.size + 1, 2, none⟩ (.int .i64 (size : Int))) (w.heap.size + 2) Nd.no := hr6.kept (Chg.setCell (S := fun k => k = w.heap.size + 1) _ _ _ rfl) (by omega)
        have HZ2 : Hid (∀ w8, Chg (fun k => k = w.heap.size + 2) (wr.setCell ⟨w.heap.size + 1, 2, none⟩ (.int .i64 (size : Int))) w8 → CutTo c X V ⟨kd, lk, (S0 : Int), e0, e1, e2, e3, e4, e5, e6, e7, on, tw⟩ B T bs size w ⟨kd', lk', (size : Int), e0', e1', e2', e3', e4', e5', e6', e7', on', tw'⟩ w8) := HZ.out
        have q2 := hn6.at.c2
        have g2 := hn6.fr 2
        have HN7 : Hid _ := hn7
        have HR7 : Hid _ := hr7
        clear HZ hn6 hr6 hn7 hr7
        go_upto_region 15 with fail
        generalize wr.setCell ⟨w.heap.size + 1, 2, none⟩ (.int .i64 (size : Int)) = w9 at *
        have hn7 : NdB 29 w9 (w.heap.size + 1) ⟨kd', lk', (size : Int), e0', e1', e2', e3', e4', e5', e6', e7', on', tw'⟩ := HN7.out
        have hr7 : NdB 29 w9 (w.heap.size + 2) Nd.no := HR7.out
        obtain ⟨c0, c1, c2, c3, c4, c5, c6, c7, c8, c9, c10, c11, c12⟩ := hn7.at
        obtain ⟨r0, r1, r2, r3, r4, r5, r6, r7, r8, r9, r10, r11, r12⟩ := hr7.at
        have fr6 := hr7.fr
        have HR6 : Hid (NdB 29 w9 (w.heap.size + 2) Nd.no) := hr7
        clear hr7 hn7 HN7 HR7 q2 g2
        simp only at c0 c1 c2 c3 c4 c5 c6 c7 c8 c9 c10 c11 c12
        go_wp2_with fail
        obtain ⟨P1, P2⟩ := HR6.out.put ⟨kd', lk', (size : Int), e0', e1', e2', e3', e4', e5', e6', e7', on', tw'⟩
        have C9 := HZ2.out _ P2
        clear c0 c1 c2 c3 c4 c5 c6 c7 c8 c9 c10 c11 c12 r0 r1 r2 r3 r4 r5 r6 r7 r8 r9 r10 r11 r12 P2 HR6 HZ2 fr6
        unfold putNd at P1 C9
        simp only at P1 C9
        rw [show w.heap.size + 1 + 1 = w.heap.size + 2 from rfl]
        generalize World.setCell _ ⟨w.heap.size + 2, 12, none⟩ _ = w12 at *
        obtain ⟨c0, c1, c2, c3, c4, c5, c6, c7, c8, c9, c10, c11, c12⟩ := P1.at
        refine bodyPost_ret (v := .tuple #[Nd.v ⟨kd', lk', (size : Int), e0', e1', e2', e3', e4', e5', e6', e7', on', tw'⟩, .int .i64 0]) (by simp [results, Tryz.results18, go_sem, c0, c1, c2, c3, c4, c5, c6, c7, c8, c9, c10, c11, c12]) rfl ⟨_, rfl, C9⟩
end
end Go.Proofs.YtnnaemlipahamaaGreat

/-
  Cut of package file, walked.
-/
import Derived.Test.YthohgljlcfbpjaaGreatFCut0
import Derived.Deep.Cut
import Derived.Test.YthohgljlcfbpjaaGreatFApp0
import Derived.Test.YthohgljlcfbpjaaGreatFRef2
namespace Go.Proofs.YthohgljlcfbpjaaGreat
open Go.RowKit Go.Maps

theorem nd_split {w : World} {b : Nat} {n : Nd} (g : NdAt w b n) : w.cell? ⟨b, 0, none⟩ = some (.int .i64 n.kd) ∧ w.cell? ⟨b, 1, none⟩ = some (.int .i64 n.lk) ∧ w.cell? ⟨b, 2, none⟩ = some (.int .i64 n.sz) ∧ w.cell? ⟨b, 3, none⟩ = some (.int .i64 n.d0) ∧ w.cell? ⟨b, 4, none⟩ = some (.int .i64 n.d1) ∧ w.cell? ⟨b, 5, none⟩ = some (.int .i64 n.d2) ∧ w.cell? ⟨b, 6, none⟩ = some (.int .i64 n.d3) ∧ w.cell? ⟨b, 7, none⟩ = some (.int .i64 n.d4) ∧ w.cell? ⟨b, 8, none⟩ = some (.int .i64 n.d5) ∧ w.cell? ⟨b, 9, none⟩ = some (.int .i64 n.d6) ∧ w.cell? ⟨b, 10, none⟩ = some (.int .i64 n.d7) ∧ w.cell? ⟨b, 11, none⟩ = some (.int .i64 n.on) ∧ w.cell? ⟨b, 12, none⟩ = some (.int .i64 n.tw) :=
  ⟨g.c0, g.c1, g.c2, g.c3, g.c4, g.c5, g.c6, g.c7, g.c8, g.c9, g.c10, g.c11, g.c12⟩
section
variable {c : Cx} {X : Nat → Prop} {w : World} {V : Nat → List Int} {T : Nat → Bool} {nd : Nd} {B : Nat → Nat} {bs : List Int}
set_option maxHeartbeats 6400000 in
set_option maxRecDepth 100000 in
theorem cut_ok (size : Nat) (hs : Fs c X w V T) (hF : File c V nd B T bs) (ho : c.Ok) (hz : size ≤ bs.length) (hW : WrtC c B (blkC size) size) :
    Calls Tryz.prog 21 #[.pointer (some ⟨c.q, 0, none⟩), PV c.M c.F c.n, nd.v, .int .i64 (size : Int)] w fun e w' => ∃ nd', e = .returned (.tuple #[nd'.v, .int .i64 0]) ∧ CutTo c X V nd B T bs size w nd' w' := by
  have hsz := hF.sz
  have hlim := hF.lim
  obtain ⟨S0, hS0⟩ : ∃ S0, bs.length = S0 := ⟨_, rfl⟩
  obtain ⟨m, hm⟩ : ∃ m, blkC bs.length = m := ⟨_, rfl⟩
  obtain ⟨kp, hkp⟩ : ∃ kp, blkC size = kp := ⟨_, rfl⟩
  have hmm : kp ≤ m := by rw [← hm, ← hkp]; unfold blkC; omega
  have hM : m ≤ 16520 := by rw [← hm]; unfold blkC; omega
  have hkb : size ≤ 512 * kp ∧ 512 * kp ≤ size + 511 := by rw [← hkp]; unfold blkC; omega
  have hlt := hs.tv.xlt
  have hw0 := hs.tv.chg.size
  obtain ⟨W0, hW0⟩ : ∃ W0, ((w.alloc (PO c.M c.F c.n)).alloc (nd.o 29)).alloc (Nd.no.o 29) = W0 := ⟨_, rfl⟩
  have hc0 : Chg (fun _ => False) w W0 := hW0 ▸ ((Chg.alloc (fun _ => False) w _).al _).al _
  have hz0 : W0.heap.size = w.heap.size + 3 := by rw [← hW0]; simp
  have hp0 : PAt W0 w.heap.size c.M c.F c.n := hW0 ▸ (PAt.box w c.M c.F c.n).kept ((Chg.alloc (fun _ => False) _ _).al _) (fun h => h)
  have hn0 : NdB 29 W0 (w.heap.size + 1) nd := by
    have h1 : NdB 29 ((w.alloc (PO c.M c.F c.n)).alloc (nd.o 29)) (w.heap.size + 1) nd := heap_new' (by simp)
    exact hW0 ▸ h1.kept (Chg.alloc (fun _ => False) _ _) (fun h => h)
  have hr0 : NdB 29 W0 (w.heap.size + 2) Nd.no := hW0 ▸ heap_new' (by simp)
  have hA0 : ∀ wr, Chg (fun _ => False) W0 wr → CuS c (addX X w.heap.size (w.heap.size + 3)) V nd B T m kp W0 w.heap.size (w.heap.size + 1) (w.heap.size + 2) (m - kp) wr := fun wr hc => by
    have hf0 := hs.add hc0
    rw [hz0] at hf0
    have hff := hF.fl
    rw [hm] at hff
    have e : kp + (m - kp) = m := by omega
    refine CuS.more ⟨⟨V, nd, ?_, ?_, ⟨rfl, rfl, rfl⟩, fun _ _ _ _ => rfl, hn0⟩, hp0, hr0, fun _ _ _ => rfl⟩ hc
    · rw [e, Nat.sub_self, keysTo, drp_nil]; exact hf0
    · rw [e, Nat.sub_self, keysTo, drp_nil]; exact hff
  have hX1 : addX X w.heap.size (w.heap.size + 3) (w.heap.size + 1) ∧ addX X w.heap.size (w.heap.size + 3) w.heap.size ∧ addX X w.heap.size (w.heap.size + 3) (w.heap.size + 2) ∧ w.heap.size + 1 ≠ w.heap.size ∧ w.heap.size + 1 ≠ w.heap.size + 2 := ⟨.inr ⟨by omega, by omega⟩, .inr ⟨by omega, by omega⟩, .inr ⟨by omega, by omega⟩, by omega, by omega⟩
  rw [hkp] at hW
  have GW : Hid (∀ wr d, kp + d < m → CuS c (addX X w.heap.size (w.heap.size + 3)) V nd B T m kp W0 w.heap.size (w.heap.size + 1) (w.heap.size + 2) (d + 1) wr → Calls Tryz.prog 53 #[.pointer (some ⟨c.q, 0, none⟩), PV c.M c.F c.n, .pointer (some ⟨w.heap.size + 1, 0, none⟩), .int .i64 ((kp + d : Nat) : Int), .int .i64 (kp : Int)] wr fun e w' => e = .returned (.int .i64 0) ∧ CuS c (addX X w.heap.size (w.heap.size + 3)) V nd B T m kp W0 w.heap.size (w.heap.size + 1) (w.heap.size + 2) d w') := fun wr d hd h => h.drop ho hd hM hW hX1 (by omega)
  have hx0 : ∀ k, X k → addX X w.heap.size (w.heap.size + 3) k ∧ k ≠ w.heap.size + 1 ∧ k ≠ w.heap.size + 2 := fun k hk => ⟨.inl hk, by have := hlt k hk; omega, by have := hlt k hk; omega⟩
  have hh0 : ∀ k, X k → w.heap[k]? = W0.heap[k]? := fun k hk => (hc0.block k (hlt k hk) (fun h => h)).symm
  have LY : Hid (∀ wr, CuS c (addX X w.heap.size (w.heap.size + 3)) V nd B T m kp W0 w.heap.size (w.heap.size + 1) (w.heap.size + 2) 0 wr → ∃ nd4, NdB 29 wr (w.heap.size + 1) nd4 ∧ nd4.sz = nd.sz ∧ Hid (∀ u wb, Chg (fun _ => False) wr wb → Bs wb u (zeros (512 * kp - size)) → (∀ g, u.ownBlock = some g → wr.heap.size ≤ g ∧ g < wb.heap.size) → Calls Tryz.prog 47 #[tI c.q, nd4.v, .int .i64 (size : Int), u] wb fun e w6 => e = .returned (.int .i64 0) ∧ NdB 29 w6 (w.heap.size + 1) nd4 ∧ NdB 29 w6 (w.heap.size + 2) Nd.no ∧
      Hid (∀ w8, Chg (fun k => k = w.heap.size + 2) (w6.setCell ⟨w.heap.size + 1, 2, none⟩ (.int .i64 (size : Int))) w8 → CutTo c X V nd B T bs size w (nd4.set 2 (size : Int)) w8))) := fun wr h => by
    subst hm hkp
    exact h.lay ho hF hz hW hX1 ⟨by omega, by omega⟩ hx0 hh0
  have SA : Hid (∀ wr, size = S0 → CuS c (addX X w.heap.size (w.heap.size + 3)) V nd B T m kp W0 w.heap.size (w.heap.size + 1) (w.heap.size + 2) 0 wr → ∃ nd4, NdB 29 wr (w.heap.size + 1) nd4 ∧ nd4.sz = nd.sz ∧ NdB 29 wr (w.heap.size + 2) Nd.no ∧ Hid (∀ w8, Chg (fun k => k = w.heap.size + 2) (wr.setCell ⟨w.heap.size + 1, 2, none⟩ (.int .i64 (size : Int))) w8 → CutTo c X V nd B T bs size w (nd4.set 2 (size : Int)) w8)) := fun wr he h => by
    subst hm hkp
    obtain ⟨nd4, a1, a2, a3⟩ := h.same hF (he.trans hS0.symm) hX1 ⟨by omega, by omega⟩ hx0 hh0
    exact ⟨nd4, a1, a2, h.res, a3⟩
  have eA := allN_blk (s := size) (by omega)
  have eB := allN_blk (s := S0) (by omega)
  rw [← hS0, hm] at eB
  rw [hkp] at eA
  rw [hS0] at eB
  have BL1 : Hid (∀ wr, Calls Tryz.prog 45 #[.int .i64 (size : Int)] wr fun e w' => e = .returned (.int .i64 (kp : Int)) ∧ w' = wr) := fun wr => by
    have := iblocks_any (size : Int) wr
    rw [eA.2] at this
    exact this
  have BL0 : Hid (∀ wr, Calls Tryz.prog 45 #[.int .i64 (S0 : Int)] wr fun e w' => e = .returned (.int .i64 (m : Int)) ∧ w' = wr) := fun wr => by
    have := iblocks_any (S0 : Int) wr
    rw [eB.2] at this
    exact this
  have MB : Hid (∀ wz, wz = W0 → Calls Tryz.prog 49 #[nd.v] wz fun e w1 => e = .returned (.bool true) ∧ Hid (CuS c (addX X w.heap.size (w.heap.size + 3)) V nd B T m kp W0 w.heap.size (w.heap.size + 1) (w.heap.size + 2) (m - kp) w1)) := by
    rintro wz rfl
    refine (maybe_any nd _ (by omega) (by omega)).mono ?_
    rintro e w1 ⟨rfl, hc⟩
    exact ⟨rfl, hA0 w1 hc⟩
  obtain ⟨z, hzz⟩ : ∃ z, 512 * kp - size = z := ⟨_, rfl⟩
  obtain ⟨oz, hmk, hbz⟩ := makeNb z (by omega)
  rw [hzz] at LY
  rw [hS0] at hsz hz
  have HB : Hid (kp ≤ m ∧ size ≤ S0 ∧ 512 * kp = size + z ∧ m ≤ 16520 ∧ S0 ≤ 8458240) := ⟨hmm, hz, by omega, hM, by omega⟩
  obtain ⟨kd, lk, zz, e0, e1, e2, e3, e4, e5, e6, e7, on, tw⟩ := nd
  obtain rfl : zz = (S0 : Int) := hsz
  have k1 : decide ((size : Int) < 0) = false := by simp
  have k2 : decide (S0 < size) = false := by simp; omega
  have k3 : ¬ (S0 < size) := by omega
  have HHW : Hid (((w.alloc (PO c.M c.F c.n)).alloc (Nd.o ⟨kd, lk, (S0 : Int), e0, e1, e2, e3, e4, e5, e6, e7, on, tw⟩ 29)).alloc (Nd.no.o 29) = W0) := hW0
  clear hs hF ho hW hX1 hA0 hn0 hr0 hp0 hc0 eA eB hlt hmm hW0 hz0 hw0 hm hS0 hx0 hh0 hkp hkb hM hzz hlim hz
  unfold PV PO at *
  go_enter Tryz.func21, Tryz.ntmps21
  go_wp2_with fail
  refine (show Calls _ _ _ _ _ from MB.out _ HHW.out).mono ?_
  clear MB HHW
  rintro e w1 ⟨rfl, HC⟩
  go_wp2_with fail
  refine (BL1.out w1).mono ?_
  clear BL1
  rintro e w2 ⟨rfl, rfl⟩
  obtain ⟨_, nd0, _, _, hsame, _, hnd⟩ := HC.out.st
  have n2 := hnd.at.c2
  rw [hsame.2.2] at n2
  simp only at n2
  clear hnd hsame k1 k2 k3
  go_wp2_with fail
  refine (BL0.out w2).mono ?_
  clear BL0
  rintro e w3 ⟨rfl, rfl⟩
  clear n2
  have hmb : (m : Int) ≤ 16520 := by have := HB.out; omega
  go_wp2_with fail
  go_loopw [11] (fun s11 wr => ∃ d : Nat, kp + d ≤ m ∧ s11 = .int .i64 (((kp + d : Nat) : Int) - 1) ∧ Hid (CuS c (addX X w.heap.size (w.heap.size + 3)) V ⟨kd, lk, (S0 : Int), e0, e1, e2, e3, e4, e5, e6, e7, on, tw⟩ B T m kp W0 w.heap.size (w.heap.size + 1) (w.heap.size + 2) d wr)) (fun s11 _ => (intOf s11 + 1).toNat)
  case atStart => exact ⟨m - kp, by have := HB.out; omega, congrArg (Value.int .i64) (by have := HB.out; omega), HC⟩
  case round =>
    clear HC
    obtain ⟨d, hd, rfl, HX⟩ := hrel
    have hb := HB.out
    by_cases hlt : 0 < d
    · obtain ⟨t, rfl⟩ : ∃ t, d = t + 1 := ⟨d - 1, by omega⟩
      obtain ⟨x, hx⟩ : ∃ x, kp + t = x := ⟨_, rfl⟩
      have e : ((kp + (t + 1) : Nat) : Int) - 1 = (x : Int) := by omega
      have k1 : kp ≤ x := by omega
      have hxb : x ≤ 16520 := by omega
      have HG : Hid _ := GW.out wr t (by omega) HX.out
      have p0 := HX.out.pool.c0
      have p1 := HX.out.pool.c1
      have p2 := HX.out.pool.c2
      rw [hx] at HG
      rw [e]
      have HT : Hid (kp + t = x ∧ kp + (t + 1) ≤ m) := ⟨hx, hd⟩
      clear hx e hlt hd hb
      go_wp2_with fail
      refine (show Calls _ _ _ _ _ from HG.out).mono ?_
      clear HG
      rintro e w6 ⟨rfl, hx6⟩
      have HX6 : Hid _ := hx6
      clear hx6 p0 p1 p2
      go_wp2
      go_roundw
      case rel => exact ⟨t, by have := HT.out; omega, by have := HT.out; exact congrArg (Value.int .i64) (by omega), HX6⟩
      case measure => have := HT.out; simp [intOf] <;> omega
    · obtain rfl : d = 0 := by omega
      obtain ⟨y, hy⟩ : ∃ y : Int, ((kp + 0 : Nat) : Int) - 1 = y := ⟨_, rfl⟩
      have k1 : ¬ ((kp : Int) ≤ y) := by omega
      rw [hy]
      by_cases hlt2 : size < S0
      · obtain ⟨nd4, hn4, hs4, L4⟩ := LY.out wr HX.out
        obtain ⟨kd', lk', zz', e0', e1', e2', e3', e4', e5', e6', e7', on', tw'⟩ := nd4
        obtain rfl : zz' = (S0 : Int) := hs4
        obtain ⟨f0, f1, f2, f3, f4, f5, f6, f7, f8, f9, f10, f11, f12⟩ := hn4.at
        simp only at f0 f1 f2 f3 f4 f5 f6 f7 f8 f9 f10 f11 f12
        have w1 : IntKind.i64.wrap ((kp : Int) * 512) = (kp : Int) * 512 := by rw [IntKind.wrap_i64]; omega
        have w2 : IntKind.i64.wrap ((kp : Int) * 512 - (size : Int)) = (z : Int) := by rw [IntKind.wrap_i64]; omega
        have LC : Hid _ := L4.out (.slice (some ⟨wr.heap.size, 0, none⟩) z z) (wr.drew.alloc oz) ((Chg.drew (fun _ => False) wr).al _) (hbz wr.drew) (fun g hg => by
          simp [Value.ownBlock] at hg
          subst hg
          exact ⟨Nat.le_refl _, by show _ < (wr.drew.alloc oz).heap.size; rw [World.size_alloc]; exact Nat.lt_succ_self _⟩)
        have HS := fun {w' : World} (h : Chg (fun _ => False) wr w') => nd_split (hn4.at.kept h (fun h => h))
        simp only at HS
        clear hy hlt hd hb HX LY SA GW hn4 L4
        go_wp2_with fail
        go_cut [13] (fun x wc => x = .int .i64 0 ∧ Hid (NdB 29 wc (w.heap.size + 1) ⟨kd', lk', (S0 : Int), e0', e1', e2', e3', e4', e5', e6', e7', on', tw'⟩ ∧ NdB 29 wc (w.heap.size + 2) Nd.no ∧ Hid (∀ w8, Chg (fun k => k = w.heap.size + 2) (wc.setCell ⟨w.heap.size + 1, 2, none⟩ (.int .i64 (size : Int))) w8 → CutTo c X V ⟨kd, lk, (S0 : Int), e0, e1, e2, e3, e4, e5, e6, e7, on, tw⟩ B T bs size w (Nd.set ⟨kd', lk', (S0 : Int), e0', e1', e2', e3', e4', e5', e6', e7', on', tw'⟩ 2 (size : Int)) w8)))
        case first =>
          go_region_held (fun w' => w'.cell? ⟨w.heap.size + 1, 0, none⟩ = some (.int .i64 kd') ∧ w'.cell? ⟨w.heap.size + 1, 1, none⟩ = some (.int .i64 lk') ∧ w'.cell? ⟨w.heap.size + 1, 2, none⟩ = some (.int .i64 (S0 : Int)) ∧ w'.cell? ⟨w.heap.size + 1, 3, none⟩ = some (.int .i64 e0') ∧ w'.cell? ⟨w.heap.size + 1, 4, none⟩ = some (.int .i64 e1') ∧ w'.cell? ⟨w.heap.size + 1, 5, none⟩ = some (.int .i64 e2') ∧ w'.cell? ⟨w.heap.size + 1, 6, none⟩ = some (.int .i64 e3') ∧ w'.cell? ⟨w.heap.size + 1, 7, none⟩ = some (.int .i64 e4') ∧ w'.cell? ⟨w.heap.size + 1, 8, none⟩ = some (.int .i64 e5') ∧ w'.cell? ⟨w.heap.size + 1, 9, none⟩ = some (.int .i64 e6') ∧ w'.cell? ⟨w.heap.size + 1, 10, none⟩ = some (.int .i64 e7') ∧ w'.cell? ⟨w.heap.size + 1, 11, none⟩ = some (.int .i64 on') ∧ w'.cell? ⟨w.heap.size + 1, 12, none⟩ = some (.int .i64 tw'))
            (first | assumption | exact ⟨f0, f1, f2, f3, f4, f5, f6, f7, f8, f9, f10, f11, f12⟩ | exact HS (Chg.refl _ _) | exact HS (Chg.drew _ _) | exact HS (Chg.alloc _ _ _) | exact HS ((Chg.drew _ _).al _))
            (first | (go_at_call 47; refine (show Calls _ _ _ _ _ from LC.out).mono ?_; rintro e w6 ⟨rfl, hn6, hr6, HZ⟩; clear HS; have HS := fun {w' : World} (h : Chg (fun _ => False) w6 w') => nd_split (hn6.at.kept h (fun h => h)); simp only at HS))
          all_goals (go_wp2_with fail; go_meet; exact ⟨rfl, hn6, hr6, HZ⟩)
        case rest =>
          obtain ⟨rfl, HQ⟩ := hcut
          obtain ⟨hn6, hr6, HZ⟩ := HQ.out
          clear HQ LC HS f0 f1 f2 f3 f4 f5 f6 f7 f8 f9 f10 f11 f12 w1 w2
          have hn7 : NdB 29 (wc.setCell ⟨w.heap.size + 1, 2, none⟩ (.int .i64 (size : Int))) (w.heap.size + 1) ⟨kd', lk', (size : Int), e0', e1', e2', e3', e4', e5', e6', e7', on', tw'⟩ := hn6.st 2 (size : Int) (by omega)
          have hr7 : NdB 29 (wc.setCell ⟨w.heap.size + 1, 2, none⟩ (.int .i64 (size : Int))) (w.heap.size + 2) Nd.no := hr6.kept (Chg.setCell (S := fun k => k = w.heap.size + 1) _ _ _ rfl) (by omega)
          have HZ2 : Hid (∀ w8, Chg (fun k => k = w.heap.size + 2) (wc.setCell ⟨w.heap.size + 1, 2, none⟩ (.int .i64 (size : Int))) w8 → CutTo c X V ⟨kd, lk, (S0 : Int), e0, e1, e2, e3, e4, e5, e6, e7, on, tw⟩ B T bs size w ⟨kd', lk', (size : Int), e0', e1', e2', e3', e4', e5', e6', e7', on', tw'⟩ w8) := HZ.out
          have q2 := hn6.at.c2
          have g2 := hn6.fr 2
          have HN7 : Hid _ := hn7
          have HR7 : Hid _ := hr7
          clear HZ hn6 hr6 hn7 hr7
          go_upto_region 15 with fail
          generalize wc.setCell ⟨w.heap.size + 1, 2, none⟩ (.int .i64 (size : Int)) = w9 at *
          have hn7 : NdB 29 w9 (w.heap.size + 1) ⟨kd', lk', (size : Int), e0', e1', e2', e3', e4', e5', e6', e7', on', tw'⟩ := HN7.out
          have hr7 : NdB 29 w9 (w.heap.size + 2) Nd.no := HR7.out
          obtain ⟨c0, c1, c2, c3, c4, c5, c6, c7, c8, c9, c10, c11, c12⟩ := hn7.at
          obtain ⟨r0, r1, r2, r3, r4, r5, r6, r7, r8, r9, r10, r11, r12⟩ := hr7.at
          have fr6 := hr7.fr
          have HR6 : Hid (NdB 29 w9 (w.heap.size + 2) Nd.no) := hr7
          clear hr7 hn7 HN7 HR7 q2 g2
          simp only at c0 c1 c2 c3 c4 c5 c6 c7 c8 c9 c10 c11 c12
          go_wp2_with fail
          obtain ⟨P1, P2⟩ := HR6.out.put ⟨kd', lk', (size : Int), e0', e1', e2', e3', e4', e5', e6', e7', on', tw'⟩
          have C9 := HZ2.out _ P2
          clear c0 c1 c2 c3 c4 c5 c6 c7 c8 c9 c10 c11 c12 r0 r1 r2 r3 r4 r5 r6 r7 r8 r9 r10 r11 r12 P2 HR6 HZ2 fr6
          unfold putNd at P1 C9
          simp only at P1 C9
          rw [show w.heap.size + 1 + 1 = w.heap.size + 2 from rfl]
          generalize World.setCell _ ⟨w.heap.size + 2, 12, none⟩ _ = w12 at *
          obtain ⟨c0, c1, c2, c3, c4, c5, c6, c7, c8, c9, c10, c11, c12⟩ := P1.at
          refine bodyPost_ret (v := .tuple #[Nd.v ⟨kd', lk', (size : Int), e0', e1', e2', e3', e4', e5', e6', e7', on', tw'⟩, .int .i64 0]) (by simp [results, Tryz.results21, go_sem, c0, c1, c2, c3, c4, c5, c6, c7, c8, c9, c10, c11, c12]) rfl ⟨_, rfl, C9⟩
      · obtain ⟨nd4, hn6, hs4, hr6, HZ⟩ := SA.out wr (by omega) HX.out
        obtain ⟨kd', lk', zz', e0', e1', e2', e3', e4', e5', e6', e7', on', tw'⟩ := nd4
        obtain rfl : zz' = (S0 : Int) := hs4
        clear hy hlt hd hb HX LY SA GW
        have hn7 : NdB 29 (wr.setCell ⟨w.heap.size + 1, 2, none⟩ (.int .i64 (size : Int))) (w.heap.size + 1) ⟨kd', lk', (size : Int), e0', e1', e2', e3', e4', e5', e6', e7', on', tw'⟩ := hn6.st 2 (size : Int) (by omega)
        have hr7 : NdB 29 (wr.setCell ⟨w.heap.size + 1, 2, none⟩ (.int .i64 (size : Int))) (w.heap.size + 2) Nd.no := hr6.kept (Chg.setCell (S := fun k => k = w.heap.size + 1) _ _ _ rfl) (by omega)
        have HZ2 : Hid (∀ w8, Chg (fun k => k = w.heap.size + 2) (wr.setCell ⟨w.heap.size + 1, 2, none⟩ (.int .i64 (size : Int))) w8 → CutTo c X V ⟨kd, lk, (S0 : Int), e0, e1, e2, e3, e4, e5, e6, e7, on, tw⟩ B T bs size w ⟨kd', lk', (size : Int), e0', e1', e2', e3', e4', e5', e6', e7', on', tw'⟩ w8) := HZ.out
        have q2 := hn6.at.c2
        have g2 := hn6.fr 2
        have HN7 : Hid _ := hn7
        have HR7 : Hid _ := hr7
        clear HZ hn6 hr6 hn7 hr7
        go_upto_region 15 with fail
        generalize wr.setCell ⟨w.heap.size + 1, 2, none⟩ (.int .i64 (size : Int)) = w9 at *
        have hn7 : NdB 29 w9 (w.heap.size + 1) ⟨kd', lk', (size : Int), e0', e1', e2', e3', e4', e5', e6', e7', on', tw'⟩ := HN7.out
        have hr7 : NdB 29 w9 (w.heap.size + 2) Nd.no := HR7.out
        obtain ⟨c0, c1, c2, c3, c4, c5, c6, c7, c8, c9, c10, c11, c12⟩ := hn7.at
        obtain ⟨r0, r1, r2, r3, r4, r5, r6, r7, r8, r9, r10, r11, r12⟩ := hr7.at
        have fr6 := hr7.fr
        have HR6 : Hid (NdB 29 w9 (w.heap.size + 2) Nd.no) := hr7
        clear hr7 hn7 HN7 HR7 q2 g2
        simp only at c0 c1 c2 c3 c4 c5 c6 c7 c8 c9 c10 c11 c12
        go_wp2_with fail
        obtain ⟨P1, P2⟩ := HR6.out.put ⟨kd', lk', (size : Int), e0', e1', e2', e3', e4', e5', e6', e7', on', tw'⟩
        have C9 := HZ2.out _ P2
        clear c0 c1 c2 c3 c4 c5 c6 c7 c8 c9 c10 c11 c12 r0 r1 r2 r3 r4 r5 r6 r7 r8 r9 r10 r11 r12 P2 HR6 HZ2 fr6
        unfold putNd at P1 C9
        simp only at P1 C9
        rw [show w.heap.size + 1 + 1 = w.heap.size + 2 from rfl]
        generalize World.setCell _ ⟨w.heap.size + 2, 12, none⟩ _ = w12 at *
        obtain ⟨c0, c1, c2, c3, c4, c5, c6, c7, c8, c9, c10, c11, c12⟩ := P1.at
        refine bodyPost_ret (v := .tuple #[Nd.v ⟨kd', lk', (size : Int), e0', e1', e2', e3', e4', e5', e6', e7', on', tw'⟩, .int .i64 0]) (by simp [results, Tryz.results21, go_sem, c0, c1, c2, c3, c4, c5, c6, c7, c8, c9, c10, c11, c12]) rfl ⟨_, rfl, C9⟩
end
end Go.Proofs.YthohgljlcfbpjaaGreat

namespace Go.Proofs.YthohgljlcfbpjaaGreat
open Go.RowKit Go.Maps

section
variable {c : Cx} {X : Nat → Prop} {w : World} {V : Nat → List Int} {T : Nat → Bool} {nd : Nd} {B : Nat → Nat} {bs b : List Int}
set_option maxHeartbeats 1600000 in
set_option maxRecDepth 100000 in
theorem append_ok (u : Value) (hs : Fs c X w V T) (hF : File c V nd B T bs) (ho : c.Ok) (hl : bs.length + b.length ≤ 8458240) (hb : Bs w u b) (hub : ∀ g, u.ownBlock = some g → 0 < b.length → X g) (hby : IsBy b)
    (hcnt : cntT T c.n + allM (blkC (bs.length + b.length)) ≤ c.n + allM (blkC bs.length)) (hW : Wrt c (grw c.F c.n (T, B) (keysTo (blkC bs.length) (blkC (bs.length + b.length) - blkC bs.length))).2 (blkC bs.length) (blkC (bs.length + b.length))) :
    Calls Tryz.prog 17 #[.pointer (some ⟨c.q, 0, none⟩), PV c.M c.F c.n, nd.v, u] w fun e w' => ∃ nd', e = .returned (.tuple #[nd'.v, .int .i64 0]) ∧ AppTo c X V nd B T bs b w nd' w' := by
  have hsz := hF.sz
  obtain ⟨S0, hS0⟩ : ∃ S0, bs.length = S0 := ⟨_, rfl⟩
  obtain ⟨S1, hS1⟩ : ∃ S1, bs.length + b.length = S1 := ⟨_, rfl⟩
  obtain ⟨Lb, hLb⟩ : ∃ Lb, b.length = Lb := ⟨_, rfl⟩
  obtain ⟨m, hm⟩ : ∃ m, blkC bs.length = m := ⟨_, rfl⟩
  obtain ⟨m1, hm1⟩ : ∃ m1, blkC (bs.length + b.length) = m1 := ⟨_, rfl⟩
  have hmm : m ≤ m1 := by rw [← hm, ← hm1]; unfold blkC; omega
  have hM : m1 ≤ 16520 := by rw [← hm1]; unfold blkC; omega
  obtain ⟨J, hJ⟩ : ∃ J, m1 - m = J := ⟨_, rfl⟩
  have hlt := hs.tv.xlt
  have hw0 := hs.tv.chg.size
  obtain ⟨W0, hW0⟩ : ∃ W0, ((w.alloc (PO c.M c.F c.n)).alloc (nd.o 29)).alloc (Nd.no.o 29) = W0 := ⟨_, rfl⟩
  have hc0 : Chg (fun _ => False) w W0 := hW0 ▸ ((Chg.alloc (fun _ => False) w _).al _).al _
  have hz0 : W0.heap.size = w.heap.size + 3 := by rw [← hW0]; simp
  have hp0 : PAt W0 w.heap.size c.M c.F c.n := hW0 ▸ (PAt.box w c.M c.F c.n).kept ((Chg.alloc (fun _ => False) _ _).al _) (fun h => h)
  have hn0 : NdB 29 W0 (w.heap.size + 1) nd := by
    have h1 : NdB 29 ((w.alloc (PO c.M c.F c.n)).alloc (nd.o 29)) (w.heap.size + 1) nd := heap_new' (by simp)
    exact hW0 ▸ h1.kept (Chg.alloc (fun _ => False) _ _) (fun h => h)
  have hr0 : NdB 29 W0 (w.heap.size + 2) Nd.no := hW0 ▸ heap_new' (by simp)
  have hA0 : ∀ wr, Chg (fun _ => False) W0 wr → ApS c (addX X w.heap.size (w.heap.size + 3)) V nd B T m (pad bs) W0 w.heap.size (w.heap.size + 1) (w.heap.size + 2) 0 wr := fun wr hc => by
    have hf0 := hs.add hc0
    rw [hz0] at hf0
    have := hF.fl
    rw [hm] at this
    have h2 := hF.ct
    rw [hm] at h2
    exact ApS.more ⟨⟨V, nd, hf0, Gm.start this h2, hn0⟩, hp0, hr0, fun _ _ _ => rfl⟩ hc
  have hcnt' : cntT T c.n + (keysTo m J).length ≤ c.n := by
    have := keysTo_len m J
    rw [show m + J = m1 by omega] at this
    rw [hm, hm1] at hcnt
    omega
  have hW' : Wrt c (grw c.F c.n (T, B) (keysTo m J)).2 m (m + J) := by
    rw [show m + J = m1 by omega]
    rw [hm, hm1, hJ] at hW
    exact hW
  have hX1 : addX X w.heap.size (w.heap.size + 3) (w.heap.size + 1) ∧ addX X w.heap.size (w.heap.size + 3) w.heap.size ∧ addX X w.heap.size (w.heap.size + 3) (w.heap.size + 2) ∧ w.heap.size + 1 ≠ w.heap.size ∧ w.heap.size + 1 ≠ w.heap.size + 2 := ⟨.inr ⟨by omega, by omega⟩, .inr ⟨by omega, by omega⟩, .inr ⟨by omega, by omega⟩, by omega, by omega⟩
  have GW : Hid (∀ wr j, j < J → ApS c (addX X w.heap.size (w.heap.size + 3)) V nd B T m (pad bs) W0 w.heap.size (w.heap.size + 1) (w.heap.size + 2) j wr → Calls Tryz.prog 46 #[.pointer (some ⟨c.q, 0, none⟩), PV c.M c.F c.n, .pointer (some ⟨w.heap.size + 1, 0, none⟩), .int .i64 ((m + j : Nat) : Int)] wr fun e w' => e = .returned (.int .i64 0) ∧ ApS c (addX X w.heap.size (w.heap.size + 3)) V nd B T m (pad bs) W0 w.heap.size (w.heap.size + 1) (w.heap.size + 2) (j + 1) w') := fun wr j hj h => h.grow ho hj (by omega) hcnt' hW' hX1 (by omega)
  have LY : Hid (∀ wr, ApS c (addX X w.heap.size (w.heap.size + 3)) V nd B T m (pad bs) W0 w.heap.size (w.heap.size + 1) (w.heap.size + 2) J wr → ∃ nd5, NdB 29 (wr.setCell ⟨w.heap.size + 1, 2, none⟩ (.int .i64 (S1 : Int))) (w.heap.size + 1) nd5 ∧ Calls Tryz.prog 47 #[tI c.q, nd5.v, .int .i64 (S0 : Int), u] (wr.setCell ⟨w.heap.size + 1, 2, none⟩ (.int .i64 (S1 : Int))) fun e w6 => e = .returned (.int .i64 0) ∧ NdB 29 w6 (w.heap.size + 1) nd5 ∧ NdB 29 w6 (w.heap.size + 2) Nd.no ∧
      Hid (∀ w7, Chg (fun k => k = w.heap.size + 2) w6 w7 → AppTo c X V nd B T bs b w nd5 w7)) := fun wr h => by
    rw [← hm] at h hW'
    rw [← hS0, ← hS1]
    exact h.lay ho (by omega) hl hF hW' hX1 ⟨by omega, by omega⟩ (hb.kept hc0 (fun _ _ _ _ _ h => h)) (fun g hg h0 => ⟨.inl (hub g hg h0), by have := hlt g (hub g hg h0); omega⟩) hby rfl (fun k hk => ⟨.inl hk, by have := hlt k hk; omega, by have := hlt k hk; omega⟩) (fun k hk => (hc0.block k (hlt k hk) (fun h => h)).symm)
  have FR : Hid (∀ wr, Chg (fun _ => False) W0 wr → Calls Tryz.prog 13 #[PV c.M c.F c.n, .pointer (some ⟨c.q, 0, none⟩)] wr fun e w' => e = .returned (.tuple #[.int .i64 ((c.n - cntT T c.n : Nat) : Int), .int .i64 0]) ∧ Chg (fun _ => False) W0 w') := fun wr hc => by
    refine (fs_free (hs.more (hc0.trans hc (fun _ _ h => h))) ho).mono ?_
    rintro e w' ⟨rfl, h'⟩
    exact ⟨rfl, hc.trans h' (fun _ _ h => h)⟩
  have eA := allN_blk (s := S1) (by omega)
  have eB := allN_blk (s := S0) (by omega)
  rw [← hS1, hm1] at eA
  rw [← hS0, hm] at eB
  rw [hS1] at eA
  rw [hS0] at eB
  have AL1 : Hid (∀ wr, Chg (fun _ => False) W0 wr → Calls Tryz.prog 18 #[.int .i64 (S1 : Int)] wr fun e w' => e = .returned (.int .i64 (allM m1 : Int)) ∧ Chg (fun _ => False) W0 w') := fun wr hc => by
    have := all_any (S1 : Int) wr
    rw [eA.1] at this
    exact this.mono (by rintro e w' ⟨rfl, h'⟩; exact ⟨rfl, hc.trans h' (fun _ _ h => h)⟩)
  have AL0 : Hid (∀ wr, Chg (fun _ => False) W0 wr → Calls Tryz.prog 18 #[.int .i64 (S0 : Int)] wr fun e w' => e = .returned (.int .i64 (allM m : Int)) ∧ Chg (fun _ => False) W0 w') := fun wr hc => by
    have := all_any (S0 : Int) wr
    rw [eB.1] at this
    exact this.mono (by rintro e w' ⟨rfl, h'⟩; exact ⟨rfl, hc.trans h' (fun _ _ h => h)⟩)
  have BL1 : Hid (∀ wr, Calls Tryz.prog 45 #[.int .i64 (S1 : Int)] wr fun e w' => e = .returned (.int .i64 (m1 : Int)) ∧ w' = wr) := fun wr => by
    have := iblocks_any (S1 : Int) wr
    rw [eA.2] at this
    exact this
  have BL0 : Hid (∀ wr, Calls Tryz.prog 45 #[.int .i64 (S0 : Int)] wr fun e w' => e = .returned (.int .i64 (m : Int)) ∧ w' = wr) := fun wr => by
    have := iblocks_any (S0 : Int) wr
    rw [eB.2] at this
    exact this
  have MS : Hid (∀ w : World, Calls Tryz.prog 44 #[] w fun e w' => e = .returned (.int .i64 8458240) ∧ w' = w) := fun w => most_any w
  have hfree : ((c.n - cntT T c.n : Nat) : Int) ≥ (allM m1 : Int) - (allM m : Int) := by
    rw [hm, hm1] at hcnt
    have := cntT_le T c.n
    omega
  have hab : allM m1 ≤ 40000 ∧ allM m ≤ 40000 := by
    unfold allM innM
    constructor
    · split
      · omega
      · split <;> omega
    · split
      · omega
      · split <;> omega
  have hfb : c.n - cntT T c.n ≤ 16384 := by have := ho.pr.top; omega
  obtain ⟨ua, uc, rfl, huc⟩ := hb.formB
  rw [hLb] at LY
  rw [hLb]
  have hbnd : S0 + Lb ≤ 8458240 := by omega
  have hS01 : S0 + Lb = S1 := by omega
  rw [hS0] at hsz
  obtain ⟨kd, lk, zz, e0, e1, e2, e3, e4, e5, e6, e7, on, tw⟩ := nd
  obtain rfl : zz = (S0 : Int) := hsz
  have HA0 : Hid _ := hA0
  have HB : Hid (m ≤ m1 ∧ m1 - m = J) := ⟨hmm, hJ⟩
  have HHW : Hid (((w.alloc (PO c.M c.F c.n)).alloc (Nd.o ⟨kd, lk, (S0 : Int), e0, e1, e2, e3, e4, e5, e6, e7, on, tw⟩ 29)).alloc (Nd.no.o 29) = W0) := hW0
  generalize allM m1 = A1 at *
  generalize allM m = A0 at *
  generalize c.n - cntT T c.n = fr at *
  clear hs hF hb hub hby hcnt hW hcnt' hW' hX1 hA0 hn0 hr0 hp0 hc0 eA eB hlt hJ hmm hW0 hz0 hw0 hm hm1 hLb hS1 hS0 hl
  unfold PV PO at *
  have k1 : decide ((S0 : Int) < 0) = false := by simp
  have wr1 : IntKind.i64.wrap (8458240 - (S0 : Int)) = 8458240 - (S0 : Int) := by rw [IntKind.wrap_i64]; omega
  have k2 : decide (8458240 - (S0 : Int) < (Lb : Int)) = false := by simp; omega
  have k2' : ¬ (8458240 - (S0 : Int) < (Lb : Int)) := by omega
  go_enter Tryz.func17, Tryz.ntmps17
  go_wp2_with fail
  go_cut [27] (fun x wc => x = .bool false ∧ Hid (Chg (fun _ => False) W0 wc))
  case first =>
    go_region_with (first | (go_at_call 44; refine (MS.out _).mono ?_; rintro e w3 ⟨rfl, rfl⟩))
    all_goals (go_wp2_with fail; go_meet; exact ⟨rfl, HHW.out ▸ Chg.drew (fun _ => False) _⟩)
  case rest =>
    obtain ⟨rfl, HC⟩ := hcut
    have hA := (show ∀ wr, _ → _ from HA0.out) wc HC.out
    obtain ⟨_, nd0, _, hgm, hnd⟩ := hA.st
    have n2 := hnd.at.c2
    rw [hgm.same.2.2] at n2
    simp only at n2
    have p0 := hA.pool.c0
    have p1 := hA.pool.c1
    have p2 := hA.pool.c2
    have q0 := (hA.pool.kept (Chg.drew (fun _ => False) wc) (fun h => h)).c0
    have q1 := (hA.pool.kept (Chg.drew (fun _ => False) wc) (fun h => h)).c1
    have q2 := (hA.pool.kept (Chg.drew (fun _ => False) wc) (fun h => h)).c2
    have e01 : (S0 : Int) + (Lb : Int) = (S1 : Int) := by omega
    have wr2 : IntKind.i64.wrap ((S0 : Int) + (Lb : Int)) = (S1 : Int) := by rw [IntKind.wrap_i64]; omega
    have HS01 : Hid (S0 + Lb = S1) := hS01
    have hS1b : S1 ≤ 8458240 := by omega
    clear hA hgm hnd hS01 k1 k2 k2' wr1
    go_wp2_with fail
    go_region
    go_wp2_with fail
    refine (FR.out wc.drew HC.out.dr).mono ?_
    clear FR
    rintro e w1 ⟨rfl, hc1⟩
    have HC1 : Hid (Chg (fun _ => False) W0 w1) := hc1
    clear hc1 n2 p0 p1 p2 q0 q1 q2 HC e01 wr2
    go_wp2_with fail
    refine (AL1.out w1 HC1.out).mono ?_
    clear AL1
    rintro e w2 ⟨rfl, hc2⟩
    have HC2 : Hid (Chg (fun _ => False) W0 w2) := hc2
    clear hc2 HC1
    go_wp2_with fail
    refine (AL0.out w2 HC2.out).mono ?_
    clear AL0
    rintro e w3 ⟨rfl, hc3⟩
    have HC3 : Hid (Chg (fun _ => False) W0 w3) := hc3
    have kf : decide ((fr : Int) < (A1 : Int) - (A0 : Int)) = false := by simp; omega
    have kf' : ¬ ((fr : Int) < (A1 : Int) - (A0 : Int)) := by omega
    obtain ⟨hab1, hab2⟩ := hab
    clear hc3 HC2
    go_wp2_with fail
    refine (BL0.out w3).mono ?_
    clear BL0
    rintro e w4 ⟨rfl, rfl⟩
    have hA := (show ∀ wr, _ → _ from HA0.out) w4 HC3.out
    have HA : Hid (ApS c (addX X w.heap.size (w.heap.size + 3)) V ⟨kd, lk, (S0 : Int), e0, e1, e2, e3, e4, e5, e6, e7, on, tw⟩ B T m (pad bs) W0 w.heap.size (w.heap.size + 1) (w.heap.size + 2) 0 w4) := hA
    clear hA HA0 HC3 kf kf' hfree
    go_wp2_with fail
    go_loopw [14] (fun s14 wr => ∃ j : Nat, j ≤ J ∧ s14 = .int .i64 ((m + j : Nat) : Int) ∧ Hid (ApS c (addX X w.heap.size (w.heap.size + 3)) V ⟨kd, lk, (S0 : Int), e0, e1, e2, e3, e4, e5, e6, e7, on, tw⟩ B T m (pad bs) W0 w.heap.size (w.heap.size + 1) (w.heap.size + 2) j wr)) (fun s14 _ => m1 - (intOf s14).toNat)
    case atStart => exact ⟨0, by omega, rfl, HA⟩
    case round =>
      clear HA
      obtain ⟨j, hj, rfl, HX⟩ := hrel
      have hb := HB.out
      by_cases hlt : j < J
      · have k1 : ((m + j : Nat) : Int) < (m1 : Int) := by omega
        have hG := GW.out wr j hlt HX.out
        have HG : Hid _ := hG
        have p0 := HX.out.pool.c0
        have p1 := HX.out.pool.c1
        have p2 := HX.out.pool.c2
        obtain ⟨t, ht⟩ : ∃ t, m + j = t := ⟨_, rfl⟩
        rw [ht] at HG k1
        rw [ht]
        have HT : Hid (m + j = t) := ht
        clear ht hG hb hj hlt
        go_wp2_with fail
        refine (BL1.out wr).mono ?_
        rintro e w5 ⟨rfl, rfl⟩
        go_wp2_with fail
        refine (show Calls _ _ _ _ _ from HG.out).mono ?_
        clear HG
        rintro e w6 ⟨rfl, hx6⟩
        have HX6 : Hid _ := hx6
        clear hx6 p0 p1 p2
        go_wp2
        go_roundw
        case rel => exact ⟨j + 1, by have := HB.out; have := HT.out; omega, by have := HT.out; exact congrArg (Value.int .i64) (by omega), HX6⟩
        case measure => have := HT.out; simp [intOf]; omega
      · have k1 : ¬ (((m + j : Nat) : Int) < (m1 : Int)) := by omega
        obtain rfl : j = J := by omega
        obtain ⟨nd5, hn5, hl5⟩ := LY.out wr HX.out
        obtain ⟨_, nd4, _, _, hn4⟩ := HX.out.st
        have o2 := hn4.at.c2
        have f2 := hn4.fr 2
        have HL5 : Hid _ := hl5
        obtain ⟨c0, c1, c2, c3, c4, c5, c6, c7, c8, c9, c10, c11, c12⟩ := hn5.at
        obtain ⟨t, ht⟩ : ∃ t, m + j = t := ⟨_, rfl⟩
        rw [ht] at k1
        rw [ht]
        clear hl5 LY GW HX hn4 hn5 hb ht hlt
        go_wp2_with fail
        refine (BL1.out wr).mono ?_
        rintro e w5 ⟨rfl, rfl⟩
        clear BL1
        go_wp2_with fail
        refine (show Calls _ _ _ _ _ from HL5.out).mono ?_
        clear HL5
        rintro e w6 ⟨rfl, hn6, hr6, HZ⟩
        clear c0 c1 c2 c3 c4 c5 c6 c7 c8 c9 c10 c11 c12 o2 f2
        obtain ⟨c0, c1, c2, c3, c4, c5, c6, c7, c8, c9, c10, c11, c12⟩ := hn6.at
        obtain ⟨r0, r1, r2, r3, r4, r5, r6, r7, r8, r9, r10, r11, r12⟩ := hr6.at
        have fr6 := hr6.fr
        have HR6 : Hid (NdB 29 w6 (w.heap.size + 2) Nd.no) := hr6
        clear hr6 hn6
        go_wp2_with fail
        obtain ⟨P1, P2⟩ := HR6.out.put nd5
        have C9 := HZ.out _ P2
        clear c0 c1 c2 c3 c4 c5 c6 c7 c8 c9 c10 c11 c12 r0 r1 r2 r3 r4 r5 r6 r7 r8 r9 r10 r11 r12 P2 HR6 HZ fr6
        unfold putNd at P1 C9
        rw [show w.heap.size + 1 + 1 = w.heap.size + 2 from rfl]
        generalize World.setCell _ ⟨w.heap.size + 2, 12, none⟩ _ = w12 at *
        obtain ⟨c0, c1, c2, c3, c4, c5, c6, c7, c8, c9, c10, c11, c12⟩ := P1.at
        refine bodyPost_ret (v := .tuple #[nd5.v, .int .i64 0]) (by simp [results, Tryz.results17, go_sem, c0, c1, c2, c3, c4, c5, c6, c7, c8, c9, c10, c11, c12]) rfl ⟨nd5, rfl, C9⟩
end
end Go.Proofs.YthohgljlcfbpjaaGreat

namespace Go.Proofs.YthohgljlcfbpjaaGreat
open Go.RowKit Go.Maps

theorem keysTo_live (m : Nat) : ∀ (j k : Nat), live (m + j) k ↔ live m k ∨ k ∈ keysTo m j
  | 0, k => by simp [keysTo]
  | j + 1, k => by
    rw [keysTo, List.mem_append, ← or_assoc, ← keysTo_live m j k, ← Nat.add_assoc]
    exact live_succ (m + j) k
theorem grw_lt (F n : Nat) : ∀ (ks : List Nat) (s : (Nat → Bool) × (Nat → Nat)) (k : Nat), cntT s.1 n + ks.length ≤ n → k ∈ ks → F ≤ (grw F n s ks).2 k ∧ (grw F n s ks).2 k < F + n
  | [], _, _, _, h => by cases h
  | a :: r, s, k, hc, h => by
    rw [List.length_cons] at hc
    have hs := frN_spec (n := n) (T := s.1) (by omega)
    have e : cntT (stp F n s a).1 n = cntT s.1 n + 1 := cntT_set hs.2.1 hs.1
    rw [show a :: r = [a] ++ r from rfl, grw_app, grw_one]
    by_cases hr : k ∈ r
    · exact grw_lt F n r _ k (by omega) hr
    · have hka : k = a := (List.mem_cons.1 h).resolve_right hr
      rw [grw_other F n r _ k hr, hka]
      have e2 : (stp F n s a).2 a = F + frN n s.1 := upd_same _ _ _
      rw [e2]; omega
section
variable {c : Cx} {V : Nat → List Int} {nd : Nd} {B : Nat → Nat} {T : Nat → Bool} {bs : List Int} {m J size : Nat}
theorem wrt_all (hf : Fl c (live m) V nd B T) (hc : cntT T c.n + (keysTo m J).length ≤ c.n) (hL : ∀ x, c.F ≤ x → x < c.F + c.n → x ∈ c.L) : Wrt c (grw c.F c.n (T, B) (keysTo m J)).2 m (m + J) := by
  intro k hk _
  by_cases hm : k ∈ keysTo m J
  · have := grw_lt c.F c.n (keysTo m J) (T, B) k hc hm
    exact hL _ this.1 this.2
  · have hl : live m k := ((keysTo_live m J k).1 hk).resolve_right hm
    rw [grw_other _ _ _ _ _ hm]
    have := hf.own k hl
    exact hL _ this.1 this.2.1
theorem wrtC_all (hF : File c V nd B T bs) (hs : size ≤ bs.length) (hL : ∀ x, c.F ≤ x → x < c.F + c.n → x ∈ c.L) : WrtC c B (blkC size) size := by
  have hb : blkC size ≤ blkC bs.length := by unfold blkC; omega
  refine ⟨fun k hk _ => ?_, fun h => ?_⟩
  · have := hF.fl.own k (live_mono hk hb)
    exact hL _ this.1 this.2.1
  · have hl : live (blkC bs.length) (2 * (blkC size - 1)) := by unfold live; omega
    have := hF.fl.own _ hl
    exact hL _ this.1 this.2.1
end
/-- All blocks of a small log. -/
theorem range_all {w0 : World} {pd pl q n : Nat} {f : Nat → List Int} {com : Nat → Option (List Int)} {pend N : Nat} : ∀ x, (cx8 (List.range (n + 1)) w0 pd pl q n f com pend N).F ≤ x → x < (cx8 (List.range (n + 1)) w0 pd pl q n f com pend N).F + (cx8 (List.range (n + 1)) w0 pd pl q n f com pend N).n → x ∈ (cx8 (List.range (n + 1)) w0 pd pl q n f com pend N).L := fun x _ h2 => by
  show x ∈ List.range (n + 1)
  have : x < 1 + n := h2
  rw [List.mem_range]; omega
section
variable {X : Nat → Prop} {w0 w : World} {pd pl q n : Nat} {f : Nat → List Int} {com : Nat → Option (List Int)} {pend N : Nat} {V : Nat → List Int} {T : Nat → Bool} {nd : Nd} {B : Nat → Nat} {bs b : List Int}
/-- Append, where it fits, in a small log. -/
theorem app_all (u : Value) (h1 : 1 ≤ n) (h2 : n ≤ 4096) (hs : Fs (cx8 (List.range (n + 1)) w0 pd pl q n f com pend N) X w V T) (hF : File (cx8 (List.range (n + 1)) w0 pd pl q n f com pend N) V nd B T bs) (hl : bs.length + b.length ≤ 8458240) (hb : Bs w u b) (hub : ∀ g, u.ownBlock = some g → 0 < b.length → X g) (hby : IsBy b)
    (hcnt : cntT T n + allM (blkC (bs.length + b.length)) ≤ n + allM (blkC bs.length)) :
    Calls Tryz.prog 17 #[.pointer (some ⟨q, 0, none⟩), PV 0 1 n, nd.v, u] w fun e w' => ∃ nd', e = .returned (.tuple #[nd'.v, .int .i64 0]) ∧ AppTo (cx8 (List.range (n + 1)) w0 pd pl q n f com pend N) X V nd B T bs b w nd' w' := by
  have hle : blkC bs.length ≤ blkC (bs.length + b.length) := by unfold blkC; omega
  refine append_ok u hs hF (cx8_ok h1 h2 (by rw [List.mem_range]; omega)) hl hb hub hby hcnt ?_
  have hk := keysTo_len (blkC bs.length) (blkC (bs.length + b.length) - blkC bs.length)
  rw [show blkC bs.length + (blkC (bs.length + b.length) - blkC bs.length) = blkC (bs.length + b.length) by omega] at hk
  have := wrt_all (J := blkC (bs.length + b.length) - blkC bs.length) hF.fl (by show cntT T n + _ ≤ n; omega) range_all
  rw [show blkC bs.length + (blkC (bs.length + b.length) - blkC bs.length) = blkC (bs.length + b.length) by omega] at this
  exact this
theorem cut_all (size : Nat) (h1 : 1 ≤ n) (h2 : n ≤ 4096) (hs : Fs (cx8 (List.range (n + 1)) w0 pd pl q n f com pend N) X w V T) (hF : File (cx8 (List.range (n + 1)) w0 pd pl q n f com pend N) V nd B T bs) (hz : size ≤ bs.length) :
    Calls Tryz.prog 21 #[.pointer (some ⟨q, 0, none⟩), PV 0 1 n, nd.v, .int .i64 (size : Int)] w fun e w' => ∃ nd', e = .returned (.tuple #[nd'.v, .int .i64 0]) ∧ CutTo (cx8 (List.range (n + 1)) w0 pd pl q n f com pend N) X V nd B T bs size w nd' w' :=
  cut_ok size hs hF (cx8_ok h1 h2 (by rw [List.mem_range]; omega)) hz (wrtC_all hF hz range_all)
end
section
variable {c : Cx} {X : Nat → Prop} {w : World} {V : Nat → List Int} {T : Nat → Bool} {nd : Nd} {B : Nat → Nat} {bs : List Int}
/-- Read of a file. -/
theorem read_file (off cnt : Nat) (hs : Fs c X w V T) (hF : File c V nd B T bs) (ho : c.Ok) (h1 : off < 9223372036854775808) (h2 : cnt < 9223372036854775808) :
    Calls Tryz.prog 19 #[tI c.q, nd.v, .int .i64 (off : Int), .int .i64 (cnt : Int)] w fun e w' => ∃ u, e = .returned (.tuple #[u, .int .i64 0]) ∧ Own w w' u ((bs.drop off).take cnt) := by
  have hlim := hF.lim
  have hb : bs.length ≤ 512 * blkC bs.length := by unfold blkC; omega
  refine (fread_any off cnt _ hs hF.fl ho hF.ct hF.sz hb (by unfold blkC; omega) hlim h2 h1 rfl).mono ?_
  rintro e w' ⟨u, rfl, hw⟩
  refine ⟨u, rfl, ?_⟩
  have e : ((pad bs).drop off).take (min cnt (bs.length - off)) = (bs.drop off).take cnt := by
    unfold pad
    by_cases ho : off ≤ bs.length
    · rw [List.drop_append_of_le_length ho, List.take_append_of_le_length (by rw [List.length_drop]; omega)]
      by_cases hc : cnt ≤ bs.length - off
      · rw [Nat.min_eq_left hc]
      · rw [Nat.min_eq_right (by omega), List.take_of_length_le (by rw [List.length_drop]; omega), List.take_of_length_le (by rw [List.length_drop]; omega)]
    · rw [show bs.length - off = 0 by omega, Nat.min_zero, List.take_zero, List.drop_eq_nil_of_le (by omega), List.take_nil]
  rw [e] at hw
  exact hw
end
end Go.Proofs.YthohgljlcfbpjaaGreat

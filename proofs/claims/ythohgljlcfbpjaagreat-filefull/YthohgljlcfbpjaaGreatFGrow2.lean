/-
  grow of package file, walked.
-/
import Derived.Test.YthohgljlcfbpjaaGreatFGrow0
namespace Go.Proofs.YthohgljlcfbpjaaGreat
open Go.RowKit Go.Maps

section
variable {c : Cx} {X : Nat → Prop} {w : World} {V : Nat → List Int} {T : Nat → Bool} {nd : Nd} {B : Nat → Nat} {nb i : Nat}
set_option maxHeartbeats 3200000 in
set_option maxRecDepth 100000 in
theorem grow_any (hs : Fs c X w V T) (hf : Fl c (live i) V nd B T) (ho : c.Ok) (hn : NdB 29 w nb nd) (hX : X nb) (hr : c.w0.heap.size ≤ nb) (hi : i < 16520) (hcnt : cntT T c.n + (begunK i).length ≤ c.n) (hL : Lg c (T, B) (begunK i)) :
    Calls Tryz.prog 46 #[.pointer (some ⟨c.q, 0, none⟩), PV c.M c.F c.n, .pointer (some ⟨nb, 0, none⟩), .int .i64 (i : Int)] w fun e w' => e = .returned (.int .i64 0) ∧
      ∃ V' nd', Fs c X w' V' (grw c.F c.n (T, B) (begunK i)).1 ∧ Gr c (live i) (begunK i) V nd B T (begunK i).length V' nd' ∧ NdB 29 w' nb nd' ∧ ∀ k, X k → k ≠ nb → w'.heap[k]? = w.heap[k]? := by
  obtain ⟨o5, hmk, hnew⟩ := make512b
  have hbx := PAt.box w c.M c.F c.n
  have hlt := hs.tv.xlt nb hX
  have BG : Hid (Calls Tryz.prog 54 #[tI c.q, .pointer (some ⟨nb, 0, none⟩), .int .i64 (i : Int)] (w.alloc (PO c.M c.F c.n)) fun e w2 => ∃ (b m cp : Nat), e = .returned (.slice (some ⟨b, 0, none⟩) m cp) ∧ m ≤ cp ∧ m ≤ 3 ∧
      Hid (∃ l cur, (begunK i).length = m ∧ w.heap.size + 1 ≤ b ∧ b < w2.heap.size ∧ GrW c (addX X w.heap.size w2.heap.size) (begunK i) V nd B T (live i) nb w.heap.size b (w.heap.size + 1) l cur w2 w2 0 ∧ Chg (fun _ => False) w w2)) := by
    refine (begun_any c.q nb i _ hi).mono ?_
    rintro e w2 ⟨b, cp, l, cur, rfl, h1, h2, h3, h4, h5⟩
    have hc2 := (Chg.alloc (fun _ => False) w (PO c.M c.F c.n)).trans h4 (fun _ _ h => h)
    have hsz : (w.alloc (PO c.M c.F c.n)).heap.size = w.heap.size + 1 := by simp
    rw [hsz] at h2 h5
    have hb3 : (begunK i).length ≤ 3 := by
      have := begunK_way i
      have := wayK_len i
      omega
    refine ⟨b, _, cp, rfl, h1, hb3, l, cur, rfl, h2, lt_of_block h3, ⟨⟨V, nd, ?_, Gr.start hf, hn.kept hc2 (fun h => h)⟩, h3, h5, hbx.kept h4 (fun h => h), fun _ _ _ => rfl⟩, hc2⟩
    rw [List.take_zero, grw_nil]
    exact hs.add hc2
  have HCN : Hid (cntT T c.n + (begunK i).length ≤ c.n) := hcnt
  have HLL : Hid (Lg c (T, B) (begunK i)) := hL
  have HX : Hid (X nb ∧ nb < w.heap.size ∧ ∀ k, X k → k < w.heap.size) := ⟨hX, hlt, hs.tv.xlt⟩
  clear hs hf hn hX hcnt hL hlt
  unfold PO at BG
  unfold PV
  go_enter Tryz.func46, Tryz.ntmps46
  go_wp2_with fail
  refine BG.out.mono ?_
  clear BG
  rintro e w2 ⟨b, m, cp, rfl, hmc, hm3, HB⟩
  obtain ⟨l, cur, hbl, hlb, hbw, hg0, hch⟩ := HB.out
  have HBL : Hid ((begunK i).length = m) := hbl
  have HG0 : Hid (GrW c (addX X w.heap.size w2.heap.size) (begunK i) V nd B T (live i) nb w.heap.size b (w.heap.size + 1) l cur w2 w2 0) := hg0
  have HCH : Hid (Chg (fun _ => False) w w2) := hch
  have HBW : Hid (w.heap.size + 1 ≤ b ∧ b < w2.heap.size) := ⟨hlb, hbw⟩
  clear HB hbl hg0 hch hlb hbw hbx
  go_wp2_with fail
  go_loopw [21] (fun s21 wr => ∃ j : Nat, j ≤ m ∧ s21 = .int .i64 (j : Int) ∧ Hid (GrW c (addX X w.heap.size w2.heap.size) (begunK i) V nd B T (live i) nb w.heap.size b (w.heap.size + 1) l cur w2 wr j)) (fun s21 _ => m - (intOf s21).toNat)
  case atStart => exact ⟨0, by omega, rfl, HG0⟩
  case round =>
    clear HG0
    obtain ⟨j, hj, rfl, HG⟩ := hrel
    by_cases hlt : j < m
    · have k1 : (j : Int) < (m : Int) := by omega
      have hjl : j < (begunK i).length := by have := HBL.out; omega
      obtain ⟨c0, c1, c2, c3⟩ := HG.out.row.cell (HG.out.sp j hjl).1
      obtain ⟨s, hs⟩ : ∃ s, grw c.F c.n (T, B) ((begunK i).take j) = s := ⟨_, rfl⟩
      obtain ⟨k, hk⟩ : ∃ k, (begunK i).getD j 0 = k := ⟨_, rfl⟩
      have hcs : cntT s.1 c.n < c.n := by
        have hl : ((begunK i).take j).length = j := by rw [List.length_take]; omega
        have := grw_cnt c.F c.n ((begunK i).take j) (T, B) (by have := HCN.out; simp only; omega)
        rw [hs, hl] at this
        have := HCN.out
        simp only at *
        omega
      obtain ⟨t, ht⟩ : ∃ t, frN c.n s.1 = t := ⟨_, rfl⟩
      have GK : Hid _ := grow_key HG.out ho hjl hk hs ht hcs hi (fun q h1 h2 => .inr ⟨by omega, by have := HBW.out; omega⟩) (.inl HX.out.1) hr (.inr ⟨Nat.le_refl _, by have := HBW.out; omega⟩) ⟨by have := HX.out; have := HBW.out; omega, by have := HX.out; omega, by have := HX.out; omega, HBW.out.1⟩ HLL.out
      have hst := (HG.out.sp j hjl).2.cl.one.2
      have hgo := (HG.out.sp j hjl).2.cl.one.1
      have hg1 : ∀ (a : Addr) (m : Mode) (w : World), (store a (l j).g m).run Tryz.prog w = stored Tryz.prog w a (l j).g m := fun a m w => run_store Tryz.prog w a _ m hgo
      have hg2 : ∀ (a : Addr) (m : Mode) (w : World), (store a (l j).st m).run Tryz.prog w = stored Tryz.prog w a (l j).st m := fun a m w => run_store Tryz.prog w a _ m hst
      have hp := HG.out.pool
      have p0 := fun o => (hp.kept (Chg.alloc (fun _ => False) wr o) (fun h => h)).c0
      have p1 := fun o => (hp.kept (Chg.alloc (fun _ => False) wr o) (fun h => h)).c1
      have p2 := fun o => (hp.kept (Chg.alloc (fun _ => False) wr o) (fun h => h)).c2
      obtain ⟨xn, hxn⟩ : ∃ xn, c.F + t = xn := ⟨_, rfl⟩
      rw [hxn] at GK
      unfold PV at GK
      generalize hfi : (l j).fi = fi at *
      generalize hwi : (l j).wi = wi at *
      generalize hgg : (l j).g = g at *
      generalize hss : (l j).st = st at *
      clear hs hk hcs ht hst hgo hp hxn hfi hwi hgg HG hjl
      go_wp2_with fail
      refine (show Calls _ _ _ _ _ from GK.out (spO fi wi g st)).mono ?_
      clear GK
      rintro e w4 ⟨rfl, hb4, WR⟩
      have q3 : w4.cell? ⟨wr.heap.size, 3, none⟩ = some st := by rw [cell_of_row _ _ _ _ _ _ hb4]; rfl
      have hnw := hnew w4
      have WR2 : Hid _ := WR.out _ _ _ hnw
      clear WR hnw hb4
      go_wp2_with fail
      refine (show Calls _ _ _ _ _ from WR2.out).mono ?_
      clear WR2
      rintro e w5 ⟨rfl, hb5, hcase⟩
      have q5 : w5.cell? ⟨wr.heap.size, 3, none⟩ = some st := by rw [cell_of_row _ _ _ _ _ _ hb5]; rfl
      clear hb5 q3
      rcases hcase with ⟨_, sb, rfl, SC⟩ | ⟨_, sb, rfl, SC⟩
      · go_wp2_with fail
        refine SC.out.mono ?_
        clear SC
        rintro e w6 ⟨rfl, HN⟩
        go_wp2
        go_roundw
        case rel => exact ⟨j + 1, by omega, by go_num, HN⟩
        case measure => simp [intOf]; omega
      · go_wp2_with fail
        refine SC.out.mono ?_
        clear SC
        rintro e w6 ⟨rfl, HN⟩
        go_wp2
        go_roundw
        case rel => exact ⟨j + 1, by omega, by go_num, HN⟩
        case measure => simp [intOf]; omega
    · have k1 : ¬ ((j : Int) < (m : Int)) := by omega
      have e : j = m := by omega
      go_wp2
      go_ret
      subst e
      obtain ⟨⟨V', nd', h1, h2, h3⟩, _, _, _, h7⟩ := HG.out
      have hbl := HBL.out
      rw [← hbl] at h1 h2
      rw [List.take_length] at h1
      refine ⟨rfl, V', h1.less (fun k hk => .inl hk), nd', h2, h3, fun k hk hne => ?_⟩
      exact (h7 k (.inl hk) hne).trans (HCH.out.block k (HX.out.2.2 k hk) (fun h => h))
end
end Go.Proofs.YthohgljlcfbpjaaGreat

namespace Go.Proofs.YthohgljlcfbpjaaGreat
open Go.RowKit Go.Maps

section
variable {c : Cx} {w : World} {T : Nat → Bool} {Lv : Nat → Prop} {nd : Nd} {B : Nat → Nat}
set_option maxHeartbeats 1600000 in
set_option maxRecDepth 100000 in
theorem pieces_any (g off count : Nat) (p1 p2 : Value) (I : Nat → World → Prop) (ho : c.Ok) (hoff : off + count ≤ 8458240)
    (hcf : ∀ (x y z : Int) (w : World), (callFunc g #[.int .i64 x, .int .i64 y, .int .i64 z, p1, p2]).run Tryz.prog w = .ok (.enter g #[.int .i64 x, .int .i64 y, .int .i64 z, p1, p2]) w)
    (hLv : ∀ i, i * 512 < off + count → Lv (2 * i)) (hbB : ∀ k, Lv k → B k < 4294967296)
    (h0 : I 0 (w.alloc (nd.o 29)))
    (hI : ∀ d wa, I d wa → NdAt wa w.heap.size nd ∧ ∃ X V', Fs c X wa V' T ∧ Fl c Lv V' nd B T)
    (hm : ∀ d wa wb, I d wa → Chg (fun _ => False) wa wb → I d wb)
    (hstep : ∀ d wa x fr tq, d < count → x = B (2 * ((off + d) / 512)) → fr = (off + d) % 512 → tq = min (fr + (count - d)) 512 → I d wa →
      Calls Tryz.prog g #[.int .i64 (x : Int), .int .i64 (fr : Int), .int .i64 (tq : Int), p1, p2] wa fun e w' => e = .returned (.int .i64 0) ∧ I (d + (tq - fr)) w') :
    Calls Tryz.prog 50 #[tI c.q, nd.v, .int .i64 (off : Int), .int .i64 (count : Int), .func (.func g) #[] #[p1, p2]] w fun e w' => e = .returned (.int .i64 0) ∧ I count w' := by
  have HI : Hid (∀ d wa, I d wa → NdAt wa w.heap.size nd ∧ ∃ X V', Fs c X wa V' T ∧ Fl c Lv V' nd B T) := hI
  have HM : Hid (∀ d wa wb, I d wa → Chg (fun _ => False) wa wb → I d wb) := hm
  have HS : Hid _ := hstep
  have HL : Hid (∀ i, i * 512 < off + count → Lv (2 * i)) := hLv
  have HB : Hid (∀ k, Lv k → B k < 4294967296) := hbB
  have H0 : Hid (I 0 (w.alloc (nd.o 29))) := h0
  clear hI hm hstep hLv h0 hbB
  go_enter Tryz.func50, Tryz.ntmps50
  go_wp2_with fail
  go_loopw [2, 3] (fun s2 s3 wr => ∃ d : Nat, d ≤ count ∧ s2 = .int .i64 ((off + d : Nat) : Int) ∧ s3 = .int .i64 ((count - d : Nat) : Int) ∧ Hid (I d wr)) (fun _ s3 _ => (intOf s3).toNat)
  case atStart => exact ⟨0, by omega, rfl, rfl, H0⟩
  case round =>
    clear H0
    obtain ⟨d, hd, rfl, rfl, HW⟩ := hrel
    by_cases hlt : d < count
    · obtain ⟨hn, X, V', hfs, hfl⟩ := HI.out d wr HW.out
      obtain ⟨n0, n1, n2, n3, n4, n5, n6, n7, n8, n9, n10, n11, n12⟩ := hn
      obtain ⟨P, hP⟩ : ∃ P, off + d = P := ⟨_, rfl⟩
      obtain ⟨R, hR⟩ : ∃ R, count - d = R := ⟨_, rfl⟩
      have hR0 : 0 < R := by omega
      have hPb : P < 8458240 := by omega
      have hRb : R ≤ 8458240 := by omega
      have hlv := HL.out (P / 512) (by omega)
      have FD : Hid (Calls Tryz.prog 82 #[tI c.q, nd.v, .int .i64 ((P / 512 : Nat) : Int)] wr fun e w' => e = .returned (.tuple #[.int .i64 (B (2 * (P / 512)) : Int), .int .i64 0]) ∧ Chg (fun _ => False) wr w') := find_any (P / 512) hfs hfl ho hlv (by omega)
      have hBb := HB.out _ hlv
      obtain ⟨Q, hQ⟩ : ∃ Q, P / 512 = Q := ⟨_, rfl⟩
      rw [hQ] at FD hBb
      obtain ⟨fr, hfr⟩ : ∃ fr, P % 512 = fr := ⟨_, rfl⟩
      obtain ⟨tq, hto⟩ : ∃ tq, min (fr + R) 512 = tq := ⟨_, rfl⟩
      have ST : Hid (∀ wa, I d wa → Calls Tryz.prog g #[.int .i64 (B (2 * Q) : Int), .int .i64 (fr : Int), .int .i64 (tq : Int), p1, p2] wa fun e w' => e = .returned (.int .i64 0) ∧ I (d + (tq - fr)) w') := fun wa ha => (show ∀ d wa x fr tq, _ from HS.out) d wa _ fr tq hlt (by rw [hP, hQ]) (by rw [hP, hfr]) (by rw [hR, hto]) ha
      have hfrb : fr < 512 := by omega
      have htob : tq ≤ 512 ∧ fr < tq ∧ tq ≤ fr + R := by omega
      generalize B (2 * Q) = x at *
      have e1 : (P : Int) / 512 = (Q : Int) := by omega
      have e2 : (P : Int) % 512 = (fr : Int) := by omega
      rw [hP, hR]
      have k1 : (0 : Int) < (R : Int) := by omega
      have k2 : min ((fr : Int) + (R : Int)) 512 = (tq : Int) := by omega
      have HE : Hid (off + d = P ∧ count - d = R ∧ (fr < 512 ∧ tq ≤ 512 ∧ fr < tq ∧ tq ≤ fr + R) ∧ min (fr + R) 512 = tq) := ⟨hP, hR, ⟨hfrb, htob⟩, hto⟩
      clear hfs hfl hlv hQ hfr hto hP hR
      unfold Nd.v at FD
      go_wp2_with fail
      refine FD.out.mono ?_
      clear FD
      rintro e w1 ⟨rfl, hc1⟩
      have ST1 : Hid _ := ST.out w1 (HM.out d wr w1 HW.out hc1)
      clear ST hc1 n0 n1 n2 n3 n4 n5 n6 n7 n8 n9 n10 n11 n12
      obtain ⟨t1, t2, t3⟩ := htob
      by_cases hmin : fr + R ≤ 512
      · have htq : tq = fr + R := by omega
        have m1 : (fr : Int) + (R : Int) = (tq : Int) := by omega
        have m2 : ¬ ((512 : Int) < (tq : Int)) := by omega
        have m3 : (tq : Int) ≤ 512 := by omega
        have m4 : (tq : Int) - (fr : Int) = (R : Int) := by omega
        clear k2 htq
        go_wp2_with fail
        rw [e2, Int.min_eq_left m3]
        refine (show Calls _ _ _ _ _ from ST1.out).mono ?_
        clear ST1
        rintro e w2 ⟨rfl, hI2⟩
        have HW2 : Hid (I (d + (tq - fr)) w2) := hI2
        obtain ⟨P2, hP2⟩ : ∃ P2, P + R = P2 := ⟨_, rfl⟩
        have m5 : (P : Int) + (R : Int) = (P2 : Int) := by omega
        have m6 : (R : Int) - (R : Int) = 0 := by omega
        have HP2 : Hid (P + R = P2) := hP2
        clear hI2 hP2
        go_wp2
        go_roundw
        case rel =>
          obtain ⟨a1, a2, a3, a4⟩ := HE.out
          have := HP2.out
          refine ⟨d + (tq - fr), by omega, ?_, ?_, HW2⟩
          · exact congrArg (Value.int .i64) (by omega)
          · exact congrArg (Value.int .i64) (by omega)
        case measure => simp [intOf]; omega
      · have htq : tq = 512 := by omega
        subst htq
        obtain ⟨S, hS⟩ : ∃ S, fr + R = S := ⟨_, rfl⟩
        have m1 : (fr : Int) + (R : Int) = (S : Int) := by omega
        have m2 : (512 : Int) < (S : Int) := by omega
        have m3 : ¬ ((S : Int) ≤ 512) := by omega
        obtain ⟨D, hD⟩ : ∃ D, 512 - fr = D := ⟨_, rfl⟩
        have m4 : (512 : Int) - (fr : Int) = (D : Int) := by omega
        have HD : Hid (512 - fr = D) := hD
        have m7 : min (S : Int) 512 = 512 := by omega
        rw [show ((512 : Nat) : Int) = 512 from rfl] at ST1
        clear k2 hS hD
        go_wp2_with fail
        rw [e2]
        refine (show Calls _ _ _ _ _ from ST1.out).mono ?_
        clear ST1
        rintro e w2 ⟨rfl, hI2⟩
        have HW2 : Hid (I (d + (512 - fr)) w2) := hI2
        obtain ⟨P2, hP2⟩ : ∃ P2, P + D = P2 := ⟨_, rfl⟩
        obtain ⟨R2, hR2⟩ : ∃ R2, R - D = R2 := ⟨_, rfl⟩
        have hDR : D ≤ R := by have := HD.out; omega
        have m5 : (P : Int) + (D : Int) = (P2 : Int) := by omega
        have m6 : (R : Int) - (D : Int) = (R2 : Int) := by omega
        have HP2 : Hid (P + D = P2 ∧ R - D = R2) := ⟨hP2, hR2⟩
        clear hI2 hP2 hR2 hDR
        go_wp2
        go_roundw
        case rel =>
          obtain ⟨a1, a2, a3, a4⟩ := HE.out
          have := HP2.out
          have := HD.out
          refine ⟨d + (512 - fr), by omega, ?_, ?_, HW2⟩
          · exact congrArg (Value.int .i64) (by omega)
          · exact congrArg (Value.int .i64) (by omega)
        case measure =>
          obtain ⟨a1, a2, a3, a4⟩ := HE.out
          have := HP2.out
          have := HD.out
          simp [intOf]; omega
    · have e : count - d = 0 := by omega
      rw [e]
      go_wp2
      go_ret
      obtain rfl : d = count := by omega
      exact ⟨rfl, HW.out⟩
end
end Go.Proofs.YthohgljlcfbpjaaGreat

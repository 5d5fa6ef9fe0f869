/-
  WalRows answers true for every two slices of bytes.
-/
import Derived.Test.YtkkmdmnjlncgfabWAll
namespace Go.Proofs.Ytkkmdmnjlncgfab
open Go.RowKit Go.Maps

/-- The log tells what was written. -/
structure Rw (X : Nat → Prop) (w0 w : World) (p pl qa i : Nat) (f : Nat → List Int) (com : Nat → Option (List Int)) (pend : Nat) (want : Nat → List Int) : Prop where
  lg : LogUp X w0 w p pl 70 f com pend (72 + 128 * i)
  pe : pend ≤ i
  vis : ∀ n, ovr f com n = want n
  arr : Arr w qa 70 (fun n => strOf (want n))
  xq : X qa
  qw : w0.heap.size ≤ qa
/-- .. a transaction being open. -/
structure Rt (X : Nat → Prop) (w0 w : World) (p pl q qa i j : Nat) (f : Nat → List Int) (com : Nat → Option (List Int)) (pend : Nat) (own : Nat → Option (List Int)) (wrote : Nat) (want : Nat → List Int) : Prop where
  tx : TxUp X w0 w p pl q 70 f com pend true own wrote (72 + 128 * i)
  pe : pend ≤ i
  few : wrote ≤ j
  vis : ∀ n, ovr (ovr f com) own n = want n
  arr : Arr w qa 70 (fun n => strOf (want n))
  xq : X qa
  qw : w0.heap.size ≤ qa
theorem Rt.next {X : Nat → Prop} {w0 w w1 : World} {p pl q qa i j n : Nat} {f : Nat → List Int} {com own : Nat → Option (List Int)} {pend wrote : Nat} {want : Nat → List Int} {b : List Int} (h : Rt X w0 w p pl q qa i j f com pend own wrote want) (hn : n < 70)
    (ht : TxUp X w0 w1 p pl q 70 f com pend true (upd own n (some b)) (ks 70 (upd own n (some b))).length (72 + 128 * i)) (ha : Arr w1 qa 70 (fun n => strOf (want n))) :
    Rt X w0 (w1.setCell ⟨qa, n, none⟩ (.string (strOf b))) p pl q qa i (j + 1) f com pend (upd own n (some b)) (ks 70 (upd own n (some b))).length (upd want n b) := by
  have hc : Chg (fun x => x = qa) w1 (w1.setCell ⟨qa, n, none⟩ (.string (strOf b))) := Chg.setCell _ _ _ rfl
  refine ⟨ht.put h.xq h.qw hc, h.pe, ?_, fun k => ?_, (ha.set hn (strOf b)).congr (fun k _ => ?_), h.xq, h.qw⟩
  · have h1 := h.tx.inv
    have h2 := h.few
    cases ho : own n with
    | none => rw [ks_upd_first hn ho]; omega
    | some b0 => rw [ks_upd_again ho]; omega
  · by_cases e : k = n
    · subst e; rw [upd_same]; exact ovr_some (upd_same _ _ _)
    · rw [upd_other _ _ e, ← h.vis k]; unfold ovr; rw [upd_other _ _ e]
  · by_cases e : k = n
    · subst e; rw [upd_same, upd_same]
    · rw [upd_other _ _ e, upd_other _ _ e]

theorem arrZ (w : World) : Arr (w.alloc (.cells Try.zeroCells46 46)) w.heap.size 70 (fun _ => ByteArray.empty) := by
  have e : Try.zeroCells46 = Array.replicate 70 (.string ByteArray.empty) := by kernel_rfl
  rw [e]
  refine ⟨_, 46, heap_alloc_new w _, by simp, fun n hn => ?_⟩
  simp [hn]
/-- The first i strings are t. -/
def fill (t : ByteArray) (i n : Nat) : ByteArray := if n < i then t else ByteArray.empty
theorem fill_succ (t : ByteArray) (i : Nat) : upd (fill t i) i t = fill t (i + 1) := by
  funext n
  by_cases e : n = i
  · subst e; rw [upd_same]; simp [fill]
  · rw [upd_other _ _ e]
    unfold fill
    by_cases h : n < i
    · rw [if_pos h, if_pos (by omega)]
    · rw [if_neg h, if_neg (by omega)]

set_option maxHeartbeats 12800000 in
set_option maxRecDepth 100000 in
theorem law_rows_in (v0 v1 : Value) (ss fs : List Int) (w : World) (hv : Bs w v0 ss) (hb : Bs w v1 fs) (hA : IsB ss) (hB : IsB fs) (h1 : ss.length ≤ 30) (h2 : ss.length ≤ fs.length) :
    Calls Try.prog 4 #[v0, v1] w fun e w' => e = .returned (.bool true) ∧ Chg (fun _ => False) w w' := by
  obtain ⟨va, vc, rfl, hvc⟩ := hv.form
  obtain ⟨ba, bc, rfl, hbc⟩ := hb.form
  have HI : Hid (Bs w (.slice va ss.length vc) ss ∧ Bs w (.slice ba fs.length bc) fs ∧ IsB ss ∧ IsB fs) := ⟨hv, hb, hA, hB⟩
  clear hv hb hvc hbc hB hA
  have k1 : decide ((30 : Int) < (ss.length : Int)) = false := by simp; omega
  have k2 : decide ((fs.length : Int) < (ss.length : Int)) = false := by simp; omega
  obtain ⟨tN, hN⟩ : ∃ t, strOf (zeros 512) = t := ⟨_, rfl⟩
  have HN : Hid (strOf (zeros 512) = tN) := hN
  clear hN
  go_enter Try.func4, Try.ntmps4
  go_wp2_with fail
  refine (known_any w).mono ?_
  rintro e w1 ⟨rfl, hc⟩
  have HC : Hid (Chg (fun _ => False) w w1) := hc
  clear hc
  go_wp2_with fail
  refine (begun_any w1).mono ?_
  rintro e w2 ⟨p, pl, rfl, hg2⟩
  have hg3 := hg2.add (Chg.alloc (fun _ => False) w2 (.cells Try.zeroCells46 46))
  obtain ⟨X, hX⟩ : ∃ X, addX (fun b => b < w1.heap.size) w2.heap.size (w2.alloc (.cells Try.zeroCells46 46)).heap.size = X := ⟨_, rfl⟩
  have HXQ : Hid (X w2.heap.size ∧ w1.heap.size ≤ w2.heap.size) := ⟨by rw [← hX]; exact .inr ⟨Nat.le_refl _, by simp⟩, hg2.chg.size⟩
  rw [hX] at hg3
  have H3 : Hid (LogUp X w1 (w2.alloc (.cells Try.zeroCells46 46)) p pl 70 (fun _ => zeros 512) (fun _ => none) 0 72 ∧ Arr (w2.alloc (.cells Try.zeroCells46 46)) w2.heap.size 70 (fill tN 0)) := ⟨hg3, (arrZ w2).congr (fun n _ => by simp [fill])⟩
  clear hg2 hg3 hX
  have hq := eqL_some ⟨pl, 0, none⟩
  go_wp2
  obtain ⟨qa, hqa⟩ : ∃ qa, w2.heap.size = qa := ⟨_, rfl⟩
  rw [hqa] at HXQ H3 ⊢
  obtain ⟨w3, hw3⟩ : ∃ w3, w2.alloc (.cells Try.zeroCells46 46) = w3 := ⟨_, rfl⟩
  rw [hw3] at H3 ⊢
  clear hw3 hqa
  go_loopw [8] (fun x wr => ∃ i, i ≤ 70 ∧ x = .int .i64 ((i : Nat) : Int) ∧ Hid (LogUp X w1 wr p pl 70 (fun _ => zeros 512) (fun _ => none) 0 72 ∧ Arr wr qa 70 (fill tN i))) (fun x _ => 70 - (intOf x).toNat)
  case atStart => exact ⟨0, by omega, rfl, H3⟩
  case round =>
    obtain ⟨i, hi, rfl, HR⟩ := hrel
    clear H3
    by_cases hlt : i < 70
    · have hki : (i : Int) < 70 := by omega
      go_wp2_with fail
      refine (full_any (.slice none 0 0) [] wr (.inl ⟨rfl, rfl⟩) (by simp)).mono ?_
      rintro e w4 ⟨u, rfl, fr⟩
      rw [full_nil] at fr
      have s4 := run_str fr.bs
      rw [HN.out] at s4
      have a4 := HR.out.2.kept fr.chg (fun h => h)
      have cl := (a4.cell hlt).1
      have fz := (a4.cell hlt).2
      have hcs : Chg (fun b => b = qa) w4 (w4.setCell ⟨qa, i, none⟩ (.string tN)) := Chg.setCell _ _ _ rfl
      have H4 : Hid (LogUp X w1 (w4.setCell ⟨qa, i, none⟩ (.string tN)) p pl 70 (fun _ => zeros 512) (fun _ => none) 0 72 ∧ Arr (w4.setCell ⟨qa, i, none⟩ (.string tN)) qa 70 (fill tN (i + 1))) :=
        ⟨(HR.out.1.more fr.chg).put HXQ.out.1 HXQ.out.2 hcs, by rw [← fill_succ]; exact a4.set hlt tN⟩
      clear fr a4 HR hcs
      go_wp2
      go_roundw
      case rel => exact ⟨i + 1, by omega, by go_num, H4⟩
      case measure => simp [intOf]; omega
    · have hie : i = 70 := by omega
      subst hie
      have H5 : Hid (Rw X w1 wr p pl qa 0 (fun _ => zeros 512) (fun _ => none) 0 (fun _ => zeros 512)) := ⟨HR.out.1, by omega, fun n => rfl, HR.out.2.congr (fun n hn => by unfold fill; rw [if_pos hn, HN.out]), HXQ.out.1, HXQ.out.2⟩
      clear HR
      go_wp2
      go_loopw [9, 10, 11, 12, 13, 14, 15, 16, 17] (fun x _ _ _ _ _ _ _ _ wr => ∃ i f com pend want, i ≤ ss.length ∧ x = .int .i64 ((i : Nat) : Int) ∧ Hid (Rw X w1 wr p pl qa i f com pend want)) (fun x _ _ _ _ _ _ _ _ _ => ss.length - (intOf x).toNat)
      case atStart => exact ⟨0, _, _, _, _, by omega, rfl, H5⟩
      case round =>
        obtain ⟨i, f, com, pend, want, hi, rfl, HR⟩ := hrel
        clear H5
        by_cases hlt : i < ss.length
        · have hki : (i : Int) < (ss.length : Int) := by omega
          have hkf : (i : Int) < (fs.length : Int) := by omega
          have hcw : Chg (fun _ => False) w wr := HC.out.trans HR.out.lg.chg (fun _ _ h => h)
          obtain ⟨sb, soff, hva, hscs⟩ := HI.out.1.at (k := i) hlt
          obtain ⟨fb, foff, hba, hfcs⟩ := HI.out.2.1.at (k := i) (by omega)
          have HCS : Hid (w.cell? ⟨sb, soff + i, none⟩ = some (.int .u8 (ss.getD i 0)) ∧ w.cell? ⟨fb, foff + i, none⟩ = some (.int .u8 (fs.getD i 0))) := ⟨hscs i hlt, hfcs i (by omega)⟩
          have hsB := HI.out.2.2.1.at hlt
          have hfB := HI.out.2.2.2.at (show i < fs.length by omega)
          obtain ⟨sv, hsv⟩ : ∃ sv, ss.getD i 0 = sv := ⟨_, rfl⟩
          obtain ⟨fv, hfv⟩ := Int.eq_ofNat_of_zero_le hfB.1
          rw [hsv] at HCS hsB
          rw [hfv] at HCS hfB
          have hfv256 : fv < 256 := by have := hfB.2; omega
          clear hscs hfcs hsv hfv hfB
          obtain ⟨k, hk⟩ : ∃ k : Nat, sv % 64 = (k : Int) := ⟨(sv % 64).toNat, by omega⟩
          have hk64 : k < 64 := by omega
          have hand := and63 sv
          rw [hk] at hand
          have hsB0 := hsB.1
          have hsB1 := hsB.2
          clear hsB hk
          subst hva hba
          go_wp2_with fail
          refine (begin_up HR.out.lg).mono ?_
          rintro e w4 ⟨q, rfl, hg4, sm4⟩
          have H4 : Hid (Rt X w1 w4 p pl q qa i 0 f com pend (fun _ => none) 0 want) := ⟨hg4, HR.out.pe, by omega, fun n => HR.out.vis n, HR.out.arr.sm sm4 HR.out.xq, HR.out.xq, HR.out.qw⟩
          have hq2 := eqT_some ⟨q, 0, none⟩
          have cs4 := (HC.out.trans H4.out.tx.chg (fun _ _ h => h)).cell HCS.out.1 (fun h => h)
          clear hg4 sm4 HR hcw
          go_wp2
          clear cs4
          go_loopw [13, 14, 15] (fun x _ _ wr => ∃ j own wrote wnt, j ≤ k ∧ x = .int .i64 ((j : Nat) : Int) ∧ Hid (Rt X w1 wr p pl q qa i j f com pend own wrote wnt)) (fun x _ _ _ => k - (intOf x).toNat)
          case atStart => exact ⟨0, _, _, _, by omega, rfl, H4⟩
          case round =>
            obtain ⟨j, own, wrote, wnt, hj, rfl, HS⟩ := hrel
            clear H4
            by_cases hjk : j < k
            · have hkj : (j : Int) < (k : Int) := by omega
              have cf := (HC.out.trans HS.out.tx.chg (fun _ _ h => h)).cell HCS.out.2 (fun h => h)
              obtain ⟨n, hn⟩ : ∃ n, (fv + j) % 70 = n := ⟨_, rfl⟩
              have hn70 : n < 70 := by omega
              have hnI : Int.tmod ((fv : Int) + (j : Int)) 70 = (n : Int) := by rw [Int.tmod_eq_emod_of_nonneg (by omega)]; omega
              have hnI2 : ((fv : Int) + (j : Int)) % 70 = (n : Int) := by omega
              have hm1 : ((i : Int) + 1) % 256 = (i : Int) + 1 := by omega
              have hm2 : (j : Int) % 256 = (j : Int) := by omega
              clear hn
              go_wp2_with fail
              refine (full_any _ _ _ (Bs.two wr _ _) (by simp)).mono ?_
              rintro e w5 ⟨u, rfl, fr⟩
              obtain ⟨B, hB⟩ : ∃ B, full [(i : Int) + 1, (j : Int)] = B := ⟨_, rfl⟩
              have hBl : B.length = 512 := by rw [← hB]; exact full_len _
              rw [hB] at fr
              obtain ⟨ua, uc, rfl⟩ := fr.form512 hBl
              have HBL : Hid (B.length = 512) := hBl
              have NB := fr.newB (Chg.alloc (fun _ => False) wr (.cells #[.int .u8 ((i : Int) + 1), .int .u8 (j : Int)] 5))
              have N5 : Hid (NewB wr w5 (.slice ua 512 uc) B) := NB
              have hw63 : wrote < 63 := by have := HS.out.few; omega
              have WR : Hid (Calls Try.prog 9 #[.pointer (some ⟨q, 0, none⟩), .int .i64 (n : Int), .slice ua 512 uc] w5 fun e w' => e = .returned (.int .i64 0) ∧ TxUp (addX X wr.heap.size w5.heap.size) w1 w' p pl q 70 f com pend true (upd own n (some B)) (ks 70 (upd own n (some B))).length (72 + 128 * i) ∧ Sm (addX X wr.heap.size w5.heap.size) w5 w') :=
                write_at n B ua uc (HS.out.tx.add N5.out.chg) N5.out.bs (fun a ha e => by
                  have h10 := N5.out.new a.block (by rw [ha]; rfl)
                  have h11 := HS.out.tx.qlt
                  omega) HBL.out hn70 (.inr hw63)
              clear fr NB hB hBl cf
              go_wp2_with fail
              refine WR.out.mono ?_
              rintro e w6 ⟨rfl, hg6, sm6⟩
              clear WR
              have b6 := N5.out.bs.sm sm6 (fun g hg => .inr ⟨N5.out.new g hg, by
                rcases N5.out.bs with ⟨e, _⟩ | ⟨a, c, e, _, _, hcell⟩
                · rw [e] at hg; cases hg
                · rw [e] at hg
                  have : g = a.block := by cases hg; rfl
                  rw [this]
                  exact World.block_lt_of_cell? w5 _ (hcell 0 (by rw [HBL.out]; omega))⟩)
              have s6 := run_str b6
              have a6 : Arr w6 qa 70 (fun n => strOf (wnt n)) := (HS.out.arr.kept N5.out.chg (fun h => h)).sm sm6 (.inl HS.out.xq)
              have cl := (a6.cell hn70).1
              have fz := (a6.cell hn70).2
              have H6 := HS.out.next hn70 (hg6.less (fun b hb => .inl hb)) a6
              obtain ⟨tB, htB⟩ : ∃ t, strOf B = t := ⟨_, rfl⟩
              rw [htB] at s6 H6
              have H6' : Hid (Rt X w1 (w6.setCell ⟨qa, n, none⟩ (.string tB)) p pl q qa i (j + 1) f com pend (upd own n (some B)) (ks 70 (upd own n (some B))).length (upd wnt n B)) := H6
              generalize strOf (wnt n) = tw at *
              clear b6 a6 H6 hg6 sm6 htB HS N5
              go_wp2
              go_roundw
              case rel => exact ⟨j + 1, _, _, _, by omega, by go_num, H6'⟩
              case measure => simp [intOf]; omega
            · have hje : j = k := by omega
              subst hje
              have hkj : ¬ ((j : Int) < (j : Int)) := by omega
              go_wp2_with fail
              refine (commit_up HS.out.tx (by omega) (by have := HS.out.pe; omega)).mono ?_
              rintro e w5 ⟨rfl, f5, com5, pend5, hg5, sm5, hv5, hr5⟩
              have H5 : Hid (Rw X w1 w5 p pl qa (i + 1) f5 com5 pend5 wnt) := by
                refine ⟨hg5.log.mono (by omega), ?_, fun n => by rw [hv5, HS.out.vis], HS.out.arr.sm sm5 HS.out.xq, HS.out.xq, HS.out.qw⟩
                have := HS.out.pe
                rcases hr5 with ⟨e, _⟩ | ⟨e, _⟩ <;> omega
              clear hg5 sm5 hv5 hr5 HS
              have cf := (HC.out.trans H5.out.lg.chg (fun _ _ h => h)).cell HCS.out.2 (fun h => h)
              obtain ⟨n, hn⟩ : ∃ n, fv % 70 = n := ⟨_, rfl⟩
              have hn70 : n < 70 := by omega
              have hnI : Int.tmod (fv : Int) 70 = (n : Int) := by rw [Int.tmod_eq_emod_of_nonneg (by omega)]; omega
              have hnI2 : (fv : Int) % 70 = (n : Int) := by omega
              clear hn
              go_wp2_with fail
              refine (read_up n H5.out.lg hn70 (by omega)).mono ?_
              rintro e w6 ⟨ux, rfl, fr⟩
              rw [H5.out.vis n] at fr
              have hcc := fr.chg
              have sx := run_str (fr.bs.kept (Chg.drew (fun _ => False) w6) (fun _ _ _ _ _ h => h))
              have sx0 := run_str fr.bs
              have cl := ((H5.out.arr.kept hcc (fun h => h)).cell hn70).1
              have cf6 := hcc.cell cf (fun h => h)
              have hcd := Chg.drew (fun _ => False) w6
              have H6 : Hid (Rw X w1 w6.drew p pl qa (i + 1) f5 com5 pend5 wnt) := ⟨(H5.out.lg.more hcc).more hcd, H5.out.pe, H5.out.vis, (H5.out.arr.kept hcc (fun h => h)).kept hcd (fun h => h), H5.out.xq, H5.out.qw⟩
              obtain ⟨t, ht⟩ : ∃ t, strOf (wnt n) = t := ⟨_, rfl⟩
              rw [ht] at sx sx0 cl
              have hse := str_same t
              have hnlt : (n : Int) < 70 := by omega
              have hnlt2 : decide ((n : Int) < 70) = true := by simp; omega
              have hwn : IntKind.i64.wrap (n : Int) = (n : Int) := by rw [IntKind.wrap_i64]; omega
              have hwf : IntKind.i64.wrap (fv : Int) = (fv : Int) := by rw [IntKind.wrap_i64]; omega
              clear fr hcc ht H5 cf hcd
              go_wp2_with fail
              go_region_held (fun w' => (convert 23 9 ux).run Try.prog w' = .ok (.string t) w' ∧ w'.cell? ⟨fb, foff + i, none⟩ = some (.int .u8 (fv : Int)) ∧ w'.cell? ⟨qa, n, none⟩ = some (.string t))
                (first | assumption | exact ⟨sx, cf6, cl⟩ | exact ⟨sx0, cf6, cl⟩)
                (fail)
              all_goals
                clear sx sx0 cl cf6
                go_wp2
                go_roundw
                case rel => exact ⟨i + 1, _, _, _, _, by omega, by go_num, H6⟩
                case measure => simp [intOf]; omega
        · have hie : i = ss.length := by omega
          subst hie
          have hki : ¬ ((ss.length : Int) < (ss.length : Int)) := by omega
          go_wp2_with fail
          refine (sync_up HR.out.lg (by omega)).mono ?_
          rintro e w4 ⟨rfl, hg4, sm4⟩
          obtain ⟨NZ, hNZ⟩ : ∃ NZ, 72 + 128 * ss.length + 128 = NZ := ⟨_, rfl⟩
          have hNZ' : NZ < 100000 := by omega
          rw [hNZ] at hg4
          have H4 : Hid (LogUp X w1 w4 p pl 70 (ovr f com) (fun _ => none) 0 NZ ∧ Arr w4 qa 70 (fun n => strOf (ovr f com n))) := ⟨hg4, (HR.out.arr.sm sm4 HR.out.xq).congr (fun n _ => by rw [HR.out.vis n])⟩
          clear hg4 sm4 HR hNZ
          go_wp2_with fail
          refine (pending_up H4.out.1).mono ?_
          rintro e w5 ⟨rfl, rfl⟩
          go_wp2_with fail
          refine (cut_up (.slice none 0 0) [] H4.out.1 (.inl ⟨rfl, rfl⟩) (fun h => absurd rfl h) (by omega)).mono ?_
          rintro e w6 ⟨rfl, hg6, sm6⟩
          have H6 : Hid (DkUp X w1 w6 p 70 (ovr f com) true NZ ∧ Arr w6 qa 70 (fun n => strOf (ovr f com n))) := ⟨hg6, H4.out.2.sm sm6 HXQ.out.1⟩
          clear hg6 sm6 H4
          go_wp2_with fail
          refine (on_up H6.out.1).mono ?_
          rintro e w7 ⟨rfl, hg7, sm7⟩
          have H7 : Hid (DkUp X w1 w7 p 70 (ovr f com) false NZ ∧ Arr w7 qa 70 (fun n => strOf (ovr f com n))) := ⟨hg7, H6.out.2.sm sm7 HXQ.out.1⟩
          clear hg7 sm7 H6
          go_wp2_with fail
          refine (open_up (by omega) H7.out.1 (by omega)).mono ?_
          rintro e w8 ⟨pm, rfl, hg8, sm8⟩
          have H8 : Hid (LogUp X w1 w8 p pm 70 (ovr f com) (fun _ => none) 0 (NZ + 64) ∧ Arr w8 qa 70 (fun n => strOf (ovr f com n))) := ⟨hg8, H7.out.2.sm sm8 HXQ.out.1⟩
          clear hg8 sm8 H7
          have hq3 := neL_some ⟨pm, 0, none⟩
          have AL : Hid (Calls Try.prog 18 #[.pointer (some ⟨pm, 0, none⟩), .slice (some ⟨qa, 0, none⟩) 70 70] w8 fun e w' => e = .returned (.bool true) ∧ Chg (fun _ => False) w8 w') :=
            all_true _ _ w8 H8.out.1 H8.out.2.ss (fun n _ => rfl) (by omega)
          go_wp2_with fail
          refine AL.out.mono ?_
          rintro e w9 ⟨rfl, hc9⟩
          have H9 : Hid (Chg (fun _ => False) w w9) := (HC.out.trans H8.out.1.chg (fun _ _ h => h)).trans hc9 (fun _ _ h => h)
          clear AL H8 hc9
          go_wp2
          go_ret
          exact ⟨rfl, H9.out⟩

set_option maxHeartbeats 1600000 in
set_option maxRecDepth 100000 in
theorem law_rows (v0 v1 : Value) (ss fs : List Int) (w : World) (hv : Bs w v0 ss) (hb : Bs w v1 fs) (hA : IsB ss) (hB : IsB fs) :
    Calls Try.prog 4 #[v0, v1] w fun e w' => e = .returned (.bool true) ∧ Chg (fun _ => False) w w' := by
  by_cases h1 : ss.length ≤ 30
  · by_cases h2 : ss.length ≤ fs.length
    · exact law_rows_in v0 v1 ss fs w hv hb hA hB h1 h2
    · obtain ⟨va, vc, rfl, hvc⟩ := hv.form
      obtain ⟨ba, bc, rfl, hbc⟩ := hb.form
      clear hv hb hvc hbc
      have k1 : decide ((30 : Int) < (ss.length : Int)) = false := by simp; omega
      have k2 : decide ((fs.length : Int) < (ss.length : Int)) = true := by simp; omega
      go_enter Try.func4, Try.ntmps4
      go_wp2_with fail
      refine (known_any w).mono ?_
      rintro e w1 ⟨rfl, hc⟩
      have HC : Hid (Chg (fun _ => False) w w1) := hc
      clear hc
      go_wp2
      go_ret
      exact ⟨rfl, HC.out⟩
  · obtain ⟨va, vc, rfl, hvc⟩ := hv.form
    obtain ⟨ba, bc, rfl, hbc⟩ := hb.form
    clear hv hb hvc hbc
    have k1 : decide ((30 : Int) < (ss.length : Int)) = true := by simp; omega
    go_enter Try.func4, Try.ntmps4
    go_wp2_with fail
    refine (known_any w).mono ?_
    rintro e w1 ⟨rfl, hc⟩
    have HC : Hid (Chg (fun _ => False) w w1) := hc
    clear hc
    go_wp2
    go_ret
    exact ⟨rfl, HC.out⟩
end Go.Proofs.Ytkkmdmnjlncgfab

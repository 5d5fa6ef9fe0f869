/-
  WalReopens answers true for every slice of numbers, every slice of bytes and every slice of slices of numbers.
-/
import Derived.Test.YtkkmdmnjlncgfabLists
namespace Go.Proofs.Ytkkmdmnjlncgfab
open Go.RowKit Go.Maps

/-- One byte, and bytes appended to it: new memory, and then a block of them. -/
theorem app_full {wr : World} {x : Int} {b : Value} {bs : List Int} (hb : Bs wr b bs) (hl : bs.length ≤ 64) :
    ∃ v' w2, (Builtin.append_ #[23, 23] 23 #[.slice (some ⟨wr.heap.size, 0, none⟩) 1 1, b]).run Try.prog (wr.alloc (.cells #[.int .u8 x] 5)).drew = .ok v' w2 ∧ Bs w2 v' (x :: bs) ∧ Chg (fun _ => False) wr w2 := by
  obtain ⟨i0, hi, hz0, hz1, hz2⟩ := info_parts info5
  have hc : Chg (fun _ => False) wr (wr.alloc (.cells #[.int .u8 x] 5)).drew := (Chg.alloc (fun _ => False) wr _).trans (Chg.drew (fun _ => False) _) (fun _ _ h => h)
  have hown : (wr.alloc (.cells #[.int .u8 x] 5)).drew.ownsRow wr.heap.size 5 1 (.slice (some ⟨wr.heap.size, 0, none⟩) 1 1) 1 (bcells [x]) := World.ownsRow_lit (base := wr.heap.size) (e := 5) (size := 1) wr #[.int .u8 x] 1 (Nat.le_refl _) (by simp [maxLen]) rfl
  have hb2 := hb.kept hc (fun _ _ _ _ _ h => h)
  obtain ⟨v', w2, h1, h2, h3, h4⟩ := run_app (P := Try.prog) (wr.alloc (.cells #[.int .u8 x] 5)).drew wr.heap.size 23 23 i0 Try.underlying23 hi hz0 hz1 hz2 _ b 1 [x] bs hown hb2 (by simp; omega) (by have := hc.size; exact this)
  refine ⟨v', w2, h1, Bs.ofOwns h2, hc.trans (Chg.of_grown h3) (fun k hk e => by have e2 : k = wr.heap.size := e; omega)⟩

set_option maxHeartbeats 12800000 in
set_option maxRecDepth 100000 in
theorem law_reopens_in (v0 v1 v2 : Value) (l bs : List Int) (ll : List (List Int)) (w : World) (hv : Is w v0 l) (hb : Bs w v1 bs) (hc0 : Iss w v2 ll) (h1 : l.length ≤ 40) (h2 : bs.length ≤ 64) (h3 : ll.length ≤ 6) :
    Calls Try.prog 3 #[v0, v1, v2] w fun e w' => e = .returned (.bool true) ∧ Chg (fun _ => False) w w' := by
  obtain ⟨va, vc, rfl, hvc⟩ := hv.form
  obtain ⟨ba, bc, rfl, hbc⟩ := hb.form
  have HI2 : Hid (Iss w v2 ll) := hc0
  obtain ⟨ca, cc, rfl⟩ := hc0.form
  have HI : Hid (Is w (.slice va l.length vc) l ∧ Bs w (.slice ba bs.length bc) bs) := ⟨hv, hb⟩
  clear hv hb hvc hbc hc0
  have k1 : decide ((40 : Int) < (l.length : Int)) = false := by simp; omega
  have k2 : decide ((64 : Int) < (bs.length : Int)) = false := by simp; omega
  have k3 : decide ((6 : Int) < (ll.length : Int)) = false := by simp; omega
  go_enter Try.func3, Try.ntmps3
  go_wp2_with fail
  refine (known_any w).mono ?_
  rintro e w1 ⟨rfl, hc⟩
  have HC : Hid (Chg (fun _ => False) w w1) := hc
  clear hc
  go_wp2_with fail
  refine (begun_any w1).mono ?_
  rintro e w2 ⟨p, pl, rfl, hg2⟩
  obtain ⟨X0, hX0⟩ : ∃ X0, (fun b => b < w1.heap.size) = X0 := ⟨_, rfl⟩
  rw [hX0] at hg2
  have H2 : Hid (LogUp X0 w1 w2 p pl 70 (fun _ => zeros 512) (fun _ => none) 0 72) := hg2
  clear hg2 hX0
  have hq := eqL_some ⟨pl, 0, none⟩
  go_wp2_with fail
  refine (begin_up H2.out).mono ?_
  rintro e w3 ⟨q, rfl, hg3, _⟩
  have H3 : Hid (TxUp X0 w1 w3 p pl q 70 (fun _ => zeros 512) (fun _ => none) 0 true (fun _ => none) 0 72) := hg3
  clear hg3 H2
  have hq2 := eqT_some ⟨q, 0, none⟩
  go_wp2
  go_loopw [11] (fun x wr => ∃ i own wrote, i ≤ l.length ∧ x = .int .i64 ((i : Nat) : Int) ∧ wrote ≤ i ∧ Hid (TxUp X0 w1 wr p pl q 70 (fun _ => zeros 512) (fun _ => none) 0 true own wrote 72)) (fun x _ => l.length - (intOf x).toNat)
  case atStart => exact ⟨0, _, 0, by omega, rfl, by omega, H3⟩
  case round =>
    obtain ⟨i, own, wrote, hi, rfl, hwi, HR⟩ := hrel
    clear H3
    by_cases hlt : i < l.length
    · have hki : (i : Int) < (l.length : Int) := by omega
      have hcw : Chg (fun _ => False) w wr := HC.out.trans HR.out.chg (fun _ _ h => h)
      have hls : Is wr (.slice va l.length vc) l := HI.out.1.kept hcw (fun _ _ h => h)
      obtain ⟨lb, loff, hva, hcs⟩ := hls.nth (j := i) hlt
      have cl := hcs i hlt
      obtain ⟨n, hn64, hn⟩ := int_mod64 (l.getD i 0)
      have ha := and63 (l.getD i 0)
      rw [hn] at ha
      obtain ⟨y, hy⟩ : ∃ y, l.getD i 0 = y := ⟨_, rfl⟩
      rw [hy] at cl ha
      have hm1 : (i : Int) % 256 = (i : Int) := by omega
      have hm2 : IntKind.u8.wrap (i : Int) = (i : Int) := by rw [IntKind.wrap_u8]; omega
      obtain ⟨v', wa, hrun, hbv, hca⟩ := app_full (x := (i : Int)) (HI.out.2.kept hcw (fun _ _ _ _ _ h => h)) h2
      have cla := hca.cell cl (fun h => h)
      have hw63 : wrote < 63 := by omega
      have FL : Hid (Calls Try.prog 10 #[v'] wa fun e wf => ∃ ua uc, e = .returned (.slice ua 512 uc) ∧ wf.cell? ⟨lb, loff + i, none⟩ = some (.int .i64 y) ∧
          Hid (Calls Try.prog 9 #[.pointer (some ⟨q, 0, none⟩), .int .i64 (n : Int), .slice ua 512 uc] wf fun e ww => e = .returned (.int .i64 0) ∧ ww.cell? ⟨lb, loff + i, none⟩ = some (.int .i64 y) ∧ Hid (∃ own' wrote', TxUp X0 w1 ww p pl q 70 (fun _ => zeros 512) (fun _ => none) 0 true own' wrote' 72 ∧ wrote' ≤ i + 1))) := by
        refine (full_any v' _ wa hbv (by simp; omega)).mono ?_
        rintro e wf ⟨u, rfl, fr⟩
        obtain ⟨ua, uc, rfl⟩ := fr.form512 (full_len _)
        refine ⟨ua, uc, rfl, fr.chg.cell cla (fun h => h), ?_⟩
        refine (write_up n _ ua uc HR.out (fr.newB hca) (full_len _) (by omega) (.inr hw63)).mono ?_
        rintro e ww ⟨rfl, hg, _⟩
        refine ⟨rfl, (HC.out.trans hg.chg (fun _ _ h => h)).cell ?_ (fun h => h), _, _, hg, ?_⟩
        · have := HI.out.1
          obtain ⟨lb', loff', hva', hcs'⟩ := this.nth (j := i) hlt
          have e2 : (⟨lb', loff', none⟩ : Addr) = ⟨lb, loff, none⟩ := by rw [hva] at hva'; exact (Option.some.inj hva').symm
          injection e2 with e3 e4
          subst e3 e4
          rw [← hy]; exact hcs' i hlt
        · have inv := HR.out.inv
          cases ho : own n with
          | none => rw [ks_upd_first (by omega) ho]; omega
          | some b0 => rw [ks_upd_again ho]; omega
      have cld : wr.drew.cell? ⟨lb, loff + i, none⟩ = some (.int .i64 y) := cl
      have clo : ∀ o, (wr.alloc o).drew.cell? ⟨lb, loff + i, none⟩ = some (.int .i64 y) := fun o => (Chg.alloc (fun _ => False) wr o).cell cl (fun h => h)
      have clo2 : ∀ o, (wr.alloc o).cell? ⟨lb, loff + i, none⟩ = some (.int .i64 y) := fun o => (Chg.alloc (fun _ => False) wr o).cell cl (fun h => h)
      subst hva
      clear hls hcs hcw hbv hca hn HR hwi hy
      go_wp2_with fail
      go_region_held_law (fun w' => w'.cell? ⟨lb, loff + i, none⟩ = some (.int .i64 y))
        (first | assumption | exact cl | exact cld | exact clo _ | exact clo2 _ | exact cla | exact q1 | exact q2)
        (first
          | (refine step_append_eq (by rfl) _ _ _ (by rfl) _ _ (by rfl) (by rfl) _ _ hrun ?_)
          | (go_at_call 10; refine FL.out.mono ?_; clear FL; rintro e wf ⟨ua, uc, rfl, q1, WR⟩)
          | (go_at_call 9; refine WR.out.mono ?_; clear WR; rintro e ww ⟨rfl, q2, HQ⟩))
      all_goals
        obtain ⟨own', wrote', hg, hw⟩ := HQ.out
        have HG : Hid (TxUp X0 w1 ww p pl q 70 (fun _ => zeros 512) (fun _ => none) 0 true own' wrote' 72) := hg
        clear hg HQ cl cld clo clo2 cla q1 q2 hrun
        go_wp2
        go_roundw
        case rel => exact ⟨i + 1, own', wrote', by omega, by go_num, by omega, HG⟩
        case measure => simp [intOf]; omega
    · have hie : i = l.length := by omega
      subst hie
      have hki : ¬ ((l.length : Int) < (l.length : Int)) := by omega
      go_wp2_with fail
      refine (commit_up HR.out (by omega) (by omega)).mono ?_
      rintro e w4 ⟨rfl, f4, com4, pend4, hg4, _, _, _⟩
      have H4 : Hid (LogUp X0 w1 w4 p pl 70 f4 com4 pend4 200) := hg4.log
      clear hg4 HR
      go_wp2_with fail
      refine (sync_up H4.out (by omega)).mono ?_
      rintro e w5 ⟨rfl, hg5, _⟩
      obtain ⟨f, hf⟩ : ∃ f, ovr f4 com4 = f := ⟨_, rfl⟩
      rw [hf] at hg5
      have H5 : Hid (LogUp X0 w1 w5 p pl 70 f (fun _ => none) 0 328 ∧ w5.ownsRow w5.heap.size 9 1 (.slice none 0 0) 0 (scells ((List.range 0).map fun n => strOf (f n)))) := ⟨hg5, World.ownsRow_nil _ _ _ _⟩
      have HL5 : Hid (LogUp X0 w1 w5 p pl 70 f (fun _ => none) 0 328) := hg5
      clear hg5 H4 hf
      obtain ⟨i9, hi9, hz90, hz91, hz92⟩ := info_parts info9
      go_wp2
      go_loopw [12, 13, 14, 15] (fun z x _ _ wr => ∃ n, n ≤ 70 ∧ x = .int .i64 ((n : Nat) : Int) ∧ Hid (LogUp X0 w1 wr p pl 70 f (fun _ => none) 0 328 ∧ Chg (fun _ => False) w5 wr ∧ wr.ownsRow w5.heap.size 9 1 z n (scells ((List.range n).map fun n => strOf (f n))))) (fun _ x _ _ _ => 70 - (intOf x).toNat)
      case atStart => exact ⟨0, by omega, rfl, H5.out.1, Chg.refl _ _, H5.out.2⟩
      case round =>
        obtain ⟨n, hn, rfl, HS⟩ := hrel
        clear H5
        go_wp2_with fail
        refine (blocks_up HS.out.1).mono ?_
        rintro e w6 ⟨rfl, rfl⟩
        by_cases hlt70 : n < 70
        · have hkn : (n : Int) < 70 := by omega
          go_wp2_with fail
          refine (read_up n HS.out.1 hlt70 (by omega)).mono ?_
          rintro e w7 ⟨ux, rfl, fr⟩
          rw [show ovr f (fun _ => none) n = f n from rfl] at fr
          obtain ⟨t, ht⟩ : ∃ t, strOf (f n) = t := ⟨_, rfl⟩
          have sx := run_str fr.bs
          rw [ht] at sx
          have HT : Hid (strOf (f n) = t) := ht
          have H7 : Hid (LogUp X0 w1 w7 p pl 70 f (fun _ => none) 0 328 ∧ Chg (fun _ => False) w5 w7 ∧ w7.ownsRow w5.heap.size 9 1 u12 n (scells ((List.range n).map fun n => strOf (f n)))) :=
            ⟨HS.out.1.more fr.chg, HS.out.2.1.trans fr.chg (fun _ _ h => h), own_same HS.out.2.2 (fun g hg => fr.chg.block g (HS.out.2.2.lt g hg).2 (fun h => h))⟩
          clear fr HS ht
          obtain ⟨za, zc, hz⟩ := own_sl9 H7.out.2.2
          have own8 : (w7.alloc (.cells #[.string t] 9)).ownsRow w5.heap.size 9 1 u12 n (scells ((List.range n).map fun n => strOf (f n))) := H7.out.2.2.alloc _
          obtain ⟨v', w8, hr, ho8, hg8, _, _⟩ := run_append_own_at (P := Try.prog) (w7.alloc (.cells #[.string t] 9)) w5.heap.size 37 37 9 i9 (.string ByteArray.empty) 1 16 Try.underlying37 hi9 hz90 hz91 hz92 rfl (by decide) u12 n _ own8 ⟨w7.heap.size, 0, none⟩ 1 1 [.string t] rfl (cell_one_new w7 (.string t) 9) (fun u hu => by rw [List.mem_singleton.1 hu]; rfl) (by unfold maxLen; omega) (by omega) (by have h9 := H7.out.2.1.size; simp; omega)
          have hc8 : Chg (fun _ => False) w5 w8 := (H7.out.2.1.trans (Chg.alloc (fun _ => False) w7 _) (fun _ _ h => h)).trans (Chg.ofGrown hg8) (fun k hk e => by
            have := (own8.lt k e).1; omega)
          have H8 : Hid (LogUp X0 w1 w8 p pl 70 f (fun _ => none) 0 328 ∧ Chg (fun _ => False) w5 w8 ∧ w8.ownsRow w5.heap.size 9 1 v' (n + 1) (scells ((List.range (n + 1)).map fun n => strOf (f n)))) := by
            refine ⟨HL5.out.more hc8, hc8, ?_⟩
            have e : scells ((List.range (n + 1)).map fun n => strOf (f n)) = scells ((List.range n).map fun n => strOf (f n)) ++ [.string t] := by
              rw [List.range_succ, List.map_append]; simp [scells, HT.out]
            rw [e]; exact ho8
          obtain ⟨wa8, wc8, hv8⟩ := own_sl9 ho8
          subst hz
          subst hv8
          clear own8 ho8 hg8 hc8 H7
          go_wp2_with (at_builtin; go_must (refine Lib.wpList_append_run _ rfl _ _ _ _ rfl _ _ rfl rfl _ _ hr ?_))
          go_wp2
          go_roundw
          case rel => exact ⟨n + 1, by omega, by go_num, H8⟩
          case measure => simp [intOf]; omega
        · have hne : n = 70 := by omega
          subst hne
          obtain ⟨X, hX⟩ : ∃ X, addX X0 w5.heap.size w6.heap.size = X := ⟨_, rfl⟩
          have hadd := HL5.out.add HS.out.2.1
          rw [hX] at hadd
          have hss := Ss.own HS.out.2.2 (by decide)
          obtain ⟨g, o, sc, hz, hsc, hcell⟩ := hss
          have hgX : X g := by
            rw [← hX]
            refine .inr ?_
            have := HS.out.2.2.lt g (by rw [hz]; rfl)
            exact this
          have HST : Hid (∀ m, m < 70 → ((List.range 70).map fun n => strOf (f n)).getD m ByteArray.empty = strOf (f m)) := fun m hm => by simp [List.getD, hm]
          have HT0 : Hid (LogUp X w1 w6 p pl 70 f (fun _ => none) 0 (328 + 64 * 0) ∧ (∀ m, m < 70 → w6.cell? ⟨g, o + m, none⟩ = some (.string (((List.range 70).map fun n => strOf (f n)).getD m ByteArray.empty)))) := ⟨hadd, hcell⟩
          have HGX : Hid (X g) := hgX
          subst hz
          clear HS hX hadd hcell hgX HL5
          go_wp2
          go_loopw [16, 17, 18] (fun x _ _ wr => ∃ i pm, i ≤ ll.length ∧ x = .int .i64 ((i : Nat) : Int) ∧ Hid (LogUp X w1 wr p pm 70 f (fun _ => none) 0 (328 + 64 * i) ∧ (∀ m, m < 70 → wr.cell? ⟨g, o + m, none⟩ = some (.string (((List.range 70).map fun n => strOf (f n)).getD m ByteArray.empty))))) (fun x _ _ _ => ll.length - (intOf x).toNat)
          case atStart => exact ⟨0, pl, by omega, rfl, HT0⟩
          case round =>
            obtain ⟨i, pm, hi, rfl, HS⟩ := hrel
            clear HT0
            by_cases hil : i < ll.length
            · have hki : (i : Int) < (ll.length : Int) := by omega
              obtain ⟨ca', cc', hcv, hcell⟩ := HI2.out
              obtain ⟨cb, coff, u, hca, hcl, hisu⟩ := hcell i hil
              injection hcv with hcv1 _ hcv3
              subst hcv1
              subst hcv3
              subst hca
              clear hcell
              obtain ⟨ua, uc, hu, _⟩ := hisu.form
              obtain ⟨ps, hps⟩ : ∃ ps, ll.getD i [] = ps := ⟨_, rfl⟩
              rw [hps] at hu hisu
              have hcw : Chg (fun _ => False) w wr := HC.out.trans HS.out.1.chg (fun _ _ h => h)
              have cl := hcw.cell hcl (fun h => h)
              have HIS : Hid (Is wr u ps ∧ (ps ≠ [] → ∀ g, u.ownBlock = some g → g < w1.heap.size)) := by
                refine ⟨hisu.kept hcw (fun _ _ h => h), fun hne g' hg' => ?_⟩
                rcases hisu with ⟨_, e⟩ | ⟨a, c, e, _, _, hcell⟩
                · exact absurd e hne
                · rw [e] at hg'
                  have : g' = a.block := by cases hg'; rfl
                  rw [this]
                  have h0 : 0 < ps.length := List.length_pos_iff.2 hne
                  have := World.block_lt_of_cell? w _ (hcell 0 h0)
                  have h9 := HC.out.size
                  rw [add_block] at this
                  omega
              subst hu
              clear hisu hcl hps hcw
              by_cases hp100 : 100 < ps.length
              · have kp : decide ((100 : Int) < (ps.length : Int)) = true := by simp; omega
                have HE : Hid (Chg (fun _ => False) w wr) := HC.out.trans HS.out.1.chg (fun _ _ h => h)
                clear HS HIS
                go_wp2
                go_ret
                exact ⟨rfl, HE.out⟩
              · have kp : decide ((100 : Int) < (ps.length : Int)) = false := by simp; omega
                go_wp2_with fail
                refine (cut_up (.slice ua ps.length uc) ps HS.out.1 HIS.out.1 HIS.out.2 (by omega)).mono ?_
                rintro e w8 ⟨rfl, hg8, sm8⟩
                obtain ⟨NZ, hNZ⟩ : ∃ NZ, 328 + 64 * i = NZ := ⟨_, rfl⟩
                have hNZ' : NZ < 100000 := by omega
                have HNZ : Hid (328 + 64 * (i + 1) = NZ + 64) := by show 328 + 64 * (i + 1) = NZ + 64; omega
                rw [hNZ] at hg8
                have H8 : Hid (DkUp X w1 w8 p 70 f true NZ ∧ ∀ m, m < 70 → w8.cell? ⟨g, o + m, none⟩ = some (.string (((List.range 70).map fun n => strOf (f n)).getD m ByteArray.empty))) := ⟨hg8, fun m hm => sm8.cell (HS.out.2 m hm) HGX.out⟩
                clear hg8 sm8 HS HIS hNZ cl
                go_wp2_with fail
                refine (on_up H8.out.1).mono ?_
                rintro e w9 ⟨rfl, hg9, sm9⟩
                have H9 : Hid (DkUp X w1 w9 p 70 f false NZ ∧ ∀ m, m < 70 → w9.cell? ⟨g, o + m, none⟩ = some (.string (((List.range 70).map fun n => strOf (f n)).getD m ByteArray.empty))) := ⟨hg9, fun m hm => sm9.cell (H8.out.2 m hm) HGX.out⟩
                clear hg9 sm9 H8
                go_wp2_with fail
                refine (open_up (by omega) H9.out.1 (by omega)).mono ?_
                rintro e w10 ⟨pm2, rfl, hg10, sm10⟩
                have H10 : Hid (LogUp X w1 w10 p pm2 70 f (fun _ => none) 0 (NZ + 64) ∧ ∀ m, m < 70 → w10.cell? ⟨g, o + m, none⟩ = some (.string (((List.range 70).map fun n => strOf (f n)).getD m ByteArray.empty))) := ⟨hg10, fun m hm => sm10.cell (H9.out.2 m hm) HGX.out⟩
                clear hg10 sm10 H9
                have hq3 := eqL_some ⟨pm2, 0, none⟩
                have AL : Hid (Calls Try.prog 18 #[.pointer (some ⟨pm2, 0, none⟩), .slice (some ⟨g, o, none⟩) 70 sc] w10 fun e w' => e = .returned (.bool true) ∧ Chg (fun _ => False) w10 w') :=
                  all_true _ _ w10 H10.out.1 ⟨g, o, sc, rfl, hsc, H10.out.2⟩ (fun m hm => HST.out m hm) (by omega)
                go_wp2_with fail
                refine AL.out.mono ?_
                rintro e w11 ⟨rfl, hc11⟩
                have H11 : Hid (LogUp X w1 w11 p pm2 70 f (fun _ => none) 0 (328 + 64 * (i + 1)) ∧ ∀ m, m < 70 → w11.cell? ⟨g, o + m, none⟩ = some (.string (((List.range 70).map fun n => strOf (f n)).getD m ByteArray.empty))) := by
                  rw [HNZ.out]
                  exact ⟨H10.out.1.more hc11, fun m hm => hc11.cell (H10.out.2 m hm) (fun h => h)⟩
                clear AL H10 hc11
                go_wp2
                go_roundw
                case rel => exact ⟨i + 1, pm2, by omega, by go_num, H11⟩
                case measure => simp [intOf]; omega
            · have hie : i = ll.length := by omega
              subst hie
              have hki : ¬ ((ll.length : Int) < (ll.length : Int)) := by omega
              have HE : Hid (Chg (fun _ => False) w wr) := HC.out.trans HS.out.1.chg (fun _ _ h => h)
              clear HS
              go_wp2
              go_ret
              exact ⟨rfl, HE.out⟩

set_option maxHeartbeats 3200000 in
set_option maxRecDepth 100000 in
theorem law_reopens (v0 v1 v2 : Value) (l bs : List Int) (ll : List (List Int)) (w : World) (hv : Is w v0 l) (hb : Bs w v1 bs) (hc0 : Iss w v2 ll) :
    Calls Try.prog 3 #[v0, v1, v2] w fun e w' => e = .returned (.bool true) ∧ Chg (fun _ => False) w w' := by
  by_cases hin : l.length ≤ 40 ∧ bs.length ≤ 64 ∧ ll.length ≤ 6
  · exact law_reopens_in v0 v1 v2 l bs ll w hv hb hc0 hin.1 hin.2.1 hin.2.2
  · have HH : Hid (¬ (l.length ≤ 40 ∧ bs.length ≤ 64 ∧ ll.length ≤ 6)) := hin
    obtain ⟨va, vc, rfl, hvc⟩ := hv.form
    obtain ⟨ba, bc, rfl, hbc⟩ := hb.form
    obtain ⟨ca, cc, rfl⟩ := hc0.form
    clear hin hv hvc hb hbc hc0
    go_enter Try.func3, Try.ntmps3
    go_wp2_with fail
    refine (known_any w).mono ?_
    rintro e w1 ⟨rfl, hc⟩
    have HC : Hid (Chg (fun _ => False) w w1) := hc
    clear hc
    go_wp2_with fail
    all_goals first
      | (go_ret; exact ⟨rfl, HC.out⟩)
      | (exfalso
         refine HH.out ?_
         omega)
end Go.Proofs.Ytkkmdmnjlncgfab

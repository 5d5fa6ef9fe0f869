/-
  AllocPlays answers true for every pool that is right and every slice of acts.
-/
import Derived.Test.YtdcmcgdalanjjaaGreatAPlays2
namespace Go.Proofs.YtdcmcgdalanjjaaGreat
open Go.RowKit Go.Maps

theorem Pr.fits {M F n : Nat} (h : Pr M F n 35) : Fits (M : Int) (F : Int) (n : Int) := by
  have h1 := h.f
  have h2 := h.one
  have h3 := h.top
  have h4 := h.in'
  exact ⟨by omega, by omega, by omega, by omega, by omega, by rw [Int.toNat_natCast]; omega⟩
/-- The least that is free, or none is. -/
theorem least_free (T : Nat → Bool) : ∀ n, (∀ i, i < n → T i = true) ∨ ∃ j, j < n ∧ T j = false ∧ ∀ i, i < j → T i = true
  | 0 => .inl (fun i hi => by omega)
  | n + 1 => by
    rcases least_free T n with h | ⟨j, hj, h1, h2⟩
    · cases hT : T n with
      | true => exact .inl (fun i hi => by
          by_cases e : i = n
          · subst e; exact hT
          · exact h i (by omega))
      | false => exact .inr ⟨n, by omega, hT, h⟩
    · exact .inr ⟨j, by omega, h1, h2⟩

set_option maxHeartbeats 25600000 in
set_option maxRecDepth 100000 in
theorem law_aplays_yes (M F n : Nat) (v : Value) (l : List PAct) (w : World) (hv : PActs w v l) (hf : Pr M F n 35) :
    Calls Tryz.prog 3 #[.agg #[.int .i64 (M : Int), .int .i64 (F : Int), .int .i64 (n : Int)], v] w fun e w' => e = .returned (.bool true) ∧ Chg (fun _ => False) w w' := by
  obtain ⟨va, vc, rfl⟩ := hv.form
  have hM : (M : Int) ≤ 9223372036854775807 := by have := hf.in'; omega
  have hn : (n : Int) ≤ 9223372036854775807 := by have := hf.top; omega
  have HI : Hid (PActs w (.slice va l.length vc) l) := hv
  clear hv
  by_cases g5 : 200 < l.length
  · have k5 : decide ((200 : Int) < (l.length : Int)) = true := by simp; omega
    have KN : Hid (Calls Tryz.prog 5 #[] (w.alloc (PO M F n)) fun e w' => e = .returned (.bool true) ∧ Hid (Chg (fun _ => False) w w')) := (known_any _).mono (by rintro e w' ⟨rfl, h⟩; exact ⟨rfl, (Chg.alloc (fun _ => False) w _).trans h (fun _ _ h => h)⟩)
    unfold PO at KN
    go_enter Tryz.func3, Tryz.ntmps3
    go_wp2_with fail
    refine KN.out.mono ?_
    rintro e w1 ⟨rfl, HC⟩
    go_wp2
    go_ret
    exact ⟨rfl, HC.out⟩
  have k5 : decide ((200 : Int) < (l.length : Int)) = false := by simp; omega
  have l1 : l.length ≤ 200 := by omega
  clear g5
  have KN : Hid (Calls Tryz.prog 5 #[] (w.alloc (PO M F n)) fun e w1 => e = .returned (.bool true) ∧ Hid (Chg (fun _ => False) w w1 ∧ PAt w1 w.heap.size M F n ∧ w.heap.size < w1.heap.size) ∧
      Hid (Calls Tryz.prog 6 #[.int .i64 100] w1 fun e w' => ∃ pd pl q, e = .returned (.tuple #[.pointer (some ⟨pl, 0, none⟩), .pointer (some ⟨q, 0, none⟩)]) ∧ PAt w' w.heap.size M F n ∧ Hid (TxUp (fun b => b < w1.heap.size) w1 w' pd pl q 35 (fun _ => zeros 512) (fun _ => none) 0 true (fun _ => none) 0 37))) := (known_any _).mono (by
    rintro e w1 ⟨rfl, h⟩
    have a1 := (PAt.box w M F n).kept h (fun h => h)
    refine ⟨rfl, ⟨(Chg.alloc (fun _ => False) w _).trans h (fun _ _ h => h), a1, by have := h.size; simp at this; omega⟩, (made_any 35 w1 (by decide) (by decide)).mono ?_⟩
    rintro e w' ⟨pd, pl, q, rfl, ht⟩
    exact ⟨pd, pl, q, rfl, a1.kept ht.chg (fun h => h), ht⟩)
  have HF' : Hid (Pr M F n 35) := hf
  clear hf
  unfold PO at KN
  go_enter Tryz.func3, Tryz.ntmps3
  go_wp2_with fail
  refine KN.out.mono ?_
  clear KN
  rintro e w1 ⟨rfl, HC, MD⟩
  go_wp2_with fail
  refine MD.out.mono ?_
  clear MD
  rintro e w2 ⟨pd, pl, q, rfl, a2, HT⟩
  have hq := eqT_some ⟨q, 0, none⟩
  have hql := eqL_some ⟨pl, 0, none⟩
  obtain ⟨B, hB⟩ : ∃ B, w.heap.size = B := ⟨_, rfl⟩
  rw [hB] at HC a2 ⊢
  have p0 := a2.c0
  have p1 := a2.c1
  have p2 := a2.c2
  -- the document's pool is laid
  have cR := Chg.alloc (fun _ => False) w2 (.cells #[.int .i64 (M : Int), .int .i64 (F : Int), .int .i64 (n : Int), .slice none 0 0] 33)
  have rR : RAt (w2.alloc (.cells #[.int .i64 (M : Int), .int .i64 (F : Int), .int .i64 (n : Int), .slice none 0 0] 33)) w2.heap.size M F n (.slice none 0 0) := ⟨heap_alloc_new _ _⟩
  have tR := (Tv.start HT.out (by decide) (by decide)).add cR
  have xR := box_in (fun b => b < w1.heap.size) w2 (.cells #[.int .i64 (M : Int), .int .i64 (F : Int), .int .i64 (n : Int), .slice none 0 0] 33)
  have xB : addX (fun b => b < w1.heap.size) w2.heap.size (w2.alloc (.cells #[.int .i64 (M : Int), .int .i64 (F : Int), .int .i64 (n : Int), .slice none 0 0] 33)).heap.size B := .inl HC.out.2.2
  have aR := a2.kept cR (fun h => h)
  have gR : w1.heap.size ≤ w2.heap.size := HT.out.chg.size
  obtain ⟨X, hX⟩ : ∃ X, addX (fun b => b < w1.heap.size) w2.heap.size (w2.alloc (.cells #[.int .i64 (M : Int), .int .i64 (F : Int), .int .i64 (n : Int), .slice none 0 0] 33)).heap.size = X := ⟨_, rfl⟩
  rw [hX] at tR xR xB
  obtain ⟨w3, hw3⟩ : ∃ w3, w2.alloc (.cells #[.int .i64 (M : Int), .int .i64 (F : Int), .int .i64 (n : Int), .slice none 0 0] 33) = w3 := ⟨_, rfl⟩
  rw [hw3] at rR tR aR
  obtain ⟨pr, hpr⟩ : ∃ pr, w2.heap.size = pr := ⟨_, rfl⟩
  rw [hpr] at rR xR gR
  have HB : Hid (X B ∧ X pr ∧ w1.heap.size ≤ pr ∧ B ≠ pr) := ⟨xB, xR, gR, by have := HC.out.2.2; omega⟩
  have HW3 : Hid (w2.alloc (.cells #[.int .i64 (M : Int), .int .i64 (F : Int), .int .i64 (n : Int), .slice none 0 0] 33) = w3) := hw3
  have HPR : Hid (w2.heap.size = pr) := hpr
  have HD : Hid (Tv X w1 w3 pd pl q 35 (fun _ => zeros 512) (fun _ => none) 0 37 (fun _ => zeros 512) ∧ RAt w3 pr M F n (.slice none 0 0) ∧ PAt w3 B M F n) := ⟨tR, rR, aR⟩
  have kd := Chg.drew (fun _ => False) w3
  obtain ⟨mm, ASK⟩ := ask_both M F n _ true (.inl ⟨rfl, HF'.out.fits⟩) hM hn (tR.more kd) (rR.kept kd (fun h => h)) (aR.kept kd (fun h => h))
  have HASK : Hid _ := ASK
  have b0 := aR.c0
  have b1 := aR.c1
  have b2 := aR.c2
  clear HT cR rR tR xR xB aR gR hX hw3 hpr kd ASK a2 hB
  go_wp2_with fail
  rw [HW3.out, HPR.out]
  unfold PV at HASK
  go_region_held (fun w' => w'.cell? ⟨B, 0, none⟩ = some (.int .i64 (M : Int)) ∧ w'.cell? ⟨B, 1, none⟩ = some (.int .i64 (F : Int)) ∧ w'.cell? ⟨B, 2, none⟩ = some (.int .i64 (n : Int)))
    (first | assumption | exact ⟨b0, b1, b2⟩ | exact ⟨a9.c0, a9.c1, a9.c2⟩ | exact ⟨a8.c0, a8.c1, a8.c2⟩ | exact ⟨a7.c0, a7.c1, a7.c2⟩ | exact ⟨a6.c0, a6.c1, a6.c2⟩ | exact ⟨a5.c0, a5.c1, a5.c2⟩ | exact ⟨a4.c0, a4.c1, a4.c2⟩)
    (first | (go_at_call 8; first | (refine (show Calls _ _ _ _ _ from HASK.out).mono ?_; clear HASK; rintro e w4 ⟨rfl, a4, RP⟩) | (refine BL.out.mono ?_; clear BL; rintro e w6 ⟨rfl, a6, RR⟩)) | (go_at_call 7; refine RP.out.mono ?_; clear RP; rintro e w5 ⟨rfl, a5, BL⟩) | (go_at_call 9; refine RR.out.mono ?_; clear RR; rintro e w7 ⟨rfl, a7, MP⟩) | (go_at_call 10; refine MP.out.mono ?_; clear MP; rintro e w8 ⟨rfl, a8, RM⟩) | (go_at_call 11; refine RM.out.mono ?_; clear RM; rintro e w9 ⟨rfl, a9, BL2⟩))
  clear a4 a5 a6 a7 a8
  go_wp2_with fail
  refine BL2.out.mono ?_
  clear BL2 a9
  rintro e w10 ⟨rfl, a10, RR2⟩
  go_wp2_with fail
  refine RR2.out.mono ?_
  clear RR2 a10
  rintro e w11 ⟨rfl, a11, HC11⟩
  have c0 := a11.c0
  have c1 := a11.c1
  have c2 := a11.c2
  have HCW : Hid (Chg (fun _ => False) w3 w11) := (Chg.drew (fun _ => False) w3).trans HC11.out (fun _ _ h => h)
  clear HC11 b0 b1 b2
  have hp := HF'.out
  have hn16 := hp.top
  have hF30 := hp.f
  have BG : Hid _ := ps_begin (HD.out.1.more HCW.out) (HD.out.2.2.kept HCW.out (fun h => h)) HB.out.1 hp (HD.out.2.1.kept HCW.out (fun h => h)) HB.out.2.1 HB.out.2.2.1 HB.out.2.2.2
  have HNB : Hid (1 ≤ n ∧ B ≠ pr) := ⟨hp.one, HB.out.2.2.2⟩
  clear a11 hp HD HCW
  unfold PV at BG
  go_wp2_with fail
  refine (show Calls _ _ _ _ _ from BG.out).mono ?_
  clear BG c0 c1 c2
  rintro e w12 ⟨rfl, CM⟩
  go_wp2_with fail
  refine CM.out.mono ?_
  clear CM
  rintro e w13 ⟨rfl, BN⟩
  go_wp2_with fail
  refine BN.out.mono ?_
  clear BN hq
  rintro e w14 ⟨q2, rfl, RC⟩
  go_wp2_with fail
  refine RC.out.mono ?_
  clear RC
  rintro e w15 ⟨rfl, g15, c15, g16, c16, w16, y15, hr, HPS⟩
  go_wp2_with (at_builtin; go_must (refine Lib.wpList_append_run _ rfl _ _ _ _ rfl _ _ rfl rfl _ _ hr ?_; clear hr))
  clear y15
  go_loopw [15, 6, 14] (fun x xt xw wr => ∃ i q h d T T0, i ≤ l.length ∧ x = .int .i64 ((i : Nat) : Int) ∧ xt = .pointer (some ⟨q, 0, none⟩) ∧ xw = .slice (some ⟨h, 0, none⟩) n d ∧ Hid (Ps w1 wr pd pl B M F n pr q h (1 + i) T T0)) (fun x _ _ _ => l.length - (intOf x).toNat)
  case atStart => exact ⟨0, q2, g16, c16, _, _, by omega, rfl, rfl, rfl, HPS⟩
  case round =>
    obtain ⟨i, q, h, d, T, T0, hi, rfl, rfl, rfl, HS⟩ := hrel
    clear HPS
    have hq := eqT_some ⟨q, 0, none⟩
    by_cases hil : i < l.length
    · have kil : (i : Int) < (l.length : Int) := by omega
      obtain ⟨ab, off, hva, hact⟩ := (HI.out.kept HC.out.1).at hil
      have HA1 : Hid (PActAt w1 ab (off + i * 2) l[i]) := hact
      have hactr := hact.kept HS.out.chg (fun h => h)
      have o0 := hactr.c0
      have o1 := hactr.c1
      have hx := hact.hn
      have HV : Hid (va = some ⟨ab, off, none⟩) := hva
      subst hva
      clear hactr hact
      generalize l[i] = act at *
      obtain ⟨op, x⟩ := act
      have ar := HS.out.at
      have p0 := ar.c0
      have p1 := ar.c1
      have p2 := ar.c2
      simp only at o0 o1 hx
      by_cases h1 : op = 1
      · subst h1
        clear ar
        as_aux_lemma =>
          rcases least_free T n with hall | ⟨j, hj, hT, hall⟩
          · have TK : Hid _ := ps_full HS.out hall
            clear HS hall o1
            unfold PV at TK
            go_wp2_with fail
            refine (show Calls _ _ _ _ _ from TK.out).mono ?_
            clear TK p0 p1 p2
            rintro e w20 ⟨rfl, RT⟩
            go_wp2_with fail
            refine RT.out.mono ?_
            clear RT
            rintro e w21 ⟨rfl, H21⟩
            obtain ⟨R, FB⟩ := ps_free H21.out
            have HFB : Hid _ := FB
            have af := H21.out.at
            have f0 := af.c0
            have f1 := af.c1
            have f2 := af.c2
            clear FB af H21
            unfold PV at HFB
            go_wp2_with fail
            refine (show Calls _ _ _ _ _ from HFB.out).mono ?_
            clear HFB f0 f1 f2
            rintro e w30 ⟨rfl, RF⟩
            go_wp2_with fail
            refine RF.out.mono ?_
            clear RF
            rintro e w31 ⟨rfl, HE⟩
            go_wp2
            go_roundw
            case rel => exact ⟨i + 1, q, h, d, _, _, by omega, by go_num, rfl, rfl, HE.out.up (by omega)⟩
            case measure => simp [intOf]; omega
          · have TK : Hid _ := ps_take j HS.out hj hT hall
            clear HS hall hT o1
            generalize F + j = fj at TK
            unfold PV at TK
            go_wp2_with fail
            refine (show Calls _ _ _ _ _ from TK.out).mono ?_
            clear TK p0 p1 p2
            rintro e w20 ⟨rfl, RT⟩
            go_wp2_with fail
            refine RT.out.mono ?_
            clear RT
            rintro e w21 ⟨rfl, H21⟩
            obtain ⟨R, FB⟩ := ps_free H21.out
            have HFB : Hid _ := FB
            have af := H21.out.at
            have f0 := af.c0
            have f1 := af.c1
            have f2 := af.c2
            clear FB af H21
            unfold PV at HFB
            go_wp2_with fail
            refine (show Calls _ _ _ _ _ from HFB.out).mono ?_
            clear HFB f0 f1 f2
            rintro e w30 ⟨rfl, RF⟩
            go_wp2_with fail
            refine RF.out.mono ?_
            clear RF
            rintro e w31 ⟨rfl, HE⟩
            go_wp2
            go_roundw
            case rel => exact ⟨i + 1, q, h, d, _, _, by omega, by go_num, rfl, rfl, HE.out.up (by omega)⟩
            case measure => simp [intOf]; omega
      by_cases h2 : op = 2
      · subst h2
        clear ar
        as_aux_lemma =>
          obtain ⟨E, U, GV⟩ := ps_give x (HS.out.more (Chg.drew (fun _ => False) wr)) hx.2
          have HGV : Hid _ := GV
          clear GV HS
          unfold PV at HGV
          go_wp2_with fail
          go_region_held (fun w' => w'.cell? ⟨B, 0, none⟩ = some (.int .i64 (M : Int)) ∧ w'.cell? ⟨B, 1, none⟩ = some (.int .i64 (F : Int)) ∧ w'.cell? ⟨B, 2, none⟩ = some (.int .i64 (n : Int)) ∧ w'.cell? ⟨ab, off + i * 2 + 1, none⟩ = some (.int .i64 x))
            (first | assumption | exact ⟨p0, p1, p2, o1⟩ | exact ⟨a21.c0, a21.c1, a21.c2, y21⟩ | exact ⟨a20.c0, a20.c1, a20.c2, y20⟩)
            (first | (go_at_call 16; refine (show Calls _ _ _ _ _ from HGV.out).mono ?_; clear HGV; rintro e w20 ⟨rfl, a20, k20, RG⟩; have y20 := (HA1.out.kept k20 (fun h => h)).c1) | (go_at_call 21; refine RG.out.mono ?_; clear RG; rintro e w21 ⟨rfl, a21, k21, H21⟩; have y21 := (HA1.out.kept k21 (fun h => h)).c1))
          clear a20 k20 y20 a21 k21 y21 p0 p1 p2 o0 o1
          obtain ⟨R, FB⟩ := ps_free H21.out
          have HFB : Hid _ := FB
          have af := H21.out.at
          have f0 := af.c0
          have f1 := af.c1
          have f2 := af.c2
          clear FB af H21
          unfold PV at HFB
          go_wp2_with fail
          refine (show Calls _ _ _ _ _ from HFB.out).mono ?_
          clear HFB f0 f1 f2
          rintro e w30 ⟨rfl, RF⟩
          go_wp2_with fail
          refine RF.out.mono ?_
          clear RF
          rintro e w31 ⟨rfl, HE⟩
          go_wp2
          go_roundw
          case rel => exact ⟨i + 1, q, h, d, _, _, by omega, by go_num, rfl, rfl, HE.out.up (by omega)⟩
          case measure => simp [intOf]; omega
      by_cases h3 : op = 3
      · subst h3
        clear ar
        as_aux_lemma =>
          by_cases hxo : x < (F : Int) ∨ ((F : Int) ≤ x ∧ (n : Int) ≤ x - (F : Int))
          · have HH : Hid _ := ps_has_out x (HS.out.more (Chg.drew (fun _ => False) wr)) hx.2 hxo
            clear HS hxo
            unfold PV at HH
            go_wp2_with fail
            go_region_held (fun w' => w'.cell? ⟨B, 0, none⟩ = some (.int .i64 (M : Int)) ∧ w'.cell? ⟨B, 1, none⟩ = some (.int .i64 (F : Int)) ∧ w'.cell? ⟨B, 2, none⟩ = some (.int .i64 (n : Int)) ∧ w'.cell? ⟨ab, off + i * 2 + 1, none⟩ = some (.int .i64 x))
              (first | assumption | exact ⟨p0, p1, p2, o1⟩ | exact ⟨a20.c0, a20.c1, a20.c2, y20⟩)
              (first | (go_at_call 14; refine (show Calls _ _ _ _ _ from HH.out).mono ?_; clear HH; rintro e w20 ⟨rfl, a20, k20, RI⟩; have y20 := (HA1.out.kept k20 (fun h => h)).c1))
            clear p0 p1 p2 o0 o1 a20
            go_wp2_with fail
            refine RI.out.mono ?_
            clear RI
            rintro e w21 ⟨rfl, H21⟩
            clear k20 y20
            obtain ⟨R, FB⟩ := ps_free H21.out
            have HFB : Hid _ := FB
            have af := H21.out.at
            have f0 := af.c0
            have f1 := af.c1
            have f2 := af.c2
            clear FB af H21
            unfold PV at HFB
            go_wp2_with fail
            refine (show Calls _ _ _ _ _ from HFB.out).mono ?_
            clear HFB f0 f1 f2
            rintro e w30 ⟨rfl, RF⟩
            go_wp2_with fail
            refine RF.out.mono ?_
            clear RF
            rintro e w31 ⟨rfl, HE⟩
            go_wp2
            go_roundw
            case rel => exact ⟨i + 1, q, h, d, _, _, by omega, by go_num, rfl, rfl, HE.out.up (by omega)⟩
            case measure => simp [intOf]; omega
          · obtain ⟨xi, hxi⟩ : ∃ xi : Nat, x = ((F + xi : Nat) : Int) := ⟨(x - (F : Int)).toNat, by omega⟩
            have hxn : xi < n := by omega
            have HH : Hid _ := ps_has_in xi (HS.out.more (Chg.drew (fun _ => False) wr)) hxn
            rw [← hxi] at HH
            have e1 : x - (F : Int) = (xi : Int) := by omega
            have wr1 : IntKind.i64.wrap (xi : Int) = (xi : Int) := by rw [IntKind.wrap_i64]; omega
            have kxn : (xi : Int) < (n : Int) := by omega
            clear HS hxo hxi
            generalize T xi = tx at HH
            unfold PV at HH
            go_wp2_with fail
            go_region_held (fun w' => w'.cell? ⟨B, 0, none⟩ = some (.int .i64 (M : Int)) ∧ w'.cell? ⟨B, 1, none⟩ = some (.int .i64 (F : Int)) ∧ w'.cell? ⟨B, 2, none⟩ = some (.int .i64 (n : Int)) ∧ w'.cell? ⟨ab, off + i * 2 + 1, none⟩ = some (.int .i64 x))
              (first | assumption | exact ⟨p0, p1, p2, o1⟩ | exact ⟨a20.c0, a20.c1, a20.c2, y20⟩)
              (first | (go_at_call 14; refine (show Calls _ _ _ _ _ from HH.out).mono ?_; clear HH; rintro e w20 ⟨rfl, a20, k20, RI⟩; have y20 := (HA1.out.kept k20 (fun h => h)).c1))
            clear p0 p1 p2 o0 o1 a20
            go_wp2_with fail
            refine RI.out.mono ?_
            clear RI
            rintro e w21 ⟨rfl, k21, ⟨g21, c21, hc21, r21, x21⟩, H21⟩
            have y21 := (HA1.out.kept k21 (fun h => h)).c1
            have s1 := r21.c1
            have s3 := r21.c3
            clear k20 y20 k21 r21
            simp only at y21
            go_wp2_with fail
            go_quiet (fail)
            clear y21 s1 s3 x21
            have H22 : Hid (Ps w1 (w21.drewN nq) pd pl B M F n pr q h (1 + i) T T0) := H21.out.more (Chg.drewN (fun _ => False) w21 nq)
            clear H21
            obtain ⟨R, FB⟩ := ps_free H22.out
            have HFB : Hid _ := FB
            have af := H22.out.at
            have f0 := af.c0
            have f1 := af.c1
            have f2 := af.c2
            clear FB af H22
            unfold PV at HFB
            go_wp2_with fail
            refine (show Calls _ _ _ _ _ from HFB.out).mono ?_
            clear HFB f0 f1 f2
            rintro e w30 ⟨rfl, RF⟩
            go_wp2_with fail
            refine RF.out.mono ?_
            clear RF
            rintro e w31 ⟨rfl, HE⟩
            go_wp2
            go_roundw
            case rel => exact ⟨i + 1, q, h, d, _, _, by omega, by go_num, rfl, rfl, HE.out.up (by omega)⟩
            case measure => simp [intOf]; omega
      by_cases h4 : op = 4
      · subst h4
        clear ar
        as_aux_lemma =>
          have CL : Hid _ := ps_clear HS.out
          clear HS o1
          unfold PV at CL
          go_wp2_with fail
          refine (show Calls _ _ _ _ _ from CL.out).mono ?_
          clear CL p0 p1 p2
          rintro e w20 ⟨rfl, RC⟩
          go_wp2_with fail
          refine RC.out.mono ?_
          clear RC
          rintro e w21 ⟨rfl, H21⟩
          obtain ⟨R, FB⟩ := ps_free H21.out
          have HFB : Hid _ := FB
          have af := H21.out.at
          have f0 := af.c0
          have f1 := af.c1
          have f2 := af.c2
          clear FB af H21
          unfold PV at HFB
          go_wp2_with fail
          refine (show Calls _ _ _ _ _ from HFB.out).mono ?_
          clear HFB f0 f1 f2
          rintro e w30 ⟨rfl, RF⟩
          go_wp2_with fail
          refine RF.out.mono ?_
          clear RF
          rintro e w31 ⟨rfl, HE⟩
          go_wp2
          go_roundw
          case rel => exact ⟨i + 1, q, h, d, _, _, by omega, by go_num, rfl, rfl, HE.out.up (by omega)⟩
          case measure => simp [intOf]; omega
      by_cases h5 : op = 5
      · subst h5
        clear ar
        as_aux_lemma =>
          have CM : Hid _ := ps_commit HS.out (by omega)
          clear HS o1 p0 p1 p2
          go_wp2_with fail
          refine (show Calls _ _ _ _ _ from CM.out).mono ?_
          clear CM
          rintro e w20 ⟨rfl, BN⟩
          go_wp2_with fail
          refine BN.out.mono ?_
          clear BN hq
          rintro e w21 ⟨q3, rfl, g21, c21, g22, c22, w22, y21, hr, H22⟩
          have hq := eqT_some ⟨q3, 0, none⟩
          obtain ⟨R, FB⟩ := ps_free H22.out
          have HFB : Hid _ := FB
          have af := H22.out.at
          have f0 := af.c0
          have f1 := af.c1
          have f2 := af.c2
          clear FB af H22
          unfold PV at HFB
          go_wp2_with (at_builtin; go_must (refine Lib.wpList_append_run _ rfl _ _ _ _ rfl _ _ rfl rfl _ _ hr ?_; clear hr))
          refine (show Calls _ _ _ _ _ from HFB.out).mono ?_
          clear HFB f0 f1 f2 y21
          rintro e w30 ⟨rfl, RF⟩
          go_wp2_with fail
          refine RF.out.mono ?_
          clear RF
          rintro e w31 ⟨rfl, HE⟩
          go_wp2
          go_roundw
          case rel => exact ⟨i + 1, q3, g22, c22, _, _, by omega, by go_num, rfl, rfl, HE.out.up (by omega)⟩
          case measure => simp [intOf]; omega
      by_cases h6 : op = 6
      · subst h6
        clear ar
        as_aux_lemma =>
          have AB : Hid _ := ps_abort (d := d) HS.out (by omega)
          clear HS o1 p0 p1 p2
          go_wp2_with fail
          refine (show Calls _ _ _ _ _ from AB.out).mono ?_
          clear AB
          rintro e w20 ⟨rfl, BN⟩
          go_wp2_with fail
          refine BN.out.mono ?_
          clear BN hq
          rintro e w21 ⟨q3, rfl, g22, c22, w22, hr, ⟨tv, y22⟩, z22, H22⟩
          have hq := eqT_some ⟨q3, 0, none⟩
          obtain ⟨R, FB⟩ := ps_free H22.out
          have HFB : Hid _ := FB
          have af := H22.out.at
          have f0 := af.c0
          have f1 := af.c1
          have f2 := af.c2
          clear FB af H22
          unfold PV at HFB
          go_wp2_with (at_builtin; go_must (refine Lib.wpList_append_run _ rfl _ _ _ _ rfl _ _ rfl rfl _ _ hr ?_; clear hr))
          refine (show Calls _ _ _ _ _ from HFB.out).mono ?_
          clear HFB f0 f1 f2 y22 z22
          rintro e w30 ⟨rfl, RF⟩
          go_wp2_with fail
          refine RF.out.mono ?_
          clear RF
          rintro e w31 ⟨rfl, HE⟩
          go_wp2
          go_roundw
          case rel => exact ⟨i + 1, q3, h, d, _, _, by omega, by go_num, rfl, rfl, HE.out.up (by omega)⟩
          case measure => simp [intOf]; omega
      as_aux_lemma =>
        have H21 : Hid (Ps w1 wr pd pl B M F n pr q h (1 + i) T T0) := HS
        have q1 : (op == 1) = false := beq_eq_false_iff_ne.2 h1
        have q2' : (op == 2) = false := beq_eq_false_iff_ne.2 h2
        have q3 : (op == 3) = false := beq_eq_false_iff_ne.2 h3
        have q4 : (op == 4) = false := beq_eq_false_iff_ne.2 h4
        have q5 : (op == 5) = false := beq_eq_false_iff_ne.2 h5
        have q6 : (op == 6) = false := beq_eq_false_iff_ne.2 h6
        clear HS o1 p0 p1 p2 ar
        obtain ⟨R, FB⟩ := ps_free H21.out
        have HFB : Hid _ := FB
        have af := H21.out.at
        have f0 := af.c0
        have f1 := af.c1
        have f2 := af.c2
        clear FB af H21
        unfold PV at HFB
        go_wp2_with fail
        refine (show Calls _ _ _ _ _ from HFB.out).mono ?_
        clear HFB f0 f1 f2
        rintro e w30 ⟨rfl, RF⟩
        go_wp2_with fail
        refine RF.out.mono ?_
        clear RF
        rintro e w31 ⟨rfl, HE⟩
        go_wp2
        go_roundw
        case rel => exact ⟨i + 1, q, h, d, _, _, by omega, by go_num, rfl, rfl, HE.out.up (by omega)⟩
        case measure => simp [intOf]; omega
    · have kil : ¬ ((i : Int) < (l.length : Int)) := by omega
      have HZ : Hid (Chg (fun _ => False) w wr) := HC.out.1.trans HS.out.chg (fun _ _ h => h)
      clear HS
      go_wp2
      go_ret
      exact ⟨rfl, HZ.out⟩
end Go.Proofs.YtdcmcgdalanjjaaGreat

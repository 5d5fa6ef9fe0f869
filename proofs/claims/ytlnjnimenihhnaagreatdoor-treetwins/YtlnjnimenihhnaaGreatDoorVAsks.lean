/-
  What both trees tell of a path, over what stands there; rows of texts compared.
-/
import Derived.Test.YtlnjnimenihhnaaGreatDoorVRows
import Derived.Test.YtlnjnimenihhnaaGreatDoorVTwin
import Derived.Test.YtlnjnimenihhnaaGreatDoorTLs
import Derived.Test.YtlnjnimenihhnaaGreatDoorDStr
import Derived.BigQuiet
namespace Go.Proofs.YtlnjnimenihhnaaGreatDoor
open Go.RowKit Go.Maps Go.Sort

set_option maxHeartbeats 1600000 in
theorem vtexts_yes (s r : Value) (ss : List (List UInt8)) (w : World) (hs : Ss w s ss) (hr : Ss w r ss) (hl : ss.length ≤ 1000000) :
    Calls Tryz.prog 41 #[s, r] w fun e w' => e = .returned (.bool true) ∧ Below w.heap.size w w' := by
  obtain ⟨sa, sc, rfl⟩ := hs.form
  obtain ⟨ra, rc, rfl⟩ := hr.form
  go_enter Tryz.func41, Tryz.ntmps41
  go_wp2_with fail
  go_loopw [5] (fun i wr => ∃ k : Nat, k ≤ ss.length ∧ i = .int .i64 k ∧ Below w.heap.size w wr) (fun i _ => ss.length - (intOf i).toNat)
  case atStart => exact ⟨0, Nat.zero_le _, rfl, Below.refl _ _⟩
  case round =>
    obtain ⟨k, hk, rfl, B⟩ := hrel
    by_cases hlt : k < ss.length
    · have q1 : (k : Int) < ss.length := by omega
      have hs' := hs.below B
      have hr' := hr.below B
      obtain ⟨b, off, rfl, hc⟩ := hs'.nthS hlt
      obtain ⟨b2, off2, rfl, hc2⟩ := hr'.nthS hlt
      have c1 := hc k hlt
      have d1 := hc2 k hlt
      simp only [encStr] at c1 d1
      obtain ⟨Y, hY⟩ : ∃ Y : ByteArray, ByteArray.mk (ss.getD k []).toArray = Y := ⟨_, rfl⟩
      rw [hY] at c1 d1
      clear hc hc2 hs' hr' hY
      go_wp2_with fail
      go_quiet (fail)
      have B2 : Below w.heap.size w (wr.drewN nq) := below_drN B nq
      go_wp2_with fail
      go_roundw
      case rel => exact ⟨k + 1, by omega, by go_num, B2⟩
      case measure => simp [intOf]; omega
    · have q1 : ¬ (k : Int) < ss.length := by omega
      go_wp2_with fail
      go_ret
      exact ⟨rfl, B⟩
/-- What stands at a path, if all is well. -/
def atN (F : Pth → Option Nd) (s : ByteArray) : Option Nd := if thE F s = 0 then F (spN s) else none
def rdC (F : Pth → Option Nd) (s : ByteArray) : Int := match atN F s with
  | some (.dir _ _) => 10
  | _ => thE F s
def rdB (F : Pth → Option Nd) (s : ByteArray) : List Int := match atN F s with
  | some (.file bs) => bs
  | _ => []
def lsC (F : Pth → Option Nd) (s : ByteArray) : Int := match atN F s with
  | some (.file _) => 11
  | _ => thE F s
def lsN (F : Pth → Option Nd) (s : ByteArray) : List (List UInt8) := match atN F s with
  | some (.dir _ kn) => nmL kn
  | _ => []
def stV (F : Pth → Option Nd) (s : ByteArray) : Value := inV (infD (atN F s)).1 (infD (atN F s)).2.1 (infD (atN F s)).2.2
theorem atN_no {F : Pth → Option Nd} {s : ByteArray} (h : ¬ thE F s = 0) : atN F s = none := if_neg h
theorem atN_ok {F : Pth → Option Nd} {s : ByteArray} (h : thE F s = 0) : atN F s = F (spN s) := if_pos h
theorem th_some {F : Pth → Option Nd} {s : ByteArray} (h : thE F s = 0) : ∃ nd, F (spN s) = some nd := by
  unfold thE at h
  by_cases h0 : fiE F s = 0
  · rw [if_pos h0] at h
    by_cases h1 : (F (spN s)).isSome = true
    · exact Option.isSome_iff_exists.1 h1
    · rw [if_neg h1] at h; exact absurd h (by decide)
  · rw [if_neg h0] at h; exact absurd h h0
section
variable {t r q : Nat} {T : Ts} {A : Pth → Nat} {O : Nat → Option (Pth × Nat)} {K : Nat} {w : World} {R : Rs} {num : Pth → Nat} {G : Nat → Prop} {s : ByteArray}
theorem l_stat (h : Tr w t T.F A O T.bl T.ino K) (hs : s.size ≤ 3000) :
    Calls Tryz.prog 37 #[ptr t, .string s] w fun e w' => e = .returned (.tuple #[stV T.F s, .int .i64 (thE T.F s)]) ∧ Below w.heap.size w w' := by
  by_cases hE : thE T.F s = 0
  · obtain ⟨nd, hn⟩ := th_some hE
    have := stat_ok h hs hE hn
    rw [infD_inf] at this
    unfold stV
    rw [atN_ok hE, hn, hE]
    exact this
  · have := stat_no h hs rfl hE
    unfold stV
    rw [atN_no hE]
    exact this
theorem l_read (h : Tr w t T.F A O T.bl T.ino K) (hs : s.size ≤ 3000) :
    Calls Tryz.prog 18 #[ptr t, .string s] w fun e w' => ∃ a c, e = .returned (.tuple #[.slice a (rdB T.F s).length c, .int .i64 (rdC T.F s)]) ∧ Hid (Bs w' (.slice a (rdB T.F s).length c) (rdB T.F s) ∧ Below w.heap.size w w') := by
  have nilB : ∀ w' : World, Bs w' (.slice none 0 0) [] := fun w' => .inl ⟨rfl, rfl⟩
  by_cases hE : thE T.F s = 0
  · obtain ⟨nd, hn⟩ := th_some hE
    unfold rdB rdC
    rw [atN_ok hE, hn, hE]
    cases nd with
    | file bs =>
      refine (read_ok h hs hE hn).mono ?_
      rintro e w' ⟨v, rfl, ho, hb⟩
      obtain ⟨a, c, rfl⟩ := own_form' ho
      exact ⟨a, c, rfl, Bs.ofOwns ho, hb⟩
    | dir n kn =>
      refine (read_dir h hs hE hn).mono ?_
      rintro e w' ⟨rfl, hb⟩
      exact ⟨none, 0, rfl, nilB _, hb⟩
  · unfold rdB rdC
    rw [atN_no hE]
    refine (read_no h hs rfl hE).mono ?_
    rintro e w' ⟨rfl, hb⟩
    exact ⟨none, 0, rfl, nilB _, hb⟩
theorem l_list (h : Tr w t T.F A O T.bl T.ino K) (hK : K ≤ 90000) (hs : s.size ≤ 3000) :
    Calls Tryz.prog 19 #[ptr t, .string s] w fun e w' => ∃ a c, e = .returned (.tuple #[.slice a (lsN T.F s).length c, .int .i64 (lsC T.F s)]) ∧ Hid (Ss w' (.slice a (lsN T.F s).length c) (lsN T.F s) ∧ Below w.heap.size w w') := by
  by_cases hE : thE T.F s = 0
  · obtain ⟨nd, hn⟩ := th_some hE
    unfold lsN lsC
    rw [atN_ok hE, hn, hE]
    cases nd with
    | file bs =>
      refine (list_file h hs hE hn).mono ?_
      rintro e w' ⟨rfl, hb⟩
      exact ⟨none, 0, rfl, Ss.nil _, hb⟩
    | dir n kn =>
      refine (list_ok h hK hs hE hn).mono ?_
      rintro e w' ⟨v, rfl, ho, hb⟩
      have hl : (nmL kn).length = kn.length := by have := ho.1; simpa using this
      obtain ⟨a, c, rfl⟩ := own_sl1 ho
      have hS := Ss.ofOwns ho
      exact ⟨a, c, by rw [hl], by rw [hl]; exact hS, hb⟩
  · unfold lsN lsC
    rw [atN_no hE]
    refine (list_no h hs rfl hE).mono ?_
    rintro e w' ⟨rfl, hb⟩
    exact ⟨none, 0, rfl, Ss.nil _, hb⟩
theorem nms_len {es : List En} {n : Nat} {kn : List ByteArray} {f : ByteArray → Nat} (h : Sl es n kn f) : (namesL es).length = kn.length := by
  have := h.perm.length_eq
  rwa [List.length_map] at this
theorem r_find (h : Rt w r q G R) (hD : Dt T R num K) (hK : K ≤ 60000) (hs : s.size ≤ 3000) (w' : World) (hb : Below w.heap.size w w') :
    Calls Tryz.prog 74 #[ptr r, .string s] w' fun e w'' => e = .returned (.tuple #[.int .i64 (fdN T num s : Nat), .int .i64 (thE T.F s)]) ∧ Below w'.heap.size w' w'' := vfind_any (h.below hb) hD hK s hs
theorem r_stat (h : Rt w r q G R) (hD : Dt T R num K) (hK : K ≤ 60000) (hs : s.size ≤ 3000) :
    Calls Tryz.prog 38 #[ptr r, .string s] w fun e w' => e = .returned (.tuple #[stV T.F s, .int .i64 (thE T.F s)]) ∧ Below w.heap.size w w' := by
  have HF := r_find h hD hK hs
  by_cases hE : thE T.F s = 0
  · obtain ⟨nd, hn⟩ := th_some hE
    unfold stV
    rw [atN_ok hE, hn, hE]
    rw [fdN_ok hE, hE] at HF
    refine rstat_ok s _ _ _ HF (fun w' hb => ?_)
    cases nd with
    | file bs => exact rinfo_file (hD.tie.fil _ _ hn) (h.below hb)
    | dir n kn =>
      obtain ⟨es, h1, hS, hle⟩ := hD.dir hn
      have := rinfo_dir h1 (by omega) (h.below hb)
      rw [nms_len hS] at this
      exact this
  · unfold stV
    rw [atN_no hE]
    exact rstat_no s hE HF
theorem r_read (h : Rt w r q G R) (hD : Dt T R num K) (hK : K ≤ 60000) (hs : s.size ≤ 3000) :
    Calls Tryz.prog 39 #[ptr r, .string s] w fun e w' => ∃ a c, e = .returned (.tuple #[.slice a (rdB T.F s).length c, .int .i64 (rdC T.F s)]) ∧ Hid (Bs w' (.slice a (rdB T.F s).length c) (rdB T.F s) ∧ Below w.heap.size w w') := by
  have HF := r_find h hD hK hs
  have nilB : ∀ w' : World, Bs w' (.slice none 0 0) [] := fun w' => .inl ⟨rfl, rfl⟩
  by_cases hE : thE T.F s = 0
  · obtain ⟨nd, hn⟩ := th_some hE
    unfold rdB rdC
    rw [atN_ok hE, hn, hE]
    rw [fdN_ok hE, hE] at HF
    cases nd with
    | file bs =>
      refine (rread_ok s h (hD.tie.fil _ _ hn) HF).mono ?_
      rintro e w' ⟨a, c, rfl, ho, hb⟩
      exact ⟨a, c, rfl, ho, hb⟩
    | dir n kn =>
      obtain ⟨es, h1, hS, hle⟩ := hD.dir hn
      refine (rread_dir s h h1 HF).mono ?_
      rintro e w' ⟨rfl, hb⟩
      exact ⟨none, 0, rfl, nilB _, hb⟩
  · unfold rdB rdC
    rw [atN_no hE]
    refine (rread_no s hE HF).mono ?_
    rintro e w' ⟨rfl, hb⟩
    exact ⟨none, 0, rfl, nilB _, hb⟩
theorem r_list (h : Rt w r q G R) (hD : Dt T R num K) (hK : K ≤ 60000) (hs : s.size ≤ 3000) :
    Calls Tryz.prog 40 #[ptr r, .string s] w fun e w' => ∃ a c, e = .returned (.tuple #[.slice a (lsN T.F s).length c, .int .i64 (lsC T.F s)]) ∧ Hid (Ss w' (.slice a (lsN T.F s).length c) (lsN T.F s) ∧ Below w.heap.size w w') := by
  have HF := r_find h hD hK hs
  by_cases hE : thE T.F s = 0
  · obtain ⟨nd, hn⟩ := th_some hE
    unfold lsN lsC
    rw [atN_ok hE, hn, hE]
    rw [fdN_ok hE, hE] at HF
    cases nd with
    | file bs =>
      refine (rlist_file s h (hD.tie.fil _ _ hn) HF).mono ?_
      rintro e w' ⟨rfl, hb⟩
      exact ⟨none, 0, rfl, Ss.nil _, hb⟩
    | dir n kn =>
      obtain ⟨es, h1, hS, hle⟩ := hD.dir hn
      refine (rlist_ok s h h1 (by omega) HF).mono ?_
      rintro e w' ⟨a, c, rfl, ho, hb⟩
      have hl : (namesL es).length = (nmL kn).length := by rw [← hS.sorted, sortL_len]
      rw [hl, hS.sorted] at ho
      rw [hl]
      exact ⟨a, c, rfl, Ss.ofOwns ho, hb⟩
  · unfold lsN lsC
    rw [atN_no hE]
    refine (rlist_no s hE HF).mono ?_
    rintro e w' ⟨rfl, hb⟩
    exact ⟨none, 0, rfl, Ss.nil _, hb⟩
end
end Go.Proofs.YtlnjnimenihhnaaGreatDoor

namespace Go.Proofs.YtlnjnimenihhnaaGreatDoor
open Go.RowKit Go.Maps Go.Sort

section
variable {t r q : Nat} {T : Ts} {A : Pth → Nat} {O : Nat → Option (Pth × Nat)} {K : Nat} {w : World} {R : Rs} {num : Pth → Nat} {G : Nat → Prop} {s : ByteArray}
theorem lsN_len (hD : Dt T R num K) : (lsN T.F s).length ≤ K := by
  unfold lsN
  cases e : atN T.F s with
  | none => simp
  | some nd =>
    cases nd with
    | file bs => simp
    | dir n kn =>
      have hn : T.F (spN s) = some (.dir n kn) := by
        unfold atN at e
        split at e
        · exact e
        · cases e
      obtain ⟨es, h1, hS, hle⟩ := hD.dir hn
      have h2 : (nmL kn).length = (namesL es).length := by rw [← hS.sorted, sortL_len]
      have h3 : (namesL es).length ≤ es.length := by unfold namesL; rw [List.length_map]; exact List.length_filter_le _ _
      simp only
      omega
set_option maxHeartbeats 6400000 in
set_option maxRecDepth 100000 in
theorem vasks_any (h : Tr w t T.F A O T.bl T.ino K) (hR : Rt w r q G R) (hD : Dt T R num K) (hK : K ≤ 60000) (hs : s.size ≤ 3000) :
    Calls Tryz.prog 13 #[ptr t, ptr r, .string s] w fun e w' => e = .returned (.bool true) ∧ Below w.heap.size w w' := by
  obtain ⟨D, X, Y, HV⟩ : ∃ D X Y, Hid (stV T.F s = inV D X Y) := ⟨_, _, _, rfl⟩
  have H0 : Hid (Tr w t T.F A O T.bl T.ino K ∧ Rt w r q G R ∧ Dt T R num K ∧ (lsN T.F s).length ≤ 1000000) := ⟨h, hR, hD, by have := lsN_len (s := s) hD; omega⟩
  clear h hR hD
  go_enter Tryz.func13, Tryz.ntmps13
  go_wp2_with fail
  have C1 := l_stat H0.out.1 hs
  rw [HV.out] at C1
  refine C1.mono ?_
  clear C1
  rintro e w1 ⟨rfl, B1⟩
  have A1 := below_alloc w1 (inO D X Y)
  have I1 := In.alloc w1 D X Y
  have H1 : Hid (Below w.heap.size w w1 ∧ Below w1.heap.size w1 (w1.alloc (inO D X Y)) ∧ In (w1.alloc (inO D X Y)) w1.heap.size (.bool D) (.int .i64 X) (.int .i64 Y)) := ⟨B1, A1, I1⟩
  clear B1 A1 I1
  obtain ⟨wa, Hwa⟩ : ∃ wa, Hid (w1.alloc (inO D X Y) = wa) := ⟨_, rfl⟩
  go_wp2_with fail
  rw [Hwa.out] at H1 ⊢
  have H2 : Hid (Below w.heap.size w wa ∧ In wa w1.heap.size (.bool D) (.int .i64 X) (.int .i64 Y)) := ⟨H1.out.1.trans (H1.out.2.1.mono H1.out.1.size), H1.out.2.2⟩
  clear H1 Hwa
  have C2 := r_stat (H0.out.2.1.below H2.out.1) H0.out.2.2.1 hK hs
  rw [HV.out] at C2
  go_wp2_with fail
  refine C2.mono ?_
  clear C2
  rintro e w2 ⟨rfl, B2⟩
  have A2 := below_alloc w2 (inOR D X Y)
  have I2 := InR.alloc w2 D X Y
  obtain ⟨wb, Hwb⟩ : ∃ wb, Hid (w2.alloc (inOR D X Y) = wb) := ⟨_, rfl⟩
  rw [Hwb.out] at A2 I2
  have H3 : Hid (Below w.heap.size w wb ∧ In wb w1.heap.size (.bool D) (.int .i64 X) (.int .i64 Y) ∧ InR wb w2.heap.size (.bool D) (.int .i64 X) (.int .i64 Y)) := ⟨H2.out.1.trans ((B2.trans (A2.mono B2.size)).mono H2.out.1.size), (H2.out.2.kept (Chg.ofBelowC B2) (fun h => h)).kept (Chg.ofBelowC A2) (fun h => h), I2⟩
  clear H2 B2 A2 I2
  go_wp2_with fail
  rw [Hwb.out]
  clear Hwb
  have C3 := l_read (H0.out.1.below H3.out.1) hs
  go_wp2_with fail
  refine C3.mono ?_
  clear C3
  rintro e w3 ⟨xa, xc, rfl, HB⟩
  have H4 : Hid (Below w.heap.size w w3 ∧ In w3 w1.heap.size (.bool D) (.int .i64 X) (.int .i64 Y) ∧ InR w3 w2.heap.size (.bool D) (.int .i64 X) (.int .i64 Y) ∧ Bs w3 (.slice xa (rdB T.F s).length xc) (rdB T.F s)) := ⟨H3.out.1.trans (HB.out.2.mono H3.out.1.size), H3.out.2.1.kept (Chg.ofBelowC HB.out.2) (fun h => h), H3.out.2.2.kept (Chg.ofBelowC HB.out.2) (fun h => h), HB.out.1⟩
  clear H3 HB
  have C4 := r_read (H0.out.2.1.below H4.out.1) H0.out.2.2.1 hK hs
  go_wp2_with fail
  refine C4.mono ?_
  clear C4
  rintro e w4 ⟨ya, yc, rfl, HB⟩
  have H5 : Hid (Below w.heap.size w w4 ∧ In w4 w1.heap.size (.bool D) (.int .i64 X) (.int .i64 Y) ∧ InR w4 w2.heap.size (.bool D) (.int .i64 X) (.int .i64 Y) ∧ Bs w4 (.slice xa (rdB T.F s).length xc) (rdB T.F s) ∧ Bs w4 (.slice ya (rdB T.F s).length yc) (rdB T.F s)) := ⟨H4.out.1.trans (HB.out.2.mono H4.out.1.size), H4.out.2.1.kept (Chg.ofBelowC HB.out.2) (fun h => h), H4.out.2.2.1.kept (Chg.ofBelowC HB.out.2) (fun h => h), H4.out.2.2.2.under HB.out.2, HB.out.1⟩
  clear H4 HB
  have C5 := l_list (H0.out.1.below H5.out.1) (by omega) hs
  go_wp2_with fail
  refine C5.mono ?_
  clear C5
  rintro e w5 ⟨la, lc, rfl, HB⟩
  have H6 : Hid (Below w.heap.size w w5 ∧ In w5 w1.heap.size (.bool D) (.int .i64 X) (.int .i64 Y) ∧ InR w5 w2.heap.size (.bool D) (.int .i64 X) (.int .i64 Y) ∧ Bs w5 (.slice xa (rdB T.F s).length xc) (rdB T.F s) ∧ Bs w5 (.slice ya (rdB T.F s).length yc) (rdB T.F s) ∧ Ss w5 (.slice la (lsN T.F s).length lc) (lsN T.F s)) := ⟨H5.out.1.trans (HB.out.2.mono H5.out.1.size), H5.out.2.1.kept (Chg.ofBelowC HB.out.2) (fun h => h), H5.out.2.2.1.kept (Chg.ofBelowC HB.out.2) (fun h => h), H5.out.2.2.2.1.under HB.out.2, H5.out.2.2.2.2.under HB.out.2, HB.out.1⟩
  clear H5 HB
  have C6 := r_list (H0.out.2.1.below H6.out.1) H0.out.2.2.1 hK hs
  go_wp2_with fail
  refine C6.mono ?_
  clear C6
  rintro e w6 ⟨ka, kc, rfl, HB⟩
  have hB6 := HB.out.2
  obtain ⟨a0, a1, a2⟩ := (H6.out.2.1.kept (Chg.ofBelowC hB6) (fun h => h)).c
  obtain ⟨b0, b1, b2⟩ := (H6.out.2.2.1.kept (Chg.ofBelowC hB6) (fun h => h)).c
  have r1 := run_strC (H6.out.2.2.2.1.under hB6)
  have r2 := run_strC (H6.out.2.2.2.2.1.under hB6)
  have HC : Hid (Calls Tryz.prog 41 #[.slice la (lsN T.F s).length lc, .slice ka (lsN T.F s).length kc] w6 fun e w' => e = .returned (.bool true) ∧ Below w6.heap.size w6 w') := vtexts_yes _ _ _ w6 (H6.out.2.2.2.2.2.below hB6) HB.out.1 H0.out.2.2.2
  have HZ : Hid (Below w.heap.size w w6) := H6.out.1.trans (hB6.mono H6.out.1.size)
  clear H0 H6 HB hB6 HV
  generalize (rdB T.F s).length = nb at *
  generalize strC (rdB T.F s) = sb at *
  generalize (lsN T.F s).length = nl at *
  generalize rdC T.F s = cr at *
  generalize lsC T.F s = cl at *
  generalize thE T.F s = ct at *
  go_wp2_with fail
  refine HC.out.mono ?_
  clear HC
  rintro e w7 ⟨rfl, B7⟩
  have HE : Hid (Below w.heap.size w w7) := HZ.out.trans (B7.mono HZ.out.size)
  clear B7 HZ
  go_wp2_with fail
  go_ret
  exact ⟨by simp, HE.out⟩
end
end Go.Proofs.YtlnjnimenihhnaaGreatDoor

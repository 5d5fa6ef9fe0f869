/-
  The document's tree: Append, Cut, Unlink, Rmdir by what stands where.
-/
import Derived.Test.YtlnjnimenihhnaaGreatDoorVCut
import Derived.Test.YtlnjnimenihhnaaGreatDoorVRen
import Derived.Test.YtlnjnimenihhnaaGreatDoorVMake2
namespace Go.Proofs.YtlnjnimenihhnaaGreatDoor
open Go.RowKit Go.Maps

/-- Append, Cut, by the names. -/
def dtR (T : Ts) (ns : Pth) (k : Int) (d : List Int) (n : Int) : Int × Ts := if ¬ folE T.F ns = 0 then (folE T.F ns, T) else if k = 3 then extR T ns d else cutR T ns n
/-- Unlink, Rmdir, by the names. -/
def rmvR (T : Ts) (ns : Pth) (d : Bool) : Int × Ts := if ¬ folE T.F ns = 0 then (folE T.F ns, T) else if d = true then rmdR T ns else unlR T ns
theorem wlk_cases {T : Ts} (hG : Gd T) (ns : Pth) : (¬ folE T.F ns = 0 ∧ wlkE T.F ns = folE T.F ns) ∨ (folE T.F ns = 0 ∧ T.F ns = none ∧ wlkE T.F ns = 8) ∨ (folE T.F ns = 0 ∧ wlkE T.F ns = 0 ∧ ∃ nd, T.F ns = some nd) := by
  have h := wlkE_eq hG ns
  by_cases h0 : folE T.F ns = 0
  · rw [if_pos h0] at h
    cases hF : T.F ns with
    | none =>
      rw [hF] at h
      exact .inr (.inl ⟨h0, rfl, by simpa using h⟩)
    | some nd =>
      rw [hF] at h
      exact .inr (.inr ⟨h0, by simpa using h, nd, rfl⟩)
  · rw [if_neg h0] at h
    exact .inl ⟨h0, h⟩
theorem Vto.of {w w1 w' : World} {r q : Nat} {G : Nat → Prop} {T' : Ts} {K : Nat} {R' : Rs} {num' : Pth → Nat} (hb : Below w.heap.size w w1) (h : Rto w1 w' r q G R') (ht : Tie T'.F R' num') (hn : R'.L.length ≤ K + 2) (hbl : R'.bl = T'.bl) (hi : R'.ino = T'.ino) : Vto w w' r q G T' K :=
  ⟨R', num', Rto.trans (.inl rfl) (fun _ h => .inl h) ((Chg.ofBelowC hb).mono (fun _ _ h => h.elim)) h, ht, hn, hbl, hi⟩
section
variable {T : Ts} {R : Rs} {num : Pth → Nat} {K r q : Nat} {G : Nat → Prop} {w : World}
theorem walk_at (h : Rt w r q G R) (hD : Dt T R num K) (hK : K ≤ 60000) {a : Option Addr} {n c : Nat} {ns : Pth} (hv : Tx w (.slice a n c) ns) (hl : ns.length ≤ 1000) (hn : ns.all nameB = true) : ∀ w', Below w.heap.size w w' → Calls Tryz.prog 59 #[ptr r, .slice a n c] w' fun e w'' => e = .returned (.tuple #[.int .i64 (wlkN T.F num ns : Nat), .int .i64 (wlkE T.F ns)]) ∧ Below w'.heap.size w' w'' :=
  fun w' hb => rwalk_any _ ns w' (h.below hb) hD (by omega) (hv.below hb) hl (fun y hy => (nameB_parts (List.all_eq_true.1 hn y hy)).1)
set_option maxHeartbeats 1600000 in
theorem vdata_any (h : Rt w r q G R) (hD : Dt T R num K) (hK : K ≤ 60000) (v : Value) (ns : Pth) (hv : Tx w v ns) (hl : ns.length ≤ 1000) (hn : ns.all nameB = true) (k : Int) (hk : k = 3 ∨ k = 4) (p q0 : ByteArray) (dv : Value) (d : List Int) (hd : Bs w dv d) (hI : IsB d) (hdl : d.length ≤ 10000000) (har : ∀ a n c, dv = .slice (some a) n c → 0 < n → ¬ a.block = r) (n : Int) {c : Int} {T' : Ts} (hr : dtR T ns k d n = (c, T')) :
    Calls Tryz.prog 32 #[ptr r, .agg #[.int .i64 k, .string p, .string q0, dv, .int .i64 n], v] w fun e w' => e = .returned (.int .i64 c) ∧ Vto w w' r q G T' K := by
  obtain ⟨va, vc, rfl⟩ := hv.form
  have hdf : ∃ a dc, dv = .slice a d.length dc := by
    rcases hd with ⟨rfl, rfl⟩ | ⟨a, c, rfl, _⟩
    · exact ⟨none, 0, rfl⟩
    · exact ⟨some a, c, rfl⟩
  obtain ⟨da, dc, rfl⟩ := hdf
  have HW := walk_at h hD hK hv hl hn
  have hbb := hD.bb
  have hbl := hD.bl
  have hio := hD.ino
  have hnl := hD.n
  rcases wlk_cases hD.gd ns with ⟨h0, h1⟩ | ⟨h0, hF, h1⟩ | ⟨h0, h1, nd, hF⟩
  · have e : dtR T ns k d n = (folE T.F ns, T) := by unfold dtR; rw [if_pos h0]
    rw [e] at hr
    cases hr
    rw [h1] at HW
    refine (rdata_err h0 HW).mono ?_
    rintro e w' ⟨rfl, B⟩
    exact ⟨rfl, Vto.same h hD B⟩
  · have e : dtR T ns k d n = (8, T) := by
      unfold dtR extR cutR
      rw [if_neg (by simp [h0]), hF]
      simp
    rw [e] at hr
    cases hr
    rw [h1] at HW
    refine (rdata_err (by decide) HW).mono ?_
    rintro e w' ⟨rfl, B⟩
    exact ⟨rfl, Vto.same h hD B⟩
  · rw [h1, wlkN_ok h1] at HW
    cases nd with
    | dir s kn =>
      obtain ⟨es, he, _⟩ := hD.dir hF
      have e : dtR T ns k d n = (10, T) := by
        unfold dtR extR cutR
        rw [if_neg (by simp [h0]), hF]
        simp
      rw [e] at hr
      cases hr
      refine (rdata_dir h he HW).mono ?_
      rintro e w' ⟨rfl, B⟩
      exact ⟨rfl, Vto.same h hD B⟩
    | file bs =>
      have hm := hD.tie.fil _ _ hF
      have hbs := hD.fl _ _ hF
      rcases hk with rfl | rfl
      · have e : dtR T ns 3 d n = if 8458240 < bs.length + d.length then (5, T) else if T.bl < allN ((bs.length : Int) + d.length) - allN bs.length then (7, T) else (0, ⟨setN T.F ns (some (.file (bs ++ d))), T.bl - (allN ((bs.length : Int) + d.length) - allN bs.length), T.ino⟩) := by
          unfold dtR extR
          rw [if_neg (by simp [h0]), if_pos rfl, hF]
        rw [e] at hr
        by_cases h2 : 8458240 < bs.length + d.length
        · rw [if_pos h2] at hr
          cases hr
          refine (rdata_app h hm (by decide) (fun w1 w2 => Below w1.heap.size w1 w2) HW (fun w' hb => rmore_long da d.length dc w' (h.below hb) hm (by omega) hbs h2 hdl)).mono ?_
          rintro e w' ⟨rfl, w1, B1, B2⟩
          exact ⟨rfl, Vto.same h hD (B1.trans (B2.mono B1.size))⟩
        · rw [if_neg h2] at hr
          by_cases h3 : T.bl < allN ((bs.length : Int) + d.length) - allN bs.length
          · rw [if_pos h3] at hr
            cases hr
            refine (rdata_app h hm (by decide) (fun w1 w2 => Below w1.heap.size w1 w2) HW (fun w' hb => rmore_full da d.length dc w' (h.below hb) hm (by omega) hbs (by omega) (by omega) (by rw [hbl]; exact h3))).mono ?_
            rintro e w' ⟨rfl, w1, B1, B2⟩
            exact ⟨rfl, Vto.same h hD (B1.trans (B2.mono B1.size))⟩
          · rw [if_neg h3] at hr
            cases hr
            refine (rdata_app h hm (by decide) (fun w1 w2 => Hid (Rto w1 w2 r q G ⟨R.L.set (num ns) (.file (bs ++ d)), R.bl - (allN ((bs.length : Int) + d.length) - allN bs.length), R.ino⟩)) HW (fun w' hb => rmore_ok da d.length dc w' (h.below hb) hm (by omega) hbs (by omega) (by omega) d (hd.kept (Chg.ofBelowC hb) (fun _ _ _ _ _ h => h)) hI rfl (fun a e h0 => har a _ _ (by rw [e]) h0) (by rw [hbl]; exact h3))).mono ?_
            rintro e w' ⟨rfl, w1, B1, HX⟩
            refine ⟨rfl, Vto.of B1 HX.out (tie_file hD.tie hF _ _ _) ?_ (by show _ - _ = _ - _; rw [hbl]) hio⟩
            show (List.set _ _ _).length ≤ _
            rw [List.length_set]; omega
      · have e : dtR T ns 4 d n = if 0 ≤ n ∧ n ≤ bs.length then (0, ⟨setN T.F ns (some (.file (bs.take n.toNat))), T.bl + (allN bs.length - allN n.toNat), T.ino⟩) else (1, T) := by
          unfold dtR cutR
          rw [if_neg (by simp [h0]), if_neg (by decide), hF]
        rw [e] at hr
        by_cases h2 : 0 ≤ n ∧ n ≤ bs.length
        · rw [if_pos h2] at hr
          cases hr
          obtain ⟨N, rfl⟩ := Int.eq_ofNat_of_zero_le h2.1
          refine (rcut_ok h hm hbs (by omega) (by omega) HW).mono ?_
          rintro e w' ⟨rfl, HX⟩
          refine ⟨rfl, Vto.of (Below.refl _ _) HX.out (tie_file hD.tie hF _ _ _) ?_ ?_ hio⟩
          · show (List.set _ _ _).length ≤ _
            rw [List.length_set]; omega
          · show R.bl + allN bs.length - allN N = T.bl + (allN bs.length - allN ((N : Int).toNat : Nat))
            rw [hbl, Int.toNat_natCast]; omega
        · rw [if_neg h2] at hr
          cases hr
          refine (rcut_arg h hm h2 HW).mono ?_
          rintro e w' ⟨rfl, B⟩
          exact ⟨rfl, Vto.same h hD B⟩
end
end Go.Proofs.YtlnjnimenihhnaaGreatDoor

namespace Go.Proofs.YtlnjnimenihhnaaGreatDoor
open Go.RowKit Go.Maps

theorem perm_nil_len {es : List En} {s : Nat} {f : ByteArray → Nat} (h : Sl es s [] f) : (namesL es).length = 0 := by
  have := h.perm.length_eq
  simpa using this
theorem perm_len {es : List En} {s : Nat} {kn : List ByteArray} {f : ByteArray → Nat} (h : Sl es s kn f) : (namesL es).length = kn.length := by
  have := h.perm.length_eq
  rw [List.length_map] at this
  exact this
section
variable {T : Ts} {R : Rs} {num : Pth → Nat} {K r q : Nat} {G : Nat → Prop} {w : World}
set_option maxHeartbeats 1600000 in
theorem vremove_any (h : Rt w r q G R) (hD : Dt T R num K) (hK : K ≤ 60000) (v : Value) (ns : Pth) (hv : Tx w v ns) (hf : Far v r q) (hl : ns.length ≤ 1000) (hn : ns.all nameB = true) (d : Bool) {c : Int} {T' : Ts} (hr : rmvR T ns d = (c, T')) :
    Calls Tryz.prog 33 #[ptr r, v, .bool d] w fun e w' => e = .returned (.int .i64 c) ∧ Vto w w' r q G T' K := by
  obtain ⟨va, vc, rfl⟩ := hv.form
  have HW := walk_at h hD hK hv hl hn
  have HW0 := HW w (Below.refl _ _)
  have hbb := hD.bb
  have hib := hD.ib
  have hbl := hD.bl
  have hio := hD.ino
  have hnl := hD.n
  rcases wlk_cases hD.gd ns with ⟨h0, h1⟩ | ⟨h0, hF, h1⟩ | ⟨h0, h1, nd, hF⟩
  · have e : rmvR T ns d = (folE T.F ns, T) := by unfold rmvR; rw [if_pos h0]
    rw [e] at hr
    cases hr
    rw [h1] at HW0
    refine (rrem_err d h0 HW0).mono ?_
    rintro e w' ⟨rfl, B⟩
    exact ⟨rfl, Vto.same h hD B⟩
  · have e : rmvR T ns d = (8, T) := by
      unfold rmvR rmdR unlR
      rw [if_neg (by simp [h0]), hF]
      simp
    rw [e] at hr
    cases hr
    rw [h1] at HW0
    refine (rrem_err d (by decide) HW0).mono ?_
    rintro e w' ⟨rfl, B⟩
    exact ⟨rfl, Vto.same h hD B⟩
  · rw [h1, wlkN_ok h1] at HW HW0
    -- a thing that goes
    have goes : ∀ (init : Pth) (x : ByteArray), ns = init ++ [x] → ∃ (s : Nat) (kn : List ByteArray) (es : List En) (i b0 off : Nat), T.F init = some (.dir s kn) ∧ x ∈ kn ∧ kn.Nodup ∧ 1 ≤ x.size ∧ R.at (num init) = .dir es ∧ Sl es s kn (fun y => num (init ++ [y])) ∧ es.length ≤ K ∧ IdxN es x (i : Int) ∧ i < es.length ∧ (En.at es i).nm = x ∧ va = some ⟨b0, off, none⟩ ∧ ¬ b0 = r ∧ ¬ b0 = q ∧ w.cell? ⟨b0, off + init.length, none⟩ = some (.string x) ∧ init.length < vc ∧ (∀ w', Below w.heap.size w w' → Calls Tryz.prog 59 #[ptr r, .slice va init.length vc] w' fun e w'' => e = .returned (.tuple #[.int .i64 (num init : Nat), .int .i64 0]) ∧ Below w'.heap.size w' w'') ∧ goneT T ns = ⟨setN (setN T.F init (some (.dir s (dele kn x)))) (init ++ [x]) none, T.bl + nd.blk, T.ino + 1⟩ := by
      rintro init x rfl
      obtain ⟨s, kn, hd, hin⟩ := hD.gd.up init x (by rw [hF]; rfl)
      obtain ⟨es, he, hS, hle⟩ := hD.dir hd
      have hall : ∀ y ∈ init ++ [x], nameB y = true := fun y hy => List.all_eq_true.1 hn y hy
      have hx1 : 1 ≤ x.size := (nameB_parts (hall x (by simp))).1
      obtain ⟨i, hi, hi2, hi3, _⟩ := hS.idx hx1 hin
      obtain ⟨b0, off, cc, e0⟩ := tx_snoc hv
      injection e0 with e1 e2 e3
      subst e1
      obtain ⟨hv1, _, cx, hlt⟩ := hv.frontV
      obtain ⟨hbr, hbq⟩ := hf _ _ _ rfl
      have hw0 : wlkE T.F init = 0 := by
        rw [wlkE_eq hD.gd, hD.gd.fol (by rw [hd]; rfl), hd]
        simp
      have HW2 := walk_at h hD hK hv1 (by simp at hl; omega) (List.all_eq_true.2 fun y hy => hall y (by simp [hy]))
      rw [hw0, wlkN_ok hw0] at HW2
      refine ⟨s, kn, es, i, b0, off, hd, hin, (hD.gd.nms _ _ _ hd).1, hx1, he, hS, hle, hi, hi2, hi3, rfl, hbr, hbq, cx, hlt, HW2, ?_⟩
      unfold goneT
      have hdl : (init ++ [x]).dropLast = init := by simp
      have hla : lastN (init ++ [x]) = x := lastN_next
      rw [hF, hdl, hd, hla]
    cases nd with
    | file bs =>
      have hm := hD.tie.fil _ _ hF
      have hbs := hD.fl _ _ hF
      cases d with
      | true =>
        have e : rmvR T ns true = (11, T) := by
          unfold rmvR rmdR
          rw [if_neg (by simp [h0]), if_pos rfl, hF]
        rw [e] at hr
        cases hr
        refine (rrem_11 h hm HW0).mono ?_
        rintro e w' ⟨rfl, B⟩
        exact ⟨rfl, Vto.same h hD B⟩
      | false =>
        have e : rmvR T ns false = (0, goneT T ns) := by
          unfold rmvR unlR
          rw [if_neg (by simp [h0]), if_neg (by simp), hF]
        rw [e] at hr
        cases hr
        rcases List.eq_nil_or_concat ns with h9 | ⟨init, x, h9⟩
        · obtain ⟨s, k, hroot⟩ := hD.gd.rdir
          rw [h9, hroot] at hF; cases hF
        · rw [List.concat_eq_append] at h9
          obtain ⟨s, kn, es, i, b0, off, g1, g2, g3, g4, g5, g6, g7, g8, g9, g10, rfl, g12, g13, g14, g15, g16, g17⟩ := goes init x h9
          subst h9
          have hne : ¬ num init = num (init ++ [x]) := fun e => app_self (hD.tie.inj _ _ (by rw [g1]; rfl) (by rw [hF]; rfl) e).symm
          have hl2 : init.length ≤ 1000 := by simp at hl; omega
          have hN1 : (init ++ [x]).length = init.length + 1 := by simp
          rw [hN1] at HW0 ⊢
          refine (rrem_file (R1 := ⟨R.L.set (num (init ++ [x])) .gone, R.bl + allN bs.length, R.ino + 1⟩) init.length (init.length + 1) vc b0 off rfl w g12 g13 h g14 g15 hl2 hm ((at_other R.L _ hne).trans g5) g8 (by omega) HW0 g16 (fun w' hb => rfree_file w' (h.below hb) hm (by omega) (by omega))).mono ?_
          rintro e w' ⟨rfl, HX⟩
          rw [g17]
          refine ⟨rfl, Vto.of (Below.refl _ _) HX.out (tie_gone hD.tie g1 hF g3 g4 g2 g5 g6 g9 g10 _ _) ?_ (by show _ + _ = _ + _; rw [hbl]; rfl) (by show _ + _ = _ + _; rw [hio])⟩
          show (List.set _ _ _).length ≤ _
          rw [List.length_set]
          show (List.set _ _ _).length ≤ _
          rw [List.length_set]; omega
    | dir s0 kn0 =>
      obtain ⟨es0, hm, hS0, hle0⟩ := hD.dir hF
      cases d with
      | false =>
        have e : rmvR T ns false = (10, T) := by
          unfold rmvR unlR
          rw [if_neg (by simp [h0]), if_neg (by simp), hF]
        rw [e] at hr
        cases hr
        refine (rrem_10 h hm HW0).mono ?_
        rintro e w' ⟨rfl, B⟩
        exact ⟨rfl, Vto.same h hD B⟩
      | true =>
        have e : rmvR T ns true = if ns = [] ∨ ¬ kn0 = [] then (13, T) else (0, goneT T ns) := by
          unfold rmvR rmdR
          rw [if_neg (by simp [h0]), if_pos rfl, hF]
        rw [e] at hr
        rcases List.eq_nil_or_concat ns with h9 | ⟨init, x, h9⟩
        · rw [if_pos (.inl h9)] at hr
          cases hr
          refine (rrem_root h hm (by rw [h9]; rfl) HW0).mono ?_
          rintro e w' ⟨rfl, B⟩
          exact ⟨rfl, Vto.same h hD B⟩
        · rw [List.concat_eq_append] at h9
          have hne9 : ¬ ns = [] := by rw [h9]; exact app_ne
          by_cases hk0 : kn0 = []
          · rw [if_neg (fun h => h.elim hne9 (fun h => h hk0))] at hr
            cases hr
            obtain ⟨s, kn, es, i, b0, off, g1, g2, g3, g4, g5, g6, g7, g8, g9, g10, rfl, g12, g13, g14, g15, g16, g17⟩ := goes init x h9
            subst h9
            have hne : ¬ num init = num (init ++ [x]) := fun e => app_self (hD.tie.inj _ _ (by rw [g1]; rfl) (by rw [hF]; rfl) e).symm
            have hl2 : init.length ≤ 1000 := by simp at hl; omega
            have hN1 : (init ++ [x]).length = init.length + 1 := by simp
            rw [hN1] at HW0 ⊢
            subst hk0
            have hs0 := hS0.len
            refine (rrem_dir (R1 := ⟨R.L.set (num (init ++ [x])) .gone, R.bl + slB es0.length, R.ino + 1⟩) init.length (init.length + 1) vc b0 off rfl w g12 g13 h g14 g15 hl2 hm (perm_nil_len hS0) (by omega) ((at_other R.L _ hne).trans g5) g8 (by omega) HW0 g16 (fun w' hb => rfree_dir w' (h.below hb) hm (by omega) (by omega) (by omega))).mono ?_
            rintro e w' ⟨rfl, HX⟩
            rw [g17]
            refine ⟨rfl, Vto.of (Below.refl _ _) HX.out (tie_gone hD.tie g1 hF g3 g4 g2 g5 g6 g9 g10 _ _) ?_ (by show _ + _ = _ + _; rw [hbl, hs0]; rfl) (by show _ + _ = _ + _; rw [hio])⟩
            show (List.set _ _ _).length ≤ _
            rw [List.length_set]
            show (List.set _ _ _).length ≤ _
            rw [List.length_set]; omega
          · rw [if_pos (.inr hk0)] at hr
            cases hr
            have hkl : 0 < (namesL es0).length := by
              rw [perm_len hS0]
              exact List.length_pos_iff.2 hk0
            refine (rrem_busy h hm (by rw [h9]; simp) (by omega) hkl HW0).mono ?_
            rintro e w' ⟨rfl, B⟩
            exact ⟨rfl, Vto.same h hD B⟩
end
end Go.Proofs.YtlnjnimenihhnaaGreatDoor

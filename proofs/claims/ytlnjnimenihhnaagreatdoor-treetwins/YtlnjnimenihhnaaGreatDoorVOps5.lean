/-
  The document's tree: Rename by what stands where.
-/
import Derived.Test.YtlnjnimenihhnaaGreatDoorVOps2
import Derived.Test.YtlnjnimenihhnaaGreatDoorVMake2
import Derived.Test.YtlnjnimenihhnaaGreatDoorVRen5
import Derived.Test.YtlnjnimenihhnaaGreatDoorVRen6
namespace Go.Proofs.YtlnjnimenihhnaaGreatDoor
open Go.RowKit Go.Maps

/-- Rename, by the names. -/
def renN (T : Ts) (f g : Pth) : Int × Ts :=
  if ¬ folE T.F f = 0 then (folE T.F f, T) else if (T.F f).isSome = false then (8, T) else if f = [] ∨ g = [] then (13, T)
  else if ¬ folE T.F g = 0 then (folE T.F g, T) else if f = g then (0, T) else if Un f g then (13, T)
  else if (T.F g).isSome = true then repR T f g else movR T f g
theorem renR_names (T : Ts) (a b : ByteArray) (ha : spE a = 0) (hb : spE b = 0) : renR T a b = renN T (spN a) (spN b) := by
  unfold renR renN
  rw [if_neg (by simp [ha]), if_neg (by simp [hb])]
theorem pfB_un {l m : Pth} (h : Un l m) (hne : ¬ l = m) : pfB l m = true := by
  obtain ⟨r, rfl⟩ := un_iff.1 h
  have : ¬ r = [] := fun e => hne (by rw [e, List.append_nil])
  have hl := List.length_pos_iff.2 this
  unfold pfB
  simp
  omega
theorem pfB_no {l m : Pth} (h : ¬ Un l m) : pfB l m = false := by
  unfold pfB
  have : decide (l = m.take l.length) = false := decide_eq_false (fun e => h e.symm)
  rw [this, Bool.and_false]
theorem smB_no {l m : Pth} (h : ¬ l = m) : smB l m = false := decide_eq_false h
theorem pfB_self (l : Pth) : pfB l l = false := by simp [pfB]
/-- What Rename knows of its two paths. -/
structure Rnm (T : Ts) (R : Rs) (num : Pth → Nat) (K r q : Nat) (G : Nat → Prop) (w : World) (iL iM : Pth) (x y : ByteArray) (b1 o1 c1 b2 o2 c2 : Nat) (kL kM : List ByteArray) (sL sM : Nat) (esF esT : List En) : Prop where
  h : Rt w r q G R
  D : Dt T R num K
  v1 : Tx w (.slice (some ⟨b1, o1, none⟩) (iL.length + 1) c1) (iL ++ [x])
  v2 : Tx w (.slice (some ⟨b2, o2, none⟩) (iM.length + 1) c2) (iM ++ [y])
  cx : w.cell? ⟨b1, o1 + iL.length, none⟩ = some (.string x)
  cy : w.cell? ⟨b2, o2 + iM.length, none⟩ = some (.string y)
  e1 : ¬ b1 = r ∧ ¬ b1 = q
  e2 : ¬ b2 = r ∧ ¬ b2 = q
  l1 : iL.length < c1 ∧ iL.length ≤ 1000
  l2 : iM.length < c2 ∧ iM.length ≤ 1000
  ff : (T.F (iL ++ [x])).isSome = true
  dL : T.F iL = some (.dir sL kL)
  dM : T.F iM = some (.dir sM kM)
  xk : x ∈ kL
  nx : nameB x = true
  ny : nameB y = true
  aL : R.at (num iL) = .dir esF
  aM : R.at (num iM) = .dir esT
  sLs : Sl esF sL kL (fun z => num (iL ++ [z]))
  sMs : Sl esT sM kM (fun z => num (iM ++ [z]))
  le : esF.length ≤ K ∧ esT.length ≤ K
  HL : ∀ w', Below w.heap.size w w' → Calls Tryz.prog 59 #[ptr r, .slice (some ⟨b1, o1, none⟩) (iL.length + 1) c1] w' fun e w'' => e = .returned (.tuple #[.int .i64 (num (iL ++ [x]) : Nat), .int .i64 0]) ∧ Below w'.heap.size w' w''
  HM : ∀ w', Below w.heap.size w w' → Calls Tryz.prog 59 #[ptr r, .slice (some ⟨b2, o2, none⟩) iM.length c2] w' fun e w'' => e = .returned (.tuple #[.int .i64 (num iM : Nat), .int .i64 0]) ∧ Below w'.heap.size w' w''
  HF : ∀ w', Below w.heap.size w w' → Calls Tryz.prog 59 #[ptr r, .slice (some ⟨b1, o1, none⟩) iL.length c1] w' fun e w'' => e = .returned (.tuple #[.int .i64 (num iL : Nat), .int .i64 0]) ∧ Below w'.heap.size w' w''
section
variable {T : Ts} {R : Rs} {num : Pth → Nat} {K r q : Nat} {G : Nat → Prop} {w : World} {iL iM : Pth} {x y : ByteArray} {b1 o1 c1 b2 o2 c2 : Nat} {kL kM : List ByteArray} {sL sM : Nat} {esF esT : List En}
set_option maxHeartbeats 1600000 in
/-- A name that is free. -/
theorem Rnm.mov (N : Rnm T R num K r q G w iL iM x y b1 o1 c1 b2 o2 c2 kL kM sL sM esF esT) (hK : K ≤ 60000) (hno : T.F (iM ++ [y]) = none) (hun : ¬ Un (iL ++ [x]) (iM ++ [y])) {c : Int} {T' : Ts} (hr : movR T (iL ++ [x]) (iM ++ [y]) = (c, T')) :
    Calls Tryz.prog 34 #[ptr r, .slice (some ⟨b1, o1, none⟩) (iL.length + 1) c1, .slice (some ⟨b2, o2, none⟩) (iM.length + 1) c2] w fun e w' => e = .returned (.int .i64 c) ∧ Vto w w' r q G T' K := by
  have hbb := N.D.bb
  have hbl := N.D.bl
  have hio := N.D.ino
  have hnl := N.D.n
  have hle := N.le
  have hx1 : 1 ≤ x.size := (nameB_parts N.nx).1
  have hy1 : 1 ≤ y.size := (nameB_parts N.ny).1
  have hyk : ¬ y ∈ kM := fun h => by
    have := (N.D.mem N.dM y).1 h
    rw [hno] at this; cases this
  have hP := pfB_no hun
  have hS : smB (iL ++ [x]) (iM ++ [y]) = false := smB_no (fun e => hun (un_iff.2 ⟨[], by rw [← e, List.append_nil]⟩))
  have hl1 : (iL ++ [x]).length = iL.length + 1 := by simp
  have hl2 : (iM ++ [y]).length = iM.length + 1 := by simp
  have hdl : (iL ++ [x]).dropLast = iL := by simp
  have hdm : (iM ++ [y]).dropLast = iM := by simp
  have hla : lastN (iL ++ [x]) = x := lastN_next
  have hlb : lastN (iM ++ [y]) = y := lastN_next
  have nodL := (N.D.gd.nms _ _ _ N.dL).1
  have nodM := (N.D.gd.nms _ _ _ N.dM)
  have hg : ∀ z, ¬ z = [] → T.F ((iM ++ [y]) ++ z) = none := fun z hz => by
    cases h : T.F ((iM ++ [y]) ++ z) with
    | none => rfl
    | some nd =>
      obtain ⟨s, k, e⟩ := N.D.gd.dirs hz (by rw [h]; rfl)
      rw [hno] at e; cases e
  have hiL : (T.F iL).isSome = true := by rw [N.dL]; rfl
  have hiM : (T.F iM).isSome = true := by rw [N.dM]; rfl
  obtain ⟨jx, hj, hj2, hj3, hj4⟩ := N.sLs.idx hx1 N.xk
  by_cases hne : iL = iM
  · subst hne
    have eKS := N.dL.symm.trans N.dM
    injection eKS with eKS
    injection eKS with eS eK
    subst eS; subst eK
    have eE := N.aL.symm.trans N.aM
    injection eE with eE
    subst eE
    have e : movR T (iL ++ [x]) (iL ++ [y]) = (0, ⟨graft (setN T.F iL (some (.dir sL (y :: dele kL x)))) (iL ++ [x]) (iL ++ [y]), T.bl, T.ino⟩) := by
      unfold movR
      rw [hdl, hdm, N.dL, hla, hlb]
      simp
    rw [e] at hr
    cases hr
    have hxy : ¬ y = x := fun e => hyk (e ▸ N.xk)
    refine (rren_same_dir (_s := 0) (_kn := []) (_f := fun _ => 0) (_kp := 0) iL.length iL.length _ _ c1 c2 b1 b2 o1 o2 rfl rfl N.l1.1 N.l2.1 N.l1.2 N.l2.2 w N.h N.aL _ _ hl1 hl2 N.v1 N.v2 N.aL N.cx N.cy N.e1.1 N.e1.2 N.e2.1 N.e2.2 (by omega) (by omega) (by omega) (by omega) hP hS rfl (N.sLs.idxNo hy1 hyk) hj N.ny (.inr ⟨nmNe.2 hxy, N.sLs.idxNo hy1 hyk⟩) N.HL N.HM N.HF).mono ?_
    rintro e w' ⟨rfl, HX⟩
    have ht := tie_near (R1 := R) N.D.tie N.dL hun (H := setN T.F iL (some (.dir sL (y :: dele kL x)))) (kM' := y :: dele kL x) (esM' := mvL esF jx y) (fun p h1 _ => setN_other _ _ h1) (setN_same _ _ _) (fun p hp _ => rfl) (N.D.tie.lt hiL)
      (N.sLs.ren nodL hx1 hy1 N.xk hj2 hj3 (g := fun z => if z = y then num (iL ++ [x]) else num (iL ++ [z])) (by rw [hj4]; simp) (fun z hz => by
        have : ¬ z = y := fun e => hyk (by rw [← e]; exact (dele_mem.1 hz).2)
        show (if z = y then _ else _) = _
        rw [if_neg this])) R.bl R.ino
    refine ⟨rfl, Vto.of (Below.refl _ _) HX.out ht ?_ hbl hio⟩
    show (List.set _ _ _).length ≤ _
    rw [List.length_set]; omega
  · have hne' : ¬ num iL = num iM := fun e => hne (N.D.tie.inj _ _ hiL hiM e)
    obtain ⟨kp, hPo⟩ := N.sMs.spot N.ny hyk nodM.2.2
    have e : movR T (iL ++ [x]) (iM ++ [y]) = if T.bl < furB sM kM.length then (7, T) else (0, ⟨graft (setN (setN T.F iL (some (.dir sL (dele kL x)))) iM (some (.dir (max sM (kM.length + 1)) (y :: kM)))) (iL ++ [x]) (iM ++ [y]), T.bl - furB sM kM.length, T.ino⟩) := by
      unfold movR
      rw [hdl, hdm, N.dL, N.dM, hla, hlb]
      simp only [if_neg hne]
    rw [e] at hr
    have hkg := N.D.tie.at_ne N.ff
    by_cases hf : T.bl < furB sM kM.length
    · rw [if_pos hf] at hr
      cases hr
      refine (rren_full iL.length iM.length _ _ c1 c2 b1 b2 o1 o2 rfl rfl N.l1.1 N.l2.1 N.l1.2 N.l2.2 w N.h N.aM _ _ hl1 hl2 N.v1 N.v2 N.aL N.cx N.cy N.e1.1 N.e1.2 N.e2.1 N.e2.2 (by omega) (by omega) (by omega) (by omega) hP hS hkg hne' N.sMs N.ny hyk hPo (by rw [hbl]; exact hf) N.HL N.HM N.HF).mono ?_
      rintro e w' ⟨rfl, B⟩
      exact ⟨rfl, Vto.same N.h N.D B⟩
    · rw [if_neg hf] at hr
      cases hr
      refine (rren_move iL.length iM.length _ _ c1 c2 b1 b2 o1 o2 rfl rfl N.l1.1 N.l2.1 N.l1.2 N.l2.2 w N.h N.aM _ _ hl1 hl2 N.v1 N.v2 N.aL N.cx N.cy N.e1.1 N.e1.2 N.e2.1 N.e2.2 (by omega) (by omega) (by omega) (by omega) hP hS hkg hne' N.sMs N.ny hyk hPo (by rw [hbl]; exact hf) hj N.HL N.HM N.HF).mono ?_
      rintro e w' ⟨rfl, HX⟩
      have ht := tie_far (R1 := R) N.D.tie N.dL N.dM hne hun (H := setN (setN T.F iL (some (.dir sL (dele kL x)))) iM (some (.dir (max sM (kM.length + 1)) (y :: kM)))) (fun p h1 h2 _ => by rw [setN_other _ _ h2, setN_other _ _ h1]) (by rw [setN_other _ _ hne, setN_same]) (setN_same _ _ _) (fun p hp _ => rfl) (N.D.tie.lt hiM) (N.D.tie.lt hiL) N.aL N.sLs nodL hx1 N.xk hj2 hj3 hg (.inl hno)
        (hPo.sl ((num (iL ++ [x]) : Int) + 1) (fun z => if z = y then num (iL ++ [x]) else num (iM ++ [z])) (by simp) (fun z hz => by
          have : ¬ z = y := fun e => hyk (e ▸ hz)
          show (if z = y then _ else _) = _
          rw [if_neg this])) (R.bl - furB sM kM.length) R.ino
      refine ⟨rfl, Vto.of (Below.refl _ _) HX.out ht ?_ (by show _ - _ = _ - _; rw [hbl]) hio⟩
      show (List.set _ _ _).length ≤ _
      rw [List.length_set, List.length_set]; omega
end
end Go.Proofs.YtlnjnimenihhnaaGreatDoor

namespace Go.Proofs.YtlnjnimenihhnaaGreatDoor
open Go.RowKit Go.Maps

section
variable {T : Ts} {R : Rs} {num : Pth → Nat} {K r q : Nat} {G : Nat → Prop} {w : World} {iL iM : Pth} {x y : ByteArray} {b1 o1 c1 b2 o2 c2 : Nat} {kL kM : List ByteArray} {sL sM : Nat} {esF esT : List En}
set_option maxHeartbeats 1600000 in
/-- The other thing goes. -/
theorem Rnm.repl (N : Rnm T R num K r q G w iL iM x y b1 o1 c1 b2 o2 c2 kL kM sL sM esF esT) (hK : K ≤ 60000) {ng : Nd} (hng : T.F (iM ++ [y]) = some ng) (hleaf : ∀ z, T.F ((iM ++ [y]) ++ [z]) = none) (hun : ¬ Un (iL ++ [x]) (iM ++ [y])) {c : Int} {T' : Ts} (hr : movR (goneT T (iM ++ [y])) (iL ++ [x]) (iM ++ [y]) = (c, T'))
    (hov : ∀ w', Below w.heap.size w w' → Calls Tryz.prog 69 #[ptr r, .int .i64 (num (iL ++ [x]) : Nat), .int .i64 (num (iM ++ [y]) : Nat)] w' fun e w'' => e = .returned (.int .i64 0) ∧ Below w'.heap.size w' w'')
    (hfr : ∀ w', Below w.heap.size w w' → Calls Tryz.prog 67 #[ptr r, .int .i64 (num (iM ++ [y]) : Nat)] w' fun e w'' => e = .returned (.tuple #[]) ∧ Hid (Rt w'' r q G ⟨R.L.set (num (iM ++ [y])) .gone, R.bl + ng.blk, R.ino + 1⟩ ∧ Chg (fun b => b = r ∨ b = q) w' w'')) :
    Calls Tryz.prog 34 #[ptr r, .slice (some ⟨b1, o1, none⟩) (iL.length + 1) c1, .slice (some ⟨b2, o2, none⟩) (iM.length + 1) c2] w fun e w' => e = .returned (.int .i64 c) ∧ Vto w w' r q G T' K := by
  have hbb := N.D.bb
  have hbl := N.D.bl
  have hio := N.D.ino
  have hnl := N.D.n
  have hle := N.le
  have hx1 : 1 ≤ x.size := (nameB_parts N.nx).1
  have hy1 : 1 ≤ y.size := (nameB_parts N.ny).1
  have hge : (T.F (iM ++ [y])).isSome = true := by rw [hng]; rfl
  have hyk : y ∈ kM := (N.D.mem N.dM y).2 hge
  have hP := pfB_no hun
  have hS : smB (iL ++ [x]) (iM ++ [y]) = false := smB_no (fun e => hun (un_iff.2 ⟨[], by rw [← e, List.append_nil]⟩))
  have hl1 : (iL ++ [x]).length = iL.length + 1 := by simp
  have hl2 : (iM ++ [y]).length = iM.length + 1 := by simp
  have hdl : (iL ++ [x]).dropLast = iL := by simp
  have hdm : (iM ++ [y]).dropLast = iM := by simp
  have hla : lastN (iL ++ [x]) = x := lastN_next
  have hlb : lastN (iM ++ [y]) = y := lastN_next
  have nodL := (N.D.gd.nms _ _ _ N.dL).1
  have nodM := (N.D.gd.nms _ _ _ N.dM)
  have hiL : (T.F iL).isSome = true := by rw [N.dL]; rfl
  have hiM : (T.F iM).isSome = true := by rw [N.dM]; rfl
  have hg : ∀ z, ¬ z = [] → T.F ((iM ++ [y]) ++ z) = none := fun z hz => by
    cases z with
    | nil => exact absurd rfl hz
    | cons u v =>
      cases h : T.F ((iM ++ [y]) ++ u :: v) with
      | none => rfl
      | some nd =>
        have e : (iM ++ [y]) ++ u :: v = ((iM ++ [y]) ++ [u]) ++ v := by simp
        rw [e] at h
        have := N.D.gd.pre _ _ v rfl (by rw [h]; rfl)
        rw [hleaf u] at this
        cases this
  have hgL : ¬ Un (iM ++ [y]) iL := fun hu => by
    obtain ⟨z, hz⟩ := un_iff.1 hu
    have := N.ff
    rw [hz, List.append_assoc, hg _ (by simp)] at this
    cases this
  have hLg : ¬ iL = iM ++ [y] := fun e => hgL (un_iff.2 ⟨[], by rw [e, List.append_nil]⟩)
  have hMg : ¬ iM = iM ++ [y] := fun e => app_self e.symm
  have hgone : goneT T (iM ++ [y]) = ⟨setN (setN T.F iM (some (.dir sM (dele kM y)))) (iM ++ [y]) none, T.bl + ng.blk, T.ino + 1⟩ := by
    unfold goneT
    rw [hng, hdm, N.dM, hlb]
  have hblk := ng.blk_bd
  obtain ⟨ix, hi, hi2, hi3, hi4⟩ := N.sMs.idx hy1 hyk
  have hnM : ¬ num iM = num (iM ++ [y]) := fun e => hMg (N.D.tie.inj _ _ hiM hge e)
  have hnL : ¬ num iL = num (iM ++ [y]) := fun e => hLg (N.D.tie.inj _ _ hiL hge e)
  have hkf := N.D.lt N.ff
  have hkg := N.D.lt hge
  have hR1 : ∀ p, (T.F p).isSome = true → ¬ p = iM ++ [y] → (⟨R.L.set (num (iM ++ [y])) .gone, R.bl + ng.blk, R.ino + 1⟩ : Rs).at (num p) = R.at (num p) := fun p hp hne => at_other R.L _ (fun e => hne (N.D.tie.inj _ _ hp hge e))
  have hlM : num iM < (R.L.set (num (iM ++ [y])) .gone).length := by rw [List.length_set]; exact N.D.tie.lt hiM
  have hlL : num iL < (R.L.set (num (iM ++ [y])) .gone).length := by rw [List.length_set]; exact N.D.tie.lt hiL
  have hpt : Sl (esT.set ix ⟨y, (num (iL ++ [x]) : Int) + 1⟩) sM kM (fun z => if z = y then num (iL ++ [x]) else num (iM ++ [z])) :=
    N.sMs.point nodM.1 hy1 hi2 hi3 (by simp) (fun z _ hz => by
      show (if z = y then _ else _) = _
      rw [if_neg hz])
  have hkl := (perm_dele nodM.1 hyk).length_eq
  rw [List.length_cons] at hkl
  have h1t : (⟨R.L.set (num (iM ++ [y])) .gone, R.bl + ng.blk, R.ino + 1⟩ : Rs).at (num iM) = .dir esT := (hR1 iM hiM hMg).trans N.aM
  by_cases hne : iL = iM
  · subst hne
    have eKS := N.dL.symm.trans N.dM
    injection eKS with eKS
    injection eKS with eS eK
    subst eS; subst eK
    have eE := N.aL.symm.trans N.aM
    injection eE with eE
    subst eE
    have hxy : ¬ y = x := fun e => hun (un_iff.2 ⟨[], by rw [e, List.append_nil]⟩)
    have e : movR (goneT T (iL ++ [y])) (iL ++ [x]) (iL ++ [y]) = (0, ⟨graft (setN (setN (setN T.F iL (some (.dir sL (dele kL y)))) (iL ++ [y]) none) iL (some (.dir sL (y :: dele (dele kL y) x)))) (iL ++ [x]) (iL ++ [y]), T.bl + ng.blk, T.ino + 1⟩) := by
      rw [hgone]
      unfold movR
      simp only [hdl, hdm, hla, hlb]
      rw [setN_other _ _ hMg, setN_same]
      simp
    rw [e] at hr
    cases hr
    obtain ⟨jx, hj, hj2, hj3, _⟩ := hpt.idx hx1 N.xk
    have hcx : (⟨(R.L.set (num (iL ++ [y])) .gone).set (num iL) (.dir (esF.set ix ⟨y, (num (iL ++ [x]) : Int) + 1⟩)), R.bl + ng.blk, R.ino + 1⟩ : Rs).at (num iL) = .dir (esF.set ix ⟨y, (num (iL ++ [x]) : Int) + 1⟩) := at_set _ _ _ hlL
    refine (rren_replace (_s := 0) (_kn := []) (_f := fun _ => 0) (_kp := 0) (R1 := ⟨R.L.set (num (iL ++ [y])) .gone, R.bl + ng.blk, R.ino + 1⟩) iL.length iL.length _ _ c1 c2 b1 b2 o1 o2 rfl rfl N.l1.1 N.l2.1 N.l1.2 N.l2.2 w N.h N.aL _ _ hl1 hl2 N.v1 N.v2 N.aL N.cx N.cy N.e1.1 N.e1.2 N.e2.1 N.e2.2 (by omega) (by omega) (by omega) (by omega) hP hS hi hi4 (by omega) hov (by omega) hi3 h1t hcx hj (by rw [List.length_set]; omega) hfr N.HL N.HM N.HF).mono ?_
    rintro e w' ⟨rfl, HX⟩
    have hX := HX.out
    rw [List.set_set] at hX
    have hsl : Sl ((esF.set ix ⟨y, (num (iL ++ [x]) : Int) + 1⟩).set jx En.fr) sL (y :: dele (dele kL y) x) (fun z => if z = y then num (iL ++ [x]) else num (iL ++ [z])) := by
      refine (hpt.del nodM.1 hx1 N.xk hj2 hj3).permN ?_
      have h1 := (perm_dele nodM.1 hyk).filter (fun z => !decide (z = x))
      have h2 : (y :: dele kL y).filter (fun z => !decide (z = x)) = y :: dele (dele kL y) x := by
        rw [List.filter_cons_of_pos (by simpa using hxy)]
        rfl
      rw [h2] at h1
      exact h1
    have ht := tie_near (R1 := ⟨R.L.set (num (iL ++ [y])) .gone, R.bl + ng.blk, R.ino + 1⟩) N.D.tie N.dL hun (H := setN (setN (setN T.F iL (some (.dir sL (dele kL y)))) (iL ++ [y]) none) iL (some (.dir sL (y :: dele (dele kL y) x)))) (fun p h1 h2 => by rw [setN_other _ _ h1, setN_other _ _ h2, setN_other _ _ h1]) (setN_same _ _ _) hR1 hlL hsl (R.bl + ng.blk) (R.ino + 1)
    refine ⟨rfl, Vto.of (Below.refl _ _) hX ht ?_ (by show _ + _ = _ + _; rw [hbl]) (by show _ + _ = _ + _; rw [hio])⟩
    show (List.set _ _ _).length ≤ _
    rw [List.length_set, List.length_set]; omega
  · have hne' : ¬ num iL = num iM := fun e => hne (N.D.tie.inj _ _ hiL hiM e)
    have hfz : furB sM (dele kM y).length = 0 := by
      have := nodM.2.2
      unfold furB
      rw [if_pos (by omega)]
    have hmx : max sM ((dele kM y).length + 1) = sM := by have := nodM.2.2; omega
    have e : movR (goneT T (iM ++ [y])) (iL ++ [x]) (iM ++ [y]) = (0, ⟨graft (setN (setN (setN (setN T.F iM (some (.dir sM (dele kM y)))) (iM ++ [y]) none) iL (some (.dir sL (dele kL x)))) iM (some (.dir sM (y :: dele kM y)))) (iL ++ [x]) (iM ++ [y]), T.bl + ng.blk, T.ino + 1⟩) := by
      rw [hgone]
      unfold movR
      simp only [hdl, hdm, hla, hlb]
      rw [setN_other _ _ hMg, setN_same, setN_other _ _ hLg, setN_other _ _ hne, N.dL]
      simp only [if_neg hne, hfz, hmx]
      rw [if_neg (by omega)]
      simp
    rw [e] at hr
    cases hr
    obtain ⟨jx, hj, hj2, hj3, _⟩ := N.sLs.idx hx1 N.xk
    have hcx : (⟨(R.L.set (num (iM ++ [y])) .gone).set (num iM) (.dir (esT.set ix ⟨y, (num (iL ++ [x]) : Int) + 1⟩)), R.bl + ng.blk, R.ino + 1⟩ : Rs).at (num iL) = .dir esF := (at_other _ _ hne').trans ((hR1 iL hiL hLg).trans N.aL)
    refine (rren_replace (_s := 0) (_kn := []) (_f := fun _ => 0) (_kp := 0) (R1 := ⟨R.L.set (num (iM ++ [y])) .gone, R.bl + ng.blk, R.ino + 1⟩) iL.length iM.length _ _ c1 c2 b1 b2 o1 o2 rfl rfl N.l1.1 N.l2.1 N.l1.2 N.l2.2 w N.h N.aM _ _ hl1 hl2 N.v1 N.v2 N.aL N.cx N.cy N.e1.1 N.e1.2 N.e2.1 N.e2.2 (by omega) (by omega) (by omega) (by omega) hP hS hi hi4 (by omega) hov (by omega) hi3 h1t hcx hj (by omega) hfr N.HL N.HM N.HF).mono ?_
    rintro e w' ⟨rfl, HX⟩
    have ht := tie_far (R1 := ⟨R.L.set (num (iM ++ [y])) .gone, R.bl + ng.blk, R.ino + 1⟩) N.D.tie N.dL N.dM hne hun (H := setN (setN (setN (setN T.F iM (some (.dir sM (dele kM y)))) (iM ++ [y]) none) iL (some (.dir sL (dele kL x)))) iM (some (.dir sM (y :: dele kM y)))) (fun p h1 h2 h3 => by rw [setN_other _ _ h2, setN_other _ _ h1, setN_other _ _ h3, setN_other _ _ h2]) (by rw [setN_other _ _ hne, setN_same]) (setN_same _ _ _) hR1 hlM hlL N.aL N.sLs nodL hx1 N.xk hj2 hj3 hg (.inr hgL)
      (hpt.permN (perm_dele nodM.1 hyk)) (R.bl + ng.blk) (R.ino + 1)
    refine ⟨rfl, Vto.of (Below.refl _ _) HX.out ht ?_ (by show _ + _ = _ + _; rw [hbl]) (by show _ + _ = _ + _; rw [hio])⟩
    show (List.set _ _ _).length ≤ _
    rw [List.length_set, List.length_set]
    show (List.set _ _ _).length ≤ _
    rw [List.length_set]; omega
end
end Go.Proofs.YtlnjnimenihhnaaGreatDoor

namespace Go.Proofs.YtlnjnimenihhnaaGreatDoor
open Go.RowKit Go.Maps

section
variable {T : Ts} {R : Rs} {num : Pth → Nat} {K r q : Nat} {G : Nat → Prop} {w : World}
set_option maxHeartbeats 3200000 in
theorem vrename_any (h : Rt w r q G R) (hD : Dt T R num K) (hK : K ≤ 60000) (v1 v2 : Value) (f g : Pth) (hv1 : Tx w v1 f) (hv2 : Tx w v2 g) (hf1 : Far v1 r q) (hf2 : Far v2 r q) (hl1 : f.length ≤ 1000) (hl2 : g.length ≤ 1000) (hn1 : f.all nameB = true) (hn2 : g.all nameB = true) {c : Int} {T' : Ts} (hr : renN T f g = (c, T')) :
    Calls Tryz.prog 34 #[ptr r, v1, v2] w fun e w' => e = .returned (.int .i64 c) ∧ Vto w w' r q G T' K := by
  obtain ⟨va, ca, rfl⟩ := hv1.form
  obtain ⟨vb, cb, rfl⟩ := hv2.form
  have HW := walk_at h hD hK hv1 hl1 hn1
  have HW0 := HW w (Below.refl _ _)
  have hbb := hD.bb
  have hbl := hD.bl
  have hio := hD.ino
  have hib := hD.ib
  have hnl := hD.n
  rcases wlk_cases hD.gd f with ⟨h0, h1⟩ | ⟨h0, hF, h1⟩ | ⟨h0, h1, nd, hF⟩
  · have e : renN T f g = (folE T.F f, T) := by unfold renN; rw [if_pos h0]
    rw [e] at hr
    cases hr
    rw [h1] at HW0
    refine (rren_err w h0 HW0).mono ?_
    rintro e w' ⟨rfl, B⟩
    exact ⟨rfl, Vto.same h hD B⟩
  · have e : renN T f g = (8, T) := by
      unfold renN
      rw [if_neg (by simp [h0]), hF]
      simp
    rw [e] at hr
    cases hr
    rw [h1] at HW0
    refine (rren_err w (by decide) HW0).mono ?_
    rintro e w' ⟨rfl, B⟩
    exact ⟨rfl, Vto.same h hD B⟩
  · rw [h1, wlkN_ok h1] at HW HW0
    have hfs : (T.F f).isSome = true := by rw [hF]; rfl
    have e0 : renN T f g = if f = [] ∨ g = [] then (13, T) else if ¬ folE T.F g = 0 then (folE T.F g, T) else if f = g then (0, T) else if Un f g then (13, T) else if (T.F g).isSome = true then repR T f g else movR T f g := by
      unfold renN
      rw [if_neg (by simp [h0]), if_neg (by rw [hfs]; simp)]
    rw [e0] at hr
    rcases List.eq_nil_or_concat f with h9 | ⟨iL, x, h9⟩
    · rw [if_pos (.inl h9)] at hr
      cases hr
      refine (rren_busy1 w (by rw [h9]; rfl) HW0).mono ?_
      rintro e w' ⟨rfl, B⟩
      exact ⟨rfl, Vto.same h hD B⟩
    · rcases List.eq_nil_or_concat g with h8 | ⟨iM, y, h8⟩
      · rw [if_pos (.inr h8)] at hr
        cases hr
        refine (rren_busy2 w (by rw [h9]; simp) (by rw [h8]; rfl) HW0).mono ?_
        rintro e w' ⟨rfl, B⟩
        exact ⟨rfl, Vto.same h hD B⟩
      · rw [List.concat_eq_append] at h9 h8
        subst h9 h8
        rw [if_neg (fun h => h.elim app_ne app_ne)] at hr
        have hallL : ∀ z ∈ iL ++ [x], nameB z = true := fun z hz => List.all_eq_true.1 hn1 z hz
        have hallM : ∀ z ∈ iM ++ [y], nameB z = true := fun z hz => List.all_eq_true.1 hn2 z hz
        obtain ⟨b1, o1, c1, ea⟩ := tx_snoc hv1
        obtain ⟨b2, o2, c2, eb⟩ := tx_snoc hv2
        injection ea with ea1 ea2 ea3
        injection eb with eb1 eb2 eb3
        subst ea1 eb1
        obtain ⟨hvL, _, cx, hltL⟩ := hv1.frontV
        obtain ⟨hvM, _, cy, hltM⟩ := hv2.frontV
        obtain ⟨hbr1, hbq1⟩ := hf1 _ _ _ rfl
        obtain ⟨hbr2, hbq2⟩ := hf2 _ _ _ rfl
        have hLl : iL.length ≤ 1000 := by simp at hl1; omega
        have hMl : iM.length ≤ 1000 := by simp at hl2; omega
        have lenL : (iL ++ [x]).length = iL.length + 1 := by simp
        have lenM : (iM ++ [y]).length = iM.length + 1 := by simp
        have HM := walk_at h hD hK hvM hMl (List.all_eq_true.2 fun z hz => hallM z (by simp [hz]))
        have HFm := walk_at h hD hK hvL hLl (List.all_eq_true.2 fun z hz => hallL z (by simp [hz]))
        obtain ⟨sL, kL, dL, hxk⟩ := hD.gd.up iL x hfs
        have hwL : wlkE T.F iL = 0 := by
          rw [wlkE_eq hD.gd, hD.gd.fol (by rw [dL]; rfl), dL]
          simp
        rw [hwL, wlkN_ok hwL] at HFm
        rw [lenL] at HW hv1 ⊢
        rw [lenM] at hv2 ⊢
        rcases fol_up hD.gd iM y with ⟨g1, g2⟩ | ⟨g1, ⟨bs, g2, g3⟩ | ⟨sM, kM, dM, g3⟩⟩
        · rw [if_pos (by rw [g2]; exact g1), g2] at hr
          cases hr
          refine (rren_err2 (_q := q) (_G := G) (_R := R) iL.length iM.length _ _ ca cb b1 b2 o1 o2 rfl rfl hltL hltM hLl hMl w g1 HW HM).mono ?_
          rintro e w' ⟨rfl, B⟩
          exact ⟨rfl, Vto.same h hD B⟩
        · rw [if_pos (by rw [g3]; decide), g3] at hr
          cases hr
          rw [g1, wlkN_ok g1] at HM
          refine (rren_file iL.length iM.length _ _ ca cb b1 b2 o1 o2 rfl rfl hltL hltM hLl hMl w h (hD.tie.fil _ _ g2) HW HM).mono ?_
          rintro e w' ⟨rfl, B⟩
          exact ⟨rfl, Vto.same h hD B⟩
        · rw [if_neg (by simp [g3])] at hr
          rw [g1, wlkN_ok g1] at HM
          obtain ⟨esF, aL, sLs, leL⟩ := hD.dir dL
          obtain ⟨esT, aM, sMs, leM⟩ := hD.dir dM
          by_cases e1 : iL ++ [x] = iM ++ [y]
          · rw [if_pos e1] at hr
            cases hr
            refine (rren_same iL.length iM.length _ _ ca cb b1 b2 o1 o2 rfl rfl hltL hltM hLl hMl w h aM _ _ lenL lenM hv1 hv2 (by rw [e1]; exact pfB_self _) (by rw [e1]; simp [smB]) HW HM HFm).mono ?_
            rintro e w' ⟨rfl, B⟩
            exact ⟨rfl, Vto.same h hD B⟩
          · rw [if_neg e1] at hr
            by_cases e2 : Un (iL ++ [x]) (iM ++ [y])
            · rw [if_pos e2] at hr
              cases hr
              refine (rren_below iL.length iM.length _ _ ca cb b1 b2 o1 o2 rfl rfl hltL hltM hLl hMl w h aM _ _ lenL lenM hv1 hv2 (pfB_un e2 e1) (smB_no e1) HW HM HFm).mono ?_
              rintro e w' ⟨rfl, B⟩
              exact ⟨rfl, Vto.same h hD B⟩
            · rw [if_neg e2] at hr
              have N : Rnm T R num K r q G w iL iM x y b1 o1 ca b2 o2 cb kL kM sL sM esF esT := ⟨h, hD, hv1, hv2, cx, cy, ⟨hbr1, hbq1⟩, ⟨hbr2, hbq2⟩, ⟨hltL, hLl⟩, ⟨hltM, hMl⟩, hfs, dL, dM, hxk, hallL x (by simp), hallM y (by simp), aL, aM, sLs, sMs, ⟨leL, leM⟩, HW, HM, HFm⟩
              cases hG : T.F (iM ++ [y]) with
              | none =>
                rw [if_neg (by rw [hG]; simp)] at hr
                exact N.mov hK hG e2 hr
              | some ng =>
                rw [if_pos (by rw [hG]; rfl)] at hr
                have hgs : (T.F (iM ++ [y])).isSome = true := by rw [hG]; rfl
                have hyk : y ∈ kM := (hD.mem dM y).2 hgs
                have hy1 : 1 ≤ y.size := (nameB_parts N.ny).1
                obtain ⟨ix, hi, hi2, hi3, hi4⟩ := sMs.idx hy1 hyk
                have hkg := hD.lt hgs
                have over : ∀ (oc : Int), ¬ oc = 0 → (∀ w', Below w.heap.size w w' → Calls Tryz.prog 69 #[ptr r, .int .i64 (num (iL ++ [x]) : Nat), .int .i64 (num (iM ++ [y]) : Nat)] w' fun e w'' => e = .returned (.int .i64 oc) ∧ Below w'.heap.size w' w'') → (oc, T) = (c, T') →
                    Calls Tryz.prog 34 #[ptr r, .slice (some ⟨b1, o1, none⟩) (iL.length + 1) ca, .slice (some ⟨b2, o2, none⟩) (iM.length + 1) cb] w fun e w' => e = .returned (.int .i64 c) ∧ Vto w w' r q G T' K := by
                  intro oc h3 h4 h5
                  cases h5
                  refine (rren_over (_s := 0) (_kn := []) (_f := fun _ => 0) (_kp := 0) iL.length iM.length _ _ ca cb b1 b2 o1 o2 rfl rfl hltL hltM hLl hMl w h aM _ _ lenL lenM hv1 hv2 aL cx cy hbr1 hbq1 hbr2 hbq2 (by omega) (by omega) (by omega) (by omega) (pfB_no e2) (smB_no e1) h3 hi hi4 (by omega) h4 HW HM HFm).mono ?_
                  rintro e w' ⟨rfl, B⟩
                  exact ⟨rfl, Vto.same h hD B⟩
                unfold repR at hr
                rw [hF, hG] at hr
                cases nd with
                | file fb =>
                  have ha := hD.tie.fil _ _ hF
                  cases ng with
                  | file gb =>
                    have hb := hD.tie.fil _ _ hG
                    have hleaf : ∀ z, T.F ((iM ++ [y]) ++ [z]) = none := fun z => by
                      cases h : T.F ((iM ++ [y]) ++ [z]) with
                      | none => rfl
                      | some _ =>
                        obtain ⟨_, _, e, _⟩ := hD.gd.up _ z (by rw [h]; rfl)
                        rw [hG] at e; cases e
                    exact N.repl hK hG hleaf e2 hr (fun w' hb' => rover_ff w' (h.below hb') ha hb) (fun w' hb' => rfree_file w' (h.below hb') hb (by omega) (by omega))
                  | dir s0 k0 =>
                    obtain ⟨eb, hb, _, _⟩ := hD.dir hG
                    exact over 10 (by decide) (fun w' hb' => rover_10 w' (h.below hb') ha hb) hr
                | dir s1 k1 =>
                  obtain ⟨ea', ha, _, _⟩ := hD.dir hF
                  cases ng with
                  | file gb =>
                    have hb := hD.tie.fil _ _ hG
                    exact over 11 (by decide) (fun w' hb' => rover_11 w' (h.below hb') ha hb) hr
                  | dir s0 k0 =>
                    obtain ⟨eb, hb, hS0, hle0⟩ := hD.dir hG
                    by_cases hk0 : k0 = []
                    · subst hk0
                      simp only [if_true] at hr
                      have hleaf : ∀ z, T.F ((iM ++ [y]) ++ [z]) = none := fun z => by
                        cases h : T.F ((iM ++ [y]) ++ [z]) with
                        | none => rfl
                        | some _ =>
                          obtain ⟨_, _, e, e'⟩ := hD.gd.up _ z (by rw [h]; rfl)
                          rw [hG] at e; cases e; cases e'
                      have hs0 := hS0.len
                      exact N.repl hK hG hleaf e2 hr (fun w' hb' => rover_dd w' (h.below hb') ha hb (by omega) (perm_nil_len hS0)) (fun w' hb' => by
                        have := rfree_dir w' (h.below hb') hb (by omega) (by omega) (by omega)
                        rw [hs0] at this
                        exact this)
                    · simp only [if_neg hk0] at hr
                      exact over 13 (by decide) (fun w' hb' => rover_13 w' (h.below hb') ha hb (by omega) (by rw [perm_len hS0]; exact List.length_pos_iff.2 hk0)) hr
end
end Go.Proofs.YtlnjnimenihhnaaGreatDoor

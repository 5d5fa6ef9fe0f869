/-
  TreeReplaces: what the tree is.
-/
import Derived.Test.YtdcmkcplklkfmabDoorTFulP
namespace Go.Proofs.YtdcmkcplklkfmabDoor
open Go.RowKit Go.Maps Go.Sort

theorem allN_small (n : Nat) (h : n ≤ 5000) : 0 ≤ allN n ∧ allN n ≤ 11 := by
  have e2 : blkN (n : Int) = ((n : Int) + 511) / 512 := if_pos ⟨by omega, by omega⟩
  unfold allN innN
  rw [e2]
  repeat' split
  all_goals omega
theorem allN0 : allN ((0 : Nat) : Int) = 0 := by kernel_rfl
theorem add_eq {T : Ts} {ns : Pth} {nd0 : Nd} {s : Nat} {kn : List ByteArray} (h1 : T.F ns = none) (h2 : T.F ns.dropLast = some (.dir s kn)) (h3 : ¬ T.ino = 0) (h4 : ¬ T.bl < furB s kn.length) : addR T ns nd0 = (0, ⟨setN (setN T.F ns.dropLast (some (.dir (max s (kn.length + 1)) (lastN ns :: kn)))) ns (some nd0), T.bl - furB s kn.length, T.ino - 1⟩) := by
  unfold addR
  rw [h1, h2]
  exact if_neg (fun e => e.elim h3 h4)
theorem ext_eq {T : Ts} {ns : Pth} {d : List Int} (h1 : T.F ns = some (.file [])) (hl : d.length ≤ 5000) (hb : 11 ≤ T.bl) : extR T ns d = (0, ⟨setN T.F ns (some (.file d)), T.bl - allN d.length, T.ino⟩) := by
  unfold extR
  rw [h1]
  have b := allN_small d.length hl
  have e : allN ((([] : List Int).length : Int) + d.length) - allN (([] : List Int).length : Int) = allN d.length := by
    have e1 : ((([] : List Int).length : Nat) : Int) = ((0 : Nat) : Int) := rfl
    rw [e1, allN0, show ((0 : Nat) : Int) + (d.length : Int) = (d.length : Int) by omega]
    omega
  show (if 8458240 < ([] : List Int).length + d.length then (5, T) else if T.bl < allN ((([] : List Int).length : Int) + d.length) - allN (([] : List Int).length : Int) then (7, T) else (0, (⟨setN T.F ns (some (.file ([] ++ d))), T.bl - (allN ((([] : List Int).length : Int) + d.length) - allN (([] : List Int).length : Int)), T.ino⟩ : Ts))) = _
  rw [e, if_neg (by simp; omega), if_neg (by omega)]
  rfl
theorem ren_eq {T : Ts} {a b : ByteArray} (h1 : spE a = 0) (h2 : spE b = 0) (h3 : folE T.F (spN a) = 0) (h4 : (T.F (spN a)).isSome = true) (h5 : ¬ spN a = []) (h6 : ¬ spN b = []) (h7 : folE T.F (spN b) = 0) (h8 : ¬ spN a = spN b) (h9 : ¬ Un (spN a) (spN b)) (h10 : (T.F (spN b)).isSome = true) : renR T a b = repR T (spN a) (spN b) := by
  unfold renR
  rw [if_neg (by omega), if_neg (by omega), if_neg (by omega), if_neg (by rw [h4]; simp), if_neg (fun e => e.elim h5 h6), if_neg (by omega), if_neg h8, if_neg h9, if_pos h10]
def xN : ByteArray := ⟨#[120]⟩
def yN : ByteArray := ⟨#[121]⟩
def dN : ByteArray := ⟨#[100]⟩
def xT : ByteArray := ⟨#[47, 120]⟩
/-- Within one directory. -/
def sT2 : Ts := (doR (tr0 100 19) ⟨1, xT, ⟨#[]⟩, [], 0⟩).2
def sT3 (a : List Int) : Ts := ⟨setN sT2.F [xN] (some (.file a)), sT2.bl - allN a.length, sT2.ino⟩
def sT4 (a : List Int) : Ts := ⟨setN (setN (sT3 a).F [] (some (.dir 2 [yN, xN]))) [yN] (some (.file [])), (sT3 a).bl - 0, (sT3 a).ino - 1⟩
def sT5 (a b : List Int) : Ts := ⟨setN (sT4 a).F [yN] (some (.file b)), (sT4 a).bl - allN b.length, (sT4 a).ino⟩
def sG (a b : List Int) : Ts := ⟨setN (setN (sT5 a b).F [] (some (.dir 2 [xN]))) [yN] none, (sT5 a b).bl + allN b.length, (sT5 a b).ino + 1⟩
def sT6 (a b : List Int) : Ts := ⟨graft (setN (sG a b).F [] (some (.dir 2 [yN]))) [xN] [yN], (sG a b).bl, (sG a b).ino⟩
def yT : ByteArray := ⟨#[47, 121]⟩
theorem s1 : doR (tr0 100 19) ⟨1, xT, ⟨#[]⟩, [], 0⟩ = (0, sT2) := pair_of (by kernel_rfl)
theorem s2bl : sT2.bl = 99 := by kernel_rfl
theorem s2in : sT2.ino = 18 := by kernel_rfl
theorem s2 (a : List Int) (h : a.length ≤ 5000) : doR sT2 ⟨3, xT, ⟨#[]⟩, a, 0⟩ = (0, sT3 a) := by
  rw [doR3 (by kernel_rfl), show spN xT = [xN] by kernel_rfl]
  exact ext_eq (by kernel_rfl) h (by rw [s2bl]; omega)
theorem s3 (a : List Int) (h : a.length ≤ 5000) : doR (sT3 a) ⟨1, yT, ⟨#[]⟩, [], 0⟩ = (0, sT4 a) := by
  have b := allN_small a.length h
  rw [doR1 (show fiE (sT3 a).F yT = 0 by kernel_rfl), show spN yT = [yN] by kernel_rfl]
  have hf : furB 1 ([xN] : List ByteArray).length = 0 := by kernel_rfl
  have h1 : (sT3 a).ino = 18 := s2in
  have h2 : (sT3 a).bl = 99 - allN a.length := by show sT2.bl - allN a.length = _; rw [s2bl]
  have := add_eq (T := sT3 a) (ns := [yN]) (nd0 := .file []) (s := 1) (kn := [xN]) (by kernel_rfl) (by kernel_rfl) (by rw [h1]; omega) (by rw [hf, h2]; omega)
  rw [this, hf]
  rfl
theorem s4 (a b : List Int) (h : a.length ≤ 5000) (hb : b.length ≤ 5000) : doR (sT4 a) ⟨3, yT, ⟨#[]⟩, b, 0⟩ = (0, sT5 a b) := by
  have c := allN_small a.length h
  rw [doR3 (show fiE (sT4 a).F yT = 0 by kernel_rfl), show spN yT = [yN] by kernel_rfl]
  refine ext_eq (by kernel_rfl) hb ?_
  show 11 ≤ sT2.bl - allN a.length - 0
  rw [s2bl]; omega
theorem s5 (a b : List Int) (_h : a.length ≤ 5000) (_hb : b.length ≤ 5000) : doR (sT5 a b) ⟨7, xT, yT, [], 0⟩ = (0, sT6 a b) := by
  rw [doR7, ren_eq (by kernel_rfl) (by kernel_rfl) (by kernel_rfl) (by kernel_rfl) (by decide +kernel) (by decide +kernel) (by kernel_rfl) (by decide +kernel) (by decide +kernel) (by kernel_rfl), show spN xT = [xN] by kernel_rfl, show spN yT = [yN] by kernel_rfl]
  have e1 : repR (sT5 a b) [xN] [yN] = movR (goneT (sT5 a b) [yN]) [xN] [yN] := by
    unfold repR
    rw [show (sT5 a b).F [xN] = some (.file a) by kernel_rfl, show (sT5 a b).F [yN] = some (.file b) by kernel_rfl]
  have e2 : goneT (sT5 a b) [yN] = sG a b := by
    have := goneT_eq (T := sT5 a b) (p := []) (x := yN) (s := 2) (kn := [yN, xN]) (nd := .file b) (by kernel_rfl) (by kernel_rfl)
    rw [show ([] : Pth) ++ [yN] = [yN] from rfl] at this
    rw [this, show dele [yN, xN] yN = [xN] by kernel_rfl]
    rfl
  rw [e1, e2]
  unfold movR
  rw [show (sG a b).F ([xN] : Pth).dropLast = some (.dir 2 [xN]) by kernel_rfl, show (sG a b).F ([yN] : Pth).dropLast = some (.dir 2 [xN]) by kernel_rfl]
  show (if ([xN] : Pth).dropLast = ([yN] : Pth).dropLast then (0, (⟨graft (setN (sG a b).F [] (some (.dir 2 (yN :: dele [xN] xN)))) [xN] [yN], (sG a b).bl, (sG a b).ino⟩ : Ts)) else _) = _
  rw [if_pos (show ([xN] : Pth).dropLast = ([yN] : Pth).dropLast from rfl), show dele [xN] xN = [] by kernel_rfl]
  rfl
theorem s6 (a b : List Int) : thE (sT6 a b).F yT = 0 ∧ (sT6 a b).F (spN yT) = some (.file a) ∧ thE (sT6 a b).F xT = 8 := ⟨by kernel_rfl, by kernel_rfl, by kernel_rfl⟩
theorem s7 (a b : List Int) : (sT6 a b).bl = (sT3 a).bl ∧ (sT6 a b).ino = (sT3 a).ino := by
  constructor
  · show (sT3 a).bl - 0 - allN b.length + allN b.length = _
    omega
  · show (sT3 a).ino - 1 + 1 = _
    omega
/-- Into another directory. -/
def dT : ByteArray := ⟨#[47, 100]⟩
def dyT : ByteArray := ⟨#[47, 100, 47, 121]⟩
def oT1 : Ts := (doR (tr0 100 19) ⟨2, dT, ⟨#[]⟩, [], 0⟩).2
def oT2 : Ts := (doR oT1 ⟨1, xT, ⟨#[]⟩, [], 0⟩).2
def oT3 (a : List Int) : Ts := ⟨setN oT2.F [xN] (some (.file a)), oT2.bl - allN a.length, oT2.ino⟩
def oT4 (a : List Int) : Ts := ⟨setN (setN (oT3 a).F [dN] (some (.dir 1 [yN]))) [dN, yN] (some (.file [])), (oT3 a).bl - 1, (oT3 a).ino - 1⟩
def oT5 (a b : List Int) : Ts := ⟨setN (oT4 a).F [dN, yN] (some (.file b)), (oT4 a).bl - allN b.length, (oT4 a).ino⟩
def oG (a b : List Int) : Ts := ⟨setN (setN (oT5 a b).F [dN] (some (.dir 1 []))) [dN, yN] none, (oT5 a b).bl + allN b.length, (oT5 a b).ino + 1⟩
def oT6 (a b : List Int) : Ts := ⟨graft (setN (setN (oG a b).F [] (some (.dir 2 [dN]))) [dN] (some (.dir 1 [yN]))) [xN] [dN, yN], (oG a b).bl - 0, (oG a b).ino⟩
theorem o0 : doR (tr0 100 19) ⟨2, dT, ⟨#[]⟩, [], 0⟩ = (0, oT1) := pair_of (by kernel_rfl)
theorem o1 : doR oT1 ⟨1, xT, ⟨#[]⟩, [], 0⟩ = (0, oT2) := pair_of (by kernel_rfl)
theorem o2bl : oT2.bl = 99 := by kernel_rfl
theorem o2in : oT2.ino = 17 := by kernel_rfl
theorem o2 (a : List Int) (h : a.length ≤ 5000) : doR oT2 ⟨3, xT, ⟨#[]⟩, a, 0⟩ = (0, oT3 a) := by
  rw [doR3 (by kernel_rfl), show spN xT = [xN] by kernel_rfl]
  exact ext_eq (by kernel_rfl) h (by rw [o2bl]; omega)
theorem o3 (a : List Int) (h : a.length ≤ 5000) : doR (oT3 a) ⟨1, dyT, ⟨#[]⟩, [], 0⟩ = (0, oT4 a) := by
  have b := allN_small a.length h
  rw [doR1 (show fiE (oT3 a).F dyT = 0 by kernel_rfl), show spN dyT = [dN, yN] by kernel_rfl]
  have hf : furB 0 ([] : List ByteArray).length = 1 := by kernel_rfl
  have h1 : (oT3 a).ino = 17 := o2in
  have h2 : (oT3 a).bl = 99 - allN a.length := by show oT2.bl - allN a.length = _; rw [o2bl]
  have := add_eq (T := oT3 a) (ns := [dN, yN]) (nd0 := .file []) (s := 0) (kn := []) (by kernel_rfl) (by kernel_rfl) (by rw [h1]; omega) (by rw [hf, h2]; omega)
  rw [this, hf]
  rfl
theorem o4 (a b : List Int) (h : a.length ≤ 5000) (hb : b.length ≤ 5000) : doR (oT4 a) ⟨3, dyT, ⟨#[]⟩, b, 0⟩ = (0, oT5 a b) := by
  have c := allN_small a.length h
  rw [doR3 (show fiE (oT4 a).F dyT = 0 by kernel_rfl), show spN dyT = [dN, yN] by kernel_rfl]
  refine ext_eq (by kernel_rfl) hb ?_
  show 11 ≤ oT2.bl - allN a.length - 1
  rw [o2bl]; omega
theorem o5 (a b : List Int) (h : a.length ≤ 5000) (hb : b.length ≤ 5000) : doR (oT5 a b) ⟨7, xT, dyT, [], 0⟩ = (0, oT6 a b) := by
  have c1 := allN_small a.length h
  have c2 := allN_small b.length hb
  rw [doR7, ren_eq (by kernel_rfl) (by kernel_rfl) (by kernel_rfl) (by kernel_rfl) (by decide +kernel) (by decide +kernel) (by kernel_rfl) (by decide +kernel) (by decide +kernel) (by kernel_rfl), show spN xT = [xN] by kernel_rfl, show spN dyT = [dN, yN] by kernel_rfl]
  have e1 : repR (oT5 a b) [xN] [dN, yN] = movR (goneT (oT5 a b) [dN, yN]) [xN] [dN, yN] := by
    unfold repR
    rw [show (oT5 a b).F [xN] = some (.file a) by kernel_rfl, show (oT5 a b).F [dN, yN] = some (.file b) by kernel_rfl]
  have e2 : goneT (oT5 a b) [dN, yN] = oG a b := by
    have := goneT_eq (T := oT5 a b) (p := [dN]) (x := yN) (s := 1) (kn := [yN]) (nd := .file b) (by kernel_rfl) (by kernel_rfl)
    rw [show ([dN] : Pth) ++ [yN] = [dN, yN] from rfl] at this
    rw [this, show dele [yN] yN = [] by kernel_rfl]
    rfl
  rw [e1, e2]
  unfold movR
  rw [show (oG a b).F ([xN] : Pth).dropLast = some (.dir 2 [xN, dN]) by kernel_rfl, show (oG a b).F ([dN, yN] : Pth).dropLast = some (.dir 1 []) by kernel_rfl]
  have hf : furB 1 ([] : List ByteArray).length = 0 := by kernel_rfl
  show (if ([xN] : Pth).dropLast = ([dN, yN] : Pth).dropLast then _ else if (oG a b).bl < furB 1 ([] : List ByteArray).length then _ else (0, (⟨graft (setN (setN (oG a b).F [] (some (.dir 2 (dele [xN, dN] xN)))) [dN] (some (.dir 1 [yN]))) [xN] [dN, yN], (oG a b).bl - furB 1 ([] : List ByteArray).length, (oG a b).ino⟩ : Ts))) = _
  rw [if_neg (by decide +kernel), hf, if_neg ?_, show dele [xN, dN] xN = [dN] by kernel_rfl]
  · rfl
  · show ¬ (oT2.bl - allN a.length - 1 - allN b.length + allN b.length) < 0
    rw [o2bl]; omega
theorem o6 (a b : List Int) : thE (oT6 a b).F dyT = 0 ∧ (oT6 a b).F (spN dyT) = some (.file a) ∧ thE (oT6 a b).F xT = 8 := ⟨by kernel_rfl, by kernel_rfl, by kernel_rfl⟩
theorem o7 (a b : List Int) : (oT6 a b).bl = (oT3 a).bl - 1 ∧ (oT6 a b).ino = (oT3 a).ino := by
  constructor
  · show (oT3 a).bl - 1 - allN b.length + allN b.length - 0 = _
    omega
  · show (oT3 a).ino - 1 + 1 = _
    omega
end Go.Proofs.YtdcmkcplklkfmabDoor

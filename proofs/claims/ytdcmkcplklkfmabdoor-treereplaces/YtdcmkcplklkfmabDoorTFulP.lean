/-
  TreeFulls: what the tree is.
-/
import Derived.Test.YtdcmkcplklkfmabDoorTLaw
namespace Go.Proofs.YtdcmkcplklkfmabDoor
open Go.RowKit Go.Maps Go.Sort

theorem doR1 {T : Ts} {p q : ByteArray} {d : List Int} {n : Int} (hf : fiE T.F p = 0) : doR T ⟨1, p, q, d, n⟩ = addR T (spN p) (.file []) := by
  unfold doR
  dsimp only
  rw [if_neg (by omega), if_neg (by omega), if_neg (fun e => e hf), if_pos rfl]
theorem doR2 {T : Ts} {p q : ByteArray} {d : List Int} {n : Int} (hf : fiE T.F p = 0) : doR T ⟨2, p, q, d, n⟩ = addR T (spN p) (.dir 0 []) := by
  unfold doR
  dsimp only
  rw [if_neg (by omega), if_neg (by omega), if_neg (fun e => e hf), if_neg (by omega), if_pos rfl]
theorem doR3 {T : Ts} {p q : ByteArray} {d : List Int} {n : Int} (hf : fiE T.F p = 0) : doR T ⟨3, p, q, d, n⟩ = extR T (spN p) d := by
  unfold doR
  dsimp only
  rw [if_neg (by omega), if_neg (by omega), if_neg (fun e => e hf), if_neg (by omega), if_neg (by omega), if_pos rfl]
theorem doR5 {T : Ts} {p q : ByteArray} {d : List Int} {n : Int} (hf : fiE T.F p = 0) : doR T ⟨5, p, q, d, n⟩ = unlR T (spN p) := by
  unfold doR
  dsimp only
  rw [if_neg (by omega), if_neg (by omega), if_neg (fun e => e hf), if_neg (by omega), if_neg (by omega), if_neg (by omega), if_neg (by omega), if_pos rfl]
theorem doR6 {T : Ts} {p q : ByteArray} {d : List Int} {n : Int} (hf : fiE T.F p = 0) : doR T ⟨6, p, q, d, n⟩ = rmdR T (spN p) := by
  unfold doR
  dsimp only
  rw [if_neg (by omega), if_neg (by omega), if_neg (fun e => e hf), if_neg (by omega), if_neg (by omega), if_neg (by omega), if_neg (by omega), if_neg (by omega)]
theorem doR7 {T : Ts} {p q : ByteArray} {d : List Int} {n : Int} : doR T ⟨7, p, q, d, n⟩ = renR T p q := by
  unfold doR
  dsimp only
  rw [if_neg (by omega), if_pos rfl]
/-- The name of number i, its path. -/
def fnm (i : Nat) : ByteArray := ⟨#[102, UInt8.ofNat (97 + i % 26), UInt8.ofNat (97 + i / 26)]⟩
def fpt (i : Nat) : ByteArray := ⟨#[47, 102, UInt8.ofNat (97 + i % 26), UInt8.ofNat (97 + i / 26)]⟩
theorem fpt_sp (i : Nat) (h : i < 60) : spE (fpt i) = 0 ∧ spN (fpt i) = [fnm i] ∧ nameB (fnm i) = true := by
  have H : ((List.range 60).all fun i => decide (spE (fpt i) = 0) && (decide (spN (fpt i) = [fnm i]) && nameB (fnm i))) = true := by kernel_rfl
  have := List.all_eq_true.1 H i (List.mem_range.2 h)
  simp only [Bool.and_eq_true, decide_eq_true_eq] at this
  exact ⟨this.1, this.2.1, this.2.2⟩
theorem fnm_inj (i j : Nat) (hi : i < 60) (hj : j < 60) (h : fnm i = fnm j) : i = j := by
  have H : ((List.range 60).all fun i => (List.range 60).all fun j => decide (i = j) || !decide (fnm i = fnm j)) = true := by kernel_rfl
  have := List.all_eq_true.1 (List.all_eq_true.1 H i (List.mem_range.2 hi)) j (List.mem_range.2 hj)
  simp only [Bool.or_eq_true, decide_eq_true_eq, Bool.not_eq_true', decide_eq_false_iff_not] at this
  exact this.elim id (fun e => absurd h e)
/-- The first m names, the last one ahead. -/
def fns : Nat → List ByteArray
  | 0 => []
  | m + 1 => fnm m :: fns m
theorem fns_len : ∀ m, (fns m).length = m
  | 0 => rfl
  | m + 1 => by simp [fns, fns_len m]
theorem fns_mem {x : ByteArray} : ∀ {m}, x ∈ fns m → ∃ j, j < m ∧ x = fnm j
  | 0, h => by cases h
  | m + 1, h => by
    rcases List.mem_cons.1 h with rfl | h
    · exact ⟨m, by omega, rfl⟩
    · obtain ⟨j, hj, e⟩ := fns_mem h
      exact ⟨j, by omega, e⟩
theorem fns_not {i m : Nat} (hi : i < 60) (hm : m ≤ i) : ¬ fnm i ∈ fns m := fun h => by
  obtain ⟨j, hj, e⟩ := fns_mem h
  have := fnm_inj i j hi (by omega) e
  omega
def fuF (m : Nat) : Pth → Option Nd
  | [] => some (.dir m (fns m))
  | [x] => if inB x (fns m) = true then some (.file []) else none
  | _ => none
/-- m empty files. -/
def fuT (I : Int) (m : Nat) : Ts := ⟨fuF m, if m = 0 then 1 else 0, I - 1 - m⟩
theorem fu_step (m : Nat) : setN (setN (fuF m) [] (some (.dir (max m (m + 1)) (fnm m :: fns m)))) [fnm m] (some (.file [])) = fuF (m + 1) := by
  funext q
  unfold setN
  match q with
  | [] => simp [fuF, fns]
  | [x] =>
    by_cases e : x = fnm m
    · subst e
      simp [fuF, fns, inB]
    · have e2 : ¬ [x] = [fnm m] := fun h => e (by simpa using h)
      simp [fuF, fns, inB, e]
  | _ :: _ :: _ => simp [fuF]
theorem fur_small (m : Nat) (h : m ≤ 8) : furB m m = if m = 0 ∨ m = 8 then 1 else 0 := by
  have H : ((List.range 9).all fun m => decide (furB m m = if m = 0 ∨ m = 8 then 1 else 0)) = true := by kernel_rfl
  have := List.all_eq_true.1 H m (List.mem_range.2 (by omega))
  simpa using this
theorem fu_do (I : Int) (m i : Nat) (hi : i < 60) (hm : m ≤ i) (_h8 : m ≤ 8) : doR (fuT I m) ⟨1, fpt i, ⟨#[]⟩, [], 0⟩ = if I - 1 - m = 0 ∨ (if m = 0 then (1 : Int) else 0) < furB m m then (7, fuT I m) else (0, ⟨setN (setN (fuF m) [] (some (.dir (max m (m + 1)) (fnm i :: fns m)))) [fnm i] (some (.file [])), (if m = 0 then 1 else 0) - furB m m, I - 1 - m - 1⟩) := by
  obtain ⟨h1, h2, h3⟩ := fpt_sp i hi
  have hf : fiE (fuT I m).F (fpt i) = 0 := by
    unfold fiE
    rw [if_pos h1, h2]
    rfl
  have hn : (fuT I m).F [fnm i] = none := by
    show (if inB (fnm i) (fns m) = true then _ else none) = none
    rw [inB_not (fns_not hi hm)]; rfl
  rw [doR1 hf, h2]
  unfold addR
  rw [hn]
  show (if (fuT I m).ino = 0 ∨ (fuT I m).bl < furB m (fns m).length then _ else _) = _
  rw [fns_len]
  rfl
theorem fu_yes (I : Int) (m : Nat) (h8 : m < 8) (hI : m < I - 1) : doR (fuT I m) ⟨1, fpt m, ⟨#[]⟩, [], 0⟩ = (0, fuT I (m + 1)) := by
  rw [fu_do I m m (by omega) (Nat.le_refl _) (by omega), fur_small m (by omega)]
  have e : ¬ (I - 1 - m = 0 ∨ (if m = 0 then (1 : Int) else 0) < (if m = 0 ∨ m = 8 then 1 else 0)) := by
    rintro (h | h)
    · omega
    · by_cases h0 : m = 0
      · simp [h0] at h
      · rw [if_neg h0, if_neg (by omega)] at h; omega
  rw [if_neg e, fu_step]
  unfold fuT
  have e2 : ((if m = 0 then (1 : Int) else 0) - if m = 0 ∨ m = 8 then 1 else 0) = if m + 1 = 0 then 1 else 0 := by
    by_cases h0 : m = 0
    · simp [h0]
    · rw [if_neg h0, if_neg (by omega), if_neg (by omega)]; omega
  rw [e2]
  have e3 : I - 1 - (m : Int) - 1 = I - 1 - ((m + 1 : Nat) : Int) := by omega
  rw [e3]
theorem fu_no (I : Int) (m i : Nat) (hi : i < 60) (hm : m ≤ i) (h8 : m ≤ 8) (h : m = 8 ∨ I - 1 = m) : doR (fuT I m) ⟨1, fpt i, ⟨#[]⟩, [], 0⟩ = (7, fuT I m) := by
  rw [fu_do I m i hi hm h8, fur_small m h8]
  refine if_pos ?_
  rcases h with h | h
  · right; rw [if_neg (by omega), if_pos (.inr h)]; omega
  · left; omega
theorem fu_app (I : Int) (m : Nat) (h0 : 0 < m) (h8 : m ≤ 8) : doR (fuT I m) ⟨3, ⟨#[47, 102, 97, 97]⟩, ⟨#[]⟩, [120], 0⟩ = (7, fuT I m) := by
  obtain ⟨h1, h2, h3⟩ := fpt_sp 0 (by omega)
  have e0 : (⟨#[47, 102, 97, 97]⟩ : ByteArray) = fpt 0 := by rfl
  rw [e0]
  have hf : fiE (fuT I m).F (fpt 0) = 0 := by
    unfold fiE
    rw [if_pos h1, h2]
    rfl
  have hin : ∀ m, 0 < m → fnm 0 ∈ fns m := by
    intro m
    induction m with
    | zero => intro h; omega
    | succ m ih =>
      intro _
      by_cases e : m = 0
      · subst e; simp [fns]
      · exact List.mem_cons_of_mem _ (ih (by omega))
  have hn : (fuT I m).F [fnm 0] = some (.file []) := by
    show (if inB (fnm 0) (fns m) = true then _ else none) = _
    rw [(inB_iff _ _).2 (hin m h0)]; rfl
  rw [doR3 hf, h2]
  unfold extR
  rw [hn]
  show (if 8458240 < 0 + 1 then _ else if (fuT I m).bl < allN ((0 : Nat) + (1 : Nat) : Int) - allN ((0 : Nat) : Int) then _ else _) = _
  rw [if_neg (by omega)]
  have e1 : allN ((0 : Nat) + (1 : Nat) : Int) - allN ((0 : Nat) : Int) = 1 := by kernel_rfl
  have e2 : (fuT I m).bl = 0 := by show (if m = 0 then (1 : Int) else 0) = 0; rw [if_neg (by omega)]
  rw [e1, e2]
  exact if_pos (by omega)
theorem fu_start (I : Int) : tr0 1 (I - 1) = fuT I 0 := by
  unfold tr0 fuT
  have e : (fun q : Pth => if q = [] then some (Nd.dir 0 []) else none) = fuF 0 := by
    funext q
    match q with
    | [] => rfl
    | [x] => simp [fuF, fns, inB]
    | _ :: _ :: _ => simp [fuF]
  rw [e]
  simp
end Go.Proofs.YtdcmkcplklkfmabDoor

/-
  TreeDeep: what the tree is.
-/
import Derived.Test.YtdcmkcplklkfmabDoorTFulP
namespace Go.Proofs.YtdcmkcplklkfmabDoor
open Go.RowKit Go.Maps Go.Sort

def dnm : ByteArray := ⟨#[100]⟩
def dpt (j : Nat) : Pth := List.replicate j dnm
/-- The path of j names. -/
def dtx (j : Nat) : ByteArray := ⟨((List.replicate j [47, 100]).flatten : List UInt8).toArray⟩
theorem dtx_sp (j : Nat) (h : j < 21) (h0 : 0 < j) : (j ≤ 8 → spE (dtx j) = 0 ∧ spN (dtx j) = dpt j) ∧ (8 < j → spE (dtx j) = 5) ∧ (dtx j).size = 2 * j := by
  have H : ((List.range 21).all fun j => decide (j = 0) || (decide ((dtx j).size = 2 * j) && (if j ≤ 8 then decide (spE (dtx j) = 0) && decide (spN (dtx j) = dpt j) else decide (spE (dtx j) = 5)))) = true := by kernel_rfl
  have := List.all_eq_true.1 H j (List.mem_range.2 h)
  simp only [Bool.or_eq_true, decide_eq_true_eq, Bool.and_eq_true] at this
  rcases this with h1 | ⟨h1, h2⟩
  · omega
  · refine ⟨fun h8 => ?_, fun h8 => ?_, h1⟩
    · rw [if_pos h8] at h2
      simpa using h2
    · rw [if_neg (by omega)] at h2
      simpa using h2
theorem dtx_next (j : Nat) : dtx j ++ (⟨#[47, 100]⟩ : ByteArray) = dtx (j + 1) := by
  have e : (List.replicate (j + 1) ([47, 100] : List UInt8)).flatten = (List.replicate j [47, 100]).flatten ++ [47, 100] := by
    rw [List.replicate_succ']
    simp
  unfold dtx
  rw [e]
  apply toList_inj
  simp
/-- m directories, each in the one ahead of it; the last one has s slots. -/
def deF (m s : Nat) : Pth → Option Nd := fun q => if q = dpt q.length then (if q.length < m then some (.dir 1 [dnm]) else if q.length = m then some (.dir s []) else none) else none
theorem dpt_len (j : Nat) : (dpt j).length = j := by simp [dpt]
theorem deF_lt {m s j : Nat} (h : j < m) : deF m s (dpt j) = some (.dir 1 [dnm]) := by
  unfold deF; rw [dpt_len, if_pos rfl, if_pos h]
theorem deF_at {m s : Nat} : deF m s (dpt m) = some (.dir s []) := by
  unfold deF; rw [dpt_len, if_pos rfl, if_neg (by omega), if_pos rfl]
theorem deF_gt {m s j : Nat} (h : m < j) : deF m s (dpt j) = none := by
  unfold deF; rw [dpt_len, if_pos rfl, if_neg (by omega), if_neg (by omega)]
theorem dpt_next (j : Nat) : dpt (j + 1) = dpt j ++ [dnm] := by
  unfold dpt; rw [List.replicate_succ']
theorem folA_de (m s : Nat) : ∀ (r i : Nat), i + r ≤ m + 1 → folA (deF m s) (dpt i) (List.replicate r dnm) = 0
  | 0, _, _ => rfl
  | r + 1, i, h => by
    rw [List.replicate_succ]
    have hd : ∃ a b, deF m s (dpt i) = some (.dir a b) := by
      by_cases e : i < m
      · exact ⟨_, _, deF_lt e⟩
      · obtain rfl : i = m := by omega
        exact ⟨_, _, deF_at⟩
    obtain ⟨a, b, hd⟩ := hd
    unfold folA
    rw [hd]
    show folA (deF m s) (dpt i ++ [dnm]) (List.replicate r dnm) = 0
    rw [← dpt_next]
    exact folA_de m s r (i + 1) (by omega)
theorem fol_de {m s j : Nat} (h : j ≤ m + 1) : folE (deF m s) (dpt j) = 0 := folA_de m s j 0 (by omega)
theorem fi_de {m s j : Nat} (h0 : 0 < j) (h8 : j ≤ 8) (h : j ≤ m + 1) : fiE (deF m s) (dtx j) = 0 := by
  obtain ⟨h1, _, _⟩ := dtx_sp j (by omega) h0
  obtain ⟨h2, h3⟩ := h1 h8
  unfold fiE
  rw [if_pos h2, h3]
  exact fol_de h
theorem dpt_last (j : Nat) : (dpt (j + 1)).dropLast = dpt j ∧ lastN (dpt (j + 1)) = dnm := by
  rw [dpt_next]
  exact ⟨List.dropLast_concat, lastN_next⟩
def deT (b : Int) (m s : Nat) : Ts := ⟨deF m s, b, 49 - m⟩
theorem de_set1 (m : Nat) : setN (setN (deF m 0) (dpt m) (some (.dir 1 [dnm]))) (dpt (m + 1)) (some (.dir 0 [])) = deF (m + 1) 0 := by
  funext q
  unfold setN
  by_cases e : q = dpt q.length
  · rw [e]
    generalize q.length = j
    by_cases e1 : j = m + 1
    · subst e1
      rw [if_pos rfl, deF_at]
    · have n1 : ¬ dpt j = dpt (m + 1) := fun h => e1 (by have := congrArg List.length h; rwa [dpt_len, dpt_len] at this)
      rw [if_neg n1]
      by_cases e2 : j = m
      · subst e2
        rw [if_pos rfl, deF_lt (by omega)]
      · have n2 : ¬ dpt j = dpt m := fun h => e2 (by have := congrArg List.length h; rwa [dpt_len, dpt_len] at this)
        rw [if_neg n2]
        by_cases e3 : j < m
        · rw [deF_lt e3, deF_lt (by omega)]
        · rw [deF_gt (by omega), deF_gt (by omega)]
  · have n1 : ∀ k, ¬ q = dpt k := fun k h => e (by rw [h, dpt_len])
    rw [if_neg (n1 _), if_neg (n1 _)]
    unfold deF
    rw [if_neg e, if_neg e]
theorem de_set2 (m s : Nat) : setN (setN (deF (m + 1) s) (dpt m) (some (.dir 1 []))) (dpt (m + 1)) none = deF m 1 := by
  funext q
  unfold setN
  by_cases e : q = dpt q.length
  · rw [e]
    generalize q.length = j
    by_cases e1 : j = m + 1
    · subst e1
      rw [if_pos rfl, deF_gt (by omega)]
    · have n1 : ¬ dpt j = dpt (m + 1) := fun h => e1 (by have := congrArg List.length h; rwa [dpt_len, dpt_len] at this)
      rw [if_neg n1]
      by_cases e2 : j = m
      · subst e2
        rw [if_pos rfl, deF_at]
      · have n2 : ¬ dpt j = dpt m := fun h => e2 (by have := congrArg List.length h; rwa [dpt_len, dpt_len] at this)
        rw [if_neg n2]
        by_cases e3 : j < m
        · rw [deF_lt (by omega), deF_lt e3]
        · rw [deF_gt (by omega), deF_gt (by omega)]
  · have n1 : ∀ k, ¬ q = dpt k := fun k h => e (by rw [h, dpt_len])
    rw [if_neg (n1 _), if_neg (n1 _)]
    unfold deF
    rw [if_neg e, if_neg e]
theorem furB00 : furB 0 0 = 1 := by kernel_rfl
theorem slB01 : slB 0 = 0 ∧ slB 1 = 1 := ⟨by kernel_rfl, by kernel_rfl⟩
theorem de_mk (m : Nat) (h : m < 8) : doR (deT (100 - m) m 0) ⟨2, dtx (m + 1), ⟨#[]⟩, [], 0⟩ = (0, deT (100 - (m + 1 : Nat)) (m + 1) 0) := by
  have hf : fiE (deT (100 - m) m 0).F (dtx (m + 1)) = 0 := fi_de (by omega) (by omega) (by omega)
  rw [doR2 hf, ((dtx_sp (m + 1) (by omega) (by omega)).1 (by omega)).2]
  unfold addR
  rw [(dpt_last m).1, (dpt_last m).2]
  have h1 : (deT (100 - m) m 0).F (dpt (m + 1)) = none := deF_gt (by omega)
  have h2 : (deT (100 - m) m 0).F (dpt m) = some (.dir 0 []) := deF_at
  rw [h1, h2]
  show (if (49 - (m : Int)) = 0 ∨ (100 - (m : Int)) < furB 0 0 then _ else (0, _)) = _
  rw [furB00, if_neg (by omega)]
  show (0, (⟨setN (setN (deF m 0) (dpt m) (some (.dir 1 [dnm]))) (dpt (m + 1)) (some (.dir 0 [])), (100 - (m : Int)) - 1, (49 - (m : Int)) - 1⟩ : Ts)) = _
  rw [de_set1]
  unfold deT
  rw [show (100 - (m : Int)) - 1 = 100 - ((m + 1 : Nat) : Int) by omega, show (49 - (m : Int)) - 1 = 49 - ((m + 1 : Nat) : Int) by omega]
theorem de_long (T : Ts) (j : Nat) (h : 8 < j) (h2 : j < 21) : doR T ⟨2, dtx j, ⟨#[]⟩, [], 0⟩ = (5, T) := by
  have h5 := (dtx_sp j h2 (by omega)).2.1 h
  have hf : fiE T.F (dtx j) = 5 := by unfold fiE; rw [h5, if_neg (by decide)]
  unfold doR
  dsimp only
  rw [if_neg (by omega), if_neg (by omega), hf, if_pos (by decide)]
theorem de_busy (b : Int) (m s j : Nat) (h0 : 0 < j) (h8 : m ≤ 8) (h : j < m) : doR (deT b m s) ⟨6, dtx j, ⟨#[]⟩, [], 0⟩ = (13, deT b m s) := by
  have hf : fiE (deT b m s).F (dtx j) = 0 := fi_de h0 (by omega) (by omega)
  rw [doR6 hf, ((dtx_sp j (by omega) h0).1 (by omega)).2]
  unfold rmdR
  have h1 : (deT b m s).F (dpt j) = some (.dir 1 [dnm]) := deF_lt h
  rw [h1]
  exact if_pos (.inr (by simp))
theorem de_rm (b : Int) (m s : Nat) (h8 : m < 8) (b' : Int) (hb : b + slB s = b') : doR (deT b (m + 1) s) ⟨6, dtx (m + 1), ⟨#[]⟩, [], 0⟩ = (0, deT b' m 1) := by
  have hf : fiE (deT b (m + 1) s).F (dtx (m + 1)) = 0 := fi_de (by omega) (by omega) (by omega)
  rw [doR6 hf, ((dtx_sp (m + 1) (by omega) (by omega)).1 (by omega)).2]
  unfold rmdR
  have h1 : (deT b (m + 1) s).F (dpt (m + 1)) = some (.dir s []) := deF_at
  have h2 : (deT b (m + 1) s).F (dpt m) = some (.dir 1 [dnm]) := deF_lt (by omega)
  rw [h1]
  have hne : ¬ dpt (m + 1) = [] := fun e => by have := congrArg List.length e; rw [dpt_len] at this; simp at this
  show (if dpt (m + 1) = [] ∨ ¬ ([] : List ByteArray) = [] then _ else (0, goneT (deT b (m + 1) s) (dpt (m + 1)))) = _
  rw [if_neg (by simp [hne])]
  have hg := goneT_eq (T := deT b (m + 1) s) (p := dpt m) (x := dnm) h2 (by rw [← dpt_next]; exact h1)
  rw [← dpt_next] at hg
  rw [hg]
  have e1 : dele [dnm] dnm = [] := by simp [dele]
  rw [e1]
  show (0, (⟨setN (setN (deF (m + 1) s) (dpt m) (some (.dir 1 []))) (dpt (m + 1)) none, b + slB s, (49 - ((m + 1 : Nat) : Int)) + 1⟩ : Ts)) = _
  rw [de_set2, hb]
  unfold deT
  rw [show (49 - ((m + 1 : Nat) : Int)) + 1 = 49 - (m : Int) by omega]
theorem de_start : tr0 100 (50 - 1) = deT (100 - (0 : Nat)) 0 0 := by
  unfold tr0 deT
  have e : (fun q : Pth => if q = [] then some (Nd.dir 0 []) else none) = deF 0 0 := by
    funext q
    match q with
    | [] => rfl
    | x :: r => simp [deF]
  rw [e]
  simp
theorem de_list (b : Int) (s : Nat) : thE (deT b 0 s).F ⟨#[47]⟩ = 0 ∧ (deT b 0 s).F (spN ⟨#[47]⟩) = some (.dir s []) := ⟨by kernel_rfl, by kernel_rfl⟩
end Go.Proofs.YtdcmkcplklkfmabDoor

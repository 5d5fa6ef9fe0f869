/-
  TreeRoom: what the tree is.
-/
import Derived.Test.YtdcmkcplklkfmaaDoorTReplP
namespace Go.Proofs.YtdcmkcplklkfmaaDoor
open Go.RowKit Go.Maps Go.Sort

def rnm (i : Nat) : ByteArray := ⟨#[102, UInt8.ofNat (97 + i)]⟩
def rpt (i : Nat) : ByteArray := ⟨#[47, 102, UInt8.ofNat (97 + i)]⟩
def rix (x : ByteArray) : Nat := (x.data.toList.getD 1 0).toNat - 97
theorem rpt_sp (i : Nat) (h : i < 30) : spE (rpt i) = 0 ∧ spN (rpt i) = [rnm i] ∧ nameB (rnm i) = true ∧ rix (rnm i) = i := by
  have H : ((List.range 30).all fun i => decide (spE (rpt i) = 0) && (decide (spN (rpt i) = [rnm i]) && (nameB (rnm i) && decide (rix (rnm i) = i)))) = true := by kernel_rfl
  have := List.all_eq_true.1 H i (List.mem_range.2 h)
  simp only [Bool.and_eq_true, decide_eq_true_eq] at this
  exact ⟨this.1, this.2.1, this.2.2.1, this.2.2.2⟩
theorem rnm_inj {i j : Nat} (hi : i < 30) (hj : j < 30) (h : rnm i = rnm j) : i = j := by
  have h1 := (rpt_sp i hi).2.2.2
  have h2 := (rpt_sp j hj).2.2.2
  rw [h] at h1
  omega
/-- The names of numbers a to b, the last one ahead. -/
def rns (a : Nat) : Nat → List ByteArray
  | 0 => []
  | b + 1 => if a ≤ b then rnm b :: rns a b else []
theorem rns_mem {x : ByteArray} {a : Nat} : ∀ {b}, x ∈ rns a b → ∃ j, a ≤ j ∧ j < b ∧ x = rnm j
  | 0, h => by cases h
  | b + 1, h => by
    unfold rns at h
    split at h
    · rcases List.mem_cons.1 h with rfl | h
      · exact ⟨b, by assumption, by omega, rfl⟩
      · obtain ⟨j, h1, h2, h3⟩ := rns_mem h
        exact ⟨j, h1, by omega, h3⟩
    · cases h
theorem rns_in {a j : Nat} (ha : a ≤ j) : ∀ {b}, j < b → rnm j ∈ rns a b
  | 0, h => by omega
  | b + 1, h => by
    unfold rns
    rw [if_pos (by omega)]
    by_cases e : j = b
    · subst e; simp
    · exact List.mem_cons_of_mem _ (rns_in ha (by omega))
theorem rns_len (a : Nat) : ∀ b, a ≤ b → (rns a b).length = b - a
  | 0, _ => by simp [rns]
  | b + 1, h => by
    unfold rns
    by_cases e : a ≤ b
    · rw [if_pos e, List.length_cons, rns_len a b e]; omega
    · rw [if_neg e]; simp; omega
theorem rns_dele {a : Nat} : ∀ b, b ≤ 30 → a < b → dele (rns a b) (rnm a) = rns (a + 1) b
  | 0, _, h => by omega
  | b + 1, hb, h => by
    by_cases e : a = b
    · subst e
      have e1 : rns a (a + 1) = rnm a :: rns a a := by rw [rns, if_pos (Nat.le_refl _)]
      have e2 : rns a a = [] := List.eq_nil_of_length_eq_zero (by rw [rns_len a a (Nat.le_refl _)]; omega)
      have e3 : rns (a + 1) (a + 1) = [] := List.eq_nil_of_length_eq_zero (by rw [rns_len _ _ (Nat.le_refl _)]; omega)
      rw [e1, e2, e3]
      simp [dele]
    · have ne : ¬ rnm b = rnm a := fun h => e (rnm_inj (by omega) (by omega) h).symm
      have e1 : rns a (b + 1) = rnm b :: rns a b := by rw [rns, if_pos (by omega)]
      have e2 : rns (a + 1) (b + 1) = rnm b :: rns (a + 1) b := by rw [rns, if_pos (by omega)]
      rw [e1, e2, ← rns_dele b (by omega) (by omega)]
      simp [dele, ne]
/-- The blocks of the files of numbers a to b. -/
def rsm (g : Nat → Nat) (a : Nat) : Nat → Int
  | 0 => 0
  | b + 1 => if a ≤ b then allN (g b) + rsm g a b else 0
theorem rsm_none (g : Nat → Nat) (a : Nat) : ∀ b, b ≤ a → rsm g a b = 0
  | 0, _ => rfl
  | b + 1, h => by rw [rsm, if_neg (by omega)]
theorem rsm_next (g : Nat → Nat) {a b : Nat} (h : a ≤ b) : rsm g a (b + 1) = allN (g b) + rsm g a b := by rw [rsm, if_pos h]
theorem rsm_first (g : Nat → Nat) (a : Nat) : ∀ b, a < b → rsm g a b = allN (g a) + rsm g (a + 1) b
  | 0, h => by omega
  | b + 1, h => by
    rw [rsm_next g (by omega)]
    by_cases e : a = b
    · subst e
      rw [rsm_none g a a (Nat.le_refl _), rsm_none g (a + 1) (a + 1) (Nat.le_refl _)]
    · rw [rsm_first g a b (by omega), rsm_next g (by omega)]; omega
theorem allN_4k (n : Nat) (h : n ≤ 4095) : 0 ≤ allN n ∧ allN n ≤ 8 := by
  have e2 : blkN (n : Int) = ((n : Int) + 511) / 512 := if_pos ⟨by omega, by omega⟩
  unfold allN innN
  rw [e2]
  repeat' split
  all_goals omega
theorem rsm_bd (g : Nat → Nat) (hg : ∀ j, g j ≤ 4095) (a : Nat) : ∀ b, 0 ≤ rsm g a b ∧ rsm g a b ≤ 8 * b
  | 0 => by simp [rsm]
  | b + 1 => by
    have := rsm_bd g hg a b
    have := allN_4k (g b) (hg b)
    unfold rsm
    split <;> omega
def roF (g : Nat → Nat) (s a b : Nat) : Pth → Option Nd
  | [] => some (.dir s (rns a b))
  | [x] => if inB x (rns a b) = true then some (.file (List.replicate (g (rix x)) 0)) else none
  | _ => none
def roT (g : Nat → Nat) (s a b : Nat) : Ts := ⟨roF g s a b, 1000 - slB s - rsm g a b, 99 - (b - a : Int)⟩
theorem ro_at {g : Nat → Nat} {s a b j : Nat} (h1 : a ≤ j) (h2 : j < b) (h3 : j < 30) : roF g s a b [rnm j] = some (.file (List.replicate (g j) 0)) := by
  show (if inB (rnm j) (rns a b) = true then _ else none) = _
  rw [(inB_iff _ _).2 (rns_in h1 h2), if_pos rfl, (rpt_sp j h3).2.2.2]
theorem ro_not {g : Nat → Nat} {s a b j : Nat} (h3 : j < 30) (hb : b ≤ 30) (h : j < a ∨ b ≤ j) : roF g s a b [rnm j] = none := by
  show (if inB (rnm j) (rns a b) = true then _ else none) = _
  rw [inB_not (fun hm => ?_)]
  · rfl
  · obtain ⟨i, h1, h2, e⟩ := rns_mem hm
    have := rnm_inj h3 (by omega) e
    omega
theorem slB_small (s : Nat) (h : s ≤ 31) : slB s = ((s : Int) + 7) / 8 := by
  have H : ((List.range 32).all fun s => decide (slB s = ((s : Int) + 7) / 8)) = true := by kernel_rfl
  have := List.all_eq_true.1 H s (List.mem_range.2 (by omega))
  simpa using this
theorem ro_fi {g : Nat → Nat} {s a b j : Nat} (h : j < 30) : fiE (roF g s a b) (rpt j) = 0 := by
  obtain ⟨h1, h2, _⟩ := rpt_sp j h
  unfold fiE
  rw [if_pos h1, h2]
  rfl
theorem ro_th {g : Nat → Nat} {s a b j : Nat} (h : j < 30) (h1 : a ≤ j) (h2 : j < b) : thE (roF g s a b) (rpt j) = 0 := by
  unfold thE
  rw [ro_fi h, if_pos rfl, (rpt_sp j h).2.1, ro_at h1 h2 h]
  rfl
/-- A file made, with no bytes yet. -/
def roN (g : Nat → Nat) (b : Nat) : Ts := ⟨setN (setN (roF g b 0 b) [] (some (.dir (b + 1) (rnm b :: rns 0 b)))) [rnm b] (some (.file [])), 1000 - slB (b + 1) - rsm g 0 b, 99 - (b : Int) - 1⟩
theorem ro_make (g : Nat → Nat) (hg : ∀ j, g j ≤ 4095) (b : Nat) (h : b < 30) : doR (roT g b 0 b) ⟨1, rpt b, ⟨#[]⟩, [], 0⟩ = (0, roN g b) := by
  have hs := rsm_bd g hg 0 b
  have e1 := slB_small b (by omega)
  have e2 := slB_small (b + 1) (by omega)
  rw [doR1 (show fiE (roT g b 0 b).F (rpt b) = 0 from ro_fi h), (rpt_sp b h).2.1]
  have hl : (rns 0 b).length = b := by rw [rns_len 0 b (by omega)]; omega
  have hf : furB b (rns 0 b).length = slB (b + 1) - slB b := by rw [hl]; exact if_neg (by omega)
  have hb : (roT g b 0 b).bl = 1000 - slB b - rsm g 0 b := rfl
  have hi : (roT g b 0 b).ino = 99 - (b : Int) := by show 99 - ((b : Int) - ((0 : Nat) : Int)) = _; omega
  have := add_eq (T := roT g b 0 b) (ns := [rnm b]) (nd0 := .file []) (s := b) (kn := rns 0 b) (ro_not (s := b) h (by omega) (.inr (Nat.le_refl _))) rfl (by rw [hi]; omega) (by rw [hf, hb]; omega)
  rw [this, hf, hb, hi, hl]
  show (0, (⟨setN (setN (roF g b 0 b) [] (some (.dir (max b (b + 1)) (rnm b :: rns 0 b)))) [rnm b] (some (.file [])), 1000 - slB b - rsm g 0 b - (slB (b + 1) - slB b), 99 - (b : Int) - 1⟩ : Ts)) = _
  rw [show max b (b + 1) = b + 1 by omega, show 1000 - slB b - rsm g 0 b - (slB (b + 1) - slB b) = 1000 - slB (b + 1) - rsm g 0 b by omega]
  rfl
theorem ro_step (g : Nat → Nat) (b : Nat) (h : b < 30) : setN (roN g b).F [rnm b] (some (.file (List.replicate (g b) 0))) = roF g (b + 1) 0 (b + 1) := by
  funext q
  have e1 : rns 0 (b + 1) = rnm b :: rns 0 b := by rw [rns, if_pos (by omega)]
  unfold roN setN
  match q with
  | [] => simp [roF, e1]
  | [x] =>
    by_cases e : x = rnm b
    · subst e
      simp [roF, e1, inB, (rpt_sp b h).2.2.2]
    · have e2 : ¬ [x] = [rnm b] := fun h => e (by simpa using h)
      simp [roF, e1, inB, e]
  | _ :: _ :: _ => simp [roF]
theorem ro_fill (g : Nat → Nat) (hg : ∀ j, g j ≤ 4095) (b : Nat) (h : b < 30) : doR (roN g b) ⟨3, rpt b, ⟨#[]⟩, List.replicate (g b) 0, 0⟩ = (0, roT g (b + 1) 0 (b + 1)) := by
  have hs := rsm_bd g hg 0 b
  have e2 := slB_small (b + 1) (by omega)
  obtain ⟨h1, h2, h3, h4⟩ := rpt_sp b h
  have hf : fiE (roN g b).F (rpt b) = 0 := by
    unfold fiE
    rw [if_pos h1, h2]
    show folA (roN g b).F [] [rnm b] = 0
    unfold folA
    have : (roN g b).F [] = some (.dir (b + 1) (rnm b :: rns 0 b)) := by simp [roN, setN]
    rw [this]
    rfl
  rw [doR3 hf, h2]
  have hb : (roN g b).bl = 1000 - slB (b + 1) - rsm g 0 b := rfl
  rw [ext_eq (by simp [roN, setN]) (by rw [List.length_replicate]; have := hg b; omega) (by rw [hb]; omega), ro_step g b h, List.length_replicate, hb]
  unfold roT
  rw [rsm_next g (by omega)]
  have e3 : (roN g b).ino = 99 - (((b + 1 : Nat) : Int) - ((0 : Nat) : Int)) := by show 99 - (b : Int) - 1 = _; omega
  rw [e3]
  rw [show 1000 - slB (b + 1) - rsm g 0 b - allN (g b) = 1000 - slB (b + 1) - (allN (g b) + rsm g 0 b) by omega]
theorem ro_gone (g : Nat → Nat) (s a b : Nat) (h : a < b) (hb : b ≤ 30) : doR (roT g s a b) ⟨5, rpt a, ⟨#[]⟩, [], 0⟩ = (0, roT g s (a + 1) b) := by
  obtain ⟨h1, h2, h3, h4⟩ := rpt_sp a (by omega)
  rw [doR5 (show fiE (roT g s a b).F (rpt a) = 0 from ro_fi (by omega)), h2]
  have hF : (roT g s a b).F [rnm a] = some (.file (List.replicate (g a) 0)) := ro_at (s := s) (Nat.le_refl _) h (by omega)
  unfold unlR
  rw [hF]
  have hg := goneT_eq (T := roT g s a b) (p := []) (x := rnm a) (s := s) (kn := rns a b) (nd := .file (List.replicate (g a) 0)) rfl hF
  rw [show ([] : Pth) ++ [rnm a] = [rnm a] from rfl] at hg
  show (0, goneT (roT g s a b) [rnm a]) = _
  rw [hg, rns_dele b hb h]
  have e1 : setN (setN (roT g s a b).F [] (some (.dir s (rns (a + 1) b)))) [rnm a] none = roF g s (a + 1) b := by
    funext q
    unfold setN
    match q with
    | [] => simp [roF]
    | [x] =>
      by_cases e : x = rnm a
      · subst e
        have := ro_not (g := g) (s := s) (a := a + 1) (b := b) (j := a) (by omega) hb (.inl (by omega))
        rw [this]
        simp
      · have e2 : ¬ [x] = [rnm a] := fun h => e (by simpa using h)
        rw [if_neg e2, if_neg (by simp)]
        show (if inB x (rns a b) = true then _ else none) = (if inB x (rns (a + 1) b) = true then _ else none)
        rw [← rns_dele b hb h, inB_dele]
        simp [e]
    | _ :: _ :: _ => simp [roF, roT]
  rw [e1]
  unfold roT
  have e2 : Nd.blk (.file (List.replicate (g a) 0)) = allN (g a) := by show allN (((List.replicate (g a) (0 : Int)).length : Nat) : Int) = _; rw [List.length_replicate]
  rw [e2, rsm_first g a b h]
  rw [show 1000 - slB s - (allN (g a) + rsm g (a + 1) b) + allN (g a) = 1000 - slB s - rsm g (a + 1) b by omega, show 99 - ((b : Int) - (a : Int)) + 1 = 99 - ((b : Int) - ((a + 1 : Nat) : Int)) by omega]
theorem ro_start (g : Nat → Nat) : tr0 1000 99 = roT g 0 0 0 := by
  unfold tr0 roT
  have e : (fun q : Pth => if q = [] then some (Nd.dir 0 []) else none) = roF g 0 0 0 := by
    funext q
    match q with
    | [] => rfl
    | [x] => simp [roF, rns, inB]
    | _ :: _ :: _ => simp [roF]
  rw [e]
  have : slB 0 = 0 := by kernel_rfl
  rw [this]
  simp [rsm]
end Go.Proofs.YtdcmkcplklkfmaaDoor

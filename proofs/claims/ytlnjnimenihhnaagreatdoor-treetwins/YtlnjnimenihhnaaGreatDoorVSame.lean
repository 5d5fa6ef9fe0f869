/-
  Two trees are the same just if their rows are.
-/
import Derived.Test.YtlnjnimenihhnaaGreatDoorVRows
import Derived.Test.YtlnjnimenihhnaaGreatDoorTEq
namespace Go.Proofs.YtlnjnimenihhnaaGreatDoor
open Go.RowKit Go.Maps

/-- A row: its text, what Stat tells, its bytes. -/
def rwK (F : Pth → Option Nd) (y : ByteArray × Pth) : ByteArray × (Bool × Int × Int) × ByteArray := (y.1, infD (F y.2), bytB (F y.2))
section
variable {T U : Ts}
theorem eq_inf (hT : Gd T) (hU : Gd U) (h : EqT T.F U.F) (p : Pth) : infD (T.F p) = infD (U.F p) ∧ bytB (T.F p) = bytB (U.F p) ∧ nmOf T.F p = nmOf U.F p := by
  have h1 := h p
  cases e : T.F p with
  | none =>
    rw [e] at h1
    cases f : U.F p with
    | none => exact ⟨rfl, rfl, by unfold nmOf; rw [e, f]⟩
    | some y => rw [f] at h1; exact h1.elim
  | some x =>
    rw [e] at h1
    cases f : U.F p with
    | none => rw [f] at h1; cases x <;> exact h1.elim
    | some y =>
      rw [f] at h1
      cases x with
      | file a =>
        cases y with
        | file b =>
          have : a = b := h1
          subst this
          exact ⟨rfl, rfl, by unfold nmOf; rw [e, f]⟩
        | dir s k => exact h1.elim
      | dir s k =>
        cases y with
        | file b => exact h1.elim
        | dir s' k' =>
          have hx : ∀ x, x ∈ k ↔ x ∈ k' := fun x => by
            rw [kids_iff hT e, kids_iff hU f, (h (p ++ [x])).some_iff]
          have hp : k.Perm k' := (List.perm_ext_iff_of_nodup (hT.nms _ _ _ e).1 (hU.nms _ _ _ f).1).2 hx
          refine ⟨by simp only [infD]; rw [hp.length_eq], rfl, ?_⟩
          unfold nmOf
          rw [e, f]
          exact sortL_perm (hp.map _)
theorem rows_same (hT : Gd T) (hU : Gd U) (h : EqT T.F U.F) : ∀ (d : Nat) (p : Pth) (at' : ByteArray), rowsP T.F d p at' = rowsP U.F d p at'
  | 0, _, _ => rfl
  | d + 1, p, at' => by
    rw [rowsP_succ, rowsP_succ, (eq_inf hT hU h p).2.2]
    congr 1
    funext x
    rw [rows_same hT hU h d]
theorem row_in (hT : Gd T) (hU : Gd U) {d : Nat} {x : ByteArray} {r : Pth} (hl : r.length + 1 ≤ d) (hs : (T.F (x :: r)).isSome = true) (h : (rowsP T.F d [] ⟨#[]⟩).map (rwK T.F) = (rowsP U.F d [] ⟨#[]⟩).map (rwK U.F)) :
    (U.F (x :: r)).isSome = true ∧ infD (T.F (x :: r)) = infD (U.F (x :: r)) ∧ bytB (T.F (x :: r)) = bytB (U.F (x :: r)) := by
  obtain ⟨y, hy, e⟩ := rows_all hT d [] ⟨#[]⟩ x r (by simpa using hs) hl
  simp only [List.nil_append] at e
  have h1 : rwK T.F y ∈ (rowsP U.F d [] ⟨#[]⟩).map (rwK U.F) := by rw [← h]; exact List.mem_map_of_mem hy
  obtain ⟨z, hz, ez⟩ := List.mem_map.1 h1
  simp only [rwK, Prod.mk.injEq] at ez
  obtain ⟨e1, e2, e3⟩ := ez
  obtain ⟨x1, r1, a1, a2, a3, a4⟩ := rows_path hT d _ _ y hy
  obtain ⟨x2, r2, b1, b2, b3, b4⟩ := rows_path hU d _ _ z hz
  have ei := txt_inj b3 a3 (b2.symm.trans (e1.trans a2))
  simp only [List.nil_append] at a1 b1
  have ezy : z.2 = y.2 := by rw [a1, b1, ei]
  rw [ezy, e] at e2 e3 b4
  exact ⟨b4, e2.symm, e3.symm⟩
theorem inf_eq {a b : Option Nd} (ha : ∀ bs, a = some (.file bs) → IsB bs) (hb : ∀ bs, b = some (.file bs) → IsB bs) (sa : a.isSome = true) (sb : b.isSome = true) (h1 : infD a = infD b) (h2 : bytB a = bytB b) : EqN a b := by
  cases a with
  | none => cases sa
  | some x =>
    cases b with
    | none => cases sb
    | some y =>
      cases x with
      | file bs =>
        cases y with
        | file cs => exact strC_inj bs cs (ha _ rfl) (hb _ rfl) h2
        | dir s k => simp [infD] at h1
      | dir s k =>
        cases y with
        | file cs => simp [infD] at h1
        | dir s' k' => trivial
theorem rows_iff (hT : Gd T) (hU : Gd U) (bT : ∀ p bs, T.F p = some (.file bs) → IsB bs) (bU : ∀ p bs, U.F p = some (.file bs) → IsB bs) {d : Nat} (dT : ∀ z : Pth, d < z.length → T.F z = none) (dU : ∀ z : Pth, d < z.length → U.F z = none) :
    (rowsP T.F (d + 1) [] ⟨#[]⟩).map (rwK T.F) = (rowsP U.F (d + 1) [] ⟨#[]⟩).map (rwK U.F) ↔ EqT T.F U.F := by
  constructor
  · intro h q
    cases q with
    | nil =>
      obtain ⟨s, k, e⟩ := hT.rdir
      obtain ⟨s', k', f⟩ := hU.rdir
      rw [e, f]
      trivial
    | cons x r =>
      cases e : T.F (x :: r) with
      | some nd =>
        have hl : r.length + 1 ≤ d + 1 := Classical.byContradiction fun hn => by
          have := dT (x :: r) (by simp; omega)
          rw [this] at e; cases e
        obtain ⟨h1, h2, h3⟩ := row_in hT hU hl (by rw [e]; rfl) h
        rw [← e]
        exact inf_eq (bT _) (bU _) (by rw [e]; rfl) h1 h2 h3
      | none =>
        cases f : U.F (x :: r) with
        | none => trivial
        | some nd =>
          have hl : r.length + 1 ≤ d + 1 := Classical.byContradiction fun hn => by
            have := dU (x :: r) (by simp; omega)
            rw [this] at f; cases f
          obtain ⟨h1, _⟩ := row_in hU hT hl (by rw [f]; rfl) h.symm
          rw [e] at h1; cases h1
  · intro h
    rw [rows_same hT hU h (d + 1)]
    refine List.map_congr_left fun y _ => ?_
    obtain ⟨h1, h2, _⟩ := eq_inf hT hU h y.2
    unfold rwK
    rw [h1, h2]
end
end Go.Proofs.YtlnjnimenihhnaaGreatDoor

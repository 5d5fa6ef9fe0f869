/-
  Format over a disk that was armed, and Open of a disk that has no head.
-/
import Derived.Test.YtkkmdmnjlncgfabWAll
namespace Go.Proofs.Ytkkmdmnjlncgfab
open Go.RowKit Go.Maps

/-- A disk that has no head. -/
def DkNone (X : Nat → Prop) (w0 w : World) (pd K : Nat) (off : Bool) (N : Nat) : Prop :=
  ∃ F S, Dk w F pd S ∧ S.nb = K + 65 ∧ S.last 0 = zeros 512 ∧ S.off = off ∧ S.writes ≤ N ∧ Nw X w0 w F (fun _ => False)
section
variable {X : Nat → Prop} {w0 w w' : World} {pd pl K : Nat} {f : Nat → List Int} {com : Nat → Option (List Int)} {pend N : Nat}
theorem format_arm (h : LogArm X w0 w pd pl K f com N) (hK : 1 ≤ K) (hx : N < 1000000000) :
    Calls Try.prog 21 #[.pointer (some ⟨pd, 0, none⟩)] w fun e w' => Sm X w w' ∧ ((∃ pm, e = .returned (.tuple #[.pointer (some ⟨pm, 0, none⟩), .int .i64 0]) ∧ LogArm X w0 w' pd pm K (fun _ => zeros 512) (fun _ => none) (N + K + 2)) ∨
      (e = .returned (.tuple #[.pointer none, .int .i64 6]) ∧ (DkUp X w0 w' pd K f true (N + K + 2) ∨ DkNone X w0 w' pd K true (N + K + 2)))) := by
  obtain ⟨F, G, S, pend, m, V, a1, a2, a3, a5, a6, a7⟩ := h
  refine (format_any F pd K S w a1.dk a2.calm a2.nb hK a3 (by omega)).mono ?_
  rintro e w' (⟨pm, F', G', m', V', S', rfl, hk, hch, hF, hG, ho, hcl⟩ | ⟨S', rfl, t, hg, hs⟩)
  · have hq := a7.step hch (fun b _ h => .inl h) hF (fun b hb => .inr (hG b hb))
    exact ⟨hq.2, .inl ⟨pm, rfl, F', G', S', 0, m', V', hk, hcl, ho.off, by have := ho.wr; omega, by rw [ks_none]; omega, hq.1⟩⟩
  · obtain ⟨F', d, hch, hF⟩ := t
    have hq := a7.step hch (fun b _ h => .inl h) hF (G' := fun _ => False) (fun _ h => h.elim)
    have hw := hg.wr
    refine ⟨hq.2, .inr ⟨rfl, ?_⟩⟩
    rcases hs with hs | hs
    · exact .inl ⟨F', S', d, ⟨[], Holds.same a2 hg.wf hg.nb hs hg.calm⟩, hg.off, (fun h => by cases h), by omega, hq.1⟩
    · exact .inr ⟨F', S', d, hg.nb.trans a2.nb, by rw [St.last_calm (hg.calm 0)]; exact hs, hg.off, by omega, hq.1⟩
theorem off_none {off : Bool} (h : DkNone X w0 w pd K off N) : Calls Try.prog 22 #[.pointer (some ⟨pd, 0, none⟩)] w fun e w' => e = .returned (.bool off) ∧ w' = w := by
  obtain ⟨F, S, a1, a2, a3, a4, a5, a6⟩ := h
  have := off_any F pd S w a1
  rw [a4] at this
  exact this
theorem on_none {off : Bool} (h : DkNone X w0 w pd K off N) :
    Calls Try.prog 16 #[.pointer (some ⟨pd, 0, none⟩)] w fun e w' => e = .returned (.tuple #[]) ∧ DkNone X w0 w' pd K false N ∧ Sm X w w' := by
  obtain ⟨F, S, h1, h2, h3, h4, h5, h6⟩ := h
  refine (on_any F pd S w h1).mono ?_
  rintro e w' ⟨rfl, d, c⟩
  have hq := h6.step c (fun b _ e => .inl (e ▸ h1.fp)) (fun _ h => .inl h) (G' := fun _ => False) (fun _ h => h.elim)
  exact ⟨rfl, ⟨F, S.on, d, h2, h3, rfl, h5, hq.1⟩, hq.2⟩
theorem open_none_up (hK1 : 1 ≤ K) (h : DkNone X w0 w pd K false N) (hx : N < 1000000000) :
    Calls Try.prog 17 #[.pointer (some ⟨pd, 0, none⟩)] w fun e w' => e = .returned (.tuple #[.pointer none, .int .i64 3]) ∧ Chg (fun _ => False) w0 w' := by
  obtain ⟨F, S, h1, h2, h3, h4, h5, h6⟩ := h
  refine (open_none F pd K S w h1 h3 h2 hK1 h4 (by omega)).mono ?_
  rintro e w' ⟨rfl, c⟩
  exact ⟨rfl, h6.chg.trans c (fun _ _ h => h)⟩
end

/-- One byte of a slice. -/
theorem Bs.sub {w : World} {b off n i : Nat} {xs : List Int} (h : ∀ j, j < xs.length → w.cell? ⟨b, off + j, none⟩ = some (.int .u8 (xs.getD j 0))) (hi : i < xs.length) (hn : 1 ≤ n) (hm : n ≤ maxLen) : Bs w (.slice (some ⟨b, off + i, none⟩) 1 n) [xs.getD i 0] := by
  refine .inr ⟨⟨b, off + i, none⟩, n, rfl, hn, hm, fun j hj => ?_⟩
  have : j = 0 := by simp at hj; omega
  subst this
  exact h i hi
/-- What the elder log tells. -/
def eld (bs : List Int) (n : Nat) : List Int := if n < bs.length then full [bs.getD n 0] else zeros 512
def eown (bs : List Int) (i n : Nat) : Option (List Int) := if n < i then some (full [bs.getD n 0]) else none
theorem eown_zero (bs : List Int) : eown bs 0 = fun _ => none := by funext n; simp [eown]
theorem eown_succ (bs : List Int) (i : Nat) : upd (eown bs i) i (some (full [bs.getD i 0])) = eown bs (i + 1) := by
  funext n
  by_cases e : n = i
  · subst e; rw [upd_same]; simp [eown]
  · rw [upd_other _ _ e]
    unfold eown
    by_cases h : n < i
    · rw [if_pos h, if_pos (by omega)]
    · rw [if_neg h, if_neg (by omega)]
theorem eown_ks (bs : List Int) (i : Nat) (h : i ≤ 70) : (ks 70 (eown bs i)).length = i := by
  have : (ks 70 (eown bs i)).length = cntF 70 (fun n => decide (n < i)) := by
    rw [ks_cnt]
    refine cntF_congr (fun n _ => ?_)
    unfold eown
    by_cases h : n < i <;> simp [h]
  rw [this, cnt_lt]; omega
theorem eown_eld (bs : List Int) (n : Nat) : ovr (ovr (fun _ => zeros 512) (fun _ => none)) (eown bs bs.length) n = eld bs n := by
  unfold eld eown ovr
  by_cases h : n < bs.length <;> simp [h]
end Go.Proofs.Ytkkmdmnjlncgfab

/-
  WalGroups answers true for every three numbers and every slice of numbers.
-/
import Derived.Test.YtmlhjcjonfalhaaGreatWUp
namespace Go.Proofs.YtmlhjcjonfalhaaGreat
open Go.RowKit Go.Maps

section
variable {X : Nat → Prop} {w0 w w' : World} {pd pl K : Nat} {f : Nat → List Int} {com : Nat → Option (List Int)} {pend N : Nat}
/-- A log whose disk was armed. -/
def LogArm (X : Nat → Prop) (w0 w : World) (pd pl K : Nat) (f : Nat → List Int) (com : Nat → Option (List Int)) (N : Nat) : Prop :=
  ∃ F G S pend m V, Lk w F G pd pl K S com pend (.pointer none) m V ∧ Clean S K f ∧ S.off = false ∧ S.writes ≤ N ∧ (ks K com).length ≤ 63 ∧ Nw X w0 w F G
theorem arm_up (n : Int) (v : Value) (ps : List Int) (h : LogUp X w0 w pd pl K f com pend N) (hi : Is w v ps) (hl : ps.length ≤ 1000) (h0 : -9223372036854775808 ≤ n) (h1 : n < 9223372036854775808) :
    Calls Tryz.prog 29 #[.pointer (some ⟨pd, 0, none⟩), .int .i64 n, v] w fun e w' => e = .returned (.tuple #[]) ∧ LogArm X w0 w' pd pl K f com N ∧ Sm X w w' := by
  obtain ⟨F, G, S, m, V, a1, a2, a3, a4, a5, a6, a7⟩ := h
  refine (arm_any F pd S n v ps w a1.dk hi (by omega) h0 h1).mono ?_
  rintro e w' ⟨rfl, t⟩
  obtain ⟨F', hk, hc, hF⟩ := a1.to t rfl
  have hq := a7.step hc (fun b _ h => .inl h) hF (fun _ h => .inl h)
  exact ⟨rfl, ⟨F', G, S.armed n ps, pend, m, V, hk, Holds.armed a2 ps h0 h1, a3, a5, a6, hq.1⟩, hq.2⟩
/-- Sync of it: done, or cut. -/
theorem sync_arm (h : LogArm X w0 w pd pl K f com N) (hx : N < 1000000000) :
    Calls Tryz.prog 17 #[.pointer (some ⟨pl, 0, none⟩)] w fun e w' => Sm X w w' ∧ ((e = .returned (.int .i64 0) ∧ LogArm X w0 w' pd pl K (ovr f com) (fun _ => none) (N + 128)) ∨ (e = .returned (.int .i64 6) ∧ (DkUp X w0 w' pd K f true (N + 128) ∨ DkUp X w0 w' pd K (ovr f com) true (N + 128)))) := by
  obtain ⟨F, G, S, pend, m, V, a1, a2, a3, a5, a6, a7⟩ := h
  refine (lsync_any f w a1 a2 a3 a6 (by omega)).mono ?_
  rintro e w' (⟨F', S', rfl, hk, hch, hF, ho, hcl⟩ | ⟨F', S', rfl, hk, hch, hF, hg, hl⟩)
  · have hq := a7.step hch (fun b _ e => by
      rcases e with e | e | e
      · exact .inl e
      · exact .inr (e ▸ a1.lg.fp)
      · exact .inr (e ▸ a1.lg.mb.fm)) hF (fun _ h => .inl h)
    exact ⟨hq.2, .inl ⟨rfl, F', G, S', 0, m, V, hk, hcl, ho.off, by have := ho.wr; omega, by rw [ks_none]; omega, hq.1⟩⟩
  · have hq := a7.step hch (fun b _ h => .inl h) hF (G' := fun _ => False) (fun _ h => h.elim)
    refine ⟨hq.2, .inr ⟨rfl, ?_⟩⟩
    rcases hl with hl | hl
    · exact .inl ⟨F', S', hk.dk, hl, hg.off, (fun h => by cases h), by have := hg.wr; omega, hq.1⟩
    · exact .inr ⟨F', S', hk.dk, hl, hg.off, (fun h => by cases h), by have := hg.wr; omega, hq.1⟩
theorem off_arm (h : LogArm X w0 w pd pl K f com N) : Calls Tryz.prog 32 #[.pointer (some ⟨pd, 0, none⟩)] w fun e w' => e = .returned (.bool false) ∧ w' = w := by
  obtain ⟨F, G, S, pend, m, V, a1, a2, a3, a5, a6, a7⟩ := h
  have := off_any F pd S w a1.dk
  rw [a3] at this
  exact this
theorem off_up {off : Bool} (h : DkUp X w0 w pd K f off N) : Calls Tryz.prog 32 #[.pointer (some ⟨pd, 0, none⟩)] w fun e w' => e = .returned (.bool off) ∧ w' = w := by
  obtain ⟨F, S, a1, a2, a3, a4, a5, a6⟩ := h
  have := off_any F pd S w a1
  rw [a3] at this
  exact this
theorem cut_arm (v : Value) (ps : List Int) (h : LogArm X w0 w pd pl K f com N) (hi : Is w v ps) (hv : ps ≠ [] → ∀ g, v.ownBlock = some g → g < w0.heap.size) (hx : N < 1000000000) :
    Calls Tryz.prog 19 #[.pointer (some ⟨pd, 0, none⟩), v] w fun e w' => e = .returned (.tuple #[]) ∧ DkUp X w0 w' pd K f true N ∧ Sm X w w' := by
  obtain ⟨F, G, S, pend, m, V, a1, a2, a3, a5, a6, a7⟩ := h
  refine (cut_arg F pd S v ps w a1.dk hi (fun hp g hg hf => by have := hv hp g hg; have := a7.f g hf; omega) (by omega)).mono ?_
  rintro e w' ⟨rfl, F', d, c, hF⟩
  have hq := a7.step c (fun b _ h => .inl h) hF (G' := fun _ => False) (fun _ h => h.elim)
  exact ⟨rfl, ⟨F', S.cut ps, d, a2.lasts.cut ps, St.cut_off S ps, (fun h => by cases h), by rw [St.cut_writes]; exact a5, hq.1⟩, hq.2⟩
end
end Go.Proofs.YtmlhjcjonfalhaaGreat

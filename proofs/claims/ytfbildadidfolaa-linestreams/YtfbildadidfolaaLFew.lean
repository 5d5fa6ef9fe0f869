/-
  Pieces of a stream; few.
-/
import Derived.Test.YtfbildadidfolaaLNexts
namespace Go.Proofs.Ytfbildadidfolaa
open Go.RowKit

/-- A piece as it lies in memory. -/
structure Pc where
  k : Int
  n : Int
  d : List Int
  dv : Value
def Pc.z : Pc := ⟨0, 0, [], .slice none 0 0⟩
def PcAt (w : World) (b o : Nat) (d : Pc) : Prop :=
  w.cell? ⟨b, o, none⟩ = some (.int .i64 d.k) ∧ w.cell? ⟨b, o + 1, none⟩ = some (.int .i64 d.n) ∧ w.cell? ⟨b, o + 2, none⟩ = some d.dv ∧ Bs w d.dv d.d
theorem PcAt.below {w w' : World} {b o : Nat} {d : Pc} (h : PcAt w b o d) (hb : Below w.heap.size w w') : PcAt w' b o d := by
  have hg := Chg.ofBelowC hb
  obtain ⟨h0, h1, h2, h3⟩ := h
  exact ⟨hg.cell h0 (fun h => h), hg.cell h1 (fun h => h), hg.cell h2 (fun h => h), h3.kept hg (fun _ _ _ _ _ h => h)⟩
/-- v is a slice of pieces that reads l. -/
def Pcs (w : World) (v : Value) (l : List Pc) : Prop :=
  ∃ a c, v = .slice a l.length c ∧ (0 < l.length → ∃ b off, a = some ⟨b, off, none⟩ ∧ ∀ j, j < l.length → PcAt w b (off + j * 3) (l.getD j Pc.z))
theorem Pcs.form {w : World} {v : Value} {l : List Pc} (h : Pcs w v l) : ∃ a c, v = .slice a l.length c := by
  obtain ⟨a, c, e, _⟩ := h
  exact ⟨a, c, e⟩
theorem Pcs.nth {w : World} {a : Option Addr} {n c k : Nat} {l : List Pc} (h : Pcs w (.slice a n c) l) (hk : k < l.length) : ∃ b off, a = some ⟨b, off, none⟩ ∧ PcAt w b (off + k * 3) (l.getD k Pc.z) := by
  obtain ⟨a', c', e, hx⟩ := h
  injection e with e1 e2 e3
  subst e1
  obtain ⟨b, off, e4, h4⟩ := hx (by omega)
  exact ⟨b, off, e4, h4 k hk⟩
theorem Pcs.below {w w' : World} {v : Value} {l : List Pc} (h : Pcs w v l) (hb : Below w.heap.size w w') : Pcs w' v l := by
  obtain ⟨a, c, e, hx⟩ := h
  refine ⟨a, c, e, fun h0 => ?_⟩
  obtain ⟨b, off, e1, hc⟩ := hx h0
  exact ⟨b, off, e1, fun j hj => (hc j hj).below hb⟩
/-- How many bytes the first k pieces have. -/
def sumP (l : List Pc) (k : Nat) : Nat := ((l.take k).map fun x => x.d.length).sum
theorem sumP_succ (l : List Pc) (k : Nat) (hk : k < l.length) : sumP l (k + 1) = sumP l k + (l.getD k Pc.z).d.length := by
  unfold sumP
  rw [List.take_succ_eq_append_getElem hk, List.map_append, List.sum_append, List.getD_eq_getElem?_getD, List.getElem?_eq_getElem hk]
  simp
/-- Few pieces, few bytes. -/
def FewP (l : List Pc) : Prop := l.length ≤ 300 ∧ sumP l l.length ≤ 4096
set_option maxHeartbeats 1600000 in
set_option maxRecDepth 100000 in
theorem few_any (v : Value) (l : List Pc) (w : World) (hv : Pcs w v l) :
    Calls Try.prog 8 #[v] w fun e w' => Hid (w' = w) ∧ (e = .returned (.bool false) ∨ (e = .returned (.bool true) ∧ Hid (FewP l))) := by
  obtain ⟨a, c, rfl⟩ := hv.form
  go_enter Try.func8, Try.ntmps8
  by_cases h1 : 300 < l.length
  · have k1 : 300 < (l.length : Int) := by omega
    go_wp2_with fail
    go_ret
    exact ⟨rfl, .inl rfl⟩
  have k1 : ¬ (300 < (l.length : Int)) := by omega
  go_wp2_with fail
  go_loopw [3, 4] (fun s i wr => ∃ (k S : Nat), k ≤ l.length ∧ s = .int .i64 S ∧ i = .int .i64 k ∧ w = wr ∧ Hid (S = sumP l k ∧ S ≤ 4096 * k)) (fun _ i _ => l.length - (intOf i).toNat)
  case atStart => exact ⟨0, 0, Nat.zero_le _, rfl, rfl, rfl, rfl, Nat.le_refl _⟩
  case round =>
    obtain ⟨k, S, hk, rfl, rfl, rfl, HJ⟩ := hrel
    by_cases hlt : k < l.length
    · have q1 : (k : Int) < l.length := by omega
      obtain ⟨b, off, rfl, hc⟩ := hv.nth hlt
      obtain ⟨x, hx⟩ : ∃ x, Hid (l.getD k Pc.z = x) := ⟨_, rfl⟩
      rw [hx.out] at hc
      obtain ⟨c0, c1, c2, c3⟩ := hc
      obtain ⟨da, dc, hdv, _⟩ := c3.form
      obtain ⟨L, hL⟩ : ∃ L, x.d.length = L := ⟨_, rfl⟩
      rw [hL] at hdv
      rw [hdv] at c2
      clear c0 c1 c3
      by_cases ha : 4096 < L
      · have k2 : 4096 < (L : Int) := by omega
        go_wp2_with fail
        go_ret
        exact ⟨rfl, .inl rfl⟩
      have k2 : ¬ (4096 < (L : Int)) := by omega
      have hS : S ≤ 4096 * 300 := by have := HJ.out; omega
      go_wp2_with fail
      go_roundw
      case rel =>
        have h0 := HJ.out
        refine ⟨k + 1, S + L, by omega, by go_num, by go_num, trivial, ?_, by omega⟩
        rw [sumP_succ l k hlt, hx.out, hL, h0.1]
      case measure => simp [intOf]; omega
    · have q1 : ¬ (k : Int) < l.length := by omega
      by_cases hS : S ≤ 4096
      · have k3 : (S : Int) ≤ 4096 := by omega
        go_wp2_with fail
        go_ret
        have e : k = l.length := by omega
        exact ⟨rfl, .inr ⟨by simp, by omega, by have := HJ.out.1; rw [e] at this; omega⟩⟩
      · have k3 : ¬ (S : Int) ≤ 4096 := by omega
        go_wp2_with fail
        go_ret
        exact ⟨rfl, .inl (by simp)⟩
end Go.Proofs.Ytfbildadidfolaa

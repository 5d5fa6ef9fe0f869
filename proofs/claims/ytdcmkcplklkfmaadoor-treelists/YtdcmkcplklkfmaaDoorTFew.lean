/-
  Slices of acts on a tree; Few.
-/
import Derived.Test.YtdcmkcplklkfmaaDoorTLaw
namespace Go.Proofs.YtdcmkcplklkfmaaDoor
open Go.RowKit Go.Maps Go.Sort

/-- An act as it lies in memory. -/
structure AcD where
  o : Ac
  dv : Value
def AcD.z : AcD := ⟨⟨0, ⟨#[]⟩, ⟨#[]⟩, [], 0⟩, .slice none 0 0⟩
def OpAt (w : World) (b o : Nat) (d : AcD) : Prop :=
  w.cell? ⟨b, o, none⟩ = some (.int .i64 d.o.k) ∧ w.cell? ⟨b, o + 1, none⟩ = some (.string d.o.p) ∧ w.cell? ⟨b, o + 2, none⟩ = some (.string d.o.q) ∧ w.cell? ⟨b, o + 3, none⟩ = some d.dv ∧ w.cell? ⟨b, o + 4, none⟩ = some (.int .i64 d.o.n) ∧ Bs w d.dv d.o.d ∧ IsB d.o.d
theorem OpAt.below {w w' : World} {b o : Nat} {d : AcD} (h : OpAt w b o d) (hb : Below w.heap.size w w') : OpAt w' b o d := by
  have hg := Chg.ofBelowC hb
  obtain ⟨h0, h1, h2, h3, h4, h5, h6⟩ := h
  exact ⟨hg.cell h0 (fun h => h), hg.cell h1 (fun h => h), hg.cell h2 (fun h => h), hg.cell h3 (fun h => h), hg.cell h4 (fun h => h), h5.kept hg (fun _ _ _ _ _ h => h), h6⟩
/-- v is a slice of acts that reads l. -/
def Ops (w : World) (v : Value) (l : List AcD) : Prop :=
  ∃ a c, v = .slice a l.length c ∧ (0 < l.length → ∃ b off, a = some ⟨b, off, none⟩ ∧ ∀ j, j < l.length → OpAt w b (off + j * 5) (l.getD j AcD.z))
theorem Ops.form {w : World} {v : Value} {l : List AcD} (h : Ops w v l) : ∃ a c, v = .slice a l.length c := by
  obtain ⟨a, c, e, _⟩ := h
  exact ⟨a, c, e⟩
theorem Ops.nth {w : World} {a : Option Addr} {n c k : Nat} {l : List AcD} (h : Ops w (.slice a n c) l) (hk : k < l.length) : ∃ b off, a = some ⟨b, off, none⟩ ∧ OpAt w b (off + k * 5) (l.getD k AcD.z) := by
  obtain ⟨a', c', e, hx⟩ := h
  injection e with e1 e2 e3
  subst e1
  obtain ⟨b, off, e4, h4⟩ := hx (by omega)
  exact ⟨b, off, e4, h4 k hk⟩
theorem Ops.below {w w' : World} {v : Value} {l : List AcD} (h : Ops w v l) (hb : Below w.heap.size w w') : Ops w' v l := by
  obtain ⟨a, c, e, hx⟩ := h
  refine ⟨a, c, e, fun h0 => ?_⟩
  obtain ⟨b, off, e1, hc⟩ := hx h0
  exact ⟨b, off, e1, fun j hj => (hc j hj).below hb⟩
/-- Few acts, short texts, few bytes. -/
def FewO (l : List AcD) : Prop := l.length ≤ 150 ∧ ∀ j, j < l.length → (l.getD j AcD.z).o.d.length ≤ 8192 ∧ (l.getD j AcD.z).o.p.size ≤ 600 ∧ (l.getD j AcD.z).o.q.size ≤ 600
set_option maxHeartbeats 1600000 in
set_option maxRecDepth 100000 in
theorem Few_any (v : Value) (l : List AcD) (w : World) (hv : Ops w v l) :
    Calls Tryd.prog 8 #[v] w fun e w' => Hid (w' = w) ∧ (e = .returned (.bool false) ∨ (e = .returned (.bool true) ∧ Hid (FewO l))) := by
  obtain ⟨a, c, rfl⟩ := hv.form
  go_enter Tryd.func8, Tryd.ntmps8
  by_cases h1 : 150 < l.length
  · have k1 : 150 < (l.length : Int) := by omega
    go_wp2_with fail
    go_ret
    exact ⟨rfl, .inl rfl⟩
  have k1 : ¬ (150 < (l.length : Int)) := by omega
  go_wp2_with fail
  go_loopw [3, 4] (fun s i wr => ∃ (k : Nat) (S : Int), k ≤ l.length ∧ s = .int .i64 S ∧ i = .int .i64 k ∧ wr = w ∧ Hid (0 ≤ S ∧ S ≤ 8192 * k ∧ ∀ j, j < k → (l.getD j AcD.z).o.d.length ≤ 8192 ∧ (l.getD j AcD.z).o.p.size ≤ 600 ∧ (l.getD j AcD.z).o.q.size ≤ 600)) (fun _ i _ => l.length - (intOf i).toNat)
  case atStart => exact ⟨0, 0, Nat.zero_le _, rfl, rfl, rfl, by omega, by omega, fun j h => by omega⟩
  case round =>
    obtain ⟨k, S, hk, rfl, rfl, rfl, HJ⟩ := hrel
    by_cases hlt : k < l.length
    · have q1 : (k : Int) < l.length := by omega
      obtain ⟨b, off, rfl, hc⟩ := hv.nth hlt
      obtain ⟨x, hx⟩ : ∃ x, Hid (l.getD k AcD.z = x) := ⟨_, rfl⟩
      rw [hx.out] at hc
      obtain ⟨c0, c1, c2, c3, c4, c5, c6⟩ := hc
      obtain ⟨da, dc, hdv⟩ := c5.form'
      obtain ⟨L, hL⟩ : ∃ L, x.o.d.length = L := ⟨_, rfl⟩
      rw [hL] at hdv
      rw [hdv] at c3
      clear c0 c4 c5 c6
      by_cases ha : 8192 < L
      · have k2 : 8192 < (L : Int) := by omega
        go_wp2_with fail
        go_ret
        exact ⟨rfl, .inl rfl⟩
      have k2 : ¬ (8192 < (L : Int)) := by omega
      by_cases hp : 600 < x.o.p.size
      · have k3 : 600 < (x.o.p.size : Int) := by omega
        go_wp2_with fail
        go_ret
        exact ⟨rfl, .inl rfl⟩
      have k3 : ¬ (600 < (x.o.p.size : Int)) := by omega
      by_cases hq : 600 < x.o.q.size
      · have k4 : 600 < (x.o.q.size : Int) := by omega
        go_wp2_with fail
        go_ret
        exact ⟨rfl, .inl rfl⟩
      have k4 : ¬ (600 < (x.o.q.size : Int)) := by omega
      have wS : IntKind.i64.wrap (S + L) = S + L := by
        have := HJ.out
        rw [IntKind.wrap_i64]; omega
      go_wp2_with fail
      go_roundw
      case rel =>
        have h0 := HJ.out
        refine ⟨k + 1, S + L, by omega, rfl, by go_num, trivial, by omega, by omega, fun j hj => ?_⟩
        rcases (by omega : j < k ∨ j = k) with h | rfl
        · exact h0.2.2 j h
        · rw [hx.out]; exact ⟨by omega, by omega, by omega⟩
      case measure => simp [intOf]; omega
    · have q1 : ¬ (k : Int) < l.length := by omega
      by_cases hS : S ≤ 32768
      · go_wp2_with fail
        go_ret
        exact ⟨rfl, .inr ⟨by simp, by omega, fun j hj => HJ.out.2.2 j (by omega)⟩⟩
      · go_wp2_with fail
        go_ret
        exact ⟨rfl, .inl (by simp)⟩
end Go.Proofs.YtdcmkcplklkfmaaDoor

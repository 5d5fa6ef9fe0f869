/-
  Slices of acts: what they hold, and the contract of few.
-/
import Derived.Test.YtepoaiaifclgnaaRef5
namespace Go.Proofs.Ytepoaiaifclgnaa
open Go.RowKit Go.Maps

/-- An act as it lies in memory. -/
structure ActD where
  op : Int
  n : Int
  bv : Value
  bs : List Int

/-- An act's three cells at ⟨b, o⟩. -/
structure ActAt (w : World) (b o : Nat) (d : ActD) : Prop where
  op : w.cell? ⟨b, o, none⟩ = some (.int .i64 d.op)
  n : w.cell? ⟨b, o + 1, none⟩ = some (.int .i64 d.n)
  bc : w.cell? ⟨b, o + 2, none⟩ = some d.bv
  bs : Bs w d.bv d.bs
  n0 : -9223372036854775808 ≤ d.n ∧ d.n ≤ 9223372036854775807

/-- v is a slice of acts that reads l. -/
def Acts (w : World) (v : Value) (l : List ActD) : Prop :=
  ((∃ a c, v = .slice a 0 c) ∧ l = []) ∨
  ∃ b off c, v = .slice (some ⟨b, off, none⟩) l.length c ∧ ∀ (j : Nat) d, l[j]? = some d → ActAt w b (off + j * 3) d
theorem ActAt.kept {w w' : World} {b o : Nat} {d : ActD} (h : ActAt w b o d) (hc : Chg (fun _ => False) w w') : ActAt w' b o d :=
  ⟨hc.cell h.op (fun h => h), hc.cell h.n (fun h => h), hc.cell h.bc (fun h => h), h.bs.kept hc (fun _ _ _ _ _ h => h), h.n0⟩
theorem Acts.kept {w w' : World} {v : Value} {l : List ActD} (h : Acts w v l) (hc : Chg (fun _ => False) w w') : Acts w' v l := by
  rcases h with h | ⟨b, off, c, e, hd⟩
  · exact .inl h
  · exact .inr ⟨b, off, c, e, fun j d hj => (hd j d hj).kept hc⟩
theorem Acts.form {w : World} {v : Value} {l : List ActD} (h : Acts w v l) : ∃ a c, v = .slice a l.length c := by
  rcases h with ⟨⟨a, c, rfl⟩, rfl⟩ | ⟨b, off, c, rfl, _⟩
  · exact ⟨a, c, rfl⟩
  · exact ⟨_, _, rfl⟩
theorem Acts.at {w : World} {a : Option Addr} {n c i : Nat} {l : List ActD} (h : Acts w (.slice a n c) l) (hi : i < l.length) : ∃ b off, a = some ⟨b, off, none⟩ ∧ ActAt w b (off + i * 3) l[i] := by
  rcases h with ⟨_, rfl⟩ | ⟨b, off, c', e, hd⟩
  · simp at hi
  · cases e
    exact ⟨b, off, rfl, hd i l[i] (by simp [hi])⟩

/-- An act that is short enough. -/
def ActD.few (d : ActD) : Bool := decide (d.bs.length ≤ 64)
def fewA (l : List ActD) : Bool := decide (l.length ≤ 150) && l.all ActD.few

set_option maxHeartbeats 1600000 in
set_option maxRecDepth 100000 in
theorem few_any (v : Value) (l : List ActD) (w : World) (h : Acts w v l) : Calls Try.prog 5 #[v] w fun e w' => e = .returned (.bool (fewA l)) ∧ w' = w := by
  obtain ⟨a, c, rfl⟩ := h.form
  by_cases h150 : 150 < l.length
  · have k1 : (150 : Int) < (l.length : Int) := by omega
    have e : fewA l = false := by simp [fewA]; omega
    rw [e]
    clear h e
    go_enter Try.func5, Try.ntmps5
    go_wp2
    go_ret
    exact ⟨rfl, rfl⟩
  have k1 : ¬ (150 : Int) < (l.length : Int) := by omega
  have HH : Hid (Acts w (.slice a l.length c) l) := h
  clear h
  go_enter Try.func5, Try.ntmps5
  go_wp2_with fail
  go_loop [3] (fun x => ∃ i : Nat, i ≤ l.length ∧ x = .int .i64 (i : Int) ∧ Hid ((l.take i).all ActD.few = true)) (fun x => l.length - (intOf x).toNat)
  case atStart => exact ⟨0, Nat.zero_le _, rfl, rfl⟩
  case round =>
    obtain ⟨i, hiL, rfl, hall⟩ := hrel
    by_cases hlt : i < l.length
    · obtain ⟨b, off, rfl, hat⟩ := HH.out.at hlt
      have hli : (i : Int) < (l.length : Int) := by omega
      obtain ⟨d, hd⟩ : ∃ d, l[i] = d := ⟨_, rfl⟩
      rw [hd] at hat
      have HT : Hid ((l.take (i + 1)).all ActD.few = ((l.take i).all ActD.few && d.few)) := by
        have : l.take (i + 1) = l.take i ++ [d] := by rw [List.take_add_one]; simp [hlt, hd]
        show (l.take (i + 1)).all ActD.few = _
        rw [this, List.all_append]; simp
      have HN : Hid (d.few = false → fewA l = false) := fun hf => by
        have hm : d ∈ l := by rw [← hd]; exact List.getElem_mem hlt
        have : l.all ActD.few = false := by
          rw [List.all_eq_false]
          exact ⟨d, hm, by simp [hf]⟩
        simp [fewA, this]
      obtain ⟨ba, bc, hbv, _⟩ := hat.bs.form
      have cb := hat.bc
      rw [hbv] at cb
      have HF : Hid (d.few = (decide (d.bs.length ≤ 64))) := rfl
      obtain ⟨L1, hL1⟩ : ∃ L, d.bs.length = L := ⟨_, rfl⟩
      rw [hL1] at cb HF
      clear hat hbv hd hL1 HH
      by_cases g1 : 64 < L1
      · have k2 : decide ((64 : Int) < (L1 : Int)) = true := by simp; omega
        have e : fewA l = false := HN.out (by rw [HF.out]; simp; omega)
        clear HN HT HF hall
        go_wp2
        go_ret
        first | exact ⟨rfl, rfl⟩ | exact ⟨by rw [e], rfl⟩
      · have k2 : decide ((64 : Int) < (L1 : Int)) = false := by simp; omega
        have e : (l.take (i + 1)).all ActD.few = true := by rw [HT.out, hall.out, HF.out]; simp; omega
        have HE : Hid ((l.take (i + 1)).all ActD.few = true) := e
        clear HN HT HF hall e
        go_wp2
        go_roundw
        case rel => exact ⟨i + 1, by omega, by go_num, HE⟩
        case measure => simp [intOf]; omega
    · have e : fewA l = true := by
        have h1 := hall.out
        rw [List.take_of_length_le (by omega)] at h1
        simp [fewA, h1]; omega
      have hli : ¬ (i : Int) < (l.length : Int) := by omega
      clear HH hall
      go_wp2
      go_ret
      first | exact ⟨rfl, rfl⟩ | exact ⟨by rw [e], rfl⟩
end Go.Proofs.Ytepoaiaifclgnaa

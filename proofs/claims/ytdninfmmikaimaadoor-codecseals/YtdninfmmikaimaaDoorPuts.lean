/-
  Slices of puts as the laws read them, and the contract of few: where it answers true, the puts are few and short.
-/
import Derived.Test.YtdninfmmikaimaaDoorKnown
namespace Go.Proofs.YtdninfmmikaimaaDoor
open Go.RowKit

/-- A put: its kind, its number, its slice and the bytes that it reads. -/
structure PutD where
  kind : Int
  n : Int
  bv : Value
  bs : List Int

/-- v is a slice of puts that reads l. -/
def Puts (w : World) (v : Value) (l : List PutD) : Prop :=
  ((∃ a c, v = .slice a 0 c) ∧ l = []) ∨
  ∃ b off c, v = .slice (some ⟨b, off, none⟩) l.length c ∧ ∀ j d, l[j]? = some d → w.cell? ⟨b, off + j * 3, none⟩ = some (.int .i64 d.kind) ∧ w.cell? ⟨b, off + j * 3 + 1, none⟩ = some (.int .i64 d.n) ∧ w.cell? ⟨b, off + j * 3 + 2, none⟩ = some d.bv ∧ Bs w d.bv d.bs ∧ IsB d.bs

theorem Puts.form {w : World} {v : Value} {l : List PutD} (h : Puts w v l) : ∃ a c, v = .slice a l.length c := by
  rcases h with ⟨⟨a, c, rfl⟩, rfl⟩ | ⟨b, off, c, rfl, _⟩
  · exact ⟨a, c, rfl⟩
  · exact ⟨_, _, rfl⟩
theorem Puts.at {w : World} {a : Option Addr} {n c k : Nat} {l : List PutD} (h : Puts w (.slice a n c) l) (hk : k < l.length) : ∃ b off d, l[k]? = some d ∧ a = some ⟨b, off, none⟩ ∧ b < w.heap.size ∧ w.cell? ⟨b, off + k * 3, none⟩ = some (.int .i64 d.kind) ∧ w.cell? ⟨b, off + k * 3 + 1, none⟩ = some (.int .i64 d.n) ∧ w.cell? ⟨b, off + k * 3 + 2, none⟩ = some d.bv ∧ Bs w d.bv d.bs ∧ IsB d.bs := by
  rcases h with ⟨e, rfl⟩ | ⟨b, off, c', e, h⟩
  · simp at hk
  · cases e
    have h1 := h k l[k] (List.getElem?_eq_getElem hk)
    exact ⟨b, off, l[k], List.getElem?_eq_getElem hk, rfl, World.block_lt_of_cell? w _ h1.1, h1⟩
theorem Bs.form {w : World} {v : Value} {xs : List Int} (h : Bs w v xs) : ∃ a c, v = .slice a xs.length c ∧ xs.length ≤ c := by
  rcases h with ⟨rfl, rfl⟩ | ⟨a, c, rfl, h, _⟩
  · exact ⟨none, 0, rfl, Nat.le_refl _⟩
  · exact ⟨_, _, rfl, h⟩

/-- What came in reads as it did. -/
theorem Puts.under {w w' : World} {v : Value} {l : List PutD} (h : Puts w v l) (hb : Below w.heap.size w w') : Puts w' v l := by
  rcases h with h | ⟨b, off, c, e, h⟩
  · exact .inl h
  · refine .inr ⟨b, off, c, e, fun j d hd => ?_⟩
    obtain ⟨h0, h1, h2, h3, h4⟩ := h j d hd
    have hlt := World.block_lt_of_cell? w _ h0
    exact ⟨(hb.cell (p := ⟨b, off + j * 3, none⟩) hlt).trans h0, (hb.cell (p := ⟨b, off + j * 3 + 1, none⟩) hlt).trans h1, (hb.cell (p := ⟨b, off + j * 3 + 2, none⟩) hlt).trans h2, h3.under hb, h4⟩

/-- The puts are few and short. -/
def Ok1 (d : PutD) : Prop := d.bs.length ≤ 4096 ∧ (d.kind = 4 → d.n ≤ 4096)
def OkL (l : List PutD) : Prop := l.length ≤ 300 ∧ ∀ (j : Nat) (d : PutD), l[j]? = some d → Ok1 d

set_option maxHeartbeats 800000 in
set_option maxRecDepth 100000 in
theorem few_any (v : Value) (l : List PutD) (w : World) (hl : Puts w v l) :
    Calls Tryd.prog 10 #[v] w fun e w' => (e = .returned (.bool false) ∨ (e = .returned (.bool true) ∧ OkL l)) ∧ w' = w := by
  obtain ⟨al, cl, rfl⟩ := hl.form
  by_cases h0 : 300 < l.length
  · have k1 : decide ((300 : Int) < (l.length : Int)) = true := by simp; omega
    go_enter Tryd.func10, Tryd.ntmps10
    go_wp2
    go_ret
    exact ⟨.inl rfl, rfl⟩
  have k1 : decide ((300 : Int) < (l.length : Int)) = false := by simp; omega
  go_enter Tryd.func10, Tryd.ntmps10
  go_wp2
  go_loop [3, 4] (fun s i => ∃ (k : Nat) (m : Int), k ≤ l.length ∧ i = .int .i64 k ∧ s = .int .i64 m ∧ 0 ≤ m ∧ m ≤ 4096 * k ∧ Hid (∀ j d, j < k → l[j]? = some d → Ok1 d)) (fun _ i => l.length - (intOf i).toNat)
  case atStart => exact ⟨0, 0, Nat.zero_le _, rfl, rfl, by omega, by omega, fun j d h => by omega⟩
  case round =>
    obtain ⟨k, m, hk, rfl, rfl, hm0, hm1, HO⟩ := hrel
    by_cases hlt : k < l.length
    · obtain ⟨b, off, ⟨kd, n, bv, bs⟩, hd, rfl, hb, c0, c1, c2, hbs, _⟩ := hl.at hlt
      simp only at c0 c1 c2 hbs
      obtain ⟨ab, cb, rfl, hcb⟩ := hbs.form
      have g1 : (k : Int) < (l.length : Int) := by omega
      have HD : Hid (l[k]? = some ⟨kd, n, .slice ab bs.length cb, bs⟩) := hd
      clear hl hbs hd
      by_cases q1 : 4096 < bs.length
      · have r1 : decide ((4096 : Int) < (bs.length : Int)) = true := by simp; omega
        go_wp2
        go_ret
        exact ⟨.inl rfl, rfl⟩
      · have r1 : decide ((4096 : Int) < (bs.length : Int)) = false := by simp; omega
        have step : Ok1 ⟨kd, n, .slice ab bs.length cb, bs⟩ → Hid (∀ j d, j < k + 1 → l[j]? = some d → Ok1 d) := by
          intro ho j d hj hjd
          by_cases e : j = k
          · subst e; rw [HD.out] at hjd; cases hjd; exact ho
          · exact HO.out j d (by omega) hjd
        by_cases q2 : kd = 4
        · subst q2
          by_cases q3 : 4096 < n
          · have r3 : decide ((4096 : Int) < n) = true := by simp; omega
            go_wp2
            go_ret
            exact ⟨.inl rfl, rfl⟩
          · have r3 : decide ((4096 : Int) < n) = false := by simp; omega
            have hs := step ⟨by simp; omega, fun _ => by simp; omega⟩
            clear step HO HD
            go_wp2
            go_roundw
            case rel => exact ⟨k + 1, _, by omega, by go_num, rfl, by omega, by omega, hs⟩
            case measure => simp [intOf]; omega
        · have r2 : (kd == 4) = false := by simpa using q2
          have hs := step ⟨by simp; omega, fun e => absurd e q2⟩
          clear step HO HD q2
          go_wp2
          go_roundw
          case rel => exact ⟨k + 1, _, by omega, by go_num, rfl, by omega, by omega, hs⟩
          case measure => simp [intOf]; omega
    · have hfin : OkL l := ⟨by omega, fun j d hj => HO.out j d (by have := (List.getElem?_eq_some_iff.1 hj).1; omega) hj⟩
      have HF : Hid (OkL l) := hfin
      clear hl hfin HO
      by_cases q : m ≤ 16384
      · have r : decide (m ≤ 16384) = true := by simpa using q
        go_wp2
        go_ret
        exact ⟨.inr ⟨rfl, HF.out⟩, rfl⟩
      · have r : decide (m ≤ 16384) = false := by simpa using q
        go_wp2
        go_ret
        exact ⟨.inl rfl, rfl⟩
end Go.Proofs.YtdninfmmikaimaaDoor

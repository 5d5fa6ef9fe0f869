/-
  Slices of acts on a map of bits, and two maps at once: the program's and the document's.
-/
import Derived.Test.YtmlhjcjonfalhaaBCopy
namespace Go.Proofs.Ytmlhjcjonfalhaa
open Go.RowKit

/-- An act. -/
structure BAct where
  op : Int
  i : Int
  a : Int
  b : Int
  n : Int
structure BActAt (w : World) (b o : Nat) (d : BAct) : Prop where
  c0 : w.cell? ⟨b, o, none⟩ = some (.int .i64 d.op)
  c1 : w.cell? ⟨b, o + 1, none⟩ = some (.int .i64 d.i)
  c2 : w.cell? ⟨b, o + 2, none⟩ = some (.int .i64 d.a)
  c3 : w.cell? ⟨b, o + 3, none⟩ = some (.int .i64 d.b)
  c4 : w.cell? ⟨b, o + 4, none⟩ = some (.int .i64 d.n)
  ha : d.a ≤ 9223372036854775807
  hn : -9223372036854775808 ≤ d.n ∧ d.n ≤ 9223372036854775807
/-- v is a slice of acts that reads l. -/
def BActs (w : World) (v : Value) (l : List BAct) : Prop :=
  ((∃ a c, v = .slice a 0 c) ∧ l = []) ∨
  ∃ b off c, v = .slice (some ⟨b, off, none⟩) l.length c ∧ ∀ (j : Nat) d, l[j]? = some d → BActAt w b (off + j * 5) d
theorem BActAt.kept {w w' : World} {b o : Nat} {d : BAct} (h : BActAt w b o d) (hc : Chg (fun _ => False) w w') : BActAt w' b o d :=
  ⟨hc.cell h.c0 (fun h => h), hc.cell h.c1 (fun h => h), hc.cell h.c2 (fun h => h), hc.cell h.c3 (fun h => h), hc.cell h.c4 (fun h => h), h.ha, h.hn⟩
theorem BActs.form {w : World} {v : Value} {l : List BAct} (h : BActs w v l) : ∃ a c, v = .slice a l.length c := by
  rcases h with ⟨⟨a, c, rfl⟩, rfl⟩ | ⟨b, off, c, rfl, _⟩
  · exact ⟨a, c, rfl⟩
  · exact ⟨_, _, rfl⟩
theorem BActs.at {w : World} {a : Option Addr} {n c i : Nat} {l : List BAct} (h : BActs w (.slice a n c) l) (hi : i < l.length) : ∃ b off, a = some ⟨b, off, none⟩ ∧ BActAt w b (off + i * 5) l[i] := by
  rcases h with ⟨_, rfl⟩ | ⟨b, off, c', e, hd⟩
  · simp at hi
  · cases e
    exact ⟨b, off, rfl, hd i l[i] (by simp [hi])⟩

/-- Whether bit i can be made 'on', and what is then. -/
def chB (xs : List Int) (i : Int) (on : Bool) : Bool := decide (0 ≤ i) && decide (i < 8 * (xs.length : Int)) && (bitI xs i != on)
def chX (xs : List Int) (i : Int) (on : Bool) : List Int := if chB xs i on = true then flipN xs i.toNat else xs
theorem chX_len (xs : List Int) (i : Int) (on : Bool) : (chX xs i on).length = xs.length := by
  unfold chX; split
  · exact flipN_len _ _
  · rfl
theorem chX_by {xs : List Int} (h : IsBy xs) (i : Int) (on : Bool) : IsBy (chX xs i on) := by
  unfold chX; split
  · exact h.flip _
  · exact h
theorem ch_yes {xs : List Int} {i : Int} {on : Bool} (h : chB xs i on = true) : ∃ k : Nat, i = (k : Int) ∧ k < 8 * xs.length ∧ bitN xs k = !on ∧ chX xs i on = flipN xs k := by
  have e : chX xs i on = flipN xs i.toNat := by unfold chX; rw [if_pos h]
  unfold chB at h
  simp at h
  obtain ⟨⟨h1, h2⟩, h3⟩ := h
  obtain ⟨k, rfl⟩ := Int.eq_ofNat_of_zero_le h1
  rw [bitI_nat] at h3
  refine ⟨k, rfl, by omega, ?_, by rw [e]; rfl⟩
  cases on <;> cases hb : bitN xs k <;> simp_all
theorem ch_no {xs : List Int} {i : Int} {on : Bool} (h : chB xs i on = false) : ((i < 0 ∨ 8 * (xs.length : Int) ≤ i) ∨ bitI xs i = on) ∧ chX xs i on = xs := by
  refine ⟨?_, by unfold chX; rw [if_neg (by rw [h]; exact Bool.false_ne_true)]⟩
  unfold chB at h
  by_cases h1 : i < 0
  · exact .inl (.inl h1)
  by_cases h2 : 8 * (xs.length : Int) ≤ i
  · exact .inl (.inr h2)
  right
  have e1 : decide (0 ≤ i) = true := by simp; omega
  have e2 : decide (i < 8 * (xs.length : Int)) = true := by simp; omega
  rw [e1, e2] at h
  simpa using h

/-- Two maps in memory, apart. -/
structure B2 (w wr : World) (g1 g2 : Nat) (v1 v2 : Value) (xs ys : List Int) : Prop where
  m1 : Mp wr g1 v1 xs
  m2 : Mp wr g2 v2 ys
  chg : Chg (fun _ => False) w wr
  n1 : w.heap.size ≤ g1
  n12 : g1 < g2
  lt : g2 < wr.heap.size
theorem B2.keep {w wr w' : World} {g1 g2 : Nat} {v1 v2 : Value} {xs ys : List Int} (h : B2 w wr g1 g2 v1 v2 xs ys) (hc : Chg (fun _ => False) wr w') : B2 w w' g1 g2 v1 v2 xs ys :=
  ⟨h.m1.kept hc (fun h => h), h.m2.kept hc (fun h => h), h.chg.trans hc (fun _ _ h => h), h.n1, h.n12, Nat.lt_of_lt_of_le h.lt hc.size⟩
theorem B2.put1 {w wr w' : World} {g1 g2 : Nat} {v1 v2 : Value} {xs ys zs : List Int} (h : B2 w wr g1 g2 v1 v2 xs ys) (hm : Mp w' g1 v1 zs) (hc : Chg (fun b => b = g1) wr w') : B2 w w' g1 g2 v1 v2 zs ys :=
  ⟨hm, h.m2.kept hc (fun e => by have := h.n12; omega), h.chg.trans hc (fun i hi e => by have := h.n1; omega), h.n1, h.n12, Nat.lt_of_lt_of_le h.lt hc.size⟩
theorem B2.put2 {w wr w' : World} {g1 g2 : Nat} {v1 v2 : Value} {xs ys zs : List Int} (h : B2 w wr g1 g2 v1 v2 xs ys) (hm : Mp w' g2 v2 zs) (hc : Chg (fun b => b = g2) wr w') : B2 w w' g1 g2 v1 v2 xs zs :=
  ⟨h.m1.kept hc (fun e => by have := h.n12; omega), hm, h.chg.trans hc (fun i hi e => by have := h.n1; have := h.n12; omega), h.n1, h.n12, Nat.lt_of_lt_of_le h.lt hc.size⟩
/-- The cells of block ab are as they were. -/
def Same (ab : Nat) (w w' : World) : Prop := ∀ k, w'.cell? ⟨ab, k, none⟩ = w.cell? ⟨ab, k, none⟩
theorem Same.of {S : Nat → Prop} {w w' : World} {ab : Nat} (hc : Chg S w w') (hl : ab < w.heap.size) (hn : ¬ S ab) : Same ab w w' := fun k =>
  World.cell?_of_block (a := ⟨ab, k, none⟩) (hc.block ab hl hn)

theorem set_b2 {w wr : World} {g1 g2 ab : Nat} {v1 v2 : Value} {xs ys : List Int} (i : Int) (h : B2 w wr g1 g2 v1 v2 xs ys) (hb : IsBy xs) (hl : xs.length ≤ 1099511627776) (ha : g2 < ab) (hal : ab < wr.heap.size) :
    Calls Try.prog 9 #[v1, .int .i64 i] wr fun e w' => e = .returned (.bool (chB xs i true)) ∧ B2 w w' g1 g2 v1 v2 (chX xs i true) ys ∧ Same ab wr w' ∧ ab < w'.heap.size := by
  cases hc : chB xs i true with
  | true =>
    obtain ⟨k, rfl, hk, hbit, e⟩ := ch_yes hc
    rw [e]
    refine (set_new g1 v1 xs k wr h.m1 hb hl hk hbit).mono ?_
    rintro e w' ⟨rfl, hm, hcc⟩
    exact ⟨rfl, h.put1 hm hcc, Same.of hcc hal (fun e => by have := h.n12; omega), Nat.lt_of_lt_of_le hal hcc.size⟩
  | false =>
    obtain ⟨hn, e⟩ := ch_no hc
    rw [e]
    refine (set_not v1 xs i wr h.m1.bs hb hl hn).mono ?_
    rintro e w' ⟨rfl, n, rfl⟩
    exact ⟨rfl, h.keep (Chg.drewN _ _ _), Same.of (Chg.drewN (fun _ => False) wr n) hal (fun h => h), hal⟩
theorem clear_b2 {w wr : World} {g1 g2 ab : Nat} {v1 v2 : Value} {xs ys : List Int} (i : Int) (h : B2 w wr g1 g2 v1 v2 xs ys) (hb : IsBy xs) (hl : xs.length ≤ 1099511627776) (ha : g2 < ab) (hal : ab < wr.heap.size) :
    Calls Try.prog 11 #[v1, .int .i64 i] wr fun e w' => e = .returned (.bool (chB xs i false)) ∧ B2 w w' g1 g2 v1 v2 (chX xs i false) ys ∧ Same ab wr w' ∧ ab < w'.heap.size := by
  cases hc : chB xs i false with
  | true =>
    obtain ⟨k, rfl, hk, hbit, e⟩ := ch_yes hc
    rw [e]
    refine (clear_old g1 v1 xs k wr h.m1 hb hl hk hbit).mono ?_
    rintro e w' ⟨rfl, hm, hcc⟩
    exact ⟨rfl, h.put1 hm hcc, Same.of hcc hal (fun e => by have := h.n12; omega), Nat.lt_of_lt_of_le hal hcc.size⟩
  | false =>
    obtain ⟨hn, e⟩ := ch_no hc
    rw [e]
    have hf : bitI xs i = false := by
      rcases hn with hn | hn
      · exact bitI_out hn
      · exact hn
    refine (clear_not v1 xs i wr h.m1.bs hb hl hf).mono ?_
    rintro e w' ⟨rfl, n, rfl⟩
    exact ⟨rfl, h.keep (Chg.drewN _ _ _), Same.of (Chg.drewN (fun _ => False) wr n) hal (fun h => h), hal⟩
theorem put_b2 {w wr : World} {g1 g2 ab : Nat} {v1 v2 : Value} {xs ys : List Int} (i : Int) (on : Bool) (h : B2 w wr g1 g2 v1 v2 xs ys) (hb : IsBy ys) (hl : ys.length ≤ 1099511627776) (ha : g2 < ab) (hal : ab < wr.heap.size) :
    Calls Try.prog 10 #[v2, .int .i64 i, .bool on] wr fun e w' => e = .returned (.bool (chB ys i on)) ∧ B2 w w' g1 g2 v1 v2 xs (chX ys i on) ∧ Same ab wr w' ∧ ab < w'.heap.size := by
  cases hc : chB ys i on with
  | true =>
    obtain ⟨k, rfl, hk, hbit, e⟩ := ch_yes hc
    rw [e]
    refine (put_new g2 v2 ys k on wr h.m2 hb hl hk hbit).mono ?_
    rintro e w' ⟨rfl, hm, hcc⟩
    exact ⟨rfl, h.put2 hm hcc, Same.of hcc hal (fun e => by omega), Nat.lt_of_lt_of_le hal hcc.size⟩
  | false =>
    obtain ⟨hn, e⟩ := ch_no hc
    rw [e]
    refine (put_not v2 ys i on wr h.m2.bs hb hl hn).mono ?_
    rintro e w' ⟨rfl, rfl⟩
    exact ⟨rfl, h, fun _ => rfl, hal⟩
end Go.Proofs.Ytmlhjcjonfalhaa

/-
  An act on both disks.
-/
import Derived.Test.YtkafpnjimdhakaaRefWrite
import Derived.Test.YtkafpnjimdhakaaActs
namespace Go.Proofs.Ytkafpnjimdhakaa
open Go.RowKit Go.Maps
attribute [local go_sem ↓] Go.wp_at_zero Go.wp_at_succ

/-- A disk and the reference's, apart from one another and from a block k. -/
structure Pr (w w' : World) (p q : Nat) (F G : Nat → Prop) (S T : St) (k : Nat) : Prop where
  dk : Dk w' F p S
  rk : Rk w' G q T
  two : Two F G w w'
  kf : ¬ F k
  kg : ¬ G k
  kl : k < w'.heap.size
theorem Pr.more {w w1 w2 : World} {p q : Nat} {F G : Nat → Prop} {S T : St} {k : Nat} (h : Pr w w1 p q F G S T k) (c : Chg (fun _ => False) w1 w2) : Pr w w2 p q F G S T k :=
  ⟨h.dk.kept c (fun _ _ h => h), h.rk.kept c (fun _ _ h => h), h.two.more c, h.kf, h.kg, Nat.lt_of_lt_of_le h.kl c.size⟩
theorem Pr.left {w w1 w2 : World} {p q : Nat} {F G : Nat → Prop} {S S' T : St} {k : Nat} (h : Pr w w1 p q F G S T k) (hto : To F p w1 w2 S') : ∃ F', Pr w w2 p q F' G S' T k ∧ Chg F w1 w2 := by
  obtain ⟨F', h1, h2, h3⟩ := hto
  refine ⟨F', ⟨h1, h.rk.kept h2 (fun b hg hf => h.two.no b hf hg), ⟨h.two.chg.trans h2 (fun i hi e => by have := h.two.f i e; omega), fun b hb => ?_, h.two.g, fun b hb hg => ?_⟩, fun hf => ?_, h.kg, Nat.lt_of_lt_of_le h.kl h2.size⟩, h2⟩
  · rcases h3 b hb with e | e
    · exact h.two.f b e
    · have := h.two.chg.size; omega
  · rcases h3 b hb with e | e
    · exact h.two.no b e hg
    · have := h.rk.lt b hg; omega
  · rcases h3 k hf with e | e
    · exact h.kf e
    · have := h.kl; omega
theorem Pr.right {w w1 w2 : World} {p q : Nat} {F G : Nat → Prop} {S T T' : St} {k : Nat} (h : Pr w w1 p q F G S T k) (hto : RTo G q w1 w2 T') : ∃ G', Pr w w2 p q F G' S T' k ∧ Chg G w1 w2 := by
  obtain ⟨G', h1, h2, h3⟩ := hto
  refine ⟨G', ⟨h.dk.kept h2 (fun b hf hg => h.two.no b hf hg), h1, ⟨h.two.chg.trans h2 (fun i hi e => by have := h.two.g i e; omega), h.two.f, fun b hb => ?_, fun b hf hb => ?_⟩, h.kf, fun hf => ?_, Nat.lt_of_lt_of_le h.kl h2.size⟩, h2⟩
  · rcases h3 b hb with e | e
    · exact h.two.g b e
    · have := h.two.chg.size; omega
  · rcases h3 b hb with e | e
    · exact h.two.no b hf e
    · have := h.dk.lt b hf; omega
  · rcases h3 k hf with e | e
    · exact h.kg e
    · have := h.kl; omega

/-- An act in a box. -/
structure BoxAt (w : World) (k : Nat) (d : ActD) : Prop where
  op : w.cell? ⟨k, 0, none⟩ = some (.int .i64 d.op)
  n : w.cell? ⟨k, 1, none⟩ = some (.int .i64 d.n)
  bc : w.cell? ⟨k, 2, none⟩ = some d.bv
  pc : w.cell? ⟨k, 3, none⟩ = some d.pv
theorem BoxAt.kept {w w' : World} {k : Nat} {d : ActD} {E : Nat → Prop} (h : BoxAt w k d) (c : Chg E w w') (hk : ¬ E k) : BoxAt w' k d := ⟨c.cell h.op hk, c.cell h.n hk, c.cell h.bc hk, c.cell h.pc hk⟩

namespace St
def stp (S : St) (d : ActD) : St := if d.op = 1 then S.write d.n (full d.bs) else if d.op = 3 then S.sync else if d.op = 4 then S.armed d.n d.ps else if d.op = 5 then S.cut d.ps else if d.op = 6 then S.on else if d.op = 8 then S.write d.n d.bs else S
end St

/-- What a step leaves. -/
def Stepped (w : World) (p q : Nat) (S' : St) (w' : World) : Prop := ∃ F G, Dk w' F p S' ∧ Rk w' G q S' ∧ Two F G w w'
theorem Pr.stepped {w w' : World} {p q : Nat} {F G : Nat → Prop} {S : St} {k : Nat} (h : Pr w w' p q F G S S k) : Stepped w p q S w' := ⟨F, G, h.dk, h.rk, h.two⟩

/-- What a step begins with, behind its box. -/
theorem step_start {w wr : World} {p q : Nat} {F G : Nat → Prop} {S : St} {d : ActD} (hd : Dk wr F p S) (hr : Rk wr G q S) (two : Two F G w wr) :
    Pr w (wr.alloc (.cells #[.int .i64 d.op, .int .i64 d.n, d.bv, d.pv] 35)) p q F G S S wr.heap.size ∧ BoxAt (wr.alloc (.cells #[.int .i64 d.op, .int .i64 d.n, d.bv, d.pv] 35)) wr.heap.size d := by
  have ca := Chg.alloc (fun _ => False) wr (.cells #[.int .i64 d.op, .int .i64 d.n, d.bv, d.pv] 35)
  refine ⟨⟨hd.kept ca (fun _ _ h => h), hr.kept ca (fun _ _ h => h), two.more ca, fun hf => by have := hd.lt _ hf; omega, fun hf => by have := hr.lt _ hf; omega, by simp⟩, ?_⟩
  refine ⟨?_, ?_, ?_, ?_⟩ <;> (rw [World.cell?_alloc_at _ _ _ _ rfl]; rfl)

/-- Write of nothing. -/
theorem write_none (F : Nat → Prop) (p : Nat) (S : St) (n : Int) (a : Option Addr) (c : Nat) (w : World) (h : Dk w F p S) :
    Calls Try.prog 21 #[.pointer (some ⟨p, 0, none⟩), .int .i64 n, .slice a 0 c] w fun e w' => e = .returned (.int .i64 (S.writeE n [])) ∧ To F p w w' (S.write n []) := by
  have hok : ¬ S.okW n [] := fun h => by have := h.2.2; simp at this
  have HH : Hid (Dk w F p S) := h
  obtain ⟨s, sc, m, pv, V, h⟩ := h
  have c3 := h.c3
  by_cases hoff : S.off = true
  · have e1 : S.writeE n [] = 6 := by simp [St.writeE, hoff]
    have e2 : S.write n [] = S := by simp [St.write, hoff]
    rw [e1, e2]
    rw [hoff] at c3
    clear h e1 e2 hok
    go_enter Try.func21, Try.ntmps21
    go_wp2
    go_ret
    exact ⟨rfl, To.refl HH.out⟩
  have hof : S.off = false := by simpa using hoff
  have e1 : S.writeE n [] = 1 := by unfold St.writeE; rw [if_neg hoff, if_pos hok]
  have e2 : S.write n [] = S := by unfold St.write; rw [if_neg hoff, if_pos hok]
  rw [e1, e2]
  rw [hof] at c3
  by_cases hn : 0 ≤ n ∧ n < S.nb
  · have kd : decide (0 ≤ n ∧ n < S.nb) = true := by simp; omega
    clear h e1 e2 hok
    go_enter Try.func21, Try.ntmps21
    go_wp2_with fail
    refine (has_any F p S n w HH.out).mono ?_
    rintro e w1 ⟨rfl, rfl⟩
    rw [kd]
    clear kd hn
    go_wp2
    go_ret
    exact ⟨rfl, To.refl HH.out⟩
  · have kd : decide (0 ≤ n ∧ n < S.nb) = false := by simpa using hn
    clear h e1 e2 hok
    go_enter Try.func21, Try.ntmps21
    go_wp2_with fail
    refine (has_any F p S n w HH.out).mono ?_
    rintro e w1 ⟨rfl, rfl⟩
    rw [kd]
    clear kd hn
    go_wp2
    go_ret
    exact ⟨rfl, To.refl HH.out⟩
theorem Bs.argOff {w : World} {v : Value} {bs : List Int} {F : Nat → Prop} (h : Bs w v bs) (hF : ∀ b, F b → w.heap.size ≤ b) : bs ≠ [] → ∀ g, v.ownBlock = some g → ¬ F g := fun hne g hg hf => by
  have h1 := hF g hf
  have hpl : 0 < bs.length := List.length_pos_iff.2 hne
  rcases h with ⟨e, e2⟩ | ⟨a, c, e, _, _, h3⟩
  · exact hne e2
  · rw [e] at hg
    have h4 := World.block_lt_of_cell? w _ (h3 0 hpl)
    have e5 : (a.add 0).block = a.block := by unfold Addr.add; split <;> rfl
    rw [e5] at h4
    have : a.block = g := by simpa [Value.ownBlock] using hg
    omega
theorem Is.argOff {w : World} {v : Value} {ps : List Int} {F : Nat → Prop} (h : Is w v ps) (hF : ∀ b, F b → w.heap.size ≤ b) : ps ≠ [] → ∀ g, v.ownBlock = some g → ¬ F g := fun hne g hg hf => by
  have h1 := hF g hf
  have hpl : 0 < ps.length := List.length_pos_iff.2 hne
  rcases h with ⟨e, e2⟩ | ⟨a, c, e, _, _, h3⟩
  · exact hne e2
  · rw [e] at hg
    have h4 := World.block_lt_of_cell? w _ (h3 0 hpl)
    have e5 : (a.add 0).block = a.block := by unfold Addr.add; split <;> rfl
    rw [e5] at h4
    have : a.block = g := by simpa [Value.ownBlock] using hg
    omega
theorem write_arg (F : Nat → Prop) (p : Nat) (S : St) (n : Int) (v : Value) (bs : List Int) (w : World) (h : Dk w F p S) (hb : Bs w v bs) (hv : bs ≠ [] → ∀ g, v.ownBlock = some g → ¬ F g) (hx : S.writes < 1099511627776) :
    Calls Try.prog 21 #[.pointer (some ⟨p, 0, none⟩), .int .i64 n, v] w fun e w' => e = .returned (.int .i64 (S.writeE n bs)) ∧ To F p w w' (S.write n bs) := by
  by_cases hne : bs = []
  · subst hne
    obtain ⟨a, c, rfl, _⟩ := hb.form
    exact write_none F p S n a c w h
  · exact write_any F p S n v bs w h hb (hv hne) hx
end Go.Proofs.Ytkafpnjimdhakaa

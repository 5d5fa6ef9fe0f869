/-
  Contracts of the reader's own calls: NewReader, U8, U16, U32, Fixed, Bytes and End of package codec, over a state that is bytes and a fault.
-/
import Derived.Test.YtbhfmceapffhnaaDoorNumber
namespace Go.Proofs.YtbhfmceapffhnaaDoor
open Go.RowKit

/-- What a reader holds: the bytes that are left, and the fault. -/
structure RS where
  xs : List Int
  f : Int
def failS (s : RS) (e : Int) : RS := if s.f = 0 then ⟨[], e⟩ else s
def tkS (s : RS) (n : Int) : RS := if s.f = 0 then (if (s.xs.length : Int) < n then ⟨[], 2⟩ else ⟨s.xs.drop n.toNat, 0⟩) else s
def tkV (s : RS) (n : Int) : List Int := if s.f = 0 then (if (s.xs.length : Int) < n then [] else s.xs.take n.toNat) else []
def fxI (s : RS) (n : Int) : RS := if n < 0 then failS s 1 else s
def bsI (s : RS) (most : Int) : RS := if most < valB (tkV s 4) then failS (tkS s 4) 5 else tkS s 4
def endV (s : RS) : Int := if s.f = 0 ∧ s.xs ≠ [] then 3 else s.f

abbrev RdS (N : Nat) (w : World) (p : Nat) (v : Value) (s : RS) : Prop := Rd N w p v s.xs s.f
abbrev RdSTo (N p : Nat) (w w' : World) (v' : Value) (s' : RS) : Prop := RdTo N p w w' v' s'.xs s'.f

theorem tkV_len (s : RS) (n : Int) (hn : 0 ≤ n) : ((tkV s n).length : Int) ≤ n := by
  unfold tkV; split
  · split
    · simpa using hn
    · simp; omega
  · simpa using hn
theorem tkV_le (s : RS) (n : Int) : (tkV s n).length ≤ s.xs.length := by
  unfold tkV; split
  · split
    · simp
    · simp; omega
  · simp
theorem tkS_le (s : RS) (n : Int) : (tkS s n).xs.length ≤ s.xs.length := by
  unfold tkS; split
  · split <;> simp
  · simp
theorem failS_le (s : RS) (e : Int) : (failS s e).xs.length ≤ s.xs.length := by
  unfold failS; split <;> simp
theorem IsB.tkV {s : RS} (h : IsB s.xs) (n : Int) : IsB (tkV s n) := by
  unfold Go.Proofs.YtbhfmceapffhnaaDoor.tkV; split
  · split
    · intro x hx; cases hx
    · exact h.take _
  · intro x hx; cases hx
theorem IsB.tkS {s : RS} (h : IsB s.xs) (n : Int) : IsB (tkS s n).xs := by
  unfold Go.Proofs.YtbhfmceapffhnaaDoor.tkS; split
  · split
    · intro x hx; cases hx
    · exact h.drop _
  · exact h
theorem IsB.failS {s : RS} (h : IsB s.xs) (e : Int) : IsB (failS s e).xs := by
  unfold Go.Proofs.YtbhfmceapffhnaaDoor.failS; split
  · intro x hx; cases hx
  · exact h
theorem IsB.fxI {s : RS} (h : IsB s.xs) (n : Int) : IsB (fxI s n).xs := by
  unfold Go.Proofs.YtbhfmceapffhnaaDoor.fxI; split
  · exact h.failS 1
  · exact h
theorem IsB.bsI {s : RS} (h : IsB s.xs) (n : Int) : IsB (bsI s n).xs := by
  unfold Go.Proofs.YtbhfmceapffhnaaDoor.bsI; split
  · exact (h.tkS 4).failS 5
  · exact h.tkS 4

theorem fail_any (N p : Nat) (v : Value) (s : RS) (e : Int) (w : World) (hr : RdS N w p v s) :
    Calls Tryd.prog 82 #[.pointer (some ⟨p, 0, none⟩), .int .i64 e] w fun r w' => r = .returned (.tuple #[]) ∧ ∃ v', RdSTo N p w w' v' (failS s e) := by
  obtain ⟨xs, f⟩ := s
  by_cases hf : f = 0
  · subst hf
    refine (fail_first N p v xs e w hr).mono ?_
    rintro r w' ⟨rfl, h⟩
    exact ⟨rfl, _, h⟩
  · refine (fail_not N p v xs f e w hr hf).mono ?_
    rintro r w' ⟨rfl, rfl⟩
    refine ⟨rfl, v, ?_⟩
    simp only [failS, if_neg hf]
    exact RdTo.refl hr

theorem take_any (N p : Nat) (v : Value) (s : RS) (n : Int) (w : World) (hr : RdS N w p v s) (hn : s.f = 0 → 0 ≤ n) :
    Calls Tryd.prog 81 #[.pointer (some ⟨p, 0, none⟩), .int .i64 n] w fun r w' => ∃ u, r = .returned u ∧ (∃ v', RdSTo N p w w' v' (tkS s n)) ∧ Bs w' u (tkV s n) ∧ ∀ a m c, u = .slice (some a) m c → 0 < m → a.block ≠ p ∧ a.block < w.heap.size := by
  obtain ⟨xs, f⟩ := s
  by_cases hf : f = 0
  · subst hf
    by_cases hl : (xs.length : Int) < n
    · refine (take_short N p v xs n w hr hl).mono ?_
      rintro r w' ⟨rfl, h⟩
      simp only [tkS, tkV, if_pos hl, if_true]
      exact ⟨_, rfl, ⟨_, h⟩, .inl ⟨rfl, rfl⟩, fun a m c e => by cases e⟩
    · have h0 := hn rfl
      obtain ⟨k, rfl⟩ := Int.eq_ofNat_of_zero_le h0
      refine (take_some N p v xs k w hr (by omega)).mono ?_
      rintro r w' ⟨u, v', rfl, h1, h2, h3⟩
      simp only [tkS, tkV, if_neg hl, if_true]
      exact ⟨u, rfl, ⟨v', h1⟩, h2, h3⟩
  · refine (take_fault N p v xs f n w hr hf).mono ?_
    rintro r w' ⟨rfl, rfl⟩
    simp only [tkS, tkV, if_neg hf]
    exact ⟨_, rfl, ⟨v, RdTo.refl hr⟩, .inl ⟨rfl, rfl⟩, fun a m c e => by cases e⟩

set_option maxHeartbeats 800000 in
theorem ru8_any (N p : Nat) (v : Value) (s : RS) (w : World) (hr : RdS N w p v s) (hB : IsB s.xs) :
    Calls Tryd.prog 67 #[.pointer (some ⟨p, 0, none⟩)] w fun r w' => r = .returned (.int .i64 (valB (tkV s 1))) ∧ ∃ v', RdSTo N p w w' v' (tkS s 1) := by
  go_enter Tryd.func67, Tryd.ntmps67
  go_wp2_with fail
  refine (take_any N p v s 1 _ hr (fun _ => by omega)).mono ?_
  rintro r w1 ⟨u, rfl, h1, h2, _⟩
  have hl := tkV_len s 1 (by omega)
  go_wp2_with fail
  refine (number40 u _ _ h2 (hB.tkV 1) (by omega)).mono ?_
  rintro r w2 ⟨rfl, rfl⟩
  go_wp2
  go_ret
  exact ⟨rfl, h1⟩
set_option maxHeartbeats 800000 in
theorem ru16_any (N p : Nat) (v : Value) (s : RS) (w : World) (hr : RdS N w p v s) (hB : IsB s.xs) :
    Calls Tryd.prog 68 #[.pointer (some ⟨p, 0, none⟩)] w fun r w' => r = .returned (.int .i64 (valB (tkV s 2))) ∧ ∃ v', RdSTo N p w w' v' (tkS s 2) := by
  go_enter Tryd.func68, Tryd.ntmps68
  go_wp2_with fail
  refine (take_any N p v s 2 _ hr (fun _ => by omega)).mono ?_
  rintro r w1 ⟨u, rfl, h1, h2, _⟩
  have hl := tkV_len s 2 (by omega)
  go_wp2_with fail
  refine (number40 u _ _ h2 (hB.tkV 2) (by omega)).mono ?_
  rintro r w2 ⟨rfl, rfl⟩
  go_wp2
  go_ret
  exact ⟨rfl, h1⟩
/-- Behind a copy the reader is as it was. -/
theorem RdTo.fresh {N p : Nat} {w w1 w2 : World} {v1 u : Value} {x1 : List Int} {f1 : Int} {ys : List Int} (h : RdTo N p w w1 v1 x1 f1) (hf : FreshN N w1 w2 u ys) : RdTo N p w w2 v1 x1 f1 :=
  ⟨h.rd.kept hf.2.1 (fun h => h) (fun _ _ _ _ _ h => h), h.chg.trans hf.2.1 (fun _ _ h => h.elim)⟩
theorem Rd.N {N p : Nat} {w : World} {v : Value} {xs : List Int} {f : Int} (h : Rd N w p v xs f) : N ≤ w.heap.size := by have := h.le; have := h.lt; omega

set_option maxHeartbeats 800000 in
theorem rfixed_any (N p : Nat) (v : Value) (s : RS) (n : Int) (w : World) (hr : RdS N w p v s) (hlen : s.xs.length ≤ 1099511627776) :
    Calls Tryd.prog 69 #[.pointer (some ⟨p, 0, none⟩), .int .i64 n] w fun r w' => ∃ u, r = .returned u ∧ (∃ v', RdSTo N p w w' v' (tkS (fxI s n) n)) ∧ w'.ownsRow N 5 1 u (tkV (fxI s n) n).length (bcells (tkV (fxI s n) n)) ∧ ∀ k, u.ownBlock = some k → w.heap.size ≤ k := by
  have hlt : ∀ s' : RS, s'.xs.length ≤ s.xs.length → (tkV s' n).length ≤ 1099511627776 := fun s' h => by have := tkV_le s' n; omega
  by_cases hn : n < 0
  · have e : fxI s n = failS s 1 := by simp [fxI, hn]
    rw [e]
    go_enter Tryd.func69, Tryd.ntmps69
    go_wp2_with fail
    refine (fail_any N p v s 1 _ hr).mono ?_
    rintro r w1 ⟨rfl, v1, h1⟩
    go_wp2_with fail
    refine (take_any N p v1 (failS s 1) n _ h1.rd (fun h0 => ?_)).mono ?_
    · exfalso; unfold failS at h0; split at h0
      · simp at h0
      · rename_i h; exact h h0
    rintro r w2 ⟨u, rfl, ⟨v2, h2⟩, h3, _⟩
    go_wp2_with fail
    refine (fresh_any N u _ _ h3 (hlt _ (failS_le s 1)) h2.rd.N).mono ?_
    rintro r w3 ⟨u3, rfl, h4⟩
    go_wp2
    go_ret
    have h5 := (h1.trans h2).fresh h4
    exact ⟨u3, rfl, ⟨v2, h5⟩, h4.1, fun k hk => Nat.le_trans (h1.trans h2).chg.size (h4.2.2 k hk)⟩
  · have e : fxI s n = s := by simp [fxI, hn]
    rw [e]
    go_enter Tryd.func69, Tryd.ntmps69
    go_wp2_with fail
    refine (take_any N p v s n _ hr (fun _ => by omega)).mono ?_
    rintro r w2 ⟨u, rfl, ⟨v2, h2⟩, h3, _⟩
    go_wp2_with fail
    refine (fresh_any N u _ _ h3 (hlt _ (Nat.le_refl _)) h2.rd.N).mono ?_
    rintro r w3 ⟨u3, rfl, h4⟩
    go_wp2
    go_ret
    exact ⟨u3, rfl, ⟨v2, h2.fresh h4⟩, h4.1, fun k hk => Nat.le_trans h2.chg.size (h4.2.2 k hk)⟩

set_option maxHeartbeats 800000 in
theorem newReader_any (N : Nat) (b : Value) (bs : List Int) (w : World) (hb : Bs w b bs) (hlen : bs.length ≤ 1099511627776) (hN : N ≤ w.heap.size) :
    Calls Tryd.prog 52 #[b] w fun r w' => ∃ p v', r = .returned (.pointer (some ⟨p, 0, none⟩)) ∧ RdS N w' p v' ⟨bs, 0⟩ ∧ Chg (fun _ => False) w w' ∧ w.heap.size ≤ p := by
  go_enter Tryd.func52, Tryd.ntmps52
  go_wp2_with fail
  refine (fresh_any N b bs _ hb hlen hN).mono ?_
  rintro r w1 ⟨u, rfl, h1⟩
  obtain ⟨a, c, rfl⟩ := cown_slice h1.1
  go_wp2
  go_ret
  refine ⟨_, _, rfl, ⟨?_, heap_alloc_new w1 _, ?_, ?_, fun h => absurd rfl h⟩, h1.2.1.trans (Chg.alloc _ _ _) (fun _ _ h => h), h1.2.1.size⟩
  · have := h1.2.1.size; omega
  · exact (Bs.ofOwns h1.1).kept (Chg.alloc (fun _ => False) _ _) (fun _ _ _ _ _ h => h)
  · intro x n k e h0
    cases e
    have := (h1.1.lt x.block rfl).2
    omega
end Go.Proofs.YtbhfmceapffhnaaDoor

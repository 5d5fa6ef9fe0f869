/-
  times of the laws: bytes, so often.
-/
import Derived.Test.YtnnaemlipahamaaGreatFRead1
namespace Go.Proofs.YtnnaemlipahamaaGreat
open Go.RowKit Go.Maps

def reps (b : List Int) (j : Nat) : List Int := (List.replicate j b).flatten
theorem reps_len (b : List Int) (j : Nat) : (reps b j).length = j * b.length := by simp [reps]
theorem reps_succ (b : List Int) (j : Nat) : reps b (j + 1) = reps b j ++ b := by
  unfold reps
  rw [List.replicate_succ', List.flatten_append]
  simp
theorem reps_mem {b : List Int} {j : Nat} {y : Int} (h : y ∈ reps b j) : y ∈ b := by
  unfold reps at h
  obtain ⟨l, h1, h2⟩ := List.mem_flatten.1 h
  rw [List.eq_of_mem_replicate h1] at h2
  exact h2
theorem own_sl5 {w : World} {N z : Nat} {u : Value} {xs : List Int} (h : w.ownsRow N 5 1 u z (bcells xs)) : ∃ a c, u = .slice a z c := by
  rcases h.2 with ⟨e, h0⟩ | ⟨g, cap, cur, e, _⟩
  · exact ⟨none, 0, by rw [e, h0]⟩
  · exact ⟨_, cap, e⟩
theorem own_nil (w : World) (N : Nat) : w.ownsRow N 5 1 (.slice none 0 0) 0 (bcells []) := ⟨rfl, .inl ⟨rfl, rfl⟩⟩
/-- An append onto bytes that are the call's own. -/
theorem own_app {w0 w : World} {z : Nat} {u v : Value} {xs b : List Int} (h : w.ownsRow w0.heap.size 5 1 u z (bcells xs)) (hc : Chg (fun _ => False) w0 w) (hb : Bs w v b) (hl : xs.length + b.length ≤ 1099511627776) :
    ∃ a c w', (Builtin.append_ #[33, 33] 33 #[u, v]).run Tryz.prog w = .ok (.slice a (z + b.length) c) w' ∧ w'.ownsRow w0.heap.size 5 1 (.slice a (z + b.length) c) (z + b.length) (bcells (xs ++ b)) ∧ Chg (fun _ => False) w0 w' ∧ Chg (fun k => u.ownBlock = some k) w w' ∧ ((Value.slice a (z + b.length) c).ownBlock = u.ownBlock ∨ (Value.slice a (z + b.length) c).ownBlock = some w.heap.size) := by
  obtain ⟨i0, hi, hz0, hz1, hz2⟩ := info5_parts
  obtain ⟨v', w', hr, h1, h2, h3⟩ := run_app (P := Tryz.prog) w w0.heap.size 33 33 i0 Tryz.underlying33 hi hz0 hz1 hz2 u v z xs b h hb hl hc.size
  obtain ⟨a, c, rfl⟩ := own_sl5 h1
  have hg := Chg.ofGrown h2
  refine ⟨a, c, w', hr, h1, hc.trans hg (fun i hi e => ?_), hg, h3⟩
  rcases h.2 with ⟨e2, h0⟩ | ⟨g, cap, cur, e2, hN, _⟩
  · rw [e2] at e; cases e
  · rw [e2] at e
    simp [Value.ownBlock] at e
    omega
set_option maxHeartbeats 1600000 in
theorem times_any (v : Value) (b : List Int) (n : Nat) (w : World) (hv : Bs w v b) (hbl : b.length ≤ 4096) (hn : n ≤ 1000000) :
    Calls Tryz.prog 19 #[v, .int .i64 (n : Int)] w fun e w' => ∃ u j, e = .returned u ∧ Own w w' u (reps b j) ∧ j ≤ n ∧ j * b.length ≤ 4096 ∧ (n * b.length ≤ 4096 → j = n) := by
  obtain ⟨va, vc, rfl, hvc⟩ := hv.formB
  have HV : Hid (Bs w (.slice va b.length vc) b) := hv
  obtain ⟨lb, hlb⟩ : ∃ lb, b.length = lb := ⟨_, rfl⟩
  rw [hlb] at hbl HV ⊢
  have HLB : Hid (b.length = lb) := hlb
  clear hv hvc hlb
  go_enter Tryz.func19, Tryz.ntmps19
  go_wp2
  go_loopw [5, 6] (fun x y wr => ∃ j a z c, j ≤ n ∧ x = .slice a z c ∧ y = .int .i64 ((j : Nat) : Int) ∧ z ≤ 4096 ∧ Hid (z = j * lb ∧ wr.ownsRow w.heap.size 5 1 (.slice a z c) z (bcells (reps b j)) ∧ Chg (fun _ => False) w wr)) (fun _ y _ => n - (intOf y).toNat)
  case atStart => exact ⟨0, none, 0, 0, Nat.zero_le _, rfl, rfl, Nat.zero_le _, by simp, own_nil w _, Chg.refl _ _⟩
  case round =>
    obtain ⟨j, a, z, c, hj, rfl, rfl, hz, HR⟩ := hrel
    by_cases hjn : j < n
    · have kj : (j : Int) < (n : Int) := by omega
      have dj : decide (j < n) = true := by simpa using hjn
      by_cases hfit : z + lb ≤ 4096
      · have kf : decide ((z : Int) + (lb : Int) ≤ 4096) = true := by simp; omega
        have df : decide (z + lb ≤ 4096) = true := by simpa using hfit
        have kf' : (z : Int) + (lb : Int) ≤ 4096 := by omega
        obtain ⟨e1, e2, e3⟩ := HR.out
        obtain ⟨a', c', w', hr, ho, hc, _, _⟩ := own_app e2 e3 (HV.out.kept e3 (fun _ _ _ _ _ h => h)) (by rw [reps_len, HLB.out, ← e1]; omega)
        rw [HLB.out] at hr ho
        have HO : Hid (z + lb = (j + 1) * lb ∧ w'.ownsRow w.heap.size 5 1 (.slice a' (z + lb) c') (z + lb) (bcells (reps b (j + 1))) ∧ Chg (fun _ => False) w w') := ⟨by rw [Nat.add_mul, ← e1, Nat.one_mul], by rw [reps_succ]; exact ho, hc⟩
        clear e1 e2 e3 HR ho hc
        go_wp2_with (at_builtin; go_must (refine Lib.wpList_append_run _ rfl _ _ _ _ rfl _ _ rfl rfl _ _ hr ?_))
        clear hr
        go_wp2
        go_roundw
        case rel => exact ⟨j + 1, _, _, _, by omega, rfl, by go_num, hfit, HO⟩
        case measure => simp [intOf]; omega
      · have kf : decide ((z : Int) + (lb : Int) ≤ 4096) = false := by simp; omega
        have df : decide (z + lb ≤ 4096) = false := by simpa using hfit
        have kf' : ¬ ((z : Int) + (lb : Int) ≤ 4096) := by omega
        go_wp2
        go_ret
        obtain ⟨e1, e2, e3⟩ := HR.out
        refine ⟨_, rfl, j, ⟨by rw [reps_len, HLB.out, ← e1]; exact e2, e3⟩, hj, by omega, fun h => ?_⟩
        exfalso
        have : (j + 1) * lb ≤ n * lb := Nat.mul_le_mul_right _ hjn
        rw [Nat.add_mul, ← e1] at this
        omega
    · have kj : ¬ (j : Int) < (n : Int) := by omega
      have dj : decide (j < n) = false := by simpa using hjn
      go_wp2
      go_ret
      obtain ⟨e1, e2, e3⟩ := HR.out
      exact ⟨_, rfl, j, ⟨by rw [reps_len, HLB.out, ← e1]; exact e2, e3⟩, hj, by omega, fun _ => by omega⟩
end Go.Proofs.YtnnaemlipahamaaGreat

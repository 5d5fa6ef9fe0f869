/-
  At, Size, Put, Take, Move of the document's slots.
-/
import Derived.Test.YtbhfmceapffhnaaDoorDPut
import Derived.Test.YtbhfmceapffhnaaDoorDRefName
namespace Go.Proofs.YtbhfmceapffhnaaDoor
open Go.RowKit

theorem infoR2 : (Tryd.prog.info? 47).map (fun i => (i.zero, i.size, i.bytes)) = some (some (.agg #[.string ⟨#[]⟩, .int .i64 0]), 2, 24) := by kernel_rfl
set_option maxHeartbeats 1600000 in
theorem rat_any (v : Value) (es : List En) (nm : ByteArray) (w : World) (hv : Es w v es) (hl : es.length ≤ 1099511627776) :
    Calls Tryd.prog 19 #[v, .string nm] w fun e w' => ∃ r, e = .returned (.int .i64 r) ∧ Hid (IdxN es nm r) ∧ w' = w := by
  obtain ⟨a, c, rfl⟩ := hv.form
  by_cases h0 : nm.size = 0
  · have HR : Hid (IdxN es nm (-1)) := .inl ⟨h0, rfl⟩
    have g3 : nm = ⟨#[]⟩ := by
      obtain ⟨⟨l⟩⟩ := nm
      have : l = [] := List.eq_nil_of_length_eq_zero h0
      rw [this]
    subst g3
    by_cases hz : 0 < es.length
    · have q0 : (0 : Int) < es.length := by omega
      go_enter Tryd.func19, Tryd.ntmps19
      go_wp2_with fail
      go_loopw [5] (fun i wr => i = .int .i64 0 ∧ wr = w) (fun _ _ => 0)
      case atStart => exact ⟨rfl, rfl⟩
      case round =>
        obtain ⟨rfl, rfl⟩ := hrel
        go_wp2_with fail
        go_ret
        exact ⟨_, rfl, HR, rfl⟩
    · have q0 : ¬ (0 : Int) < es.length := by omega
      go_enter Tryd.func19, Tryd.ntmps19
      go_wp2_with fail
      go_loopw [5] (fun i wr => i = .int .i64 0 ∧ wr = w) (fun _ _ => 0)
      case atStart => exact ⟨rfl, rfl⟩
      case round =>
        obtain ⟨rfl, rfl⟩ := hrel
        go_wp2_with fail
        go_ret
        exact ⟨_, rfl, HR, rfl⟩
  · have h1 : 1 ≤ nm.size := by omega
    have g0 : (nm.toList == []) = false := beq_eq_false_iff_ne.2 (str_some h1)
    have H1 : Hid (1 ≤ nm.size) := h1
    clear h0 h1
    go_enter Tryd.func19, Tryd.ntmps19
    go_wp2_with fail
    go_loopw [5] (fun i wr => ∃ k : Nat, k ≤ es.length ∧ i = .int .i64 k ∧ wr = w ∧ Hid (∀ j, j < k → ((En.at es j).nm.toList == nm.toList) = false)) (fun i _ => es.length - (intOf i).toNat)
    case atStart => exact ⟨0, Nat.zero_le _, rfl, rfl, fun j h => by omega⟩
    case round =>
      obtain ⟨k, hk, rfl, rfl, hA⟩ := hrel
      by_cases hlt : k < es.length
      · have q1 : (k : Int) < es.length := by omega
        obtain ⟨b, off, rfl, hc⟩ := hv.nth hlt
        obtain ⟨c1, c2⟩ := hc k hlt
        clear hc
        obtain ⟨x, hx⟩ : ∃ x, Hid (es.getD k En.fr = x) := ⟨_, rfl⟩
        rw [hx.out] at c1 c2
        cases hb : (x.nm.toList == nm.toList) with
        | true =>
          have HR : Hid (IdxN es nm (k : Int)) := .inr ⟨H1.out, .inr ⟨k, rfl, hlt, by rw [En.at, hx.out]; exact hb, hA.out⟩⟩
          go_wp2_with fail
          go_ret
          exact ⟨_, rfl, HR, rfl⟩
        | false =>
          have hA' : Hid (∀ j, j < k + 1 → ((En.at es j).nm.toList == nm.toList) = false) := fun j h => by
            rcases (by omega : j < k ∨ j = k) with h | rfl
            · exact hA.out j h
            · rw [En.at, hx.out]; exact hb
          go_wp2_with fail
          go_roundw
          case rel => exact ⟨k + 1, by omega, by go_num, trivial, hA'⟩
          case measure => simp [intOf]; omega
      · have q1 : ¬ (k : Int) < es.length := by omega
        have HR : Hid (IdxN es nm (-1)) := .inr ⟨H1.out, .inl ⟨rfl, fun j hj => hA.out j (by omega)⟩⟩
        go_wp2_with fail
        go_ret
        exact ⟨_, rfl, HR, rfl⟩

set_option maxHeartbeats 800000 in
theorem rsize_any (v : Value) (es : List En) (w : World) (hv : Es w v es) (hl : es.length ≤ 1099511627776) :
    Calls Tryd.prog 39 #[v] w fun e w' => e = .returned (.int .i64 (sizeS es.length : Nat)) ∧ w' = w := by
  obtain ⟨a, c, rfl⟩ := hv.form
  obtain ⟨n, hn⟩ : ∃ n, Hid (es.length = n) := ⟨_, rfl⟩
  rw [hn.out] at hl ⊢
  clear hv hn
  go_enter Tryd.func39, Tryd.ntmps39
  go_wp2_with fail
  go_ret
  refine ⟨?_, rfl⟩
  have e : (((n : Int) + 8 - 1) / 8 * 512) = (sizeS n : Nat) := by unfold sizeS; omega
  rw [← e]
  rfl
end Go.Proofs.YtbhfmceapffhnaaDoor

/-
  A slice of slices of numbers in memory, and append of one string.
-/
import Derived.Test.YtmlhjcjonfalhaaGreatWAll
namespace Go.Proofs.YtmlhjcjonfalhaaGreat
open Go.RowKit Go.Maps

def Iss (w : World) (v : Value) (ll : List (List Int)) : Prop := ∃ a c, v = .slice a ll.length c ∧ ∀ j, j < ll.length → ∃ b off u, a = some ⟨b, off, none⟩ ∧ w.cell? ⟨b, off + j, none⟩ = some u ∧ Is w u (ll.getD j [])
theorem Iss.form {w : World} {v : Value} {ll : List (List Int)} (h : Iss w v ll) : ∃ a c, v = .slice a ll.length c := by
  obtain ⟨a, c, e, _⟩ := h
  exact ⟨a, c, e⟩
theorem info9 : (Tryz.prog.info? 9).map (fun i => (i.zero, i.size, i.bytes)) = some (some (.string ByteArray.empty), 1, 16) := by kernel_rfl
/-- Strings as cells. -/
def scells (ts : List ByteArray) : List Value := ts.map Value.string
theorem Ss.own {w : World} {N n : Nat} {v : Value} {ts : List ByteArray} (h : w.ownsRow N 9 1 v n (scells ts)) (h0 : 0 < n) : Ss w v (fun j => ts.getD j ByteArray.empty) n := by
  have hn : ts.length = n := by have := h.1; simpa [scells] using this
  rcases h.2 with ⟨_, e⟩ | ⟨g, cap, cur, rfl, hb, hg, hnc, hcm, hcs, htake⟩
  · omega
  · refine ⟨g, 0, cap, rfl, hnc, fun j hj => ?_⟩
    have hc := h.cells (g := g) rfl j (.string (ts.getD j ByteArray.empty)) (by simp [scells, List.getD, show j < ts.length by omega])
    rw [add_zero_off] at hc
    rw [Nat.zero_add]; exact hc
theorem own_sl9 {w : World} {N n : Nat} {v : Value} {xs : List Value} (h : w.ownsRow N 9 1 v n xs) : ∃ a cap, v = .slice a n cap := by
  rcases h.2 with ⟨h, e⟩ | ⟨g, cap', _, h, _⟩
  · exact ⟨none, 0, by rw [h, e]⟩
  · exact ⟨_, cap', h⟩
end Go.Proofs.YtmlhjcjonfalhaaGreat

/-
  An act on both slots.
-/
import Derived.Test.YtbhfmceapffhnaaDoorDRefPut2
import Derived.Test.YtbhfmceapffhnaaDoorDNames
namespace Go.Proofs.YtbhfmceapffhnaaDoor
open Go.RowKit

/-- No name is long. -/
def NmL (es : List En) : Prop := ∀ e ∈ es, e.nm.size ≤ 200
theorem nmL_nil : NmL [] := fun _ h => by cases h
theorem NmL.at {es : List En} (h : NmL es) : ∀ j, j < es.length → (es.getD j En.fr).nm.size ≤ 1000000000 := by
  intro j hj
  have : es.getD j En.fr ∈ es := by
    rw [List.getD_eq_getElem?_getD, List.getElem?_eq_getElem hj]
    exact List.getElem_mem hj
  exact Nat.le_trans (h _ this) (by omega)
theorem NmL.set {es : List En} (h : NmL es) (k : Nat) (e : En) (he : e.nm.size ≤ 200) : NmL (es.set k e) := by
  intro x hx
  rcases List.mem_or_eq_of_mem_set hx with h1 | rfl
  · exact h _ h1
  · exact he
theorem IdxN.ex (es : List En) (nm : ByteArray) : IdxN es nm (-1) ∨ ∃ k : Nat, IdxN es nm (k : Int) := by
  by_cases h0 : nm.size = 0
  · exact .inl (.inl ⟨h0, rfl⟩)
  · obtain ⟨r, hr⟩ := Idx.ex es nm
    rcases hr with ⟨rfl, h⟩ | ⟨k, rfl, h⟩
    · exact .inl (.inr ⟨by omega, .inl ⟨rfl, h⟩⟩)
    · exact .inr ⟨k, .inr ⟨by omega, .inr ⟨k, rfl, h⟩⟩⟩
/-- What Put and Take answer: slots, a number, an error. -/
def Ans3 (f : Nat) (args : Value → Array Value) (es es' : List En) (n g : Int) : Prop :=
  ∀ w v, Es w v es → Calls Tryd.prog f (args v) w fun e w' => ∃ u, e = .returned (.tuple #[u, .int .i64 n, .int .i64 g]) ∧ Hid (g = 0 → Es w' u es') ∧ Below w.heap.size w w'
def Ans2 (f : Nat) (args : Value → Array Value) (es es' : List En) (g : Int) : Prop :=
  ∀ w v, Es w v es → Calls Tryd.prog f (args v) w fun e w' => ∃ u, e = .returned (.tuple #[u, .int .i64 g]) ∧ Hid (g = 0 → Es w' u es') ∧ Below w.heap.size w w'
theorem ans3_no {f : Nat} {args : Value → Array Value} {es es' : List En} {n g : Int} (hg : g ≠ 0) (h : ∀ w v, Es w v es → Calls Tryd.prog f (args v) w fun e w' => e = .returned (.tuple #[.slice none 0 0, .int .i64 n, .int .i64 g]) ∧ Below w.heap.size w w') : Ans3 f args es es' n g := fun w v hv => (h w v hv).mono fun _ _ hh => ⟨_, hh.1, fun h0 => absurd h0 hg, hh.2⟩
theorem ans2_no {f : Nat} {args : Value → Array Value} {es es' : List En} {g : Int} (hg : g ≠ 0) (h : ∀ w v, Es w v es → Calls Tryd.prog f (args v) w fun e w' => e = .returned (.tuple #[.slice none 0 0, .int .i64 g]) ∧ Below w.heap.size w w') : Ans2 f args es es' g := fun w v hv => (h w v hv).mono fun _ _ hh => ⟨_, hh.1, fun h0 => absurd h0 hg, hh.2⟩
theorem ans3_ok {f : Nat} {args : Value → Array Value} {es es' : List En} {n g : Int} (h : ∀ w v, Es w v es → Calls Tryd.prog f (args v) w fun e w' => ∃ u, e = .returned (.tuple #[u, .int .i64 n, .int .i64 g]) ∧ Es w' u es' ∧ Below w.heap.size w w') : Ans3 f args es es' n g := fun w v hv => (h w v hv).mono fun _ _ ⟨u, h1, h2, h3⟩ => ⟨u, h1, fun _ => h2, h3⟩
theorem ans2_ok {f : Nat} {args : Value → Array Value} {es es' : List En} {g : Int} (h : ∀ w v, Es w v es → Calls Tryd.prog f (args v) w fun e w' => ∃ u, e = .returned (.tuple #[u, .int .i64 g]) ∧ Es w' u es' ∧ Below w.heap.size w w') : Ans2 f args es es' g := fun w v hv => (h w v hv).mono fun _ _ ⟨u, h1, h2, h3⟩ => ⟨u, h1, fun _ => h2, h3⟩
theorem stays {P : Program} {f : Nat} {args : Array Value} {w : World} {r : Value} (h : Calls P f args w fun e w' => e = .returned r ∧ w' = w) : Calls P f args w fun e w' => e = .returned r ∧ Below w.heap.size w w' :=
  h.mono fun _ _ ⟨h1, h2⟩ => ⟨h1, by rw [h2]; exact Below.refl _ _⟩
theorem put_both (es : List En) (nm : ByteArray) (ino : Int) (hl : es.length ≤ 1000) (hL : NmL es) (hs : nm.size ≤ 200) :
    ∃ (n g : Int) (es' : List En), es'.length ≤ es.length + 1 ∧ NmL es' ∧ Ans3 10 (fun v => #[v, .string nm, .int .i64 ino]) es es' n g ∧ Ans3 11 (fun v => #[v, .string nm, .int .i64 ino]) es es' n g := by
  cases hn : nameB nm with
  | false => exact ⟨0, 12, [], by simp, nmL_nil, ans3_no (by decide) fun w v _ => stays (put_name v nm ino w hn), ans3_no (by decide) fun w v _ => stays (rput_name v nm ino w hn)⟩
  | true =>
    cases hi : decide (1 ≤ ino ∧ ino ≤ 65535) with
    | false => exact ⟨0, 1, [], by simp, nmL_nil, ans3_no (by decide) fun w v _ => stays (put_arg v nm ino w hn hi), ans3_no (by decide) fun w v _ => stays (rput_arg v nm ino w hn hi)⟩
    | true =>
      rcases IdxN.ex es nm with hr | ⟨k, hr⟩
      · obtain ⟨r, hf⟩ := Idx.ex es ⟨#[]⟩
        have hf' := hf
        rcases hf with ⟨rfl, _⟩ | ⟨k, rfl, hk, _⟩
        · refine ⟨_, 0, es ++ [⟨nm, ino⟩], by simp, ?_, ans3_ok fun w v hv => put_more v es nm ino w hv (by omega) hn hi hr hf', ans3_ok fun w v hv => rput_more v es nm ino w hv (by omega) hn hi hr hf'⟩
          intro e he
          rcases List.mem_append.1 he with h | h
          · exact hL _ h
          · rw [List.mem_singleton.1 h]; exact hs
        · exact ⟨_, 0, es.set k ⟨nm, ino⟩, by simp, hL.set k _ hs, ans3_ok fun w v hv => put_free v es nm ino k w hv (by omega) hn hi hr hf', ans3_ok fun w v hv => rput_free v es nm ino k w hv (by omega) hn hi hr hf'⟩
      · exact ⟨0, 9, [], by simp, nmL_nil, ans3_no (by decide) fun w v hv => put_is v es nm ino k w hv (by omega) hn hi hr (by omega), ans3_no (by decide) fun w v hv => stays (rput_is v es nm ino k w hv (by omega) hn hi hr (by omega))⟩
theorem take_both (es : List En) (nm : ByteArray) (hl : es.length ≤ 1000) (hL : NmL es) :
    ∃ (n g : Int) (es' : List En), es'.length ≤ es.length + 1 ∧ NmL es' ∧ Ans3 12 (fun v => #[v, .string nm]) es es' n g ∧ Ans3 13 (fun v => #[v, .string nm]) es es' n g := by
  rcases IdxN.ex es nm with hr | ⟨k, hr⟩
  · exact ⟨0, 8, [], by simp, nmL_nil, ans3_no (by decide) fun w v hv => take_none v es nm w hv (by omega) hr, ans3_no (by decide) fun w v hv => stays (rtake_none v es nm w hv (by omega) hr)⟩
  · exact ⟨_, 0, es.set k En.fr, by simp, hL.set k _ (by decide), ans3_ok fun w v hv => take_ok v es nm k w hv (by omega) hr, ans3_ok fun w v hv => rtake_ok v es nm k w hv (by omega) hr⟩
theorem move_both (es : List En) (old nm : ByteArray) (hl : es.length ≤ 1000) (hL : NmL es) (hs : nm.size ≤ 200) :
    ∃ (g : Int) (es' : List En), es'.length ≤ es.length + 1 ∧ NmL es' ∧ Ans2 14 (fun v => #[v, .string old, .string nm]) es es' g ∧ Ans2 15 (fun v => #[v, .string old, .string nm]) es es' g := by
  rcases IdxN.ex es old with hr | ⟨k, hr⟩
  · exact ⟨8, [], by simp, nmL_nil, ans2_no (by decide) fun w v hv => move_none v es old nm w hv (by omega) hr, ans2_no (by decide) fun w v hv => stays (rmove_none v es old nm w hv (by omega) hr)⟩
  · cases hn : nameB nm with
    | false => exact ⟨12, [], by simp, nmL_nil, ans2_no (by decide) fun w v hv => move_name v es old nm k w hv (by omega) hr hn, ans2_no (by decide) fun w v hv => stays (rmove_name v es old nm k w hv (by omega) hr hn)⟩
    | true =>
      have ok : MvOk es old nm → ∃ (g : Int) (es' : List En), es'.length ≤ es.length + 1 ∧ NmL es' ∧ Ans2 14 (fun v => #[v, .string old, .string nm]) es es' g ∧ Ans2 15 (fun v => #[v, .string old, .string nm]) es es' g := fun hm =>
        ⟨0, mvL es k nm, by simp [mvL], hL.set k _ hs, ans2_ok fun w v hv => move_ok v es old nm k w hv (by omega) hr hn hm, ans2_ok fun w v hv => rmove_ok v es old nm k w hv (by omega) hr hn hm⟩
      cases he : (nm.toList == old.toList) with
      | true => exact ok (.inl he)
      | false =>
        rcases IdxN.ex es nm with hj | ⟨j, hj⟩
        · exact ok (.inr ⟨he, hj⟩)
        · exact ⟨9, [], by simp, nmL_nil, ans2_no (by decide) fun w v hv => move_is v es old nm k j w hv (by omega) hr hn he hj, ans2_no (by decide) fun w v hv => stays (rmove_is v es old nm k j w hv (by omega) hr hn he hj)⟩
end Go.Proofs.YtbhfmceapffhnaaDoor

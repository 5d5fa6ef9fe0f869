/-
  Texts as bytes; a line that comes back.
-/
import Derived.Test.YtfbildadidfolaaLKnown
import Derived.Lib.ConvBytes
namespace Go.Proofs.Ytfbildadidfolaa
open Go.RowKit

theorem toHid {p : Prop} (h : p) : Hid p := h
/-- v reads as the texts ss. -/
def Tx (w : World) (v : Value) (ss : List ByteArray) : Prop :=
  ∃ a c, v = .slice a ss.length c ∧ ss.length ≤ c ∧ c ≤ maxLen ∧ (a = none → c = 0) ∧ (0 < ss.length → ∃ b off, a = some ⟨b, off, none⟩ ∧ ∀ j, j < ss.length → w.cell? ⟨b, off + j, none⟩ = some (Value.string (ss.getD j ByteArray.empty)))
theorem Tx.form {w : World} {v : Value} {ss : List ByteArray} (h : Tx w v ss) : ∃ a c, v = .slice a ss.length c := by
  obtain ⟨a, c, e, _⟩ := h
  exact ⟨a, c, e⟩
theorem Tx.nth {w : World} {a : Option Addr} {n c k : Nat} {ss : List ByteArray} (h : Tx w (.slice a n c) ss) (hk : k < ss.length) : ∃ b off, a = some ⟨b, off, none⟩ ∧ ∀ j, j < ss.length → w.cell? ⟨b, off + j, none⟩ = some (Value.string (ss.getD j ByteArray.empty)) := by
  obtain ⟨a', c', e, _, _, _, hx⟩ := h
  injection e with e1 e2 e3
  subst e1
  exact hx (by omega)
theorem Tx.nil (w : World) : Tx w (.slice none 0 0) [] := ⟨none, 0, rfl, Nat.le_refl _, Nat.zero_le _, fun _ => rfl, fun h => absurd h (by simp)⟩
theorem Tx.below {w w' : World} {v : Value} {ss : List ByteArray} (h : Tx w v ss) (hb : Below w.heap.size w w') : Tx w' v ss := by
  obtain ⟨a, c, e, h1, h2, h3, hx⟩ := h
  refine ⟨a, c, e, h1, h2, h3, fun h0 => ?_⟩
  obtain ⟨b, off, e1, hc'⟩ := hx h0
  exact ⟨b, off, e1, fun j hj => (hb.cell (World.block_lt_of_cell? w _ (hc' j hj))).trans (hc' j hj)⟩

/-- A text's bytes. -/
def sB (s : ByteArray) : List Int := s.data.toList.map fun b => (b.toNat : Int)
theorem sB_len (s : ByteArray) : (sB s).length = s.size := by
  unfold sB
  rw [List.length_map, Array.length_toList]
  rfl
theorem strC_list (xs : List Int) : (strC xs).data.toList = xs.map (fun n => UInt8.ofNat n.toNat) := by
  have h : ∀ (l : List Int) (s : ByteArray), (l.foldl (fun r n => r.push (UInt8.ofNat n.toNat)) s).data.toList = s.data.toList ++ l.map (fun n => UInt8.ofNat n.toNat) := by
    intro l
    induction l with
    | nil => intro s; simp
    | cons x r ih => intro s; rw [List.foldl_cons, ih]; simp [ByteArray.push]
  have := h xs ByteArray.empty
  simpa [strC] using this
theorem strC_sB (l : List UInt8) : (strC (l.map fun b => (b.toNat : Int))).data.toList = l := by
  rw [strC_list, List.map_map]
  conv => rhs; rw [← List.map_id l]
  refine List.map_congr_left fun x _ => ?_
  simp
theorem strC_take (s : ByteArray) (k : Nat) : strC ((sB s).take k) = s.extract 0 k := by
  apply ByteArray.ext
  apply Array.toList_inj.1
  unfold sB
  rw [← List.map_take, strC_sB, ByteArray.data_extract, Array.toList_extract, List.extract_eq_take_drop]
  simp
theorem strC_all (s : ByteArray) : strC (sB s) = s := by
  apply ByteArray.ext
  apply Array.toList_inj.1
  unfold sB
  rw [strC_sB]
/-- The bytes of a text behind the conversion. -/
theorem conv_bytes (w : World) (s : ByteArray) (hs : s.size ≤ 1099511627776) : ∃ c w', (convert 9 31 (.string s)).run Try.prog w = .ok (.slice (some ⟨w.heap.size, 0, none⟩) s.size c) w' ∧ Chg (fun _ => False) w w' ∧ Bs w' (.slice (some ⟨w.heap.size, 0, none⟩) s.size c) (sB s) ∧ s.size ≤ c := by
  have hr := Lib.run_convert_string_bytes (P := Try.prog) w 9 31 5 s Try.underlying9 Try.underlying31 Try.underlying5
  have hsz := Lib.bytesWorld_size w 5 s
  have hge := grownCap_ge w s.size 0 5
  have hle : grownCap w s.size 0 5 ≤ maxLen := grownCap_le_maxLen w s.size 0 5 (by unfold maxLen; omega)
  refine ⟨_, _, hr, ⟨?_, ?_, ?_, by omega, fun k hk _ => Lib.bytesWorld_at_old w 5 s k hk⟩, .inr ⟨⟨w.heap.size, 0, none⟩, _, by rw [sB_len], by rw [sB_len]; exact hge, hle, fun j hj => ?_⟩, hge⟩
  · unfold Lib.bytesWorld World.freeze; split <;> rfl
  · unfold Lib.bytesWorld World.freeze; split <;> rfl
  · unfold Lib.bytesWorld World.freeze; split <;> rfl
  · rw [sB_len] at hj
    have e : (⟨w.heap.size, 0, none⟩ : Addr).add j = ⟨w.heap.size, j, none⟩ := by unfold Addr.add; split <;> simp_all
    rw [e, Lib.bytesWorld_cell w 5 s j hj]
    unfold sB
    have hj2 : j < s.data.toList.length := by simpa using hj
    simp [List.getD, List.getElem?_eq_getElem hj2]
/-- A line is told. -/
theorem feed_line (m : Nat) (a : List Int) (h : ∀ x ∈ a, x ≠ 13) : (Sp.new m).feed (a ++ [13, 10]) = (Sp.new m, [⟨strC (a.take (m - 2)), decide (m - 2 < a.length)⟩]) := by
  rw [Sp.feed_next]
  have e : (Sp.new m).next (a ++ [13, 10]) = (Sp.new m, some (⟨strC (a.take (m - 2)), decide (m - 2 < a.length)⟩, [])) := by
    rw [show a ++ [13, 10] = a ++ 13 :: [10] from rfl, Sp.next_to _ _ _ rfl h, Sp.next, Sp.put_end _ rfl]
    simp [Sp.add, Sp.wait, Sp.reset, Sp.line, Sp.long, Sp.room]
  rw [e]
  rfl
end Go.Proofs.Ytfbildadidfolaa

/-
  Texts as rows of bytes and back.
-/
import Derived.Test.YtefofoocglhdmaaDoorMFit
import Derived.Lib.ConvBytes
import Derived.Laws.BitsAllLaws
namespace Go.Proofs.YtefofoocglhdmaaDoor
open Go.RowKit

def strC (xs : List Int) : ByteArray := xs.foldl (fun r n => r.push (UInt8.ofNat n.toNat)) ByteArray.empty
theorem run_strC {w : World} {u : Value} {xs : List Int} (h : Bs w u xs) : (convert 43 9 u).run Tryd.prog w = .ok (.string (strC xs)) w := by
  rcases h with ⟨rfl, rfl⟩ | ⟨a, c, rfl, hl, hm, hcell⟩
  · rw [run_convert_bytes_string w 43 9 5 _ _ _ Tryd.underlying43 Tryd.underlying5 Tryd.underlying9]
    rfl
  · rw [run_convert_bytes_string w 43 9 5 _ _ _ Tryd.underlying43 Tryd.underlying5 Tryd.underlying9]
    refine run_bytesToString w a xs.length c xs ?_
    have h1 := run_loadCells_list (P := Tryd.prog) w a (bcells xs) (fun j u hu => by obtain ⟨hj, rfl⟩ := bcells_get hu; exact hcell j hj)
    simpa [bcells] using h1
/-- Bytes as ints. -/
def iB (l : List UInt8) : List Int := l.map fun b => (b.toNat : Int)
theorem iB_len (l : List UInt8) : (iB l).length = l.length := by unfold iB; rw [List.length_map]
theorem iB_get (l : List UInt8) (j : Nat) (h : j < l.length) : (iB l).getD j 0 = ((l.getD j 0).toNat : Int) := by
  unfold iB
  simp [List.getD, h]
theorem strC_list (xs : List Int) : (strC xs).data.toList = xs.map (fun n => UInt8.ofNat n.toNat) := by
  have h : ∀ (l : List Int) (s : ByteArray), (l.foldl (fun r n => r.push (UInt8.ofNat n.toNat)) s).data.toList = s.data.toList ++ l.map (fun n => UInt8.ofNat n.toNat) := by
    intro l
    induction l with
    | nil => intro s; simp
    | cons x r ih => intro s; rw [List.foldl_cons, ih]; simp [ByteArray.push]
  have := h xs ByteArray.empty
  simpa [strC] using this
theorem strC_iB (l : List UInt8) : strC (iB l) = bl l := by
  apply ByteArray.ext
  apply Array.toList_inj.1
  rw [strC_list]
  unfold iB
  rw [List.map_map]
  show _ = l
  conv => rhs; rw [← List.map_id l]
  refine List.map_congr_left fun x _ => ?_
  simp
/-- Bytes in block g, that may be written. -/
structure Rowb (w : World) (g : Nat) (l : List UInt8) : Prop where
  ex : ∃ cs fr, w.heap[g]? = some (.cells cs 5 fr) ∧ l.length ≤ cs.size ∧ l.length ≤ fr.1 ∧ ∀ j, j < l.length → cs[j]? = some (.int .u8 ((l.getD j 0).toNat : Int))
theorem Rowb.c {w : World} {g : Nat} {l : List UInt8} (h : Rowb w g l) (j : Nat) (hj : j < l.length) : w.cell? ⟨g, j, none⟩ = some (.int .u8 ((l.getD j 0).toNat : Int)) := by
  obtain ⟨cs, fr, h1, h2, h3, h4⟩ := h
  rw [cell_of_row w g j cs 5 fr h1]
  exact h4 j hj
theorem Rowb.fr {w : World} {g : Nat} {l : List UInt8} (h : Rowb w g l) (j : Nat) (hj : j < l.length) : w.frozen? ⟨g, j, none⟩ = false := by
  obtain ⟨cs, ⟨a, b⟩, h1, h2, h3, h4⟩ := h
  unfold World.frozen?
  rw [h1]
  have : ¬ a ≤ j := by simp at h3; omega
  simp [this]
theorem Rowb.lt {w : World} {g : Nat} {l : List UInt8} (h : Rowb w g l) : g < w.heap.size := by
  obtain ⟨cs, fr, h1, _⟩ := h
  exact lt_of_block h1
theorem Rowb.kept {S : Nat → Prop} {w w' : World} {g : Nat} {l : List UInt8} (h : Rowb w g l) (hc : Chg S w w') (hS : ¬ S g) : Rowb w' g l := by
  have hlt := h.lt
  obtain ⟨cs, fr, h1, h2⟩ := h
  exact ⟨cs, fr, (hc.block g hlt hS).trans h1, h2⟩
theorem Rowb.set {w : World} {g : Nat} {l : List UInt8} (h : Rowb w g l) (k : Nat) (hk : k < l.length) (c : UInt8) : Rowb (w.setCell ⟨g, k, none⟩ (.int .u8 (c.toNat : Int))) g (l.set k c) := by
  obtain ⟨cs, fr, h1, h2, h3, h4⟩ := h
  refine ⟨_, fr, Lib.heap_setCell_same h1 _, by simp; omega, by simp; omega, fun j hj => ?_⟩
  rw [List.length_set] at hj
  by_cases e : j = k
  · subst e
    rw [Array.getElem?_setIfInBounds_self_of_lt (by omega)]
    simp [List.getD, hj]
  · rw [Array.getElem?_setIfInBounds_ne (by omega), h4 j hj]
    simp [List.getD, Ne.symm e]
theorem Rowb.bs {w : World} {g : Nat} {l : List UInt8} (h : Rowb w g l) (c : Nat) (h1 : l.length ≤ c) (h2 : c ≤ maxLen) : Bs w (.slice (some ⟨g, 0, none⟩) l.length c) (iB l) := by
  refine .inr ⟨⟨g, 0, none⟩, c, by rw [iB_len], by rw [iB_len]; exact h1, h2, fun j hj => ?_⟩
  rw [iB_len] at hj
  have e : (⟨g, 0, none⟩ : Addr).add j = ⟨g, j, none⟩ := by unfold Addr.add; split <;> simp_all
  rw [e, h.c j hj, iB_get l j hj]
/-- The bytes of a text behind the conversion. -/
theorem conv_row (w : World) (s : ByteArray) (hs : s.size ≤ 1099511627776) : ∃ c w', (convert 9 43 (.string s)).run Tryd.prog w = .ok (.slice (some ⟨w.heap.size, 0, none⟩) s.size c) w' ∧ Below w.heap.size w w' ∧ Rowb w' w.heap.size s.data.toList ∧ s.size ≤ c ∧ c ≤ maxLen := by
  have hr := Lib.run_convert_string_bytes (P := Tryd.prog) w 9 43 5 s Tryd.underlying9 Tryd.underlying43 Tryd.underlying5
  have hge := grownCap_ge w s.size 0 5
  have hle : grownCap w s.size 0 5 ≤ maxLen := grownCap_le_maxLen w s.size 0 5 (by unfold maxLen; omega)
  have hz : s.size = s.data.toList.length := by simp
  have hsz : (Lib.bytesCells w 5 s).size = s.size + (grownCap w s.size 0 5 - s.size) := by simp [Lib.bytesCells, grownCap]
  refine ⟨_, _, hr, Lib.bytesWorld_below w 5 s, ⟨_, _, Lib.bytesWorld_at_new w 5 s, ?_, ?_, fun j hj => ?_⟩, hge, hle⟩
  · rw [hsz]; omega
  · show _ ≤ (Lib.bytesCells w 5 s).size
    rw [hsz]; omega
  · rw [← hz] at hj
    have h1 := Lib.bytesWorld_cell w 5 s j hj
    rw [cell_of_row _ _ _ _ _ _ (Lib.bytesWorld_at_new w 5 s)] at h1
    rw [h1]
end Go.Proofs.YtefofoocglhdmaaDoor

/-
  What the rows of this seat share: the table out of the row's list, a slice of bytes as it comes in, and a world for the witness.
-/
import Derived.Test.YtlnjnimenihhnaaGreatDoorCards
import Derived.Test.YtlnjnimenihhnaaGreatDoorTie
import Derived.Test.YtlnjnimenihhnaaGreatDoorTInode
import Derived.ProofKit
import Derived.OpenShut
import Derived.ShutString
import Derived.ChangeOld
import Derived.Deep.DeepHandedRow
import Derived.Lib.LaidTab
namespace Go.Proofs.YtlnjnimenihhnaaGreatDoor
open Go.ChangeShapes Go.WideShapes Go.ChangeAt Go.RowKit

theorem ownKC : ownKnob Tryz.prog.godebug = none := by kernel_rfl
theorem laidOutC : laidOutB Tryz.prog = true := by kernel_rfl
theorem gTab : Tryz.prog.globalNamed "mailbag/codec.sums" = some 0 := by kernel_rfl
theorem gTabType : (Tryz.prog.globals[0]?).map (·.type) = some 194 := by kernel_rfl
theorem cellsTab : Tryz.prog.cellsOf 194 = 16 := by kernel_rfl
theorem cellsU32 : Tryz.prog.cellsOf 175 = 1 := by kernel_rfl

/-- What the rows' list gives: the table's cells hold its sixteen numbers. -/
theorem table {W : World} (h : laidMetH Tryz.prog [("mailbag/codec.sums", Rows.laid_mailbag_codec_sums)] W) : Tab W := by
  have t : Lib.TabIs Tryz.prog W "mailbag/codec.sums" .u32 [0, 498536548, 997073096, 651767980, 1994146192, 1802195444, 1303535960, 1342533948, 3988292384, 4027552580, 3604390888, 3412177804, 2607071920, 2262029012, 2685067896, 3183342108] :=
    Lib.tabIs_of_head (rest := []) gTab gTabType Tryz.underlying194 Tryz.underlying175 cellsU32 cellsTab h
  intro j hj
  have h1 := t.cell gTab j hj
  rw [h1]
  have e : ∀ i : Fin 16, ([0, 498536548, 997073096, 651767980, 1994146192, 1802195444, 1303535960, 1342533948, 3988292384, 4027552580, 3604390888, 3412177804, 2607071920, 2262029012, 2685067896, 3183342108] : List Int).getD i.val 0 = ((tabN.getD i.val 0 : Nat) : Int) := by decide
  rw [e ⟨j, hj⟩]

/-- A world for the witness: the settled one, the table holding what its initialiser lays. -/
def laidWorld (P : Program) (os : Os) : World :=
  { World.holding P os ⟨#[], #[], []⟩ with heap := (World.holding P os ⟨#[], #[], []⟩).heap.modify 0 fun
      | .cells _ t frozen => .cells #[.int .u32 0, .int .u32 498536548, .int .u32 997073096, .int .u32 651767980, .int .u32 1994146192, .int .u32 1802195444, .int .u32 1303535960, .int .u32 1342533948, .int .u32 3988292384, .int .u32 4027552580, .int .u32 3604390888, .int .u32 3412177804, .int .u32 2607071920, .int .u32 2262029012, .int .u32 2685067896, .int .u32 3183342108] t frozen
      | o => o }

/-- A slice of bytes as it comes in. -/
theorem bytesInC {H : Type} {enc : TypeId × Value → H} {W : World} {a0 : Option Addr} {len0 cap0 : Nat} {d : DataW H} {p : List MemPlace} (h : DataW.Trod enc Tryz.prog W 0 (fun _ => true) true 33 (.slice a0 len0 cap0) d p) :
    ∃ bs : List Int, Bs W (.slice a0 len0 cap0) bs ∧ IsB bs := by
  obtain ⟨fuel, hf⟩ := h
  rcases open_ints Tryz.underlying33 Tryz.underlying5 (by kernel_rfl) hf with ⟨hcs, _⟩ | ⟨x, l, c, zs, hcs, _, hl, hm, hz, _, hcell, hwz⟩
  · simp [Value.cells] at hcs
    obtain ⟨rfl, rfl, rfl⟩ := hcs
    exact ⟨[], .inl ⟨rfl, rfl⟩, fun x hx => by cases hx⟩
  · simp [Value.cells] at hcs
    obtain ⟨rfl, rfl, rfl⟩ := hcs
    have hz' : zs.length = cap0 := by simpa using hz
    have hlen : (zs.take len0).length = len0 := by simp; omega
    refine ⟨zs.take len0, .inr ⟨x, cap0, by rw [hlen], by omega, hm, fun j hj => ?_⟩, fun y hy => ?_⟩
    · rw [hlen] at hj
      rw [hcell j (by omega)]
      simp [List.getD, hj]
    · have := bounds_u8 (hwz y (List.mem_of_mem_take hy))
      omega
theorem Chg.belowC {w w' : World} (h : Chg (fun _ => False) w w') : Below w.heap.size w w' := ⟨h.os, h.tape, h.output, h.size, fun k hk => h.block k hk (fun h => h)⟩
end Go.Proofs.YtlnjnimenihhnaaGreatDoor

/-
  AddrPairs' list: codec's table too.
-/
import Derived.Test.YtefofoocglhdmaaDoorMFrame
import Derived.Test.YtefofoocglhdmaaDoorKSum
namespace Go.Proofs.YtefofoocglhdmaaDoor
open Go.ChangeShapes Go.WideShapes Go.ChangeAt Go.RowKit

theorem gTab : Tryd.prog.globalNamed "mailbag/codec.sums" = some 0 := by kernel_rfl
theorem tab_eq : (Rows.laid_mailbag_codec_sums : DataW Unit) = Lib.tabData .u32 [0, 498536548, 997073096, 651767980, 1994146192, 1802195444, 1303535960, 1342533948, 3988292384, 4027552580, 3604390888, 3412177804, 2607071920, 2262029012, 2685067896, 3183342108] := by kernel_rfl
theorem table {W : World} {r : List (String × DataW Unit)} (h : laidMet Tryd.prog (("mailbag/codec.sums", Rows.laid_mailbag_codec_sums) :: r) W) : Tab W := by
  rw [tab_eq] at h
  have t : Lib.TabIs Tryd.prog W "mailbag/codec.sums" .u32 [0, 498536548, 997073096, 651767980, 1994146192, 1802195444, 1303535960, 1342533948, 3988292384, 4027552580, 3604390888, 3412177804, 2607071920, 2262029012, 2685067896, 3183342108] :=
    Lib.tabIs_of_head gTab (by kernel_rfl) Tryd.underlying64 Tryd.underlying39 (by kernel_rfl) (by kernel_rfl) h
  intro j hj
  have h1 := t.cell gTab j hj
  rw [h1]
  have e : ∀ i : Fin 16, ([0, 498536548, 997073096, 651767980, 1994146192, 1802195444, 1303535960, 1342533948, 3988292384, 4027552580, 3604390888, 3412177804, 2607071920, 2262029012, 2685067896, 3183342108] : List Int).getD i.val 0 = ((tabN.getD i.val 0 : Nat) : Int) := by decide
  rw [e ⟨j, hj⟩]
theorem facts8 {W : World} (h : laidMet Tryd.prog [("mailbag/codec.sums", Rows.laid_mailbag_codec_sums), ("math/bits.deBruijn32tab", Rows.laid_math_bits_deBruijn32tab), ("math/bits.deBruijn64tab", Rows.laid_math_bits_deBruijn64tab), ("internal/strconv.uint64pow10", Rows.laid_internal_strconv_uint64pow10), ("unicode/utf8.acceptRanges", Rows.laid_unicode_utf8_acceptRanges), ("strconv.ErrRange", Rows.laid_strconv_ErrRange), ("strconv.ErrSyntax", Rows.laid_strconv_ErrSyntax), ("unicode/utf8.first", Rows.laid_unicode_utf8_first)] W) : Vr W.heap.size W ∧ Tab W :=
  ⟨facts7 h.tail, table h⟩
end Go.Proofs.YtefofoocglhdmaaDoor

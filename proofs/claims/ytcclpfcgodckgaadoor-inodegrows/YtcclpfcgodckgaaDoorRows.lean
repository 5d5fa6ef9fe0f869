/-
  NARROWER THAN 'FOR EVERY INPUT', by the rows' own cells (each row's printed sentence says how): InodeBytes: laid · InodePlaces: laid · InodeGrows: laid · InodeBits: laid.
  DERIVED. THE GIVEN ROWS OF THIS SEAT. 4 by the template 'for every input the law returns true; each argument reads behind the call as it read before'; 0 by the template 'total and deterministic' (their statements: YtcclpfcgodckgaaDoorTotals.lean).
  GIVEN WITH THE SEED: the statements are not yours to turn. If you find one false, say at which input.
  Laid BY PROGRAM, IN A SANDBOX (cutbox-rows.mjs): the forced cells as the released guide's own fill.sh prints them over the translation b82d2ce7a381be6c… (all of the seat's roots in one cut). By AI agents, Wed Nov 11 2026. No macro, syntax, notation, axiom, sorry.
-/
import Derived.Test.YtcclpfcgodckgaaDoorChecked
import GoSem.Claim
import GoSem.ClaimJoined
import GoSem.ClaimMapViews
import Derived.JoinedTies
import Derived.KernelRfl
namespace Go.Proofs.YtcclpfcgodckgaaDoor
/- THE CELL 'sum', in the pinned program and in every row, IS THE sha256 OF THE DUMP (.gsa) THAT YtcclpfcgodckgaaDoorProg.lean LOADS. Nothing in Lean hashes anything: it is a label: what it is worth is what the hold of that sum in a sandbox is worth. -/
noncomputable def Tryd.pinned : Pinned := { name := "ytcclpfcgodckgaadoor", sum := "b82d2ce7a381be6c260ee14396ab8a48d055110f99a8007bb148db36278445f7", checked := Tryd.checked }
namespace Rows
def none {H : Type} : Left H := { results := [], args := [] }

/- WHAT THE LISTED PACKAGE-LEVEL VARIABLES READ AS WHEN THE CALL BEGINS. Each datum BY PROGRAM (the guide's laid-datum.mjs) off the statement by which the dump's own 'gosem.cut.vars' lays the variable. In a bare row this is a premise. The card (YtcclpfcgodckgaaDoorCards.lean) ties it to the program's text. -/
def laid_mailbag_codec_sums {H : Type} : DataW H := .agg [.lit (.int .u32 0), .lit (.int .u32 498536548), .lit (.int .u32 997073096), .lit (.int .u32 651767980), .lit (.int .u32 1994146192), .lit (.int .u32 1802195444), .lit (.int .u32 1303535960), .lit (.int .u32 1342533948), .lit (.int .u32 3988292384), .lit (.int .u32 4027552580), .lit (.int .u32 3604390888), .lit (.int .u32 3412177804), .lit (.int .u32 2607071920), .lit (.int .u32 2262029012), .lit (.int .u32 2685067896), .lit (.int .u32 3183342108)]

/-- 'mailbaglaw7.InodeBytes': WHATEVER THE INPUT: true; the input reads as it did. -/
def inodeBytesSpec : ChangeSpec := { name := "inodeBytes", fn := fun _ => fun
  | [d1, d2] => { results := [.lit (.bool true)], args := [d1, d2] }
  | _ => none }
def inodeBytesRow : OpenClaim := { program := "ytcclpfcgodckgaadoor", sum := "b82d2ce7a381be6c260ee14396ab8a48d055110f99a8007bb148db36278445f7", func := "mailbag/mailbaglaw7.InodeBytes", spec := "inodeBytes", named := ["mailbag/codec.sums"], apart := false, laid := [("mailbag/codec.sums", laid_mailbag_codec_sums)] }
def InodeBytesSaid : Prop := inodeBytesRow.holds Tryd.pinned (OpenSpec.ofChange inodeBytesSpec)

/-- ITS FALSE NEIGHBOUR: 'it returns false'. Refute it at one input. -/
def inodeBytesWrong : ChangeSpec := { name := "inodeBytes", fn := fun _ => fun
  | [d1, d2] => { results := [.lit (.bool false)], args := [d1, d2] }
  | _ => none }
def InodeBytesWrongFalsely : Prop := inodeBytesRow.holds Tryd.pinned (OpenSpec.ofChange inodeBytesWrong)

/-- 'mailbaglaw7.InodePlaces': WHATEVER THE INPUT: true; the input reads as it did. -/
def inodePlacesSpec : ChangeSpec := { name := "inodePlaces", fn := fun _ => fun
  | [d1, d2] => { results := [.lit (.bool true)], args := [d1, d2] }
  | _ => none }
def inodePlacesRow : OpenClaim := { program := "ytcclpfcgodckgaadoor", sum := "b82d2ce7a381be6c260ee14396ab8a48d055110f99a8007bb148db36278445f7", func := "mailbag/mailbaglaw7.InodePlaces", spec := "inodePlaces", named := ["mailbag/codec.sums"], apart := false, laid := [("mailbag/codec.sums", laid_mailbag_codec_sums)] }
def InodePlacesSaid : Prop := inodePlacesRow.holds Tryd.pinned (OpenSpec.ofChange inodePlacesSpec)

/-- ITS FALSE NEIGHBOUR: 'it returns false'. Refute it at one input. -/
def inodePlacesWrong : ChangeSpec := { name := "inodePlaces", fn := fun _ => fun
  | [d1, d2] => { results := [.lit (.bool false)], args := [d1, d2] }
  | _ => none }
def InodePlacesWrongFalsely : Prop := inodePlacesRow.holds Tryd.pinned (OpenSpec.ofChange inodePlacesWrong)

/-- 'mailbaglaw7.InodeGrows': WHATEVER THE INPUT: true; the input reads as it did. -/
def inodeGrowsSpec : ChangeSpec := { name := "inodeGrows", fn := fun _ => fun
  | [d1, d2] => { results := [.lit (.bool true)], args := [d1, d2] }
  | _ => none }
def inodeGrowsRow : OpenClaim := { program := "ytcclpfcgodckgaadoor", sum := "b82d2ce7a381be6c260ee14396ab8a48d055110f99a8007bb148db36278445f7", func := "mailbag/mailbaglaw7.InodeGrows", spec := "inodeGrows", named := ["mailbag/codec.sums"], apart := false, laid := [("mailbag/codec.sums", laid_mailbag_codec_sums)] }
def InodeGrowsSaid : Prop := inodeGrowsRow.holds Tryd.pinned (OpenSpec.ofChange inodeGrowsSpec)

/-- ITS FALSE NEIGHBOUR: 'it returns false'. Refute it at one input. -/
def inodeGrowsWrong : ChangeSpec := { name := "inodeGrows", fn := fun _ => fun
  | [d1, d2] => { results := [.lit (.bool false)], args := [d1, d2] }
  | _ => none }
def InodeGrowsWrongFalsely : Prop := inodeGrowsRow.holds Tryd.pinned (OpenSpec.ofChange inodeGrowsWrong)

/-- 'mailbaglaw7.InodeBits': WHATEVER THE INPUT: true; the input reads as it did. -/
def inodeBitsSpec : ChangeSpec := { name := "inodeBits", fn := fun _ => fun
  | [d1, d2, d3] => { results := [.lit (.bool true)], args := [d1, d2, d3] }
  | _ => none }
def inodeBitsRow : OpenClaim := { program := "ytcclpfcgodckgaadoor", sum := "b82d2ce7a381be6c260ee14396ab8a48d055110f99a8007bb148db36278445f7", func := "mailbag/mailbaglaw7.InodeBits", spec := "inodeBits", named := ["mailbag/codec.sums"], apart := false, laid := [("mailbag/codec.sums", laid_mailbag_codec_sums)] }
def InodeBitsSaid : Prop := inodeBitsRow.holds Tryd.pinned (OpenSpec.ofChange inodeBitsSpec)

/-- ITS FALSE NEIGHBOUR: 'it returns false'. Refute it at one input. -/
def inodeBitsWrong : ChangeSpec := { name := "inodeBits", fn := fun _ => fun
  | [d1, d2, d3] => { results := [.lit (.bool false)], args := [d1, d2, d3] }
  | _ => none }
def InodeBitsWrongFalsely : Prop := inodeBitsRow.holds Tryd.pinned (OpenSpec.ofChange inodeBitsWrong)

/- THE SECOND FORM. 'bulk': how many values and letters a reading holds, each counted each time it is reached (what is shared counts as often as it is met; a slice's spare places count too). A statement '..UptoSaid' is the law's where the arguments, and the package variables that the reading takes, are together of bulk at most 1048576: NARROWER than '..Said'. Prove '..Said' where nothing that the law and all that it calls make is longer than what came in: it says more and counts as full. Else prove '..UptoSaid'. A law counts once. -/
mutual
def uptoBulk {H : Type} : DataW H → Nat
  | .lit (.string bytes) => bytes.length + 1
  | .lit _ => 1
  | .nil => 1
  | .ptr d => uptoBulk d + 1
  | .slice elems spare => uptoBulkAll elems + uptoBulkAll spare + 1
  | .agg parts => uptoBulkAll parts + 1
  | .iface _ d => uptoBulk d + 1
  | .map entries => uptoBulkEntries entries + 1
  | .held _ => 1
def uptoBulkAll {H : Type} : List (DataW H) → Nat
  | [] => 0
  | d :: r => uptoBulk d + uptoBulkAll r
def uptoBulkEntries {H : Type} : List (Lit × DataW H) → Nat
  | [] => 0
  | x :: r => uptoBulkEntry x + uptoBulkEntries r
def uptoBulkEntry {H : Type} : Lit × DataW H → Nat
  | (.string bytes, d) => bytes.length + uptoBulk d + 1
  | (_, d) => uptoBulk d + 1
 end
def uptoSmall : (H : Type) → List (DataW H) → Bool := fun _ ds => decide (uptoBulkAll ds ≤ 1048576)
def OpenSpec.upto (s : _root_.Go.ChangeSpec) : _root_.Go.OpenSpec := { _root_.Go.OpenSpec.ofChange s with cond := some uptoSmall }

/-- 'mailbaglaw7.InodeBytes', WHERE WHAT IT READS IS OF BULK AT MOST 1048576: true; the input reads as it did. -/
def inodeBytesUptoRow : OpenClaim := { program := "ytcclpfcgodckgaadoor", sum := "b82d2ce7a381be6c260ee14396ab8a48d055110f99a8007bb148db36278445f7", func := "mailbag/mailbaglaw7.InodeBytes", spec := "inodeBytes", named := ["mailbag/codec.sums"], apart := false, laid := [("mailbag/codec.sums", laid_mailbag_codec_sums)], narrowed := true }
def InodeBytesUptoSaid : Prop := inodeBytesUptoRow.holds Tryd.pinned (OpenSpec.upto inodeBytesSpec)

/-- 'mailbaglaw7.InodePlaces', WHERE WHAT IT READS IS OF BULK AT MOST 1048576: true; the input reads as it did. -/
def inodePlacesUptoRow : OpenClaim := { program := "ytcclpfcgodckgaadoor", sum := "b82d2ce7a381be6c260ee14396ab8a48d055110f99a8007bb148db36278445f7", func := "mailbag/mailbaglaw7.InodePlaces", spec := "inodePlaces", named := ["mailbag/codec.sums"], apart := false, laid := [("mailbag/codec.sums", laid_mailbag_codec_sums)], narrowed := true }
def InodePlacesUptoSaid : Prop := inodePlacesUptoRow.holds Tryd.pinned (OpenSpec.upto inodePlacesSpec)

/-- 'mailbaglaw7.InodeGrows', WHERE WHAT IT READS IS OF BULK AT MOST 1048576: true; the input reads as it did. -/
def inodeGrowsUptoRow : OpenClaim := { program := "ytcclpfcgodckgaadoor", sum := "b82d2ce7a381be6c260ee14396ab8a48d055110f99a8007bb148db36278445f7", func := "mailbag/mailbaglaw7.InodeGrows", spec := "inodeGrows", named := ["mailbag/codec.sums"], apart := false, laid := [("mailbag/codec.sums", laid_mailbag_codec_sums)], narrowed := true }
def InodeGrowsUptoSaid : Prop := inodeGrowsUptoRow.holds Tryd.pinned (OpenSpec.upto inodeGrowsSpec)

/-- 'mailbaglaw7.InodeBits', WHERE WHAT IT READS IS OF BULK AT MOST 1048576: true; the input reads as it did. -/
def inodeBitsUptoRow : OpenClaim := { program := "ytcclpfcgodckgaadoor", sum := "b82d2ce7a381be6c260ee14396ab8a48d055110f99a8007bb148db36278445f7", func := "mailbag/mailbaglaw7.InodeBits", spec := "inodeBits", named := ["mailbag/codec.sums"], apart := false, laid := [("mailbag/codec.sums", laid_mailbag_codec_sums)], narrowed := true }
def InodeBitsUptoSaid : Prop := inodeBitsUptoRow.holds Tryd.pinned (OpenSpec.upto inodeBitsSpec)

end Rows
end Go.Proofs.YtcclpfcgodckgaaDoor

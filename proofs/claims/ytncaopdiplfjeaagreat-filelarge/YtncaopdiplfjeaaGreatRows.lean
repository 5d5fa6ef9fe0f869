/-
  No cell of these rows narrows 'for every input' (looked for: loops, veiled, ifaces, maps, wideKeys, modest, calm, conditions, laid).
  DERIVED. THE GIVEN ROWS OF THIS SEAT. 5 by the template 'for every input the law returns true; each argument reads behind the call as it read before'; 0 by the template 'total and deterministic' (their statements: YtncaopdiplfjeaaGreatTotals.lean).
  GIVEN WITH THE SEED: the statements are not yours to turn. If you find one false, say at which input.
  Laid BY PROGRAM, IN A SANDBOX (cutbox-rows.mjs): the forced cells as the released guide's own fill.sh prints them over the translation bedb6709c1ce2523… (all of the seat's roots in one cut). By AI agents, Wed Nov 11 2026. No macro, syntax, notation, axiom, sorry.
-/
import Derived.Test.YtncaopdiplfjeaaGreatChecked
import GoSem.Claim
import GoSem.ClaimJoined
import GoSem.ClaimMapViews
import Derived.JoinedTies
import Derived.KernelRfl
namespace Go.Proofs.YtncaopdiplfjeaaGreat
/- THE CELL 'sum', in the pinned program and in every row, IS THE sha256 OF THE DUMP (.gsa) THAT YtncaopdiplfjeaaGreatProg.lean LOADS. Nothing in Lean hashes anything: it is a label: what it is worth is what the hold of that sum in a sandbox is worth. -/
noncomputable def Tryz.pinned : Pinned := { name := "ytncaopdiplfjeaagreat", sum := "bedb6709c1ce2523a3c51def42a7223b0821d03b922fe03de9ab925110f46cf6", checked := Tryz.checked }
namespace Rows
def none {H : Type} : Left H := { results := [], args := [] }

/-- 'mailbaglaw8.FilePlays': WHATEVER THE INPUT: true; the input reads as it did. -/
def filePlaysSpec : ChangeSpec := { name := "filePlays", fn := fun _ => fun
  | [d1, d2] => { results := [.lit (.bool true)], args := [d1, d2] }
  | _ => none }
def filePlaysRow : OpenClaim := { program := "ytncaopdiplfjeaagreat", sum := "bedb6709c1ce2523a3c51def42a7223b0821d03b922fe03de9ab925110f46cf6", func := "mailbag/mailbaglaw8.FilePlays", spec := "filePlays", unfollowed := true, recurses := true, apart := false }
def FilePlaysSaid : Prop := filePlaysRow.holds Tryz.pinned (OpenSpec.ofChange filePlaysSpec)

/-- ITS FALSE NEIGHBOUR: 'it returns false'. Refute it at one input. -/
def filePlaysWrong : ChangeSpec := { name := "filePlays", fn := fun _ => fun
  | [d1, d2] => { results := [.lit (.bool false)], args := [d1, d2] }
  | _ => none }
def FilePlaysWrongFalsely : Prop := filePlaysRow.holds Tryz.pinned (OpenSpec.ofChange filePlaysWrong)

/-- 'mailbaglaw8.FileFull': WHATEVER THE INPUT: true; the input reads as it did. -/
def fileFullSpec : ChangeSpec := { name := "fileFull", fn := fun _ => fun
  | [d1, d2] => { results := [.lit (.bool true)], args := [d1, d2] }
  | _ => none }
def fileFullRow : OpenClaim := { program := "ytncaopdiplfjeaagreat", sum := "bedb6709c1ce2523a3c51def42a7223b0821d03b922fe03de9ab925110f46cf6", func := "mailbag/mailbaglaw8.FileFull", spec := "fileFull", unfollowed := true, recurses := true, apart := false }
def FileFullSaid : Prop := fileFullRow.holds Tryz.pinned (OpenSpec.ofChange fileFullSpec)

/-- ITS FALSE NEIGHBOUR: 'it returns false'. Refute it at one input. -/
def fileFullWrong : ChangeSpec := { name := "fileFull", fn := fun _ => fun
  | [d1, d2] => { results := [.lit (.bool false)], args := [d1, d2] }
  | _ => none }
def FileFullWrongFalsely : Prop := fileFullRow.holds Tryz.pinned (OpenSpec.ofChange fileFullWrong)

/-- 'mailbaglaw8.FileReads': WHATEVER THE INPUT: true; the input reads as it did. -/
def fileReadsSpec : ChangeSpec := { name := "fileReads", fn := fun _ => fun
  | [d1, d2, d3, d4, d5] => { results := [.lit (.bool true)], args := [d1, d2, d3, d4, d5] }
  | _ => none }
def fileReadsRow : OpenClaim := { program := "ytncaopdiplfjeaagreat", sum := "bedb6709c1ce2523a3c51def42a7223b0821d03b922fe03de9ab925110f46cf6", func := "mailbag/mailbaglaw8.FileReads", spec := "fileReads", unfollowed := true, recurses := true, apart := false }
def FileReadsSaid : Prop := fileReadsRow.holds Tryz.pinned (OpenSpec.ofChange fileReadsSpec)

/-- ITS FALSE NEIGHBOUR: 'it returns false'. Refute it at one input. -/
def fileReadsWrong : ChangeSpec := { name := "fileReads", fn := fun _ => fun
  | [d1, d2, d3, d4, d5] => { results := [.lit (.bool false)], args := [d1, d2, d3, d4, d5] }
  | _ => none }
def FileReadsWrongFalsely : Prop := fileReadsRow.holds Tryz.pinned (OpenSpec.ofChange fileReadsWrong)

/-- 'mailbaglaw8.FileApart': WHATEVER THE INPUT: true; the input reads as it did. -/
def fileApartSpec : ChangeSpec := { name := "fileApart", fn := fun _ => fun
  | [d1, d2] => { results := [.lit (.bool true)], args := [d1, d2] }
  | _ => none }
def fileApartRow : OpenClaim := { program := "ytncaopdiplfjeaagreat", sum := "bedb6709c1ce2523a3c51def42a7223b0821d03b922fe03de9ab925110f46cf6", func := "mailbag/mailbaglaw8.FileApart", spec := "fileApart", unfollowed := true, recurses := true, apart := false }
def FileApartSaid : Prop := fileApartRow.holds Tryz.pinned (OpenSpec.ofChange fileApartSpec)

/-- ITS FALSE NEIGHBOUR: 'it returns false'. Refute it at one input. -/
def fileApartWrong : ChangeSpec := { name := "fileApart", fn := fun _ => fun
  | [d1, d2] => { results := [.lit (.bool false)], args := [d1, d2] }
  | _ => none }
def FileApartWrongFalsely : Prop := fileApartRow.holds Tryz.pinned (OpenSpec.ofChange fileApartWrong)

/-- 'mailbaglaw8.FileLarge': WHATEVER THE INPUT: true; the input reads as it did. -/
def fileLargeSpec : ChangeSpec := { name := "fileLarge", fn := fun _ => fun
  | [d1, d2] => { results := [.lit (.bool true)], args := [d1, d2] }
  | _ => none }
def fileLargeRow : OpenClaim := { program := "ytncaopdiplfjeaagreat", sum := "bedb6709c1ce2523a3c51def42a7223b0821d03b922fe03de9ab925110f46cf6", func := "mailbag/mailbaglaw8.FileLarge", spec := "fileLarge", unfollowed := true, recurses := true, apart := false }
def FileLargeSaid : Prop := fileLargeRow.holds Tryz.pinned (OpenSpec.ofChange fileLargeSpec)

/-- ITS FALSE NEIGHBOUR: 'it returns false'. Refute it at one input. -/
def fileLargeWrong : ChangeSpec := { name := "fileLarge", fn := fun _ => fun
  | [d1, d2] => { results := [.lit (.bool false)], args := [d1, d2] }
  | _ => none }
def FileLargeWrongFalsely : Prop := fileLargeRow.holds Tryz.pinned (OpenSpec.ofChange fileLargeWrong)

/- THE SECOND FORM. 'bulk': how many values and letters a reading holds, each counted each time it is reached (what is shared counts as often as it is met; a slice's spare places count too). A statement '..UptoSaid' is the law's where the arguments, and the package variables that the reading takes, are together of bulk at most 1048576: NARROWER than '..Said'. Prove '..Said' where nothing that the law and all that it calls make is longer than what came in: it says more and counts as full. Else prove '..UptoSaid'. A law counts once. -/
mutual
def uptoBulk {H : Type} : DataW H → Nat
  | .lit (.string bytes) => bytes.length + 1
  | .lit _ => 1
  | .nil => 1
  | .ptr d => uptoBulk d + 1
  | .slice elems spare => uptoBulkAll elems + uptoBulkAll spare + 1
  | .agg parts => uptoBulkAll parts + 1
  | .iface _ d => uptoBulk d + 1
  | .map entries => uptoBulkEntries entries + 1
  | .held _ => 1
def uptoBulkAll {H : Type} : List (DataW H) → Nat
  | [] => 0
  | d :: r => uptoBulk d + uptoBulkAll r
def uptoBulkEntries {H : Type} : List (Lit × DataW H) → Nat
  | [] => 0
  | x :: r => uptoBulkEntry x + uptoBulkEntries r
def uptoBulkEntry {H : Type} : Lit × DataW H → Nat
  | (.string bytes, d) => bytes.length + uptoBulk d + 1
  | (_, d) => uptoBulk d + 1
 end
def uptoSmall : (H : Type) → List (DataW H) → Bool := fun _ ds => decide (uptoBulkAll ds ≤ 1048576)
def OpenSpec.upto (s : _root_.Go.ChangeSpec) : _root_.Go.OpenSpec := { _root_.Go.OpenSpec.ofChange s with cond := some uptoSmall }

/-- 'mailbaglaw8.FilePlays', WHERE WHAT IT READS IS OF BULK AT MOST 1048576: true; the input reads as it did. -/
def filePlaysUptoRow : OpenClaim := { program := "ytncaopdiplfjeaagreat", sum := "bedb6709c1ce2523a3c51def42a7223b0821d03b922fe03de9ab925110f46cf6", func := "mailbag/mailbaglaw8.FilePlays", spec := "filePlays", unfollowed := true, recurses := true, apart := false, narrowed := true }
def FilePlaysUptoSaid : Prop := filePlaysUptoRow.holds Tryz.pinned (OpenSpec.upto filePlaysSpec)

/-- 'mailbaglaw8.FileFull', WHERE WHAT IT READS IS OF BULK AT MOST 1048576: true; the input reads as it did. -/
def fileFullUptoRow : OpenClaim := { program := "ytncaopdiplfjeaagreat", sum := "bedb6709c1ce2523a3c51def42a7223b0821d03b922fe03de9ab925110f46cf6", func := "mailbag/mailbaglaw8.FileFull", spec := "fileFull", unfollowed := true, recurses := true, apart := false, narrowed := true }
def FileFullUptoSaid : Prop := fileFullUptoRow.holds Tryz.pinned (OpenSpec.upto fileFullSpec)

/-- 'mailbaglaw8.FileReads', WHERE WHAT IT READS IS OF BULK AT MOST 1048576: true; the input reads as it did. -/
def fileReadsUptoRow : OpenClaim := { program := "ytncaopdiplfjeaagreat", sum := "bedb6709c1ce2523a3c51def42a7223b0821d03b922fe03de9ab925110f46cf6", func := "mailbag/mailbaglaw8.FileReads", spec := "fileReads", unfollowed := true, recurses := true, apart := false, narrowed := true }
def FileReadsUptoSaid : Prop := fileReadsUptoRow.holds Tryz.pinned (OpenSpec.upto fileReadsSpec)

/-- 'mailbaglaw8.FileApart', WHERE WHAT IT READS IS OF BULK AT MOST 1048576: true; the input reads as it did. -/
def fileApartUptoRow : OpenClaim := { program := "ytncaopdiplfjeaagreat", sum := "bedb6709c1ce2523a3c51def42a7223b0821d03b922fe03de9ab925110f46cf6", func := "mailbag/mailbaglaw8.FileApart", spec := "fileApart", unfollowed := true, recurses := true, apart := false, narrowed := true }
def FileApartUptoSaid : Prop := fileApartUptoRow.holds Tryz.pinned (OpenSpec.upto fileApartSpec)

/-- 'mailbaglaw8.FileLarge', WHERE WHAT IT READS IS OF BULK AT MOST 1048576: true; the input reads as it did. -/
def fileLargeUptoRow : OpenClaim := { program := "ytncaopdiplfjeaagreat", sum := "bedb6709c1ce2523a3c51def42a7223b0821d03b922fe03de9ab925110f46cf6", func := "mailbag/mailbaglaw8.FileLarge", spec := "fileLarge", unfollowed := true, recurses := true, apart := false, narrowed := true }
def FileLargeUptoSaid : Prop := fileLargeUptoRow.holds Tryz.pinned (OpenSpec.upto fileLargeSpec)

end Rows
end Go.Proofs.YtncaopdiplfjeaaGreat

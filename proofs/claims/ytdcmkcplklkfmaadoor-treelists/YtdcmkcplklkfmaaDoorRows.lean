/-
  NARROWER THAN 'FOR EVERY INPUT', by the rows' own cells (each row's printed sentence says how): TreeErrors: laid · TreeRoom: laid · TreeMoves: laid · TreeLists: laid.
  DERIVED. THE GIVEN ROWS OF THIS SEAT. 4 by the template 'for every input the law returns true; each argument reads behind the call as it read before'; 0 by the template 'total and deterministic' (their statements: YtdcmkcplklkfmaaDoorTotals.lean).
  GIVEN WITH THE SEED: the statements are not yours to turn. If you find one false, say at which input.
  Laid BY PROGRAM, IN A SANDBOX (cutbox-rows.mjs): the forced cells as the released guide's own fill.sh prints them over the translation 8f512357c45ebaaa… (all of the seat's roots in one cut). By AI agents, Wed Nov 11 2026. No macro, syntax, notation, axiom, sorry.
-/
import Derived.Test.YtdcmkcplklkfmaaDoorChecked
import GoSem.Claim
import GoSem.ClaimJoined
import GoSem.ClaimMapViews
import Derived.JoinedTies
import Derived.KernelRfl
namespace Go.Proofs.YtdcmkcplklkfmaaDoor
/- THE CELL 'sum', in the pinned program and in every row, IS THE sha256 OF THE DUMP (.gsa) THAT YtdcmkcplklkfmaaDoorProg.lean LOADS. Nothing in Lean hashes anything: it is a label: what it is worth is what the hold of that sum in a sandbox is worth. -/
noncomputable def Tryd.pinned : Pinned := { name := "ytdcmkcplklkfmaadoor", sum := "8f512357c45ebaaa1e12160e32ff88c2e30c7c0809cb46071e98a801d9fff890", checked := Tryd.checked }
namespace Rows
def none {H : Type} : Left H := { results := [], args := [] }

/- WHAT THE LISTED PACKAGE-LEVEL VARIABLES READ AS WHEN THE CALL BEGINS. Each datum BY PROGRAM (the guide's laid-datum.mjs) off the statement by which the dump's own 'gosem.cut.vars' lays the variable. In a bare row this is a premise. The card (YtdcmkcplklkfmaaDoorCards.lean) ties it to the program's text. -/
def laid_mailbag_codec_sums {H : Type} : DataW H := .agg [.lit (.int .u32 0), .lit (.int .u32 498536548), .lit (.int .u32 997073096), .lit (.int .u32 651767980), .lit (.int .u32 1994146192), .lit (.int .u32 1802195444), .lit (.int .u32 1303535960), .lit (.int .u32 1342533948), .lit (.int .u32 3988292384), .lit (.int .u32 4027552580), .lit (.int .u32 3604390888), .lit (.int .u32 3412177804), .lit (.int .u32 2607071920), .lit (.int .u32 2262029012), .lit (.int .u32 2685067896), .lit (.int .u32 3183342108)]

/-- 'mailbaglaw11.TreeErrors': WHATEVER THE INPUT: true; the input reads as it did. -/
def treeErrorsSpec : ChangeSpec := { name := "treeErrors", fn := fun _ => fun
  | [d1, d2] => { results := [.lit (.bool true)], args := [d1, d2] }
  | _ => none }
def treeErrorsRow : OpenClaim := { program := "ytdcmkcplklkfmaadoor", sum := "8f512357c45ebaaa1e12160e32ff88c2e30c7c0809cb46071e98a801d9fff890", func := "mailbag/mailbaglaw11.TreeErrors", spec := "treeErrors", unfollowed := true, recurses := true, named := ["mailbag/codec.sums"], apart := false, laid := [("mailbag/codec.sums", laid_mailbag_codec_sums)] }
def TreeErrorsSaid : Prop := treeErrorsRow.holds Tryd.pinned (OpenSpec.ofChange treeErrorsSpec)

/-- ITS FALSE NEIGHBOUR: 'it returns false'. Refute it at one input. -/
def treeErrorsWrong : ChangeSpec := { name := "treeErrors", fn := fun _ => fun
  | [d1, d2] => { results := [.lit (.bool false)], args := [d1, d2] }
  | _ => none }
def TreeErrorsWrongFalsely : Prop := treeErrorsRow.holds Tryd.pinned (OpenSpec.ofChange treeErrorsWrong)

/-- 'mailbaglaw11.TreeRoom': WHATEVER THE INPUT: true; the input reads as it did. -/
def treeRoomSpec : ChangeSpec := { name := "treeRoom", fn := fun _ => fun
  | [d] => { results := [.lit (.bool true)], args := [d] }
  | _ => none }
def treeRoomRow : OpenClaim := { program := "ytdcmkcplklkfmaadoor", sum := "8f512357c45ebaaa1e12160e32ff88c2e30c7c0809cb46071e98a801d9fff890", func := "mailbag/mailbaglaw11.TreeRoom", spec := "treeRoom", unfollowed := true, recurses := true, named := ["mailbag/codec.sums"], apart := false, laid := [("mailbag/codec.sums", laid_mailbag_codec_sums)] }
def TreeRoomSaid : Prop := treeRoomRow.holds Tryd.pinned (OpenSpec.ofChange treeRoomSpec)

/-- ITS FALSE NEIGHBOUR: 'it returns false'. Refute it at one input. -/
def treeRoomWrong : ChangeSpec := { name := "treeRoom", fn := fun _ => fun
  | [d] => { results := [.lit (.bool false)], args := [d] }
  | _ => none }
def TreeRoomWrongFalsely : Prop := treeRoomRow.holds Tryd.pinned (OpenSpec.ofChange treeRoomWrong)

/-- 'mailbaglaw11.TreeMoves': WHATEVER THE INPUT: true; the input reads as it did. -/
def treeMovesSpec : ChangeSpec := { name := "treeMoves", fn := fun _ => fun
  | [d1, d2, d3] => { results := [.lit (.bool true)], args := [d1, d2, d3] }
  | _ => none }
def treeMovesRow : OpenClaim := { program := "ytdcmkcplklkfmaadoor", sum := "8f512357c45ebaaa1e12160e32ff88c2e30c7c0809cb46071e98a801d9fff890", func := "mailbag/mailbaglaw11.TreeMoves", spec := "treeMoves", unfollowed := true, recurses := true, named := ["mailbag/codec.sums"], apart := false, laid := [("mailbag/codec.sums", laid_mailbag_codec_sums)] }
def TreeMovesSaid : Prop := treeMovesRow.holds Tryd.pinned (OpenSpec.ofChange treeMovesSpec)

/-- ITS FALSE NEIGHBOUR: 'it returns false'. Refute it at one input. -/
def treeMovesWrong : ChangeSpec := { name := "treeMoves", fn := fun _ => fun
  | [d1, d2, d3] => { results := [.lit (.bool false)], args := [d1, d2, d3] }
  | _ => none }
def TreeMovesWrongFalsely : Prop := treeMovesRow.holds Tryd.pinned (OpenSpec.ofChange treeMovesWrong)

/-- 'mailbaglaw11.TreeLists': WHATEVER THE INPUT: true; the input reads as it did. -/
def treeListsSpec : ChangeSpec := { name := "treeLists", fn := fun _ => fun
  | [d] => { results := [.lit (.bool true)], args := [d] }
  | _ => none }
def treeListsRow : OpenClaim := { program := "ytdcmkcplklkfmaadoor", sum := "8f512357c45ebaaa1e12160e32ff88c2e30c7c0809cb46071e98a801d9fff890", func := "mailbag/mailbaglaw11.TreeLists", spec := "treeLists", unfollowed := true, recurses := true, named := ["mailbag/codec.sums"], apart := false, laid := [("mailbag/codec.sums", laid_mailbag_codec_sums)] }
def TreeListsSaid : Prop := treeListsRow.holds Tryd.pinned (OpenSpec.ofChange treeListsSpec)

/-- ITS FALSE NEIGHBOUR: 'it returns false'. Refute it at one input. -/
def treeListsWrong : ChangeSpec := { name := "treeLists", fn := fun _ => fun
  | [d] => { results := [.lit (.bool false)], args := [d] }
  | _ => none }
def TreeListsWrongFalsely : Prop := treeListsRow.holds Tryd.pinned (OpenSpec.ofChange treeListsWrong)

/- THE SECOND FORM. 'bulk': how many values and letters a reading holds, each counted each time it is reached (what is shared counts as often as it is met; a slice's spare places count too). A statement '..UptoSaid' is the law's where the arguments, and the package variables that the reading takes, are together of bulk at most 1048576: NARROWER than '..Said'. Prove '..Said' where nothing that the law and all that it calls make is longer than what came in: it says more and counts as full. Else prove '..UptoSaid'. A law counts once. -/
mutual
def uptoBulk {H : Type} : DataW H → Nat
  | .lit (.string bytes) => bytes.length + 1
  | .lit _ => 1
  | .nil => 1
  | .ptr d => uptoBulk d + 1
  | .slice elems spare => uptoBulkAll elems + uptoBulkAll spare + 1
  | .agg parts => uptoBulkAll parts + 1
  | .iface _ d => uptoBulk d + 1
  | .map entries => uptoBulkEntries entries + 1
  | .held _ => 1
def uptoBulkAll {H : Type} : List (DataW H) → Nat
  | [] => 0
  | d :: r => uptoBulk d + uptoBulkAll r
def uptoBulkEntries {H : Type} : List (Lit × DataW H) → Nat
  | [] => 0
  | x :: r => uptoBulkEntry x + uptoBulkEntries r
def uptoBulkEntry {H : Type} : Lit × DataW H → Nat
  | (.string bytes, d) => bytes.length + uptoBulk d + 1
  | (_, d) => uptoBulk d + 1
 end
def uptoSmall : (H : Type) → List (DataW H) → Bool := fun _ ds => decide (uptoBulkAll ds ≤ 1048576)
def OpenSpec.upto (s : _root_.Go.ChangeSpec) : _root_.Go.OpenSpec := { _root_.Go.OpenSpec.ofChange s with cond := some uptoSmall }

/-- 'mailbaglaw11.TreeErrors', WHERE WHAT IT READS IS OF BULK AT MOST 1048576: true; the input reads as it did. -/
def treeErrorsUptoRow : OpenClaim := { program := "ytdcmkcplklkfmaadoor", sum := "8f512357c45ebaaa1e12160e32ff88c2e30c7c0809cb46071e98a801d9fff890", func := "mailbag/mailbaglaw11.TreeErrors", spec := "treeErrors", unfollowed := true, recurses := true, named := ["mailbag/codec.sums"], apart := false, laid := [("mailbag/codec.sums", laid_mailbag_codec_sums)], narrowed := true }
def TreeErrorsUptoSaid : Prop := treeErrorsUptoRow.holds Tryd.pinned (OpenSpec.upto treeErrorsSpec)

/-- 'mailbaglaw11.TreeRoom', WHERE WHAT IT READS IS OF BULK AT MOST 1048576: true; the input reads as it did. -/
def treeRoomUptoRow : OpenClaim := { program := "ytdcmkcplklkfmaadoor", sum := "8f512357c45ebaaa1e12160e32ff88c2e30c7c0809cb46071e98a801d9fff890", func := "mailbag/mailbaglaw11.TreeRoom", spec := "treeRoom", unfollowed := true, recurses := true, named := ["mailbag/codec.sums"], apart := false, laid := [("mailbag/codec.sums", laid_mailbag_codec_sums)], narrowed := true }
def TreeRoomUptoSaid : Prop := treeRoomUptoRow.holds Tryd.pinned (OpenSpec.upto treeRoomSpec)

/-- 'mailbaglaw11.TreeMoves', WHERE WHAT IT READS IS OF BULK AT MOST 1048576: true; the input reads as it did. -/
def treeMovesUptoRow : OpenClaim := { program := "ytdcmkcplklkfmaadoor", sum := "8f512357c45ebaaa1e12160e32ff88c2e30c7c0809cb46071e98a801d9fff890", func := "mailbag/mailbaglaw11.TreeMoves", spec := "treeMoves", unfollowed := true, recurses := true, named := ["mailbag/codec.sums"], apart := false, laid := [("mailbag/codec.sums", laid_mailbag_codec_sums)], narrowed := true }
def TreeMovesUptoSaid : Prop := treeMovesUptoRow.holds Tryd.pinned (OpenSpec.upto treeMovesSpec)

/-- 'mailbaglaw11.TreeLists', WHERE WHAT IT READS IS OF BULK AT MOST 1048576: true; the input reads as it did. -/
def treeListsUptoRow : OpenClaim := { program := "ytdcmkcplklkfmaadoor", sum := "8f512357c45ebaaa1e12160e32ff88c2e30c7c0809cb46071e98a801d9fff890", func := "mailbag/mailbaglaw11.TreeLists", spec := "treeLists", unfollowed := true, recurses := true, named := ["mailbag/codec.sums"], apart := false, laid := [("mailbag/codec.sums", laid_mailbag_codec_sums)], narrowed := true }
def TreeListsUptoSaid : Prop := treeListsUptoRow.holds Tryd.pinned (OpenSpec.upto treeListsSpec)

end Rows
end Go.Proofs.YtdcmkcplklkfmaaDoor

/-
  NARROWER THAN 'FOR EVERY INPUT', by the rows' own cells (each row's printed sentence says how): DirPlays: laid · DirBytes: laid · DirGrows: laid · DirMoves: laid · DirBits: laid.
  DERIVED. THE GIVEN ROWS OF THIS SEAT. 5 by the template 'for every input the law returns true; each argument reads behind the call as it read before'; 0 by the template 'total and deterministic' (their statements: YtbhfmceapffhnaaDoorTotals.lean).
  GIVEN WITH THE SEED: the statements are not yours to turn. If you find one false, say at which input.
  Laid BY PROGRAM, IN A SANDBOX (cutbox-rows.mjs): the forced cells as the released guide's own fill.sh prints them over the translation 84abc3b282eca482… (all of the seat's roots in one cut). By AI agents, Wed Nov 11 2026. No macro, syntax, notation, axiom, sorry.
-/
import Derived.Test.YtbhfmceapffhnaaDoorChecked
import GoSem.Claim
import GoSem.ClaimJoined
import GoSem.ClaimMapViews
import Derived.JoinedTies
import Derived.KernelRfl
namespace Go.Proofs.YtbhfmceapffhnaaDoor
/- THE CELL 'sum', in the pinned program and in every row, IS THE sha256 OF THE DUMP (.gsa) THAT YtbhfmceapffhnaaDoorProg.lean LOADS. Nothing in Lean hashes anything: it is a label: what it is worth is what the hold of that sum in a sandbox is worth. -/
noncomputable def Tryd.pinned : Pinned := { name := "ytbhfmceapffhnaadoor", sum := "84abc3b282eca4827332d0fe067a6ca2a70feae6bb5b2826263f713005542533", checked := Tryd.checked }
namespace Rows
def none {H : Type} : Left H := { results := [], args := [] }

/- WHAT THE LISTED PACKAGE-LEVEL VARIABLES READ AS WHEN THE CALL BEGINS. Each datum BY PROGRAM (the guide's laid-datum.mjs) off the statement by which the dump's own 'gosem.cut.vars' lays the variable. In a bare row this is a premise. The card (YtbhfmceapffhnaaDoorCards.lean) ties it to the program's text. -/
def laid_mailbag_codec_sums {H : Type} : DataW H := .agg [.lit (.int .u32 0), .lit (.int .u32 498536548), .lit (.int .u32 997073096), .lit (.int .u32 651767980), .lit (.int .u32 1994146192), .lit (.int .u32 1802195444), .lit (.int .u32 1303535960), .lit (.int .u32 1342533948), .lit (.int .u32 3988292384), .lit (.int .u32 4027552580), .lit (.int .u32 3604390888), .lit (.int .u32 3412177804), .lit (.int .u32 2607071920), .lit (.int .u32 2262029012), .lit (.int .u32 2685067896), .lit (.int .u32 3183342108)]

/-- 'mailbaglaw9.DirPlays': WHATEVER THE INPUT: true; the input reads as it did. -/
def dirPlaysSpec : ChangeSpec := { name := "dirPlays", fn := fun _ => fun
  | [d] => { results := [.lit (.bool true)], args := [d] }
  | _ => none }
def dirPlaysRow : OpenClaim := { program := "ytbhfmceapffhnaadoor", sum := "84abc3b282eca4827332d0fe067a6ca2a70feae6bb5b2826263f713005542533", func := "mailbag/mailbaglaw9.DirPlays", spec := "dirPlays", unfollowed := true, recurses := true, named := ["mailbag/codec.sums"], apart := false, laid := [("mailbag/codec.sums", laid_mailbag_codec_sums)] }
def DirPlaysSaid : Prop := dirPlaysRow.holds Tryd.pinned (OpenSpec.ofChange dirPlaysSpec)

/-- ITS FALSE NEIGHBOUR: 'it returns false'. Refute it at one input. -/
def dirPlaysWrong : ChangeSpec := { name := "dirPlays", fn := fun _ => fun
  | [d] => { results := [.lit (.bool false)], args := [d] }
  | _ => none }
def DirPlaysWrongFalsely : Prop := dirPlaysRow.holds Tryd.pinned (OpenSpec.ofChange dirPlaysWrong)

/-- 'mailbaglaw9.DirBytes': WHATEVER THE INPUT: true; the input reads as it did. -/
def dirBytesSpec : ChangeSpec := { name := "dirBytes", fn := fun _ => fun
  | [d1, d2, d3] => { results := [.lit (.bool true)], args := [d1, d2, d3] }
  | _ => none }
def dirBytesRow : OpenClaim := { program := "ytbhfmceapffhnaadoor", sum := "84abc3b282eca4827332d0fe067a6ca2a70feae6bb5b2826263f713005542533", func := "mailbag/mailbaglaw9.DirBytes", spec := "dirBytes", unfollowed := true, recurses := true, named := ["mailbag/codec.sums"], apart := false, laid := [("mailbag/codec.sums", laid_mailbag_codec_sums)] }
def DirBytesSaid : Prop := dirBytesRow.holds Tryd.pinned (OpenSpec.ofChange dirBytesSpec)

/-- ITS FALSE NEIGHBOUR: 'it returns false'. Refute it at one input. -/
def dirBytesWrong : ChangeSpec := { name := "dirBytes", fn := fun _ => fun
  | [d1, d2, d3] => { results := [.lit (.bool false)], args := [d1, d2, d3] }
  | _ => none }
def DirBytesWrongFalsely : Prop := dirBytesRow.holds Tryd.pinned (OpenSpec.ofChange dirBytesWrong)

/-- 'mailbaglaw9.DirGrows': WHATEVER THE INPUT: true; the input reads as it did. -/
def dirGrowsSpec : ChangeSpec := { name := "dirGrows", fn := fun _ => fun
  | [d1, d2] => { results := [.lit (.bool true)], args := [d1, d2] }
  | _ => none }
def dirGrowsRow : OpenClaim := { program := "ytbhfmceapffhnaadoor", sum := "84abc3b282eca4827332d0fe067a6ca2a70feae6bb5b2826263f713005542533", func := "mailbag/mailbaglaw9.DirGrows", spec := "dirGrows", unfollowed := true, recurses := true, named := ["mailbag/codec.sums"], apart := false, laid := [("mailbag/codec.sums", laid_mailbag_codec_sums)] }
def DirGrowsSaid : Prop := dirGrowsRow.holds Tryd.pinned (OpenSpec.ofChange dirGrowsSpec)

/-- ITS FALSE NEIGHBOUR: 'it returns false'. Refute it at one input. -/
def dirGrowsWrong : ChangeSpec := { name := "dirGrows", fn := fun _ => fun
  | [d1, d2] => { results := [.lit (.bool false)], args := [d1, d2] }
  | _ => none }
def DirGrowsWrongFalsely : Prop := dirGrowsRow.holds Tryd.pinned (OpenSpec.ofChange dirGrowsWrong)

/-- 'mailbaglaw9.DirMoves': WHATEVER THE INPUT: true; the input reads as it did. -/
def dirMovesSpec : ChangeSpec := { name := "dirMoves", fn := fun _ => fun
  | [d1, d2, d3] => { results := [.lit (.bool true)], args := [d1, d2, d3] }
  | _ => none }
def dirMovesRow : OpenClaim := { program := "ytbhfmceapffhnaadoor", sum := "84abc3b282eca4827332d0fe067a6ca2a70feae6bb5b2826263f713005542533", func := "mailbag/mailbaglaw9.DirMoves", spec := "dirMoves", unfollowed := true, recurses := true, named := ["mailbag/codec.sums"], apart := false, laid := [("mailbag/codec.sums", laid_mailbag_codec_sums)] }
def DirMovesSaid : Prop := dirMovesRow.holds Tryd.pinned (OpenSpec.ofChange dirMovesSpec)

/-- ITS FALSE NEIGHBOUR: 'it returns false'. Refute it at one input. -/
def dirMovesWrong : ChangeSpec := { name := "dirMoves", fn := fun _ => fun
  | [d1, d2, d3] => { results := [.lit (.bool false)], args := [d1, d2, d3] }
  | _ => none }
def DirMovesWrongFalsely : Prop := dirMovesRow.holds Tryd.pinned (OpenSpec.ofChange dirMovesWrong)

/-- 'mailbaglaw9.DirBits': WHATEVER THE INPUT: true; the input reads as it did. -/
def dirBitsSpec : ChangeSpec := { name := "dirBits", fn := fun _ => fun
  | [d1, d2] => { results := [.lit (.bool true)], args := [d1, d2] }
  | _ => none }
def dirBitsRow : OpenClaim := { program := "ytbhfmceapffhnaadoor", sum := "84abc3b282eca4827332d0fe067a6ca2a70feae6bb5b2826263f713005542533", func := "mailbag/mailbaglaw9.DirBits", spec := "dirBits", unfollowed := true, recurses := true, named := ["mailbag/codec.sums"], apart := false, laid := [("mailbag/codec.sums", laid_mailbag_codec_sums)] }
def DirBitsSaid : Prop := dirBitsRow.holds Tryd.pinned (OpenSpec.ofChange dirBitsSpec)

/-- ITS FALSE NEIGHBOUR: 'it returns false'. Refute it at one input. -/
def dirBitsWrong : ChangeSpec := { name := "dirBits", fn := fun _ => fun
  | [d1, d2] => { results := [.lit (.bool false)], args := [d1, d2] }
  | _ => none }
def DirBitsWrongFalsely : Prop := dirBitsRow.holds Tryd.pinned (OpenSpec.ofChange dirBitsWrong)

/- THE SECOND FORM. 'bulk': how many values and letters a reading holds, each counted each time it is reached (what is shared counts as often as it is met; a slice's spare places count too). A statement '..UptoSaid' is the law's where the arguments, and the package variables that the reading takes, are together of bulk at most 1048576: NARROWER than '..Said'. Prove '..Said' where nothing that the law and all that it calls make is longer than what came in: it says more and counts as full. Else prove '..UptoSaid'. A law counts once. -/
mutual
def uptoBulk {H : Type} : DataW H → Nat
  | .lit (.string bytes) => bytes.length + 1
  | .lit _ => 1
  | .nil => 1
  | .ptr d => uptoBulk d + 1
  | .slice elems spare => uptoBulkAll elems + uptoBulkAll spare + 1
  | .agg parts => uptoBulkAll parts + 1
  | .iface _ d => uptoBulk d + 1
  | .map entries => uptoBulkEntries entries + 1
  | .held _ => 1
def uptoBulkAll {H : Type} : List (DataW H) → Nat
  | [] => 0
  | d :: r => uptoBulk d + uptoBulkAll r
def uptoBulkEntries {H : Type} : List (Lit × DataW H) → Nat
  | [] => 0
  | x :: r => uptoBulkEntry x + uptoBulkEntries r
def uptoBulkEntry {H : Type} : Lit × DataW H → Nat
  | (.string bytes, d) => bytes.length + uptoBulk d + 1
  | (_, d) => uptoBulk d + 1
 end
def uptoSmall : (H : Type) → List (DataW H) → Bool := fun _ ds => decide (uptoBulkAll ds ≤ 1048576)
def OpenSpec.upto (s : _root_.Go.ChangeSpec) : _root_.Go.OpenSpec := { _root_.Go.OpenSpec.ofChange s with cond := some uptoSmall }

/-- 'mailbaglaw9.DirPlays', WHERE WHAT IT READS IS OF BULK AT MOST 1048576: true; the input reads as it did. -/
def dirPlaysUptoRow : OpenClaim := { program := "ytbhfmceapffhnaadoor", sum := "84abc3b282eca4827332d0fe067a6ca2a70feae6bb5b2826263f713005542533", func := "mailbag/mailbaglaw9.DirPlays", spec := "dirPlays", unfollowed := true, recurses := true, named := ["mailbag/codec.sums"], apart := false, laid := [("mailbag/codec.sums", laid_mailbag_codec_sums)], narrowed := true }
def DirPlaysUptoSaid : Prop := dirPlaysUptoRow.holds Tryd.pinned (OpenSpec.upto dirPlaysSpec)

/-- 'mailbaglaw9.DirBytes', WHERE WHAT IT READS IS OF BULK AT MOST 1048576: true; the input reads as it did. -/
def dirBytesUptoRow : OpenClaim := { program := "ytbhfmceapffhnaadoor", sum := "84abc3b282eca4827332d0fe067a6ca2a70feae6bb5b2826263f713005542533", func := "mailbag/mailbaglaw9.DirBytes", spec := "dirBytes", unfollowed := true, recurses := true, named := ["mailbag/codec.sums"], apart := false, laid := [("mailbag/codec.sums", laid_mailbag_codec_sums)], narrowed := true }
def DirBytesUptoSaid : Prop := dirBytesUptoRow.holds Tryd.pinned (OpenSpec.upto dirBytesSpec)

/-- 'mailbaglaw9.DirGrows', WHERE WHAT IT READS IS OF BULK AT MOST 1048576: true; the input reads as it did. -/
def dirGrowsUptoRow : OpenClaim := { program := "ytbhfmceapffhnaadoor", sum := "84abc3b282eca4827332d0fe067a6ca2a70feae6bb5b2826263f713005542533", func := "mailbag/mailbaglaw9.DirGrows", spec := "dirGrows", unfollowed := true, recurses := true, named := ["mailbag/codec.sums"], apart := false, laid := [("mailbag/codec.sums", laid_mailbag_codec_sums)], narrowed := true }
def DirGrowsUptoSaid : Prop := dirGrowsUptoRow.holds Tryd.pinned (OpenSpec.upto dirGrowsSpec)

/-- 'mailbaglaw9.DirMoves', WHERE WHAT IT READS IS OF BULK AT MOST 1048576: true; the input reads as it did. -/
def dirMovesUptoRow : OpenClaim := { program := "ytbhfmceapffhnaadoor", sum := "84abc3b282eca4827332d0fe067a6ca2a70feae6bb5b2826263f713005542533", func := "mailbag/mailbaglaw9.DirMoves", spec := "dirMoves", unfollowed := true, recurses := true, named := ["mailbag/codec.sums"], apart := false, laid := [("mailbag/codec.sums", laid_mailbag_codec_sums)], narrowed := true }
def DirMovesUptoSaid : Prop := dirMovesUptoRow.holds Tryd.pinned (OpenSpec.upto dirMovesSpec)

/-- 'mailbaglaw9.DirBits', WHERE WHAT IT READS IS OF BULK AT MOST 1048576: true; the input reads as it did. -/
def dirBitsUptoRow : OpenClaim := { program := "ytbhfmceapffhnaadoor", sum := "84abc3b282eca4827332d0fe067a6ca2a70feae6bb5b2826263f713005542533", func := "mailbag/mailbaglaw9.DirBits", spec := "dirBits", unfollowed := true, recurses := true, named := ["mailbag/codec.sums"], apart := false, laid := [("mailbag/codec.sums", laid_mailbag_codec_sums)], narrowed := true }
def DirBitsUptoSaid : Prop := dirBitsUptoRow.holds Tryd.pinned (OpenSpec.upto dirBitsSpec)

end Rows
end Go.Proofs.YtbhfmceapffhnaaDoor

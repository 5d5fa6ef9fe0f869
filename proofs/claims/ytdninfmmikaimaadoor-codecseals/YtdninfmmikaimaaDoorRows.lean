/-
  NARROWER THAN 'FOR EVERY INPUT', by the rows' own cells (each row's printed sentence says how): CodecWrites: laid · CodecReads: laid · CodecBack: laid · CodecSeals: laid · CodecFaults: laid · CodecFixed: laid.
  DERIVED. THE GIVEN ROWS OF THIS SEAT. 6 by the template 'for every input the law returns true; each argument reads behind the call as it read before'; 0 by the template 'total and deterministic' (their statements: YtdninfmmikaimaaDoorTotals.lean).
  GIVEN WITH THE SEED: the statements are not yours to turn. If you find one false, say at which input.
  Laid BY PROGRAM, IN A SANDBOX (cutbox-rows.mjs): the forced cells as the released guide's own fill.sh prints them over the translation 6764639894590b0d… (all of the seat's roots in one cut). By AI agents, Wed Nov 11 2026. No macro, syntax, notation, axiom, sorry.
-/
import Derived.Test.YtdninfmmikaimaaDoorChecked
import GoSem.Claim
import GoSem.ClaimJoined
import GoSem.ClaimMapViews
import Derived.JoinedTies
import Derived.KernelRfl
namespace Go.Proofs.YtdninfmmikaimaaDoor
/- THE CELL 'sum', in the pinned program and in every row, IS THE sha256 OF THE DUMP (.gsa) THAT YtdninfmmikaimaaDoorProg.lean LOADS. Nothing in Lean hashes anything: it is a label: what it is worth is what the hold of that sum in a sandbox is worth. -/
noncomputable def Tryd.pinned : Pinned := { name := "ytdninfmmikaimaadoor", sum := "6764639894590b0d30e821a73782dd1475615e6b71f3d48df3c9a79e81ccd257", checked := Tryd.checked }
namespace Rows
def none {H : Type} : Left H := { results := [], args := [] }

/- WHAT THE LISTED PACKAGE-LEVEL VARIABLES READ AS WHEN THE CALL BEGINS. Each datum BY PROGRAM (the guide's laid-datum.mjs) off the statement by which the dump's own 'gosem.cut.vars' lays the variable. In a bare row this is a premise. The card (YtdninfmmikaimaaDoorCards.lean) ties it to the program's text. -/
def laid_mailbag_codec_sums {H : Type} : DataW H := .agg [.lit (.int .u32 0), .lit (.int .u32 498536548), .lit (.int .u32 997073096), .lit (.int .u32 651767980), .lit (.int .u32 1994146192), .lit (.int .u32 1802195444), .lit (.int .u32 1303535960), .lit (.int .u32 1342533948), .lit (.int .u32 3988292384), .lit (.int .u32 4027552580), .lit (.int .u32 3604390888), .lit (.int .u32 3412177804), .lit (.int .u32 2607071920), .lit (.int .u32 2262029012), .lit (.int .u32 2685067896), .lit (.int .u32 3183342108)]

/-- 'mailbaglaw1.CodecWrites': WHATEVER THE INPUT: true; the input reads as it did. -/
def codecWritesSpec : ChangeSpec := { name := "codecWrites", fn := fun _ => fun
  | [d] => { results := [.lit (.bool true)], args := [d] }
  | _ => none }
def codecWritesRow : OpenClaim := { program := "ytdninfmmikaimaadoor", sum := "6764639894590b0d30e821a73782dd1475615e6b71f3d48df3c9a79e81ccd257", func := "mailbag/mailbaglaw1.CodecWrites", spec := "codecWrites", named := ["mailbag/codec.sums"], apart := false, laid := [("mailbag/codec.sums", laid_mailbag_codec_sums)] }
def CodecWritesSaid : Prop := codecWritesRow.holds Tryd.pinned (OpenSpec.ofChange codecWritesSpec)

/-- ITS FALSE NEIGHBOUR: 'it returns false'. Refute it at one input. -/
def codecWritesWrong : ChangeSpec := { name := "codecWrites", fn := fun _ => fun
  | [d] => { results := [.lit (.bool false)], args := [d] }
  | _ => none }
def CodecWritesWrongFalsely : Prop := codecWritesRow.holds Tryd.pinned (OpenSpec.ofChange codecWritesWrong)

/-- 'mailbaglaw1.CodecReads': WHATEVER THE INPUT: true; the input reads as it did. -/
def codecReadsSpec : ChangeSpec := { name := "codecReads", fn := fun _ => fun
  | [d1, d2] => { results := [.lit (.bool true)], args := [d1, d2] }
  | _ => none }
def codecReadsRow : OpenClaim := { program := "ytdninfmmikaimaadoor", sum := "6764639894590b0d30e821a73782dd1475615e6b71f3d48df3c9a79e81ccd257", func := "mailbag/mailbaglaw1.CodecReads", spec := "codecReads", named := ["mailbag/codec.sums"], apart := false, laid := [("mailbag/codec.sums", laid_mailbag_codec_sums)] }
def CodecReadsSaid : Prop := codecReadsRow.holds Tryd.pinned (OpenSpec.ofChange codecReadsSpec)

/-- ITS FALSE NEIGHBOUR: 'it returns false'. Refute it at one input. -/
def codecReadsWrong : ChangeSpec := { name := "codecReads", fn := fun _ => fun
  | [d1, d2] => { results := [.lit (.bool false)], args := [d1, d2] }
  | _ => none }
def CodecReadsWrongFalsely : Prop := codecReadsRow.holds Tryd.pinned (OpenSpec.ofChange codecReadsWrong)

/-- 'mailbaglaw1.CodecBack': WHATEVER THE INPUT: true; the input reads as it did. -/
def codecBackSpec : ChangeSpec := { name := "codecBack", fn := fun _ => fun
  | [d] => { results := [.lit (.bool true)], args := [d] }
  | _ => none }
def codecBackRow : OpenClaim := { program := "ytdninfmmikaimaadoor", sum := "6764639894590b0d30e821a73782dd1475615e6b71f3d48df3c9a79e81ccd257", func := "mailbag/mailbaglaw1.CodecBack", spec := "codecBack", named := ["mailbag/codec.sums"], apart := false, laid := [("mailbag/codec.sums", laid_mailbag_codec_sums)] }
def CodecBackSaid : Prop := codecBackRow.holds Tryd.pinned (OpenSpec.ofChange codecBackSpec)

/-- ITS FALSE NEIGHBOUR: 'it returns false'. Refute it at one input. -/
def codecBackWrong : ChangeSpec := { name := "codecBack", fn := fun _ => fun
  | [d] => { results := [.lit (.bool false)], args := [d] }
  | _ => none }
def CodecBackWrongFalsely : Prop := codecBackRow.holds Tryd.pinned (OpenSpec.ofChange codecBackWrong)

/-- 'mailbaglaw1.CodecSeals': WHATEVER THE INPUT: true; the input reads as it did. -/
def codecSealsSpec : ChangeSpec := { name := "codecSeals", fn := fun _ => fun
  | [d1, d2, d3] => { results := [.lit (.bool true)], args := [d1, d2, d3] }
  | _ => none }
def codecSealsRow : OpenClaim := { program := "ytdninfmmikaimaadoor", sum := "6764639894590b0d30e821a73782dd1475615e6b71f3d48df3c9a79e81ccd257", func := "mailbag/mailbaglaw1.CodecSeals", spec := "codecSeals", named := ["mailbag/codec.sums"], apart := false, laid := [("mailbag/codec.sums", laid_mailbag_codec_sums)] }
def CodecSealsSaid : Prop := codecSealsRow.holds Tryd.pinned (OpenSpec.ofChange codecSealsSpec)

/-- ITS FALSE NEIGHBOUR: 'it returns false'. Refute it at one input. -/
def codecSealsWrong : ChangeSpec := { name := "codecSeals", fn := fun _ => fun
  | [d1, d2, d3] => { results := [.lit (.bool false)], args := [d1, d2, d3] }
  | _ => none }
def CodecSealsWrongFalsely : Prop := codecSealsRow.holds Tryd.pinned (OpenSpec.ofChange codecSealsWrong)

/-- 'mailbaglaw1.CodecFaults': WHATEVER THE INPUT: true; the input reads as it did. -/
def codecFaultsSpec : ChangeSpec := { name := "codecFaults", fn := fun _ => fun
  | [d1, d2, d3] => { results := [.lit (.bool true)], args := [d1, d2, d3] }
  | _ => none }
def codecFaultsRow : OpenClaim := { program := "ytdninfmmikaimaadoor", sum := "6764639894590b0d30e821a73782dd1475615e6b71f3d48df3c9a79e81ccd257", func := "mailbag/mailbaglaw1.CodecFaults", spec := "codecFaults", named := ["mailbag/codec.sums"], apart := false, laid := [("mailbag/codec.sums", laid_mailbag_codec_sums)] }
def CodecFaultsSaid : Prop := codecFaultsRow.holds Tryd.pinned (OpenSpec.ofChange codecFaultsSpec)

/-- ITS FALSE NEIGHBOUR: 'it returns false'. Refute it at one input. -/
def codecFaultsWrong : ChangeSpec := { name := "codecFaults", fn := fun _ => fun
  | [d1, d2, d3] => { results := [.lit (.bool false)], args := [d1, d2, d3] }
  | _ => none }
def CodecFaultsWrongFalsely : Prop := codecFaultsRow.holds Tryd.pinned (OpenSpec.ofChange codecFaultsWrong)

/-- 'mailbaglaw1.CodecFixed': WHATEVER THE INPUT: true; the input reads as it did. -/
def codecFixedSpec : ChangeSpec := { name := "codecFixed", fn := fun _ => fun
  | [d1, d2, d3] => { results := [.lit (.bool true)], args := [d1, d2, d3] }
  | _ => none }
def codecFixedRow : OpenClaim := { program := "ytdninfmmikaimaadoor", sum := "6764639894590b0d30e821a73782dd1475615e6b71f3d48df3c9a79e81ccd257", func := "mailbag/mailbaglaw1.CodecFixed", spec := "codecFixed", named := ["mailbag/codec.sums"], apart := false, laid := [("mailbag/codec.sums", laid_mailbag_codec_sums)] }
def CodecFixedSaid : Prop := codecFixedRow.holds Tryd.pinned (OpenSpec.ofChange codecFixedSpec)

/-- ITS FALSE NEIGHBOUR: 'it returns false'. Refute it at one input. -/
def codecFixedWrong : ChangeSpec := { name := "codecFixed", fn := fun _ => fun
  | [d1, d2, d3] => { results := [.lit (.bool false)], args := [d1, d2, d3] }
  | _ => none }
def CodecFixedWrongFalsely : Prop := codecFixedRow.holds Tryd.pinned (OpenSpec.ofChange codecFixedWrong)

/- THE SECOND FORM. 'bulk': how many values and letters a reading holds, each counted each time it is reached (what is shared counts as often as it is met; a slice's spare places count too). A statement '..UptoSaid' is the law's where the arguments, and the package variables that the reading takes, are together of bulk at most 1048576: NARROWER than '..Said'. Prove '..Said' where nothing that the law and all that it calls make is longer than what came in: it says more and counts as full. Else prove '..UptoSaid'. A law counts once. -/
mutual
def uptoBulk {H : Type} : DataW H → Nat
  | .lit (.string bytes) => bytes.length + 1
  | .lit _ => 1
  | .nil => 1
  | .ptr d => uptoBulk d + 1
  | .slice elems spare => uptoBulkAll elems + uptoBulkAll spare + 1
  | .agg parts => uptoBulkAll parts + 1
  | .iface _ d => uptoBulk d + 1
  | .map entries => uptoBulkEntries entries + 1
  | .held _ => 1
def uptoBulkAll {H : Type} : List (DataW H) → Nat
  | [] => 0
  | d :: r => uptoBulk d + uptoBulkAll r
def uptoBulkEntries {H : Type} : List (Lit × DataW H) → Nat
  | [] => 0
  | x :: r => uptoBulkEntry x + uptoBulkEntries r
def uptoBulkEntry {H : Type} : Lit × DataW H → Nat
  | (.string bytes, d) => bytes.length + uptoBulk d + 1
  | (_, d) => uptoBulk d + 1
 end
def uptoSmall : (H : Type) → List (DataW H) → Bool := fun _ ds => decide (uptoBulkAll ds ≤ 1048576)
def OpenSpec.upto (s : _root_.Go.ChangeSpec) : _root_.Go.OpenSpec := { _root_.Go.OpenSpec.ofChange s with cond := some uptoSmall }

/-- 'mailbaglaw1.CodecWrites', WHERE WHAT IT READS IS OF BULK AT MOST 1048576: true; the input reads as it did. -/
def codecWritesUptoRow : OpenClaim := { program := "ytdninfmmikaimaadoor", sum := "6764639894590b0d30e821a73782dd1475615e6b71f3d48df3c9a79e81ccd257", func := "mailbag/mailbaglaw1.CodecWrites", spec := "codecWrites", named := ["mailbag/codec.sums"], apart := false, laid := [("mailbag/codec.sums", laid_mailbag_codec_sums)], narrowed := true }
def CodecWritesUptoSaid : Prop := codecWritesUptoRow.holds Tryd.pinned (OpenSpec.upto codecWritesSpec)

/-- 'mailbaglaw1.CodecReads', WHERE WHAT IT READS IS OF BULK AT MOST 1048576: true; the input reads as it did. -/
def codecReadsUptoRow : OpenClaim := { program := "ytdninfmmikaimaadoor", sum := "6764639894590b0d30e821a73782dd1475615e6b71f3d48df3c9a79e81ccd257", func := "mailbag/mailbaglaw1.CodecReads", spec := "codecReads", named := ["mailbag/codec.sums"], apart := false, laid := [("mailbag/codec.sums", laid_mailbag_codec_sums)], narrowed := true }
def CodecReadsUptoSaid : Prop := codecReadsUptoRow.holds Tryd.pinned (OpenSpec.upto codecReadsSpec)

/-- 'mailbaglaw1.CodecBack', WHERE WHAT IT READS IS OF BULK AT MOST 1048576: true; the input reads as it did. -/
def codecBackUptoRow : OpenClaim := { program := "ytdninfmmikaimaadoor", sum := "6764639894590b0d30e821a73782dd1475615e6b71f3d48df3c9a79e81ccd257", func := "mailbag/mailbaglaw1.CodecBack", spec := "codecBack", named := ["mailbag/codec.sums"], apart := false, laid := [("mailbag/codec.sums", laid_mailbag_codec_sums)], narrowed := true }
def CodecBackUptoSaid : Prop := codecBackUptoRow.holds Tryd.pinned (OpenSpec.upto codecBackSpec)

/-- 'mailbaglaw1.CodecSeals', WHERE WHAT IT READS IS OF BULK AT MOST 1048576: true; the input reads as it did. -/
def codecSealsUptoRow : OpenClaim := { program := "ytdninfmmikaimaadoor", sum := "6764639894590b0d30e821a73782dd1475615e6b71f3d48df3c9a79e81ccd257", func := "mailbag/mailbaglaw1.CodecSeals", spec := "codecSeals", named := ["mailbag/codec.sums"], apart := false, laid := [("mailbag/codec.sums", laid_mailbag_codec_sums)], narrowed := true }
def CodecSealsUptoSaid : Prop := codecSealsUptoRow.holds Tryd.pinned (OpenSpec.upto codecSealsSpec)

/-- 'mailbaglaw1.CodecFaults', WHERE WHAT IT READS IS OF BULK AT MOST 1048576: true; the input reads as it did. -/
def codecFaultsUptoRow : OpenClaim := { program := "ytdninfmmikaimaadoor", sum := "6764639894590b0d30e821a73782dd1475615e6b71f3d48df3c9a79e81ccd257", func := "mailbag/mailbaglaw1.CodecFaults", spec := "codecFaults", named := ["mailbag/codec.sums"], apart := false, laid := [("mailbag/codec.sums", laid_mailbag_codec_sums)], narrowed := true }
def CodecFaultsUptoSaid : Prop := codecFaultsUptoRow.holds Tryd.pinned (OpenSpec.upto codecFaultsSpec)

/-- 'mailbaglaw1.CodecFixed', WHERE WHAT IT READS IS OF BULK AT MOST 1048576: true; the input reads as it did. -/
def codecFixedUptoRow : OpenClaim := { program := "ytdninfmmikaimaadoor", sum := "6764639894590b0d30e821a73782dd1475615e6b71f3d48df3c9a79e81ccd257", func := "mailbag/mailbaglaw1.CodecFixed", spec := "codecFixed", named := ["mailbag/codec.sums"], apart := false, laid := [("mailbag/codec.sums", laid_mailbag_codec_sums)], narrowed := true }
def CodecFixedUptoSaid : Prop := codecFixedUptoRow.holds Tryd.pinned (OpenSpec.upto codecFixedSpec)

end Rows
end Go.Proofs.YtdninfmmikaimaaDoor

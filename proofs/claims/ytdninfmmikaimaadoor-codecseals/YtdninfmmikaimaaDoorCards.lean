/-
  DERIVED. GIVEN WITH THE SEED: THE CARDS: each row of YtdninfmmikaimaaDoorRows.lean that lists a variable, with what it lists TIED to the program's text (the seventh form; the later family's looks); each row that meets fmt, with fmt's text TOLD by the authors' own Lean function (tested against real Go, not proved from fmt's source: count such statements apart). THE CARD IS WHAT COUNTS. Prove the row's statement (the work); the ties are given (YtdninfmmikaimaaDoorTie.lean); close each card by the builder's one call (the guide's Derived/Test/ToyasCard.lean, 'card_holds'). Laid BY PROGRAM, IN A SANDBOX (cutbox-door.mjs). By AI agents, Wed Nov 11 2026. No macro, syntax, notation, axiom, sorry.
-/
import Derived.Test.YtdninfmmikaimaaDoorRows
import GoSem.ClaimSeven
namespace Go.Proofs.YtdninfmmikaimaaDoor
namespace Rows

/-- THE TIED CARD OF 'mailbaglaw1.CodecWrites'. -/
def codecWritesCard : Claim7 := { stood := { row := codecWritesRow, standIns := [], harness := (true, "df0681ab31bb56951856b1f8aa4bf2d2033ca01ed2437df658e531a4357b8a96"), looks := false }, kinds := [], alts := [], laidByText := true, laidKinds := [.data], laidTests := true, laidLooks := .later }
def CodecWritesCardSaid : Prop := Claim7.holds Tryd.pinned (.plain (OpenSpec.ofChange codecWritesSpec)) codecWritesCard

/-- THE TIED CARD OF 'mailbaglaw1.CodecReads'. -/
def codecReadsCard : Claim7 := { stood := { row := codecReadsRow, standIns := [], harness := (true, "df0681ab31bb56951856b1f8aa4bf2d2033ca01ed2437df658e531a4357b8a96"), looks := false }, kinds := [], alts := [], laidByText := true, laidKinds := [.data], laidTests := true, laidLooks := .later }
def CodecReadsCardSaid : Prop := Claim7.holds Tryd.pinned (.plain (OpenSpec.ofChange codecReadsSpec)) codecReadsCard

/-- THE TIED CARD OF 'mailbaglaw1.CodecBack'. -/
def codecBackCard : Claim7 := { stood := { row := codecBackRow, standIns := [], harness := (true, "df0681ab31bb56951856b1f8aa4bf2d2033ca01ed2437df658e531a4357b8a96"), looks := false }, kinds := [], alts := [], laidByText := true, laidKinds := [.data], laidTests := true, laidLooks := .later }
def CodecBackCardSaid : Prop := Claim7.holds Tryd.pinned (.plain (OpenSpec.ofChange codecBackSpec)) codecBackCard

/-- THE TIED CARD OF 'mailbaglaw1.CodecSeals'. -/
def codecSealsCard : Claim7 := { stood := { row := codecSealsRow, standIns := [], harness := (true, "df0681ab31bb56951856b1f8aa4bf2d2033ca01ed2437df658e531a4357b8a96"), looks := false }, kinds := [], alts := [], laidByText := true, laidKinds := [.data], laidTests := true, laidLooks := .later }
def CodecSealsCardSaid : Prop := Claim7.holds Tryd.pinned (.plain (OpenSpec.ofChange codecSealsSpec)) codecSealsCard

/-- THE TIED CARD OF 'mailbaglaw1.CodecFaults'. -/
def codecFaultsCard : Claim7 := { stood := { row := codecFaultsRow, standIns := [], harness := (true, "df0681ab31bb56951856b1f8aa4bf2d2033ca01ed2437df658e531a4357b8a96"), looks := false }, kinds := [], alts := [], laidByText := true, laidKinds := [.data], laidTests := true, laidLooks := .later }
def CodecFaultsCardSaid : Prop := Claim7.holds Tryd.pinned (.plain (OpenSpec.ofChange codecFaultsSpec)) codecFaultsCard

/-- THE TIED CARD OF 'mailbaglaw1.CodecFixed'. -/
def codecFixedCard : Claim7 := { stood := { row := codecFixedRow, standIns := [], harness := (true, "df0681ab31bb56951856b1f8aa4bf2d2033ca01ed2437df658e531a4357b8a96"), looks := false }, kinds := [], alts := [], laidByText := true, laidKinds := [.data], laidTests := true, laidLooks := .later }
def CodecFixedCardSaid : Prop := Claim7.holds Tryd.pinned (.plain (OpenSpec.ofChange codecFixedSpec)) codecFixedCard

/-- THE SECOND FORM's CARD OF 'mailbaglaw1.CodecWrites'. -/
def codecWritesUptoCard : Claim7 := { stood := { row := codecWritesUptoRow, standIns := [], harness := (true, "df0681ab31bb56951856b1f8aa4bf2d2033ca01ed2437df658e531a4357b8a96"), looks := false }, kinds := [], alts := [], laidByText := true, laidKinds := [.data], laidTests := true, laidLooks := .later }
def CodecWritesUptoCardSaid : Prop := Claim7.holds Tryd.pinned (.plain (OpenSpec.upto codecWritesSpec)) codecWritesUptoCard

/-- THE SECOND FORM's CARD OF 'mailbaglaw1.CodecReads'. -/
def codecReadsUptoCard : Claim7 := { stood := { row := codecReadsUptoRow, standIns := [], harness := (true, "df0681ab31bb56951856b1f8aa4bf2d2033ca01ed2437df658e531a4357b8a96"), looks := false }, kinds := [], alts := [], laidByText := true, laidKinds := [.data], laidTests := true, laidLooks := .later }
def CodecReadsUptoCardSaid : Prop := Claim7.holds Tryd.pinned (.plain (OpenSpec.upto codecReadsSpec)) codecReadsUptoCard

/-- THE SECOND FORM's CARD OF 'mailbaglaw1.CodecBack'. -/
def codecBackUptoCard : Claim7 := { stood := { row := codecBackUptoRow, standIns := [], harness := (true, "df0681ab31bb56951856b1f8aa4bf2d2033ca01ed2437df658e531a4357b8a96"), looks := false }, kinds := [], alts := [], laidByText := true, laidKinds := [.data], laidTests := true, laidLooks := .later }
def CodecBackUptoCardSaid : Prop := Claim7.holds Tryd.pinned (.plain (OpenSpec.upto codecBackSpec)) codecBackUptoCard

/-- THE SECOND FORM's CARD OF 'mailbaglaw1.CodecSeals'. -/
def codecSealsUptoCard : Claim7 := { stood := { row := codecSealsUptoRow, standIns := [], harness := (true, "df0681ab31bb56951856b1f8aa4bf2d2033ca01ed2437df658e531a4357b8a96"), looks := false }, kinds := [], alts := [], laidByText := true, laidKinds := [.data], laidTests := true, laidLooks := .later }
def CodecSealsUptoCardSaid : Prop := Claim7.holds Tryd.pinned (.plain (OpenSpec.upto codecSealsSpec)) codecSealsUptoCard

/-- THE SECOND FORM's CARD OF 'mailbaglaw1.CodecFaults'. -/
def codecFaultsUptoCard : Claim7 := { stood := { row := codecFaultsUptoRow, standIns := [], harness := (true, "df0681ab31bb56951856b1f8aa4bf2d2033ca01ed2437df658e531a4357b8a96"), looks := false }, kinds := [], alts := [], laidByText := true, laidKinds := [.data], laidTests := true, laidLooks := .later }
def CodecFaultsUptoCardSaid : Prop := Claim7.holds Tryd.pinned (.plain (OpenSpec.upto codecFaultsSpec)) codecFaultsUptoCard

/-- THE SECOND FORM's CARD OF 'mailbaglaw1.CodecFixed'. -/
def codecFixedUptoCard : Claim7 := { stood := { row := codecFixedUptoRow, standIns := [], harness := (true, "df0681ab31bb56951856b1f8aa4bf2d2033ca01ed2437df658e531a4357b8a96"), looks := false }, kinds := [], alts := [], laidByText := true, laidKinds := [.data], laidTests := true, laidLooks := .later }
def CodecFixedUptoCardSaid : Prop := Claim7.holds Tryd.pinned (.plain (OpenSpec.upto codecFixedSpec)) codecFixedUptoCard
end Rows
end Go.Proofs.YtdninfmmikaimaaDoor

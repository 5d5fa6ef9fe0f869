/-
  DERIVED. GIVEN WITH THE SEED: THE CARDS: each row of YtcclpfcgodckgaaDoorRows.lean that lists a variable, with what it lists TIED to the program's text (the seventh form; the later family's looks); each row that meets fmt, with fmt's text TOLD by the authors' own Lean function (tested against real Go, not proved from fmt's source: count such statements apart). THE CARD IS WHAT COUNTS. Prove the row's statement (the work); the ties are given (YtcclpfcgodckgaaDoorTie.lean); close each card by the builder's one call (the guide's Derived/Test/ToyasCard.lean, 'card_holds'). Laid BY PROGRAM, IN A SANDBOX (cutbox-door.mjs). By AI agents, Wed Nov 11 2026. No macro, syntax, notation, axiom, sorry.
-/
import Derived.Test.YtcclpfcgodckgaaDoorRows
import GoSem.ClaimSeven
namespace Go.Proofs.YtcclpfcgodckgaaDoor
namespace Rows

/-- THE TIED CARD OF 'mailbaglaw7.InodeBytes'. -/
def inodeBytesCard : Claim7 := { stood := { row := inodeBytesRow, standIns := [], harness := (true, "a7b08bc811dcd8c9fa5015a43bcc3382d924b02c228c715d955af34e8acc8065"), looks := false }, kinds := [], alts := [], laidByText := true, laidKinds := [.data], laidTests := true, laidLooks := .later }
def InodeBytesCardSaid : Prop := Claim7.holds Tryd.pinned (.plain (OpenSpec.ofChange inodeBytesSpec)) inodeBytesCard

/-- THE TIED CARD OF 'mailbaglaw7.InodePlaces'. -/
def inodePlacesCard : Claim7 := { stood := { row := inodePlacesRow, standIns := [], harness := (true, "a7b08bc811dcd8c9fa5015a43bcc3382d924b02c228c715d955af34e8acc8065"), looks := false }, kinds := [], alts := [], laidByText := true, laidKinds := [.data], laidTests := true, laidLooks := .later }
def InodePlacesCardSaid : Prop := Claim7.holds Tryd.pinned (.plain (OpenSpec.ofChange inodePlacesSpec)) inodePlacesCard

/-- THE TIED CARD OF 'mailbaglaw7.InodeGrows'. -/
def inodeGrowsCard : Claim7 := { stood := { row := inodeGrowsRow, standIns := [], harness := (true, "a7b08bc811dcd8c9fa5015a43bcc3382d924b02c228c715d955af34e8acc8065"), looks := false }, kinds := [], alts := [], laidByText := true, laidKinds := [.data], laidTests := true, laidLooks := .later }
def InodeGrowsCardSaid : Prop := Claim7.holds Tryd.pinned (.plain (OpenSpec.ofChange inodeGrowsSpec)) inodeGrowsCard

/-- THE TIED CARD OF 'mailbaglaw7.InodeBits'. -/
def inodeBitsCard : Claim7 := { stood := { row := inodeBitsRow, standIns := [], harness := (true, "a7b08bc811dcd8c9fa5015a43bcc3382d924b02c228c715d955af34e8acc8065"), looks := false }, kinds := [], alts := [], laidByText := true, laidKinds := [.data], laidTests := true, laidLooks := .later }
def InodeBitsCardSaid : Prop := Claim7.holds Tryd.pinned (.plain (OpenSpec.ofChange inodeBitsSpec)) inodeBitsCard

/-- THE SECOND FORM's CARD OF 'mailbaglaw7.InodeBytes'. -/
def inodeBytesUptoCard : Claim7 := { stood := { row := inodeBytesUptoRow, standIns := [], harness := (true, "a7b08bc811dcd8c9fa5015a43bcc3382d924b02c228c715d955af34e8acc8065"), looks := false }, kinds := [], alts := [], laidByText := true, laidKinds := [.data], laidTests := true, laidLooks := .later }
def InodeBytesUptoCardSaid : Prop := Claim7.holds Tryd.pinned (.plain (OpenSpec.upto inodeBytesSpec)) inodeBytesUptoCard

/-- THE SECOND FORM's CARD OF 'mailbaglaw7.InodePlaces'. -/
def inodePlacesUptoCard : Claim7 := { stood := { row := inodePlacesUptoRow, standIns := [], harness := (true, "a7b08bc811dcd8c9fa5015a43bcc3382d924b02c228c715d955af34e8acc8065"), looks := false }, kinds := [], alts := [], laidByText := true, laidKinds := [.data], laidTests := true, laidLooks := .later }
def InodePlacesUptoCardSaid : Prop := Claim7.holds Tryd.pinned (.plain (OpenSpec.upto inodePlacesSpec)) inodePlacesUptoCard

/-- THE SECOND FORM's CARD OF 'mailbaglaw7.InodeGrows'. -/
def inodeGrowsUptoCard : Claim7 := { stood := { row := inodeGrowsUptoRow, standIns := [], harness := (true, "a7b08bc811dcd8c9fa5015a43bcc3382d924b02c228c715d955af34e8acc8065"), looks := false }, kinds := [], alts := [], laidByText := true, laidKinds := [.data], laidTests := true, laidLooks := .later }
def InodeGrowsUptoCardSaid : Prop := Claim7.holds Tryd.pinned (.plain (OpenSpec.upto inodeGrowsSpec)) inodeGrowsUptoCard

/-- THE SECOND FORM's CARD OF 'mailbaglaw7.InodeBits'. -/
def inodeBitsUptoCard : Claim7 := { stood := { row := inodeBitsUptoRow, standIns := [], harness := (true, "a7b08bc811dcd8c9fa5015a43bcc3382d924b02c228c715d955af34e8acc8065"), looks := false }, kinds := [], alts := [], laidByText := true, laidKinds := [.data], laidTests := true, laidLooks := .later }
def InodeBitsUptoCardSaid : Prop := Claim7.holds Tryd.pinned (.plain (OpenSpec.upto inodeBitsSpec)) inodeBitsUptoCard
end Rows
end Go.Proofs.YtcclpfcgodckgaaDoor

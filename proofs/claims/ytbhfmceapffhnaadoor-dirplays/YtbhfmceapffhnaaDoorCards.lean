/-
  DERIVED. GIVEN WITH THE SEED: THE CARDS: each row of YtbhfmceapffhnaaDoorRows.lean that lists a variable, with what it lists TIED to the program's text (the seventh form; the later family's looks); each row that meets fmt, with fmt's text TOLD by the authors' own Lean function (tested against real Go, not proved from fmt's source: count such statements apart). THE CARD IS WHAT COUNTS. Prove the row's statement (the work); the ties are given (YtbhfmceapffhnaaDoorTie.lean); close each card by the builder's one call (the guide's Derived/Test/ToyasCard.lean, 'card_holds'). Laid BY PROGRAM, IN A SANDBOX (cutbox-door.mjs). By AI agents, Wed Nov 11 2026. No macro, syntax, notation, axiom, sorry.
-/
import Derived.Test.YtbhfmceapffhnaaDoorRows
import GoSem.ClaimSeven
namespace Go.Proofs.YtbhfmceapffhnaaDoor
namespace Rows

/-- THE TIED CARD OF 'mailbaglaw9.DirPlays'. -/
def dirPlaysCard : Claim7 := { stood := { row := dirPlaysRow, standIns := [], harness := (true, "c2f104df9bfea772d4459595abd9209ba284f308adbb706da478325a3ea7159c"), looks := false }, kinds := [], alts := [], laidByText := true, laidKinds := [.data], laidTests := true, laidLooks := .later }
def DirPlaysCardSaid : Prop := Claim7.holds Tryd.pinned (.plain (OpenSpec.ofChange dirPlaysSpec)) dirPlaysCard

/-- THE TIED CARD OF 'mailbaglaw9.DirBytes'. -/
def dirBytesCard : Claim7 := { stood := { row := dirBytesRow, standIns := [], harness := (true, "c2f104df9bfea772d4459595abd9209ba284f308adbb706da478325a3ea7159c"), looks := false }, kinds := [], alts := [], laidByText := true, laidKinds := [.data], laidTests := true, laidLooks := .later }
def DirBytesCardSaid : Prop := Claim7.holds Tryd.pinned (.plain (OpenSpec.ofChange dirBytesSpec)) dirBytesCard

/-- THE TIED CARD OF 'mailbaglaw9.DirGrows'. -/
def dirGrowsCard : Claim7 := { stood := { row := dirGrowsRow, standIns := [], harness := (true, "c2f104df9bfea772d4459595abd9209ba284f308adbb706da478325a3ea7159c"), looks := false }, kinds := [], alts := [], laidByText := true, laidKinds := [.data], laidTests := true, laidLooks := .later }
def DirGrowsCardSaid : Prop := Claim7.holds Tryd.pinned (.plain (OpenSpec.ofChange dirGrowsSpec)) dirGrowsCard

/-- THE TIED CARD OF 'mailbaglaw9.DirMoves'. -/
def dirMovesCard : Claim7 := { stood := { row := dirMovesRow, standIns := [], harness := (true, "c2f104df9bfea772d4459595abd9209ba284f308adbb706da478325a3ea7159c"), looks := false }, kinds := [], alts := [], laidByText := true, laidKinds := [.data], laidTests := true, laidLooks := .later }
def DirMovesCardSaid : Prop := Claim7.holds Tryd.pinned (.plain (OpenSpec.ofChange dirMovesSpec)) dirMovesCard

/-- THE TIED CARD OF 'mailbaglaw9.DirBits'. -/
def dirBitsCard : Claim7 := { stood := { row := dirBitsRow, standIns := [], harness := (true, "c2f104df9bfea772d4459595abd9209ba284f308adbb706da478325a3ea7159c"), looks := false }, kinds := [], alts := [], laidByText := true, laidKinds := [.data], laidTests := true, laidLooks := .later }
def DirBitsCardSaid : Prop := Claim7.holds Tryd.pinned (.plain (OpenSpec.ofChange dirBitsSpec)) dirBitsCard

/-- THE SECOND FORM's CARD OF 'mailbaglaw9.DirPlays'. -/
def dirPlaysUptoCard : Claim7 := { stood := { row := dirPlaysUptoRow, standIns := [], harness := (true, "c2f104df9bfea772d4459595abd9209ba284f308adbb706da478325a3ea7159c"), looks := false }, kinds := [], alts := [], laidByText := true, laidKinds := [.data], laidTests := true, laidLooks := .later }
def DirPlaysUptoCardSaid : Prop := Claim7.holds Tryd.pinned (.plain (OpenSpec.upto dirPlaysSpec)) dirPlaysUptoCard

/-- THE SECOND FORM's CARD OF 'mailbaglaw9.DirBytes'. -/
def dirBytesUptoCard : Claim7 := { stood := { row := dirBytesUptoRow, standIns := [], harness := (true, "c2f104df9bfea772d4459595abd9209ba284f308adbb706da478325a3ea7159c"), looks := false }, kinds := [], alts := [], laidByText := true, laidKinds := [.data], laidTests := true, laidLooks := .later }
def DirBytesUptoCardSaid : Prop := Claim7.holds Tryd.pinned (.plain (OpenSpec.upto dirBytesSpec)) dirBytesUptoCard

/-- THE SECOND FORM's CARD OF 'mailbaglaw9.DirGrows'. -/
def dirGrowsUptoCard : Claim7 := { stood := { row := dirGrowsUptoRow, standIns := [], harness := (true, "c2f104df9bfea772d4459595abd9209ba284f308adbb706da478325a3ea7159c"), looks := false }, kinds := [], alts := [], laidByText := true, laidKinds := [.data], laidTests := true, laidLooks := .later }
def DirGrowsUptoCardSaid : Prop := Claim7.holds Tryd.pinned (.plain (OpenSpec.upto dirGrowsSpec)) dirGrowsUptoCard

/-- THE SECOND FORM's CARD OF 'mailbaglaw9.DirMoves'. -/
def dirMovesUptoCard : Claim7 := { stood := { row := dirMovesUptoRow, standIns := [], harness := (true, "c2f104df9bfea772d4459595abd9209ba284f308adbb706da478325a3ea7159c"), looks := false }, kinds := [], alts := [], laidByText := true, laidKinds := [.data], laidTests := true, laidLooks := .later }
def DirMovesUptoCardSaid : Prop := Claim7.holds Tryd.pinned (.plain (OpenSpec.upto dirMovesSpec)) dirMovesUptoCard

/-- THE SECOND FORM's CARD OF 'mailbaglaw9.DirBits'. -/
def dirBitsUptoCard : Claim7 := { stood := { row := dirBitsUptoRow, standIns := [], harness := (true, "c2f104df9bfea772d4459595abd9209ba284f308adbb706da478325a3ea7159c"), looks := false }, kinds := [], alts := [], laidByText := true, laidKinds := [.data], laidTests := true, laidLooks := .later }
def DirBitsUptoCardSaid : Prop := Claim7.holds Tryd.pinned (.plain (OpenSpec.upto dirBitsSpec)) dirBitsUptoCard
end Rows
end Go.Proofs.YtbhfmceapffhnaaDoor

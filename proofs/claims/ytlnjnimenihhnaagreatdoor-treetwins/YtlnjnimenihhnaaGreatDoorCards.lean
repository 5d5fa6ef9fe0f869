/-
  DERIVED. GIVEN WITH THE SEED: THE CARDS: each row of YtlnjnimenihhnaaGreatDoorRows.lean that lists a variable, with what it lists TIED to the program's text (the seventh form; the later family's looks); each row that meets fmt, with fmt's text TOLD by the authors' own Lean function (tested against real Go, not proved from fmt's source: count such statements apart). THE CARD IS WHAT COUNTS. Prove the row's statement (the work); the ties are given (YtlnjnimenihhnaaGreatDoorTie.lean); close each card by the builder's one call (the guide's Derived/Test/ToyasCard.lean, 'card_holds'). Laid BY PROGRAM, IN A SANDBOX (cutbox-door.mjs). By AI agents, Wed Nov 11 2026. No macro, syntax, notation, axiom, sorry.
-/
import Derived.Test.YtlnjnimenihhnaaGreatDoorRows
import GoSem.ClaimSeven
namespace Go.Proofs.YtlnjnimenihhnaaGreatDoor
namespace Rows

/-- THE TIED CARD OF 'mailbaglaw11.TreePlays'. -/
def treePlaysCard : Claim7 := { stood := { row := treePlaysRow, standIns := [], harness := (true, "c513d5445de541878fc51971a6df2e18875e95ee2ebe184ef9ce3312db9f424e"), looks := false }, kinds := [], alts := [], laidByText := true, laidKinds := [.data], laidTests := true, laidLooks := .later }
def TreePlaysCardSaid : Prop := Claim7.holds Tryz.pinned (.plain (OpenSpec.ofChange treePlaysSpec)) treePlaysCard

/-- THE TIED CARD OF 'mailbaglaw11.TreeTwins'. -/
def treeTwinsCard : Claim7 := { stood := { row := treeTwinsRow, standIns := [], harness := (true, "c513d5445de541878fc51971a6df2e18875e95ee2ebe184ef9ce3312db9f424e"), looks := false }, kinds := [], alts := [], laidByText := true, laidKinds := [.data], laidTests := true, laidLooks := .later }
def TreeTwinsCardSaid : Prop := Claim7.holds Tryz.pinned (.plain (OpenSpec.ofChange treeTwinsSpec)) treeTwinsCard

/-- THE SECOND FORM's CARD OF 'mailbaglaw11.TreePlays'. -/
def treePlaysUptoCard : Claim7 := { stood := { row := treePlaysUptoRow, standIns := [], harness := (true, "c513d5445de541878fc51971a6df2e18875e95ee2ebe184ef9ce3312db9f424e"), looks := false }, kinds := [], alts := [], laidByText := true, laidKinds := [.data], laidTests := true, laidLooks := .later }
def TreePlaysUptoCardSaid : Prop := Claim7.holds Tryz.pinned (.plain (OpenSpec.upto treePlaysSpec)) treePlaysUptoCard

/-- THE SECOND FORM's CARD OF 'mailbaglaw11.TreeTwins'. -/
def treeTwinsUptoCard : Claim7 := { stood := { row := treeTwinsUptoRow, standIns := [], harness := (true, "c513d5445de541878fc51971a6df2e18875e95ee2ebe184ef9ce3312db9f424e"), looks := false }, kinds := [], alts := [], laidByText := true, laidKinds := [.data], laidTests := true, laidLooks := .later }
def TreeTwinsUptoCardSaid : Prop := Claim7.holds Tryz.pinned (.plain (OpenSpec.upto treeTwinsSpec)) treeTwinsUptoCard
end Rows
end Go.Proofs.YtlnjnimenihhnaaGreatDoor

/-
  DERIVED. GIVEN WITH THE SEED: THE CARDS: each row of YtdcmkcplklkfmabDoorRows.lean that lists a variable, with what it lists TIED to the program's text (the seventh form; the later family's looks); each row that meets fmt, with fmt's text TOLD by the authors' own Lean function (tested against real Go, not proved from fmt's source: count such statements apart). THE CARD IS WHAT COUNTS. Prove the row's statement (the work); the ties are given (YtdcmkcplklkfmabDoorTie.lean); close each card by the builder's one call (the guide's Derived/Test/ToyasCard.lean, 'card_holds'). Laid BY PROGRAM, IN A SANDBOX (cutbox-door.mjs). By AI agents, Wed Nov 11 2026. No macro, syntax, notation, axiom, sorry.
-/
import Derived.Test.YtdcmkcplklkfmabDoorRows
import GoSem.ClaimSeven
namespace Go.Proofs.YtdcmkcplklkfmabDoor
namespace Rows

/-- THE TIED CARD OF 'mailbaglaw11.TreeFulls'. -/
def treeFullsCard : Claim7 := { stood := { row := treeFullsRow, standIns := [], harness := (true, "39664086ca54da1b3c1b7ab7d2a98e3ee2399f3b9fdb343bcf6445b996b450d6"), looks := false }, kinds := [], alts := [], laidByText := true, laidKinds := [.data], laidTests := true, laidLooks := .later }
def TreeFullsCardSaid : Prop := Claim7.holds Tryd.pinned (.plain (OpenSpec.ofChange treeFullsSpec)) treeFullsCard

/-- THE TIED CARD OF 'mailbaglaw11.TreeDeep'. -/
def treeDeepCard : Claim7 := { stood := { row := treeDeepRow, standIns := [], harness := (true, "39664086ca54da1b3c1b7ab7d2a98e3ee2399f3b9fdb343bcf6445b996b450d6"), looks := false }, kinds := [], alts := [], laidByText := true, laidKinds := [.data], laidTests := true, laidLooks := .later }
def TreeDeepCardSaid : Prop := Claim7.holds Tryd.pinned (.plain (OpenSpec.ofChange treeDeepSpec)) treeDeepCard

/-- THE TIED CARD OF 'mailbaglaw11.TreeReplaces'. -/
def treeReplacesCard : Claim7 := { stood := { row := treeReplacesRow, standIns := [], harness := (true, "39664086ca54da1b3c1b7ab7d2a98e3ee2399f3b9fdb343bcf6445b996b450d6"), looks := false }, kinds := [], alts := [], laidByText := true, laidKinds := [.data], laidTests := true, laidLooks := .later }
def TreeReplacesCardSaid : Prop := Claim7.holds Tryd.pinned (.plain (OpenSpec.ofChange treeReplacesSpec)) treeReplacesCard

/-- THE SECOND FORM's CARD OF 'mailbaglaw11.TreeFulls'. -/
def treeFullsUptoCard : Claim7 := { stood := { row := treeFullsUptoRow, standIns := [], harness := (true, "39664086ca54da1b3c1b7ab7d2a98e3ee2399f3b9fdb343bcf6445b996b450d6"), looks := false }, kinds := [], alts := [], laidByText := true, laidKinds := [.data], laidTests := true, laidLooks := .later }
def TreeFullsUptoCardSaid : Prop := Claim7.holds Tryd.pinned (.plain (OpenSpec.upto treeFullsSpec)) treeFullsUptoCard

/-- THE SECOND FORM's CARD OF 'mailbaglaw11.TreeDeep'. -/
def treeDeepUptoCard : Claim7 := { stood := { row := treeDeepUptoRow, standIns := [], harness := (true, "39664086ca54da1b3c1b7ab7d2a98e3ee2399f3b9fdb343bcf6445b996b450d6"), looks := false }, kinds := [], alts := [], laidByText := true, laidKinds := [.data], laidTests := true, laidLooks := .later }
def TreeDeepUptoCardSaid : Prop := Claim7.holds Tryd.pinned (.plain (OpenSpec.upto treeDeepSpec)) treeDeepUptoCard

/-- THE SECOND FORM's CARD OF 'mailbaglaw11.TreeReplaces'. -/
def treeReplacesUptoCard : Claim7 := { stood := { row := treeReplacesUptoRow, standIns := [], harness := (true, "39664086ca54da1b3c1b7ab7d2a98e3ee2399f3b9fdb343bcf6445b996b450d6"), looks := false }, kinds := [], alts := [], laidByText := true, laidKinds := [.data], laidTests := true, laidLooks := .later }
def TreeReplacesUptoCardSaid : Prop := Claim7.holds Tryd.pinned (.plain (OpenSpec.upto treeReplacesSpec)) treeReplacesUptoCard
end Rows
end Go.Proofs.YtdcmkcplklkfmabDoor

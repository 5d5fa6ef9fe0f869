/-
  DERIVED. GIVEN WITH THE SEED: THE CARDS: each row of YtefofoocglhdmaaDoorRows.lean that lists a variable, with what it lists TIED to the program's text (the seventh form; the later family's looks); each row that meets fmt, with fmt's text TOLD by the authors' own Lean function (tested against real Go, not proved from fmt's source: count such statements apart). THE CARD IS WHAT COUNTS. Prove the row's statement (the work); the ties are given (YtefofoocglhdmaaDoorTie.lean); close each card by the builder's one call (the guide's Derived/Test/ToyasCard.lean, 'card_holds'). Laid BY PROGRAM, IN A SANDBOX (cutbox-door.mjs). By AI agents, Wed Nov 11 2026. No macro, syntax, notation, axiom, sorry.
-/
import Derived.Test.YtefofoocglhdmaaDoorRows
import GoSem.ClaimSeven
namespace Go.Proofs.YtefofoocglhdmaaDoor
namespace Rows

/-- THE TIED CARD OF 'mailbaglaw14.AddrTexts'. -/
def addrTextsCard : Claim7 := { stood := { row := addrTextsRow, standIns := [], harness := (true, "b9a3c7a8f6e81951c124a838be39c346cc27b1fb81bb1774f577fac1490b993e"), looks := true }, kinds := [], alts := [], laidByText := true, laidKinds := [.data, .data, .data, .data, .sentinel, .sentinel, .pinned], laidTests := true, laidLooks := .later }
def AddrTextsCardSaid : Prop := Claim7.holds Tryd.pinned (.plain (OpenSpec.ofChange addrTextsSpec)) addrTextsCard

/-- THE TIED CARD OF 'mailbaglaw14.AddrPairs'. -/
def addrPairsCard : Claim7 := { stood := { row := addrPairsRow, standIns := [], harness := (true, "b9a3c7a8f6e81951c124a838be39c346cc27b1fb81bb1774f577fac1490b993e"), looks := true }, kinds := [], alts := [], laidByText := true, laidKinds := [.data, .data, .data, .data, .data, .sentinel, .sentinel, .pinned], laidTests := true, laidLooks := .later }
def AddrPairsCardSaid : Prop := Claim7.holds Tryd.pinned (.plain (OpenSpec.ofChange addrPairsSpec)) addrPairsCard

/-- THE TIED CARD OF 'mailbaglaw14.AddrBack'. -/
def addrBackCard : Claim7 := { stood := { row := addrBackRow, standIns := [], harness := (true, "b9a3c7a8f6e81951c124a838be39c346cc27b1fb81bb1774f577fac1490b993e"), looks := true }, kinds := [], alts := [], laidByText := true, laidKinds := [.data, .data, .data, .data, .sentinel, .sentinel, .pinned], laidTests := true, laidLooks := .later }
def AddrBackCardSaid : Prop := Claim7.holds Tryd.pinned (.plain (OpenSpec.ofChange addrBackSpec)) addrBackCard

/-- THE TIED CARD OF 'mailbaglaw14.AddrDomains'. -/
def addrDomainsCard : Claim7 := { stood := { row := addrDomainsRow, standIns := [], harness := (true, "b9a3c7a8f6e81951c124a838be39c346cc27b1fb81bb1774f577fac1490b993e"), looks := true }, kinds := [], alts := [], laidByText := true, laidKinds := [.data, .data, .data, .data, .sentinel, .sentinel, .pinned], laidTests := true, laidLooks := .later }
def AddrDomainsCardSaid : Prop := Claim7.holds Tryd.pinned (.plain (OpenSpec.ofChange addrDomainsSpec)) addrDomainsCard

/-- THE TIED CARD OF 'mailbaglaw14.AddrNumbers'. -/
def addrNumbersCard : Claim7 := { stood := { row := addrNumbersRow, standIns := [], harness := (true, "b9a3c7a8f6e81951c124a838be39c346cc27b1fb81bb1774f577fac1490b993e"), looks := true }, kinds := [], alts := [], laidByText := true, laidKinds := [.data, .data, .data, .data, .sentinel, .sentinel, .pinned], laidTests := true, laidLooks := .later }
def AddrNumbersCardSaid : Prop := Claim7.holds Tryd.pinned (.plain (OpenSpec.ofChange addrNumbersSpec)) addrNumbersCard

/-- THE TIED CARD OF 'mailbaglaw14.AddrQuotes'. -/
def addrQuotesCard : Claim7 := { stood := { row := addrQuotesRow, standIns := [], harness := (true, "b9a3c7a8f6e81951c124a838be39c346cc27b1fb81bb1774f577fac1490b993e"), looks := true }, kinds := [], alts := [], laidByText := true, laidKinds := [.data, .data, .data, .data, .sentinel, .sentinel, .pinned], laidTests := true, laidLooks := .later }
def AddrQuotesCardSaid : Prop := Claim7.holds Tryd.pinned (.plain (OpenSpec.ofChange addrQuotesSpec)) addrQuotesCard

/-- THE SECOND FORM's CARD OF 'mailbaglaw14.AddrTexts'. -/
def addrTextsUptoCard : Claim7 := { stood := { row := addrTextsUptoRow, standIns := [], harness := (true, "b9a3c7a8f6e81951c124a838be39c346cc27b1fb81bb1774f577fac1490b993e"), looks := true }, kinds := [], alts := [], laidByText := true, laidKinds := [.data, .data, .data, .data, .sentinel, .sentinel, .pinned], laidTests := true, laidLooks := .later }
def AddrTextsUptoCardSaid : Prop := Claim7.holds Tryd.pinned (.plain (OpenSpec.upto addrTextsSpec)) addrTextsUptoCard

/-- THE SECOND FORM's CARD OF 'mailbaglaw14.AddrPairs'. -/
def addrPairsUptoCard : Claim7 := { stood := { row := addrPairsUptoRow, standIns := [], harness := (true, "b9a3c7a8f6e81951c124a838be39c346cc27b1fb81bb1774f577fac1490b993e"), looks := true }, kinds := [], alts := [], laidByText := true, laidKinds := [.data, .data, .data, .data, .data, .sentinel, .sentinel, .pinned], laidTests := true, laidLooks := .later }
def AddrPairsUptoCardSaid : Prop := Claim7.holds Tryd.pinned (.plain (OpenSpec.upto addrPairsSpec)) addrPairsUptoCard

/-- THE SECOND FORM's CARD OF 'mailbaglaw14.AddrBack'. -/
def addrBackUptoCard : Claim7 := { stood := { row := addrBackUptoRow, standIns := [], harness := (true, "b9a3c7a8f6e81951c124a838be39c346cc27b1fb81bb1774f577fac1490b993e"), looks := true }, kinds := [], alts := [], laidByText := true, laidKinds := [.data, .data, .data, .data, .sentinel, .sentinel, .pinned], laidTests := true, laidLooks := .later }
def AddrBackUptoCardSaid : Prop := Claim7.holds Tryd.pinned (.plain (OpenSpec.upto addrBackSpec)) addrBackUptoCard

/-- THE SECOND FORM's CARD OF 'mailbaglaw14.AddrDomains'. -/
def addrDomainsUptoCard : Claim7 := { stood := { row := addrDomainsUptoRow, standIns := [], harness := (true, "b9a3c7a8f6e81951c124a838be39c346cc27b1fb81bb1774f577fac1490b993e"), looks := true }, kinds := [], alts := [], laidByText := true, laidKinds := [.data, .data, .data, .data, .sentinel, .sentinel, .pinned], laidTests := true, laidLooks := .later }
def AddrDomainsUptoCardSaid : Prop := Claim7.holds Tryd.pinned (.plain (OpenSpec.upto addrDomainsSpec)) addrDomainsUptoCard

/-- THE SECOND FORM's CARD OF 'mailbaglaw14.AddrNumbers'. -/
def addrNumbersUptoCard : Claim7 := { stood := { row := addrNumbersUptoRow, standIns := [], harness := (true, "b9a3c7a8f6e81951c124a838be39c346cc27b1fb81bb1774f577fac1490b993e"), looks := true }, kinds := [], alts := [], laidByText := true, laidKinds := [.data, .data, .data, .data, .sentinel, .sentinel, .pinned], laidTests := true, laidLooks := .later }
def AddrNumbersUptoCardSaid : Prop := Claim7.holds Tryd.pinned (.plain (OpenSpec.upto addrNumbersSpec)) addrNumbersUptoCard

/-- THE SECOND FORM's CARD OF 'mailbaglaw14.AddrQuotes'. -/
def addrQuotesUptoCard : Claim7 := { stood := { row := addrQuotesUptoRow, standIns := [], harness := (true, "b9a3c7a8f6e81951c124a838be39c346cc27b1fb81bb1774f577fac1490b993e"), looks := true }, kinds := [], alts := [], laidByText := true, laidKinds := [.data, .data, .data, .data, .sentinel, .sentinel, .pinned], laidTests := true, laidLooks := .later }
def AddrQuotesUptoCardSaid : Prop := Claim7.holds Tryd.pinned (.plain (OpenSpec.upto addrQuotesSpec)) addrQuotesUptoCard
end Rows
end Go.Proofs.YtefofoocglhdmaaDoor

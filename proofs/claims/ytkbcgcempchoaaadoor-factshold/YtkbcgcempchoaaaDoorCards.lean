/-
  DERIVED. GIVEN WITH THE SEED: THE CARDS: each row of YtkbcgcempchoaaaDoorRows.lean that lists a variable, with what it lists TIED to the program's text (the seventh form; the later family's looks); each row that meets fmt, with fmt's text TOLD by the authors' own Lean function (tested against real Go, not proved from fmt's source: count such statements apart). THE CARD IS WHAT COUNTS. Prove the row's statement (the work); the ties are given (YtkbcgcempchoaaaDoorTie.lean); close each card by the builder's one call (the guide's Derived/Test/ToyasCard.lean, 'card_holds'). Laid BY PROGRAM, IN A SANDBOX (cutbox-door.mjs). By AI agents, Wed Nov 11 2026. No macro, syntax, notation, axiom, sorry.
-/
import Derived.Test.YtkbcgcempchoaaaDoorRows
import GoSem.ClaimSeven
namespace Go.Proofs.YtkbcgcempchoaaaDoor
namespace Rows

/-- THE TIED CARD OF 'sorrellaw02.ExprPlays'. -/
def exprPlaysCard : Claim7 := { stood := { row := exprPlaysRow, standIns := [], harness := (true, "c988d435813f182343eee24b9a3aa77d9308442c6029fcf46f023a34e18dcfe9"), looks := false }, kinds := [], alts := [], laidByText := true, laidKinds := [.data, .wider, .pinned], laidTests := true, laidLooks := .later }
def ExprPlaysCardSaid : Prop := Claim7.holds Tryd.pinned (.plain (OpenSpec.ofChange exprPlaysSpec)) exprPlaysCard

/-- THE TIED CARD OF 'sorrellaw08.EvalPlays'. -/
def evalPlaysCard : Claim7 := { stood := { row := evalPlaysRow, standIns := [], harness := (true, "c988d435813f182343eee24b9a3aa77d9308442c6029fcf46f023a34e18dcfe9"), looks := false }, kinds := [], alts := [], laidByText := true, laidKinds := [.wider, .data], laidTests := true, laidLooks := .later }
def EvalPlaysCardSaid : Prop := Claim7.holds Tryd.pinned (.plain (OpenSpec.ofChange evalPlaysSpec)) evalPlaysCard

/-- THE TIED CARD OF 'sorrellaw13.FactsHold'. -/
def factsHoldCard : Claim7 := { stood := { row := factsHoldRow, standIns := [], harness := (true, "c988d435813f182343eee24b9a3aa77d9308442c6029fcf46f023a34e18dcfe9"), looks := false }, kinds := [], alts := [], laidByText := true, laidKinds := [.data, .wider, .data, .pinned], laidTests := true, laidLooks := .later }
def FactsHoldCardSaid : Prop := Claim7.holds Tryd.pinned (.plain (OpenSpec.ofChange factsHoldSpec)) factsHoldCard

/-- THE TIED CARD OF 'sorrellaw13.FactsParts'. -/
def factsPartsCard : Claim7 := { stood := { row := factsPartsRow, standIns := [], harness := (true, "c988d435813f182343eee24b9a3aa77d9308442c6029fcf46f023a34e18dcfe9"), looks := false }, kinds := [], alts := [], laidByText := true, laidKinds := [.wider, .data], laidTests := true, laidLooks := .later }
def FactsPartsCardSaid : Prop := Claim7.holds Tryd.pinned (.plain (OpenSpec.ofChange factsPartsSpec)) factsPartsCard

/-- THE TIED CARD OF 'sorrellaw12.PictureChecks'. -/
def pictureChecksCard : Claim7 := { stood := { row := pictureChecksRow, standIns := [], harness := (true, "c988d435813f182343eee24b9a3aa77d9308442c6029fcf46f023a34e18dcfe9"), looks := false }, kinds := [], alts := [], laidByText := true, laidKinds := [.data, .wider, .pinned], laidTests := true, laidLooks := .later }
def PictureChecksCardSaid : Prop := Claim7.holds Tryd.pinned (.plain (OpenSpec.ofChange pictureChecksSpec)) pictureChecksCard

/-- THE SECOND FORM's CARD OF 'sorrellaw02.ExprPlays'. -/
def exprPlaysUptoCard : Claim7 := { stood := { row := exprPlaysUptoRow, standIns := [], harness := (true, "c988d435813f182343eee24b9a3aa77d9308442c6029fcf46f023a34e18dcfe9"), looks := false }, kinds := [], alts := [], laidByText := true, laidKinds := [.data, .wider, .pinned], laidTests := true, laidLooks := .later }
def ExprPlaysUptoCardSaid : Prop := Claim7.holds Tryd.pinned (.plain (OpenSpec.upto exprPlaysSpec)) exprPlaysUptoCard

/-- THE SECOND FORM's CARD OF 'sorrellaw08.EvalPlays'. -/
def evalPlaysUptoCard : Claim7 := { stood := { row := evalPlaysUptoRow, standIns := [], harness := (true, "c988d435813f182343eee24b9a3aa77d9308442c6029fcf46f023a34e18dcfe9"), looks := false }, kinds := [], alts := [], laidByText := true, laidKinds := [.wider, .data], laidTests := true, laidLooks := .later }
def EvalPlaysUptoCardSaid : Prop := Claim7.holds Tryd.pinned (.plain (OpenSpec.upto evalPlaysSpec)) evalPlaysUptoCard

/-- THE SECOND FORM's CARD OF 'sorrellaw13.FactsHold'. -/
def factsHoldUptoCard : Claim7 := { stood := { row := factsHoldUptoRow, standIns := [], harness := (true, "c988d435813f182343eee24b9a3aa77d9308442c6029fcf46f023a34e18dcfe9"), looks := false }, kinds := [], alts := [], laidByText := true, laidKinds := [.data, .wider, .data, .pinned], laidTests := true, laidLooks := .later }
def FactsHoldUptoCardSaid : Prop := Claim7.holds Tryd.pinned (.plain (OpenSpec.upto factsHoldSpec)) factsHoldUptoCard

/-- THE SECOND FORM's CARD OF 'sorrellaw13.FactsParts'. -/
def factsPartsUptoCard : Claim7 := { stood := { row := factsPartsUptoRow, standIns := [], harness := (true, "c988d435813f182343eee24b9a3aa77d9308442c6029fcf46f023a34e18dcfe9"), looks := false }, kinds := [], alts := [], laidByText := true, laidKinds := [.wider, .data], laidTests := true, laidLooks := .later }
def FactsPartsUptoCardSaid : Prop := Claim7.holds Tryd.pinned (.plain (OpenSpec.upto factsPartsSpec)) factsPartsUptoCard

/-- THE SECOND FORM's CARD OF 'sorrellaw12.PictureChecks'. -/
def pictureChecksUptoCard : Claim7 := { stood := { row := pictureChecksUptoRow, standIns := [], harness := (true, "c988d435813f182343eee24b9a3aa77d9308442c6029fcf46f023a34e18dcfe9"), looks := false }, kinds := [], alts := [], laidByText := true, laidKinds := [.data, .wider, .pinned], laidTests := true, laidLooks := .later }
def PictureChecksUptoCardSaid : Prop := Claim7.holds Tryd.pinned (.plain (OpenSpec.upto pictureChecksSpec)) pictureChecksUptoCard
end Rows
end Go.Proofs.YtkbcgcempchoaaaDoor

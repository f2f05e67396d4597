/-
  DERIVED. GIVEN WITH THE SEED: THE CARDS: each row of YtdcfffcimikfeaaDoorRows.lean that lists a variable, with what it lists TIED to the program's text (the seventh form; the later family's looks); each row that meets fmt, with fmt's text TOLD by the authors' own Lean function (tested against real Go, not proved from fmt's source: count such statements apart). THE CARD IS WHAT COUNTS. Prove the row's statement (the work); the ties are given (YtdcfffcimikfeaaDoorTie.lean); close each card by the builder's one call (the guide's Derived/Test/ToyasCard.lean, 'card_holds'). Laid BY PROGRAM, IN A SANDBOX (cutbox-door.mjs). By AI agents, Wed Nov 11 2026. No macro, syntax, notation, axiom, sorry.
-/
import Derived.Test.YtdcfffcimikfeaaDoorRows
import GoSem.ClaimSeven
namespace Go.Proofs.YtdcfffcimikfeaaDoor
namespace Rows

/-- THE TIED CARD OF 'sorrellaw02.ExprPlays'. -/
def exprPlaysCard : Claim7 := { stood := { row := exprPlaysRow, standIns := [], harness := (true, "d85fabc5bc33b4f12c0ff840b81ec5b547e9d7f4df13e1b4cde95f37d9f4f590"), looks := true }, kinds := [], alts := [], laidByText := true, laidKinds := [.data, .wider, .pinned], laidTests := true, laidLooks := .later }
def ExprPlaysCardSaid : Prop := Claim7.holds Tryd.pinned (.plain (OpenSpec.ofChange exprPlaysSpec)) exprPlaysCard

/-- THE TIED CARD OF 'sorrellaw04.ParseWrites'. -/
def parseWritesCard : Claim7 := { stood := { row := parseWritesRow, standIns := [], harness := (true, "d85fabc5bc33b4f12c0ff840b81ec5b547e9d7f4df13e1b4cde95f37d9f4f590"), looks := true }, kinds := [], alts := [], laidByText := true, laidKinds := [.data, .wider, .pinned], laidTests := true, laidLooks := .later }
def ParseWritesCardSaid : Prop := Claim7.holds Tryd.pinned (.plain (OpenSpec.ofChange parseWritesSpec)) parseWritesCard

/-- THE TIED CARD OF 'sorrellaw04.ParseSpelled'. -/
def parseSpelledCard : Claim7 := { stood := { row := parseSpelledRow, standIns := [], harness := (true, "d85fabc5bc33b4f12c0ff840b81ec5b547e9d7f4df13e1b4cde95f37d9f4f590"), looks := true }, kinds := [], alts := [], laidByText := true, laidKinds := [.data, .wider, .pinned], laidTests := true, laidLooks := .later }
def ParseSpelledCardSaid : Prop := Claim7.holds Tryd.pinned (.plain (OpenSpec.ofChange parseSpelledSpec)) parseSpelledCard

/-- THE TIED CARD OF 'sorrellaw04.ParseKeeps'. -/
def parseKeepsCard : Claim7 := { stood := { row := parseKeepsRow, standIns := [], harness := (true, "d85fabc5bc33b4f12c0ff840b81ec5b547e9d7f4df13e1b4cde95f37d9f4f590"), looks := true }, kinds := [], alts := [], laidByText := true, laidKinds := [.data, .wider, .pinned], laidTests := true, laidLooks := .later }
def ParseKeepsCardSaid : Prop := Claim7.holds Tryd.pinned (.plain (OpenSpec.ofChange parseKeepsSpec)) parseKeepsCard

/-- THE TIED CARD OF 'sorrellaw05.ShowBack'. -/
def showBackCard : Claim7 := { stood := { row := showBackRow, standIns := [], harness := (true, "d85fabc5bc33b4f12c0ff840b81ec5b547e9d7f4df13e1b4cde95f37d9f4f590"), looks := true }, kinds := [], alts := [], laidByText := true, laidKinds := [.data, .data, .data, .data, .wider, .data, .pinned], laidTests := true, laidLooks := .later }
def ShowBackCardSaid : Prop := Claim7.holds Tryd.pinned (.plain (OpenSpec.ofChange showBackSpec)) showBackCard

/-- THE TIED CARD OF 'sorrellaw05.ShowLisp'. -/
def showLispCard : Claim7 := { stood := { row := showLispRow, standIns := [], harness := (true, "d85fabc5bc33b4f12c0ff840b81ec5b547e9d7f4df13e1b4cde95f37d9f4f590"), looks := true }, kinds := [], alts := [], laidByText := true, laidKinds := [.data, .data, .data, .data, .wider, .data, .pinned], laidTests := true, laidLooks := .later }
def ShowLispCardSaid : Prop := Claim7.holds Tryd.pinned (.plain (OpenSpec.ofChange showLispSpec)) showLispCard

/-- THE SECOND FORM's CARD OF 'sorrellaw02.ExprPlays'. -/
def exprPlaysUptoCard : Claim7 := { stood := { row := exprPlaysUptoRow, standIns := [], harness := (true, "d85fabc5bc33b4f12c0ff840b81ec5b547e9d7f4df13e1b4cde95f37d9f4f590"), looks := true }, kinds := [], alts := [], laidByText := true, laidKinds := [.data, .wider, .pinned], laidTests := true, laidLooks := .later }
def ExprPlaysUptoCardSaid : Prop := Claim7.holds Tryd.pinned (.plain (OpenSpec.upto exprPlaysSpec)) exprPlaysUptoCard

/-- THE SECOND FORM's CARD OF 'sorrellaw04.ParseWrites'. -/
def parseWritesUptoCard : Claim7 := { stood := { row := parseWritesUptoRow, standIns := [], harness := (true, "d85fabc5bc33b4f12c0ff840b81ec5b547e9d7f4df13e1b4cde95f37d9f4f590"), looks := true }, kinds := [], alts := [], laidByText := true, laidKinds := [.data, .wider, .pinned], laidTests := true, laidLooks := .later }
def ParseWritesUptoCardSaid : Prop := Claim7.holds Tryd.pinned (.plain (OpenSpec.upto parseWritesSpec)) parseWritesUptoCard

/-- THE SECOND FORM's CARD OF 'sorrellaw04.ParseSpelled'. -/
def parseSpelledUptoCard : Claim7 := { stood := { row := parseSpelledUptoRow, standIns := [], harness := (true, "d85fabc5bc33b4f12c0ff840b81ec5b547e9d7f4df13e1b4cde95f37d9f4f590"), looks := true }, kinds := [], alts := [], laidByText := true, laidKinds := [.data, .wider, .pinned], laidTests := true, laidLooks := .later }
def ParseSpelledUptoCardSaid : Prop := Claim7.holds Tryd.pinned (.plain (OpenSpec.upto parseSpelledSpec)) parseSpelledUptoCard

/-- THE SECOND FORM's CARD OF 'sorrellaw04.ParseKeeps'. -/
def parseKeepsUptoCard : Claim7 := { stood := { row := parseKeepsUptoRow, standIns := [], harness := (true, "d85fabc5bc33b4f12c0ff840b81ec5b547e9d7f4df13e1b4cde95f37d9f4f590"), looks := true }, kinds := [], alts := [], laidByText := true, laidKinds := [.data, .wider, .pinned], laidTests := true, laidLooks := .later }
def ParseKeepsUptoCardSaid : Prop := Claim7.holds Tryd.pinned (.plain (OpenSpec.upto parseKeepsSpec)) parseKeepsUptoCard

/-- THE SECOND FORM's CARD OF 'sorrellaw05.ShowBack'. -/
def showBackUptoCard : Claim7 := { stood := { row := showBackUptoRow, standIns := [], harness := (true, "d85fabc5bc33b4f12c0ff840b81ec5b547e9d7f4df13e1b4cde95f37d9f4f590"), looks := true }, kinds := [], alts := [], laidByText := true, laidKinds := [.data, .data, .data, .data, .wider, .data, .pinned], laidTests := true, laidLooks := .later }
def ShowBackUptoCardSaid : Prop := Claim7.holds Tryd.pinned (.plain (OpenSpec.upto showBackSpec)) showBackUptoCard

/-- THE SECOND FORM's CARD OF 'sorrellaw05.ShowLisp'. -/
def showLispUptoCard : Claim7 := { stood := { row := showLispUptoRow, standIns := [], harness := (true, "d85fabc5bc33b4f12c0ff840b81ec5b547e9d7f4df13e1b4cde95f37d9f4f590"), looks := true }, kinds := [], alts := [], laidByText := true, laidKinds := [.data, .data, .data, .data, .wider, .data, .pinned], laidTests := true, laidLooks := .later }
def ShowLispUptoCardSaid : Prop := Claim7.holds Tryd.pinned (.plain (OpenSpec.upto showLispSpec)) showLispUptoCard
end Rows
end Go.Proofs.YtdcfffcimikfeaaDoor

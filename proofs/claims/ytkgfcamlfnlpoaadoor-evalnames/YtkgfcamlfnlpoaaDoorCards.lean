/-
  DERIVED. GIVEN WITH THE SEED: THE CARDS: each row of YtkgfcamlfnlpoaaDoorRows.lean that lists a variable, with what it lists TIED to the program's text (the seventh form; the later family's looks); each row that meets fmt, with fmt's text TOLD by the authors' own Lean function (tested against real Go, not proved from fmt's source: count such statements apart). THE CARD IS WHAT COUNTS. Prove the row's statement (the work); the ties are given (YtkgfcamlfnlpoaaDoorTie.lean); close each card by the builder's one call (the guide's Derived/Test/ToyasCard.lean, 'card_holds'). Laid BY PROGRAM, IN A SANDBOX (cutbox-door.mjs). By AI agents, Wed Nov 11 2026. No macro, syntax, notation, axiom, sorry.
-/
import Derived.Test.YtkgfcamlfnlpoaaDoorRows
import GoSem.ClaimSeven
namespace Go.Proofs.YtkgfcamlfnlpoaaDoor
namespace Rows

/-- THE TIED CARD OF 'sorrellaw02.ExprPlays'. -/
def exprPlaysCard : Claim7 := { stood := { row := exprPlaysRow, standIns := [], harness := (true, "ffff64b3cd85648e388030b6c7ff40918a4c5075dea2e89bb5a35e3b3b8bd112"), looks := false }, kinds := [], alts := [], laidByText := true, laidKinds := [.data, .wider, .pinned], laidTests := true, laidLooks := .later }
def ExprPlaysCardSaid : Prop := Claim7.holds Tryd.pinned (.plain (OpenSpec.ofChange exprPlaysSpec)) exprPlaysCard

/-- THE TIED CARD OF 'sorrellaw08.EvalPlays'. -/
def evalPlaysCard : Claim7 := { stood := { row := evalPlaysRow, standIns := [], harness := (true, "ffff64b3cd85648e388030b6c7ff40918a4c5075dea2e89bb5a35e3b3b8bd112"), looks := false }, kinds := [], alts := [], laidByText := true, laidKinds := [.wider, .data], laidTests := true, laidLooks := .later }
def EvalPlaysCardSaid : Prop := Claim7.holds Tryd.pinned (.plain (OpenSpec.ofChange evalPlaysSpec)) evalPlaysCard

/-- THE TIED CARD OF 'sorrellaw08.EvalParts'. -/
def evalPartsCard : Claim7 := { stood := { row := evalPartsRow, standIns := [], harness := (true, "ffff64b3cd85648e388030b6c7ff40918a4c5075dea2e89bb5a35e3b3b8bd112"), looks := false }, kinds := [], alts := [], laidByText := true, laidKinds := [.wider, .data], laidTests := true, laidLooks := .later }
def EvalPartsCardSaid : Prop := Claim7.holds Tryd.pinned (.plain (OpenSpec.ofChange evalPartsSpec)) evalPartsCard

/-- THE TIED CARD OF 'sorrellaw08.EvalNames'. -/
def evalNamesCard : Claim7 := { stood := { row := evalNamesRow, standIns := [], harness := (true, "ffff64b3cd85648e388030b6c7ff40918a4c5075dea2e89bb5a35e3b3b8bd112"), looks := false }, kinds := [], alts := [], laidByText := true, laidKinds := [.data, .wider, .data, .pinned], laidTests := true, laidLooks := .later }
def EvalNamesCardSaid : Prop := Claim7.holds Tryd.pinned (.plain (OpenSpec.ofChange evalNamesSpec)) evalNamesCard

/-- THE TIED CARD OF 'sorrellaw08.EvalPut'. -/
def evalPutCard : Claim7 := { stood := { row := evalPutRow, standIns := [], harness := (true, "ffff64b3cd85648e388030b6c7ff40918a4c5075dea2e89bb5a35e3b3b8bd112"), looks := false }, kinds := [], alts := [], laidByText := true, laidKinds := [.wider, .data], laidTests := true, laidLooks := .later }
def EvalPutCardSaid : Prop := Claim7.holds Tryd.pinned (.plain (OpenSpec.ofChange evalPutSpec)) evalPutCard

/-- THE TIED CARD OF 'sorrellaw08.EvalKeeps'. -/
def evalKeepsCard : Claim7 := { stood := { row := evalKeepsRow, standIns := [], harness := (true, "ffff64b3cd85648e388030b6c7ff40918a4c5075dea2e89bb5a35e3b3b8bd112"), looks := false }, kinds := [], alts := [], laidByText := true, laidKinds := [.wider, .data], laidTests := true, laidLooks := .later }
def EvalKeepsCardSaid : Prop := Claim7.holds Tryd.pinned (.plain (OpenSpec.ofChange evalKeepsSpec)) evalKeepsCard

/-- THE SECOND FORM's CARD OF 'sorrellaw02.ExprPlays'. -/
def exprPlaysUptoCard : Claim7 := { stood := { row := exprPlaysUptoRow, standIns := [], harness := (true, "ffff64b3cd85648e388030b6c7ff40918a4c5075dea2e89bb5a35e3b3b8bd112"), looks := false }, kinds := [], alts := [], laidByText := true, laidKinds := [.data, .wider, .pinned], laidTests := true, laidLooks := .later }
def ExprPlaysUptoCardSaid : Prop := Claim7.holds Tryd.pinned (.plain (OpenSpec.upto exprPlaysSpec)) exprPlaysUptoCard

/-- THE SECOND FORM's CARD OF 'sorrellaw08.EvalPlays'. -/
def evalPlaysUptoCard : Claim7 := { stood := { row := evalPlaysUptoRow, standIns := [], harness := (true, "ffff64b3cd85648e388030b6c7ff40918a4c5075dea2e89bb5a35e3b3b8bd112"), looks := false }, kinds := [], alts := [], laidByText := true, laidKinds := [.wider, .data], laidTests := true, laidLooks := .later }
def EvalPlaysUptoCardSaid : Prop := Claim7.holds Tryd.pinned (.plain (OpenSpec.upto evalPlaysSpec)) evalPlaysUptoCard

/-- THE SECOND FORM's CARD OF 'sorrellaw08.EvalParts'. -/
def evalPartsUptoCard : Claim7 := { stood := { row := evalPartsUptoRow, standIns := [], harness := (true, "ffff64b3cd85648e388030b6c7ff40918a4c5075dea2e89bb5a35e3b3b8bd112"), looks := false }, kinds := [], alts := [], laidByText := true, laidKinds := [.wider, .data], laidTests := true, laidLooks := .later }
def EvalPartsUptoCardSaid : Prop := Claim7.holds Tryd.pinned (.plain (OpenSpec.upto evalPartsSpec)) evalPartsUptoCard

/-- THE SECOND FORM's CARD OF 'sorrellaw08.EvalNames'. -/
def evalNamesUptoCard : Claim7 := { stood := { row := evalNamesUptoRow, standIns := [], harness := (true, "ffff64b3cd85648e388030b6c7ff40918a4c5075dea2e89bb5a35e3b3b8bd112"), looks := false }, kinds := [], alts := [], laidByText := true, laidKinds := [.data, .wider, .data, .pinned], laidTests := true, laidLooks := .later }
def EvalNamesUptoCardSaid : Prop := Claim7.holds Tryd.pinned (.plain (OpenSpec.upto evalNamesSpec)) evalNamesUptoCard

/-- THE SECOND FORM's CARD OF 'sorrellaw08.EvalPut'. -/
def evalPutUptoCard : Claim7 := { stood := { row := evalPutUptoRow, standIns := [], harness := (true, "ffff64b3cd85648e388030b6c7ff40918a4c5075dea2e89bb5a35e3b3b8bd112"), looks := false }, kinds := [], alts := [], laidByText := true, laidKinds := [.wider, .data], laidTests := true, laidLooks := .later }
def EvalPutUptoCardSaid : Prop := Claim7.holds Tryd.pinned (.plain (OpenSpec.upto evalPutSpec)) evalPutUptoCard

/-- THE SECOND FORM's CARD OF 'sorrellaw08.EvalKeeps'. -/
def evalKeepsUptoCard : Claim7 := { stood := { row := evalKeepsUptoRow, standIns := [], harness := (true, "ffff64b3cd85648e388030b6c7ff40918a4c5075dea2e89bb5a35e3b3b8bd112"), looks := false }, kinds := [], alts := [], laidByText := true, laidKinds := [.wider, .data], laidTests := true, laidLooks := .later }
def EvalKeepsUptoCardSaid : Prop := Claim7.holds Tryd.pinned (.plain (OpenSpec.upto evalKeepsSpec)) evalKeepsUptoCard
end Rows
end Go.Proofs.YtkgfcamlfnlpoaaDoor

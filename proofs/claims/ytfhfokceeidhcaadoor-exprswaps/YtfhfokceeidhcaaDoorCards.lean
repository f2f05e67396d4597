/-
  DERIVED. GIVEN WITH THE SEED: THE CARDS: each row of YtfhfokceeidhcaaDoorRows.lean that lists a variable, with what it lists TIED to the program's text (the seventh form; the later family's looks); each row that meets fmt, with fmt's text TOLD by the authors' own Lean function (tested against real Go, not proved from fmt's source: count such statements apart). THE CARD IS WHAT COUNTS. Prove the row's statement (the work); the ties are given (YtfhfokceeidhcaaDoorTie.lean); close each card by the builder's one call (the guide's Derived/Test/ToyasCard.lean, 'card_holds'). Laid BY PROGRAM, IN A SANDBOX (cutbox-door.mjs). By AI agents, Wed Nov 11 2026. No macro, syntax, notation, axiom, sorry.
-/
import Derived.Test.YtfhfokceeidhcaaDoorRows
import GoSem.ClaimSeven
namespace Go.Proofs.YtfhfokceeidhcaaDoor
namespace Rows

/-- THE TIED CARD OF 'sorrellaw02.ExprPlays'. -/
def exprPlaysCard : Claim7 := { stood := { row := exprPlaysRow, standIns := [], harness := (true, "f78873c75241781dadfcc8145d96d6e05ea42707cfcd89837d83b3d019ddfe79"), looks := true }, kinds := [], alts := [], laidByText := true, laidKinds := [.data, .wider, .pinned], laidTests := true, laidLooks := .later }
def ExprPlaysCardSaid : Prop := Claim7.holds Tryd.pinned (.plain (OpenSpec.ofChange exprPlaysSpec)) exprPlaysCard

/-- THE TIED CARD OF 'sorrellaw02.ExprRebuilds'. -/
def exprRebuildsCard : Claim7 := { stood := { row := exprRebuildsRow, standIns := [], harness := (true, "f78873c75241781dadfcc8145d96d6e05ea42707cfcd89837d83b3d019ddfe79"), looks := true }, kinds := [], alts := [], laidByText := true, laidKinds := [.data, .wider, .pinned], laidTests := true, laidLooks := .later }
def ExprRebuildsCardSaid : Prop := Claim7.holds Tryd.pinned (.plain (OpenSpec.ofChange exprRebuildsSpec)) exprRebuildsCard

/-- THE TIED CARD OF 'sorrellaw02.ExprSwaps'. -/
def exprSwapsCard : Claim7 := { stood := { row := exprSwapsRow, standIns := [], harness := (true, "f78873c75241781dadfcc8145d96d6e05ea42707cfcd89837d83b3d019ddfe79"), looks := true }, kinds := [], alts := [], laidByText := true, laidKinds := [.wider], laidTests := true, laidLooks := .later }
def ExprSwapsCardSaid : Prop := Claim7.holds Tryd.pinned (.plain (OpenSpec.ofChange exprSwapsSpec)) exprSwapsCard

/-- THE TIED CARD OF 'sorrellaw02.ExprKeeps'. -/
def exprKeepsCard : Claim7 := { stood := { row := exprKeepsRow, standIns := [], harness := (true, "f78873c75241781dadfcc8145d96d6e05ea42707cfcd89837d83b3d019ddfe79"), looks := true }, kinds := [], alts := [], laidByText := true, laidKinds := [.data, .wider, .pinned], laidTests := true, laidLooks := .later }
def ExprKeepsCardSaid : Prop := Claim7.holds Tryd.pinned (.plain (OpenSpec.ofChange exprKeepsSpec)) exprKeepsCard

/-- THE SECOND FORM's CARD OF 'sorrellaw02.ExprPlays'. -/
def exprPlaysUptoCard : Claim7 := { stood := { row := exprPlaysUptoRow, standIns := [], harness := (true, "f78873c75241781dadfcc8145d96d6e05ea42707cfcd89837d83b3d019ddfe79"), looks := true }, kinds := [], alts := [], laidByText := true, laidKinds := [.data, .wider, .pinned], laidTests := true, laidLooks := .later }
def ExprPlaysUptoCardSaid : Prop := Claim7.holds Tryd.pinned (.plain (OpenSpec.upto exprPlaysSpec)) exprPlaysUptoCard

/-- THE SECOND FORM's CARD OF 'sorrellaw02.ExprRebuilds'. -/
def exprRebuildsUptoCard : Claim7 := { stood := { row := exprRebuildsUptoRow, standIns := [], harness := (true, "f78873c75241781dadfcc8145d96d6e05ea42707cfcd89837d83b3d019ddfe79"), looks := true }, kinds := [], alts := [], laidByText := true, laidKinds := [.data, .wider, .pinned], laidTests := true, laidLooks := .later }
def ExprRebuildsUptoCardSaid : Prop := Claim7.holds Tryd.pinned (.plain (OpenSpec.upto exprRebuildsSpec)) exprRebuildsUptoCard

/-- THE SECOND FORM's CARD OF 'sorrellaw02.ExprSwaps'. -/
def exprSwapsUptoCard : Claim7 := { stood := { row := exprSwapsUptoRow, standIns := [], harness := (true, "f78873c75241781dadfcc8145d96d6e05ea42707cfcd89837d83b3d019ddfe79"), looks := true }, kinds := [], alts := [], laidByText := true, laidKinds := [.wider], laidTests := true, laidLooks := .later }
def ExprSwapsUptoCardSaid : Prop := Claim7.holds Tryd.pinned (.plain (OpenSpec.upto exprSwapsSpec)) exprSwapsUptoCard

/-- THE SECOND FORM's CARD OF 'sorrellaw02.ExprKeeps'. -/
def exprKeepsUptoCard : Claim7 := { stood := { row := exprKeepsUptoRow, standIns := [], harness := (true, "f78873c75241781dadfcc8145d96d6e05ea42707cfcd89837d83b3d019ddfe79"), looks := true }, kinds := [], alts := [], laidByText := true, laidKinds := [.data, .wider, .pinned], laidTests := true, laidLooks := .later }
def ExprKeepsUptoCardSaid : Prop := Claim7.holds Tryd.pinned (.plain (OpenSpec.upto exprKeepsSpec)) exprKeepsUptoCard
end Rows
end Go.Proofs.YtfhfokceeidhcaaDoor

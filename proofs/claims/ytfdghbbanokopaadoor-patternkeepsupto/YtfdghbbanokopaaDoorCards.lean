/-
  DERIVED. GIVEN WITH THE SEED: THE CARDS: each row of YtfdghbbanokopaaDoorRows.lean that lists a variable, with what it lists TIED to the program's text (the seventh form; the later family's looks); each row that meets fmt, with fmt's text TOLD by the authors' own Lean function (tested against real Go, not proved from fmt's source: count such statements apart). THE CARD IS WHAT COUNTS. Prove the row's statement (the work); the ties are given (YtfdghbbanokopaaDoorTie.lean); close each card by the builder's one call (the guide's Derived/Test/ToyasCard.lean, 'card_holds'). Laid BY PROGRAM, IN A SANDBOX (cutbox-door.mjs). By AI agents, Wed Nov 11 2026. No macro, syntax, notation, axiom, sorry.
-/
import Derived.Test.YtfdghbbanokopaaDoorRows
import GoSem.ClaimSeven
namespace Go.Proofs.YtfdghbbanokopaaDoor
namespace Rows

/-- THE TIED CARD OF 'sorrellaw02.ExprPlays'. -/
def exprPlaysCard : Claim7 := { stood := { row := exprPlaysRow, standIns := [], harness := (true, "8c58909153de32084c663607610928e153bafd88876aee36d8c3461b2b013b9b"), looks := false }, kinds := [], alts := [], laidByText := true, laidKinds := [.data, .wider, .pinned], laidTests := true, laidLooks := .later }
def ExprPlaysCardSaid : Prop := Claim7.holds Tryd.pinned (.plain (OpenSpec.ofChange exprPlaysSpec)) exprPlaysCard

/-- THE TIED CARD OF 'sorrellaw08.EvalPlays'. -/
def evalPlaysCard : Claim7 := { stood := { row := evalPlaysRow, standIns := [], harness := (true, "8c58909153de32084c663607610928e153bafd88876aee36d8c3461b2b013b9b"), looks := false }, kinds := [], alts := [], laidByText := true, laidKinds := [.wider, .data], laidTests := true, laidLooks := .later }
def EvalPlaysCardSaid : Prop := Claim7.holds Tryd.pinned (.plain (OpenSpec.ofChange evalPlaysSpec)) evalPlaysCard

/-- THE TIED CARD OF 'sorrellaw14.PatternMeans'. -/
def patternMeansCard : Claim7 := { stood := { row := patternMeansRow, standIns := [], harness := (true, "8c58909153de32084c663607610928e153bafd88876aee36d8c3461b2b013b9b"), looks := false }, kinds := [], alts := [], laidByText := true, laidKinds := [.wider, .data], laidTests := true, laidLooks := .later }
def PatternMeansCardSaid : Prop := Claim7.holds Tryd.pinned (.plain (OpenSpec.ofChange patternMeansSpec)) patternMeansCard

/-- THE TIED CARD OF 'sorrellaw14.PatternKeeps'. -/
def patternKeepsCard : Claim7 := { stood := { row := patternKeepsRow, standIns := [], harness := (true, "8c58909153de32084c663607610928e153bafd88876aee36d8c3461b2b013b9b"), looks := false }, kinds := [], alts := [], laidByText := true, laidKinds := [.data, .wider, .pinned], laidTests := true, laidLooks := .later }
def PatternKeepsCardSaid : Prop := Claim7.holds Tryd.pinned (.plain (OpenSpec.ofChange patternKeepsSpec)) patternKeepsCard

/-- THE SECOND FORM's CARD OF 'sorrellaw02.ExprPlays'. -/
def exprPlaysUptoCard : Claim7 := { stood := { row := exprPlaysUptoRow, standIns := [], harness := (true, "8c58909153de32084c663607610928e153bafd88876aee36d8c3461b2b013b9b"), looks := false }, kinds := [], alts := [], laidByText := true, laidKinds := [.data, .wider, .pinned], laidTests := true, laidLooks := .later }
def ExprPlaysUptoCardSaid : Prop := Claim7.holds Tryd.pinned (.plain (OpenSpec.upto exprPlaysSpec)) exprPlaysUptoCard

/-- THE SECOND FORM's CARD OF 'sorrellaw08.EvalPlays'. -/
def evalPlaysUptoCard : Claim7 := { stood := { row := evalPlaysUptoRow, standIns := [], harness := (true, "8c58909153de32084c663607610928e153bafd88876aee36d8c3461b2b013b9b"), looks := false }, kinds := [], alts := [], laidByText := true, laidKinds := [.wider, .data], laidTests := true, laidLooks := .later }
def EvalPlaysUptoCardSaid : Prop := Claim7.holds Tryd.pinned (.plain (OpenSpec.upto evalPlaysSpec)) evalPlaysUptoCard

/-- THE SECOND FORM's CARD OF 'sorrellaw14.PatternMeans'. -/
def patternMeansUptoCard : Claim7 := { stood := { row := patternMeansUptoRow, standIns := [], harness := (true, "8c58909153de32084c663607610928e153bafd88876aee36d8c3461b2b013b9b"), looks := false }, kinds := [], alts := [], laidByText := true, laidKinds := [.wider, .data], laidTests := true, laidLooks := .later }
def PatternMeansUptoCardSaid : Prop := Claim7.holds Tryd.pinned (.plain (OpenSpec.upto patternMeansSpec)) patternMeansUptoCard

/-- THE SECOND FORM's CARD OF 'sorrellaw14.PatternKeeps'. -/
def patternKeepsUptoCard : Claim7 := { stood := { row := patternKeepsUptoRow, standIns := [], harness := (true, "8c58909153de32084c663607610928e153bafd88876aee36d8c3461b2b013b9b"), looks := false }, kinds := [], alts := [], laidByText := true, laidKinds := [.data, .wider, .pinned], laidTests := true, laidLooks := .later }
def PatternKeepsUptoCardSaid : Prop := Claim7.holds Tryd.pinned (.plain (OpenSpec.upto patternKeepsSpec)) patternKeepsUptoCard
end Rows
end Go.Proofs.YtfdghbbanokopaaDoor

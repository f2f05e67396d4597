/-
  DERIVED. GIVEN WITH THE SEED: THE CARDS: each row of YtchhogiamdefjaaDoorRows.lean that lists a variable, with what it lists TIED to the program's text (the seventh form; the later family's looks); each row that meets fmt, with fmt's text TOLD by the authors' own Lean function (tested against real Go, not proved from fmt's source: count such statements apart). THE CARD IS WHAT COUNTS. Prove the row's statement (the work); the ties are given (YtchhogiamdefjaaDoorTie.lean); close each card by the builder's one call (the guide's Derived/Test/ToyasCard.lean, 'card_holds'). Laid BY PROGRAM, IN A SANDBOX (cutbox-door.mjs). By AI agents, Wed Nov 11 2026. No macro, syntax, notation, axiom, sorry.
-/
import Derived.Test.YtchhogiamdefjaaDoorRows
import GoSem.ClaimSeven
namespace Go.Proofs.YtchhogiamdefjaaDoor
namespace Rows

/-- THE TIED CARD OF 'sorrellaw02.ExprPlays'. -/
def exprPlaysCard : Claim7 := { stood := { row := exprPlaysRow, standIns := [], harness := (true, "d1d9588f3db3abad7eb7bd094eded3eb6ff292b2f2626f044bb53658697a2bcc"), looks := false }, kinds := [], alts := [], laidByText := true, laidKinds := [.data, .wider, .pinned], laidTests := true, laidLooks := .later }
def ExprPlaysCardSaid : Prop := Claim7.holds Tryd.pinned (.plain (OpenSpec.ofChange exprPlaysSpec)) exprPlaysCard

/-- THE TIED CARD OF 'sorrellaw05.ShowPlays'. -/
def showPlaysCard : Claim7 := { stood := { row := showPlaysRow, standIns := [], harness := (true, "d1d9588f3db3abad7eb7bd094eded3eb6ff292b2f2626f044bb53658697a2bcc"), looks := false }, kinds := [], alts := [], laidByText := true, laidKinds := [.data, .data, .data, .wider, .data], laidTests := true, laidLooks := .later }
def ShowPlaysCardSaid : Prop := Claim7.holds Tryd.pinned (.plain (OpenSpec.ofChange showPlaysSpec)) showPlaysCard

/-- THE TIED CARD OF 'sorrellaw05.ShowLisp'. -/
def showLispCard : Claim7 := { stood := { row := showLispRow, standIns := [], harness := (true, "d1d9588f3db3abad7eb7bd094eded3eb6ff292b2f2626f044bb53658697a2bcc"), looks := false }, kinds := [], alts := [], laidByText := true, laidKinds := [.data, .data, .data, .data, .wider, .data, .pinned], laidTests := true, laidLooks := .later }
def ShowLispCardSaid : Prop := Claim7.holds Tryd.pinned (.plain (OpenSpec.ofChange showLispSpec)) showLispCard

/-- THE TIED CARD OF 'sorrellaw05.ShowKeeps'. -/
def showKeepsCard : Claim7 := { stood := { row := showKeepsRow, standIns := [], harness := (true, "d1d9588f3db3abad7eb7bd094eded3eb6ff292b2f2626f044bb53658697a2bcc"), looks := false }, kinds := [], alts := [], laidByText := true, laidKinds := [.data, .data, .data, .wider, .data], laidTests := true, laidLooks := .later }
def ShowKeepsCardSaid : Prop := Claim7.holds Tryd.pinned (.plain (OpenSpec.ofChange showKeepsSpec)) showKeepsCard

/-- THE SECOND FORM's CARD OF 'sorrellaw02.ExprPlays'. -/
def exprPlaysUptoCard : Claim7 := { stood := { row := exprPlaysUptoRow, standIns := [], harness := (true, "d1d9588f3db3abad7eb7bd094eded3eb6ff292b2f2626f044bb53658697a2bcc"), looks := false }, kinds := [], alts := [], laidByText := true, laidKinds := [.data, .wider, .pinned], laidTests := true, laidLooks := .later }
def ExprPlaysUptoCardSaid : Prop := Claim7.holds Tryd.pinned (.plain (OpenSpec.upto exprPlaysSpec)) exprPlaysUptoCard

/-- THE SECOND FORM's CARD OF 'sorrellaw05.ShowPlays'. -/
def showPlaysUptoCard : Claim7 := { stood := { row := showPlaysUptoRow, standIns := [], harness := (true, "d1d9588f3db3abad7eb7bd094eded3eb6ff292b2f2626f044bb53658697a2bcc"), looks := false }, kinds := [], alts := [], laidByText := true, laidKinds := [.data, .data, .data, .wider, .data], laidTests := true, laidLooks := .later }
def ShowPlaysUptoCardSaid : Prop := Claim7.holds Tryd.pinned (.plain (OpenSpec.upto showPlaysSpec)) showPlaysUptoCard

/-- THE SECOND FORM's CARD OF 'sorrellaw05.ShowLisp'. -/
def showLispUptoCard : Claim7 := { stood := { row := showLispUptoRow, standIns := [], harness := (true, "d1d9588f3db3abad7eb7bd094eded3eb6ff292b2f2626f044bb53658697a2bcc"), looks := false }, kinds := [], alts := [], laidByText := true, laidKinds := [.data, .data, .data, .data, .wider, .data, .pinned], laidTests := true, laidLooks := .later }
def ShowLispUptoCardSaid : Prop := Claim7.holds Tryd.pinned (.plain (OpenSpec.upto showLispSpec)) showLispUptoCard

/-- THE SECOND FORM's CARD OF 'sorrellaw05.ShowKeeps'. -/
def showKeepsUptoCard : Claim7 := { stood := { row := showKeepsUptoRow, standIns := [], harness := (true, "d1d9588f3db3abad7eb7bd094eded3eb6ff292b2f2626f044bb53658697a2bcc"), looks := false }, kinds := [], alts := [], laidByText := true, laidKinds := [.data, .data, .data, .wider, .data], laidTests := true, laidLooks := .later }
def ShowKeepsUptoCardSaid : Prop := Claim7.holds Tryd.pinned (.plain (OpenSpec.upto showKeepsSpec)) showKeepsUptoCard
end Rows
end Go.Proofs.YtchhogiamdefjaaDoor

/-
  DERIVED. GIVEN WITH THE SEED: THE CARDS: each row of YtdcfjopmddaemaaDoorRows.lean that lists a variable, with what it lists TIED to the program's text (the seventh form; the later family's looks); each row that meets fmt, with fmt's text TOLD by the authors' own Lean function (tested against real Go, not proved from fmt's source: count such statements apart). THE CARD IS WHAT COUNTS. Prove the row's statement (the work); the ties are given (YtdcfjopmddaemaaDoorTie.lean); close each card by the builder's one call (the guide's Derived/Test/ToyasCard.lean, 'card_holds'). Laid BY PROGRAM, IN A SANDBOX (cutbox-door.mjs). By AI agents, Wed Nov 11 2026. No macro, syntax, notation, axiom, sorry.
-/
import Derived.Test.YtdcfjopmddaemaaDoorRows
import GoSem.ClaimSeven
namespace Go.Proofs.YtdcfjopmddaemaaDoor
namespace Rows

/-- THE TIED CARD OF 'sorrellaw02.ExprPlays'. -/
def exprPlaysCard : Claim7 := { stood := { row := exprPlaysRow, standIns := [], harness := (true, "c11fb17262f47487806d27442b367af0f1fba7911205efafd8250c3644865994"), looks := true }, kinds := [], alts := [], laidByText := true, laidKinds := [.data, .wider, .pinned], laidTests := true, laidLooks := .later }
def ExprPlaysCardSaid : Prop := Claim7.holds Tryd.pinned (.plain (OpenSpec.ofChange exprPlaysSpec)) exprPlaysCard

/-- THE TIED CARD OF 'sorrellaw03.BoxOpens'. -/
def boxOpensCard : Claim7 := { stood := { row := boxOpensRow, standIns := [], harness := (true, "c11fb17262f47487806d27442b367af0f1fba7911205efafd8250c3644865994"), looks := true }, kinds := [], alts := [], laidByText := true, laidKinds := [.wider], laidTests := true, laidLooks := .later }
def BoxOpensCardSaid : Prop := Claim7.holds Tryd.pinned (.plain (OpenSpec.ofChange boxOpensSpec)) boxOpensCard

/-- THE TIED CARD OF 'sorrellaw03.BoxAll'. -/
def boxAllCard : Claim7 := { stood := { row := boxAllRow, standIns := [], harness := (true, "c11fb17262f47487806d27442b367af0f1fba7911205efafd8250c3644865994"), looks := true }, kinds := [], alts := [], laidByText := true, laidKinds := [.wider], laidTests := true, laidLooks := .later }
def BoxAllCardSaid : Prop := Claim7.holds Tryd.pinned (.plain (OpenSpec.ofChange boxAllSpec)) boxAllCard

/-- THE TIED CARD OF 'sorrellaw08.EvalTerms'. -/
def evalTermsCard : Claim7 := { stood := { row := evalTermsRow, standIns := [], harness := (true, "c11fb17262f47487806d27442b367af0f1fba7911205efafd8250c3644865994"), looks := true }, kinds := [], alts := [], laidByText := true, laidKinds := [.wider, .data], laidTests := true, laidLooks := .later }
def EvalTermsCardSaid : Prop := Claim7.holds Tryd.pinned (.plain (OpenSpec.ofChange evalTermsSpec)) evalTermsCard

/-- THE SECOND FORM's CARD OF 'sorrellaw02.ExprPlays'. -/
def exprPlaysUptoCard : Claim7 := { stood := { row := exprPlaysUptoRow, standIns := [], harness := (true, "c11fb17262f47487806d27442b367af0f1fba7911205efafd8250c3644865994"), looks := true }, kinds := [], alts := [], laidByText := true, laidKinds := [.data, .wider, .pinned], laidTests := true, laidLooks := .later }
def ExprPlaysUptoCardSaid : Prop := Claim7.holds Tryd.pinned (.plain (OpenSpec.upto exprPlaysSpec)) exprPlaysUptoCard

/-- THE SECOND FORM's CARD OF 'sorrellaw03.BoxOpens'. -/
def boxOpensUptoCard : Claim7 := { stood := { row := boxOpensUptoRow, standIns := [], harness := (true, "c11fb17262f47487806d27442b367af0f1fba7911205efafd8250c3644865994"), looks := true }, kinds := [], alts := [], laidByText := true, laidKinds := [.wider], laidTests := true, laidLooks := .later }
def BoxOpensUptoCardSaid : Prop := Claim7.holds Tryd.pinned (.plain (OpenSpec.upto boxOpensSpec)) boxOpensUptoCard

/-- THE SECOND FORM's CARD OF 'sorrellaw03.BoxAll'. -/
def boxAllUptoCard : Claim7 := { stood := { row := boxAllUptoRow, standIns := [], harness := (true, "c11fb17262f47487806d27442b367af0f1fba7911205efafd8250c3644865994"), looks := true }, kinds := [], alts := [], laidByText := true, laidKinds := [.wider], laidTests := true, laidLooks := .later }
def BoxAllUptoCardSaid : Prop := Claim7.holds Tryd.pinned (.plain (OpenSpec.upto boxAllSpec)) boxAllUptoCard

/-- THE SECOND FORM's CARD OF 'sorrellaw08.EvalTerms'. -/
def evalTermsUptoCard : Claim7 := { stood := { row := evalTermsUptoRow, standIns := [], harness := (true, "c11fb17262f47487806d27442b367af0f1fba7911205efafd8250c3644865994"), looks := true }, kinds := [], alts := [], laidByText := true, laidKinds := [.wider, .data], laidTests := true, laidLooks := .later }
def EvalTermsUptoCardSaid : Prop := Claim7.holds Tryd.pinned (.plain (OpenSpec.upto evalTermsSpec)) evalTermsUptoCard
end Rows
end Go.Proofs.YtdcfjopmddaemaaDoor

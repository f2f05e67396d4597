/-
  DERIVED. GIVEN WITH THE SEED: THE CARDS: each row of YtpacjofepiojdaaDoorRows.lean that lists a variable, with what it lists TIED to the program's text (the seventh form; the later family's looks); each row that meets fmt, with fmt's text TOLD by the authors' own Lean function (tested against real Go, not proved from fmt's source: count such statements apart). THE CARD IS WHAT COUNTS. Prove the row's statement (the work); the ties are given (YtpacjofepiojdaaDoorTie.lean); close each card by the builder's one call (the guide's Derived/Test/ToyasCard.lean, 'card_holds'). Laid BY PROGRAM, IN A SANDBOX (cutbox-door.mjs). By AI agents, Wed Nov 11 2026. No macro, syntax, notation, axiom, sorry.
-/
import Derived.Test.YtpacjofepiojdaaDoorRows
import GoSem.ClaimSeven
namespace Go.Proofs.YtpacjofepiojdaaDoor
namespace Rows

/-- THE TIED CARD OF 'sorrellaw02.ExprPlays'. -/
def exprPlaysCard : Claim7 := { stood := { row := exprPlaysRow, standIns := [], harness := (true, "739c7531c9eeef6e4fb5c6503b641f7265495822234602d5fe8a7d04ee62f6dd"), looks := false }, kinds := [], alts := [], laidByText := true, laidKinds := [.data, .wider, .pinned], laidTests := true, laidLooks := .later }
def ExprPlaysCardSaid : Prop := Claim7.holds Tryd.pinned (.plain (OpenSpec.ofChange exprPlaysSpec)) exprPlaysCard

/-- THE TIED CARD OF 'sorrellaw02.ExprKeeps'. -/
def exprKeepsCard : Claim7 := { stood := { row := exprKeepsRow, standIns := [], harness := (true, "739c7531c9eeef6e4fb5c6503b641f7265495822234602d5fe8a7d04ee62f6dd"), looks := false }, kinds := [], alts := [], laidByText := true, laidKinds := [.data, .wider, .pinned], laidTests := true, laidLooks := .later }
def ExprKeepsCardSaid : Prop := Claim7.holds Tryd.pinned (.plain (OpenSpec.ofChange exprKeepsSpec)) exprKeepsCard

/-- THE TIED CARD OF 'sorrellaw10.TablePlays'. -/
def tablePlaysCard : Claim7 := { stood := { row := tablePlaysRow, standIns := [], harness := (true, "739c7531c9eeef6e4fb5c6503b641f7265495822234602d5fe8a7d04ee62f6dd"), looks := false }, kinds := [], alts := [], laidByText := true, laidKinds := [.wider], laidTests := true, laidLooks := .later }
def TablePlaysCardSaid : Prop := Claim7.holds Tryd.pinned (.plain (OpenSpec.ofChange tablePlaysSpec)) tablePlaysCard

/-- THE TIED CARD OF 'sorrellaw10.TableDoubles'. -/
def tableDoublesCard : Claim7 := { stood := { row := tableDoublesRow, standIns := [], harness := (true, "739c7531c9eeef6e4fb5c6503b641f7265495822234602d5fe8a7d04ee62f6dd"), looks := false }, kinds := [], alts := [], laidByText := true, laidKinds := [.wider], laidTests := true, laidLooks := .later }
def TableDoublesCardSaid : Prop := Claim7.holds Tryd.pinned (.plain (OpenSpec.ofChange tableDoublesSpec)) tableDoublesCard

/-- THE SECOND FORM's CARD OF 'sorrellaw02.ExprPlays'. -/
def exprPlaysUptoCard : Claim7 := { stood := { row := exprPlaysUptoRow, standIns := [], harness := (true, "739c7531c9eeef6e4fb5c6503b641f7265495822234602d5fe8a7d04ee62f6dd"), looks := false }, kinds := [], alts := [], laidByText := true, laidKinds := [.data, .wider, .pinned], laidTests := true, laidLooks := .later }
def ExprPlaysUptoCardSaid : Prop := Claim7.holds Tryd.pinned (.plain (OpenSpec.upto exprPlaysSpec)) exprPlaysUptoCard

/-- THE SECOND FORM's CARD OF 'sorrellaw02.ExprKeeps'. -/
def exprKeepsUptoCard : Claim7 := { stood := { row := exprKeepsUptoRow, standIns := [], harness := (true, "739c7531c9eeef6e4fb5c6503b641f7265495822234602d5fe8a7d04ee62f6dd"), looks := false }, kinds := [], alts := [], laidByText := true, laidKinds := [.data, .wider, .pinned], laidTests := true, laidLooks := .later }
def ExprKeepsUptoCardSaid : Prop := Claim7.holds Tryd.pinned (.plain (OpenSpec.upto exprKeepsSpec)) exprKeepsUptoCard

/-- THE SECOND FORM's CARD OF 'sorrellaw10.TablePlays'. -/
def tablePlaysUptoCard : Claim7 := { stood := { row := tablePlaysUptoRow, standIns := [], harness := (true, "739c7531c9eeef6e4fb5c6503b641f7265495822234602d5fe8a7d04ee62f6dd"), looks := false }, kinds := [], alts := [], laidByText := true, laidKinds := [.wider], laidTests := true, laidLooks := .later }
def TablePlaysUptoCardSaid : Prop := Claim7.holds Tryd.pinned (.plain (OpenSpec.upto tablePlaysSpec)) tablePlaysUptoCard

/-- THE SECOND FORM's CARD OF 'sorrellaw10.TableDoubles'. -/
def tableDoublesUptoCard : Claim7 := { stood := { row := tableDoublesUptoRow, standIns := [], harness := (true, "739c7531c9eeef6e4fb5c6503b641f7265495822234602d5fe8a7d04ee62f6dd"), looks := false }, kinds := [], alts := [], laidByText := true, laidKinds := [.wider], laidTests := true, laidLooks := .later }
def TableDoublesUptoCardSaid : Prop := Claim7.holds Tryd.pinned (.plain (OpenSpec.upto tableDoublesSpec)) tableDoublesUptoCard
end Rows
end Go.Proofs.YtpacjofepiojdaaDoor

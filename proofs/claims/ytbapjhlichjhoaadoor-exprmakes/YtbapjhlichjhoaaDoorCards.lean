/-
  DERIVED. GIVEN WITH THE SEED: THE CARDS: each row of YtbapjhlichjhoaaDoorRows.lean that lists a variable, with what it lists TIED to the program's text (the seventh form; the later family's looks); each row that meets fmt, with fmt's text TOLD by the authors' own Lean function (tested against real Go, not proved from fmt's source: count such statements apart). THE CARD IS WHAT COUNTS. Prove the row's statement (the work); the ties are given (YtbapjhlichjhoaaDoorTie.lean); close each card by the builder's one call (the guide's Derived/Test/ToyasCard.lean, 'card_holds'). Laid BY PROGRAM, IN A SANDBOX (cutbox-door.mjs). By AI agents, Wed Nov 11 2026. No macro, syntax, notation, axiom, sorry.
-/
import Derived.Test.YtbapjhlichjhoaaDoorRows
import GoSem.ClaimSeven
namespace Go.Proofs.YtbapjhlichjhoaaDoor
namespace Rows

/-- THE TIED CARD OF 'sorrellaw02.ExprPlays'. -/
def exprPlaysCard : Claim7 := { stood := { row := exprPlaysRow, standIns := [], harness := (true, "a85181440d46451872dd5cecb8c1fe54cc11cec3307da7e10219478482615273"), looks := true }, kinds := [], alts := [], laidByText := true, laidKinds := [.data, .wider, .pinned], laidTests := true, laidLooks := .later }
def ExprPlaysCardSaid : Prop := Claim7.holds Tryd.pinned (.plain (OpenSpec.ofChange exprPlaysSpec)) exprPlaysCard

/-- THE TIED CARD OF 'sorrellaw02.ExprMakes'. -/
def exprMakesCard : Claim7 := { stood := { row := exprMakesRow, standIns := [], harness := (true, "a85181440d46451872dd5cecb8c1fe54cc11cec3307da7e10219478482615273"), looks := true }, kinds := [], alts := [], laidByText := true, laidKinds := [.wider], laidTests := true, laidLooks := .later }
def ExprMakesCardSaid : Prop := Claim7.holds Tryd.pinned (.plain (OpenSpec.ofChange exprMakesSpec)) exprMakesCard

/-- THE TIED CARD OF 'sorrellaw02.ExprOrders'. -/
def exprOrdersCard : Claim7 := { stood := { row := exprOrdersRow, standIns := [], harness := (true, "a85181440d46451872dd5cecb8c1fe54cc11cec3307da7e10219478482615273"), looks := true }, kinds := [], alts := [], laidByText := true, laidKinds := [.data, .wider, .pinned], laidTests := true, laidLooks := .later }
def ExprOrdersCardSaid : Prop := Claim7.holds Tryd.pinned (.plain (OpenSpec.ofChange exprOrdersSpec)) exprOrdersCard

/-- THE TIED CARD OF 'sorrellaw02.ExprPuts'. -/
def exprPutsCard : Claim7 := { stood := { row := exprPutsRow, standIns := [], harness := (true, "a85181440d46451872dd5cecb8c1fe54cc11cec3307da7e10219478482615273"), looks := true }, kinds := [], alts := [], laidByText := true, laidKinds := [.wider], laidTests := true, laidLooks := .later }
def ExprPutsCardSaid : Prop := Claim7.holds Tryd.pinned (.plain (OpenSpec.ofChange exprPutsSpec)) exprPutsCard

/-- THE TIED CARD OF 'sorrellaw02.ExprRebuilds'. -/
def exprRebuildsCard : Claim7 := { stood := { row := exprRebuildsRow, standIns := [], harness := (true, "a85181440d46451872dd5cecb8c1fe54cc11cec3307da7e10219478482615273"), looks := true }, kinds := [], alts := [], laidByText := true, laidKinds := [.data, .wider, .pinned], laidTests := true, laidLooks := .later }
def ExprRebuildsCardSaid : Prop := Claim7.holds Tryd.pinned (.plain (OpenSpec.ofChange exprRebuildsSpec)) exprRebuildsCard

/-- THE TIED CARD OF 'sorrellaw02.ExprSwaps'. -/
def exprSwapsCard : Claim7 := { stood := { row := exprSwapsRow, standIns := [], harness := (true, "a85181440d46451872dd5cecb8c1fe54cc11cec3307da7e10219478482615273"), looks := true }, kinds := [], alts := [], laidByText := true, laidKinds := [.wider], laidTests := true, laidLooks := .later }
def ExprSwapsCardSaid : Prop := Claim7.holds Tryd.pinned (.plain (OpenSpec.ofChange exprSwapsSpec)) exprSwapsCard

/-- THE SECOND FORM's CARD OF 'sorrellaw02.ExprPlays'. -/
def exprPlaysUptoCard : Claim7 := { stood := { row := exprPlaysUptoRow, standIns := [], harness := (true, "a85181440d46451872dd5cecb8c1fe54cc11cec3307da7e10219478482615273"), looks := true }, kinds := [], alts := [], laidByText := true, laidKinds := [.data, .wider, .pinned], laidTests := true, laidLooks := .later }
def ExprPlaysUptoCardSaid : Prop := Claim7.holds Tryd.pinned (.plain (OpenSpec.upto exprPlaysSpec)) exprPlaysUptoCard

/-- THE SECOND FORM's CARD OF 'sorrellaw02.ExprMakes'. -/
def exprMakesUptoCard : Claim7 := { stood := { row := exprMakesUptoRow, standIns := [], harness := (true, "a85181440d46451872dd5cecb8c1fe54cc11cec3307da7e10219478482615273"), looks := true }, kinds := [], alts := [], laidByText := true, laidKinds := [.wider], laidTests := true, laidLooks := .later }
def ExprMakesUptoCardSaid : Prop := Claim7.holds Tryd.pinned (.plain (OpenSpec.upto exprMakesSpec)) exprMakesUptoCard

/-- THE SECOND FORM's CARD OF 'sorrellaw02.ExprOrders'. -/
def exprOrdersUptoCard : Claim7 := { stood := { row := exprOrdersUptoRow, standIns := [], harness := (true, "a85181440d46451872dd5cecb8c1fe54cc11cec3307da7e10219478482615273"), looks := true }, kinds := [], alts := [], laidByText := true, laidKinds := [.data, .wider, .pinned], laidTests := true, laidLooks := .later }
def ExprOrdersUptoCardSaid : Prop := Claim7.holds Tryd.pinned (.plain (OpenSpec.upto exprOrdersSpec)) exprOrdersUptoCard

/-- THE SECOND FORM's CARD OF 'sorrellaw02.ExprPuts'. -/
def exprPutsUptoCard : Claim7 := { stood := { row := exprPutsUptoRow, standIns := [], harness := (true, "a85181440d46451872dd5cecb8c1fe54cc11cec3307da7e10219478482615273"), looks := true }, kinds := [], alts := [], laidByText := true, laidKinds := [.wider], laidTests := true, laidLooks := .later }
def ExprPutsUptoCardSaid : Prop := Claim7.holds Tryd.pinned (.plain (OpenSpec.upto exprPutsSpec)) exprPutsUptoCard

/-- THE SECOND FORM's CARD OF 'sorrellaw02.ExprRebuilds'. -/
def exprRebuildsUptoCard : Claim7 := { stood := { row := exprRebuildsUptoRow, standIns := [], harness := (true, "a85181440d46451872dd5cecb8c1fe54cc11cec3307da7e10219478482615273"), looks := true }, kinds := [], alts := [], laidByText := true, laidKinds := [.data, .wider, .pinned], laidTests := true, laidLooks := .later }
def ExprRebuildsUptoCardSaid : Prop := Claim7.holds Tryd.pinned (.plain (OpenSpec.upto exprRebuildsSpec)) exprRebuildsUptoCard

/-- THE SECOND FORM's CARD OF 'sorrellaw02.ExprSwaps'. -/
def exprSwapsUptoCard : Claim7 := { stood := { row := exprSwapsUptoRow, standIns := [], harness := (true, "a85181440d46451872dd5cecb8c1fe54cc11cec3307da7e10219478482615273"), looks := true }, kinds := [], alts := [], laidByText := true, laidKinds := [.wider], laidTests := true, laidLooks := .later }
def ExprSwapsUptoCardSaid : Prop := Claim7.holds Tryd.pinned (.plain (OpenSpec.upto exprSwapsSpec)) exprSwapsUptoCard
end Rows
end Go.Proofs.YtbapjhlichjhoaaDoor

/-
  DERIVED. GIVEN WITH THE SEED: THE CARDS: each row of YtlfbanlmpkfpkaaDoorRows.lean that lists a variable, with what it lists TIED to the program's text (the seventh form; the later family's looks); each row that meets fmt, with fmt's text TOLD by the authors' own Lean function (tested against real Go, not proved from fmt's source: count such statements apart). THE CARD IS WHAT COUNTS. Prove the row's statement (the work); the ties are given (YtlfbanlmpkfpkaaDoorTie.lean); close each card by the builder's one call (the guide's Derived/Test/ToyasCard.lean, 'card_holds'). Laid BY PROGRAM, IN A SANDBOX (cutbox-door.mjs). By AI agents, Wed Nov 11 2026. No macro, syntax, notation, axiom, sorry.
-/
import Derived.Test.YtlfbanlmpkfpkaaDoorRows
import GoSem.ClaimSeven
namespace Go.Proofs.YtlfbanlmpkfpkaaDoor
namespace Rows

/-- THE TIED CARD OF 'sorrellaw02.ExprPlays'. -/
def exprPlaysCard : Claim7 := { stood := { row := exprPlaysRow, standIns := [], harness := (true, "55b7e283fdaf50c34f38ee597a544807f26edef1cc55496a8037c990a6c9a8fa"), looks := false }, kinds := [], alts := [], laidByText := true, laidKinds := [.data, .wider, .pinned], laidTests := true, laidLooks := .later }
def ExprPlaysCardSaid : Prop := Claim7.holds Tryd.pinned (.plain (OpenSpec.ofChange exprPlaysSpec)) exprPlaysCard

/-- THE TIED CARD OF 'sorrellaw02.ExprRebuilds'. -/
def exprRebuildsCard : Claim7 := { stood := { row := exprRebuildsRow, standIns := [], harness := (true, "55b7e283fdaf50c34f38ee597a544807f26edef1cc55496a8037c990a6c9a8fa"), looks := false }, kinds := [], alts := [], laidByText := true, laidKinds := [.data, .wider, .pinned], laidTests := true, laidLooks := .later }
def ExprRebuildsCardSaid : Prop := Claim7.holds Tryd.pinned (.plain (OpenSpec.ofChange exprRebuildsSpec)) exprRebuildsCard

/-- THE SECOND FORM's CARD OF 'sorrellaw02.ExprPlays'. -/
def exprPlaysUptoCard : Claim7 := { stood := { row := exprPlaysUptoRow, standIns := [], harness := (true, "55b7e283fdaf50c34f38ee597a544807f26edef1cc55496a8037c990a6c9a8fa"), looks := false }, kinds := [], alts := [], laidByText := true, laidKinds := [.data, .wider, .pinned], laidTests := true, laidLooks := .later }
def ExprPlaysUptoCardSaid : Prop := Claim7.holds Tryd.pinned (.plain (OpenSpec.upto exprPlaysSpec)) exprPlaysUptoCard

/-- THE SECOND FORM's CARD OF 'sorrellaw02.ExprRebuilds'. -/
def exprRebuildsUptoCard : Claim7 := { stood := { row := exprRebuildsUptoRow, standIns := [], harness := (true, "55b7e283fdaf50c34f38ee597a544807f26edef1cc55496a8037c990a6c9a8fa"), looks := false }, kinds := [], alts := [], laidByText := true, laidKinds := [.data, .wider, .pinned], laidTests := true, laidLooks := .later }
def ExprRebuildsUptoCardSaid : Prop := Claim7.holds Tryd.pinned (.plain (OpenSpec.upto exprRebuildsSpec)) exprRebuildsUptoCard
end Rows
end Go.Proofs.YtlfbanlmpkfpkaaDoor

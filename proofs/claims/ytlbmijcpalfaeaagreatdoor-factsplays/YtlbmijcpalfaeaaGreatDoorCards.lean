/-
  DERIVED. GIVEN WITH THE SEED: THE CARDS: each row of YtlbmijcpalfaeaaGreatDoorRows.lean that lists a variable, with what it lists TIED to the program's text (the seventh form; the later family's looks); each row that meets fmt, with fmt's text TOLD by the authors' own Lean function (tested against real Go, not proved from fmt's source: count such statements apart). THE CARD IS WHAT COUNTS. Prove the row's statement (the work); the ties are given (YtlbmijcpalfaeaaGreatDoorTie.lean); close each card by the builder's one call (the guide's Derived/Test/ToyasCard.lean, 'card_holds'). Laid BY PROGRAM, IN A SANDBOX (cutbox-door.mjs). By AI agents, Wed Nov 11 2026. No macro, syntax, notation, axiom, sorry.
-/
import Derived.Test.YtlbmijcpalfaeaaGreatDoorRows
import GoSem.ClaimSeven
namespace Go.Proofs.YtlbmijcpalfaeaaGreatDoor
namespace Rows

/-- THE TIED CARD OF 'sorrellaw13.FactsPlays'. -/
def factsPlaysCard : Claim7 := { stood := { row := factsPlaysRow, standIns := [], harness := (true, "f5f30150aff71173708bc1a09182c9cc0afb11df7695f9865170062dc066c018"), looks := false }, kinds := [], alts := [], laidByText := true, laidKinds := [.data, .wider, .data, .pinned], laidTests := true, laidLooks := .later }
def FactsPlaysCardSaid : Prop := Claim7.holds Tryz.pinned (.plain (OpenSpec.ofChange factsPlaysSpec)) factsPlaysCard

/-- THE SECOND FORM's CARD OF 'sorrellaw13.FactsPlays'. -/
def factsPlaysUptoCard : Claim7 := { stood := { row := factsPlaysUptoRow, standIns := [], harness := (true, "f5f30150aff71173708bc1a09182c9cc0afb11df7695f9865170062dc066c018"), looks := false }, kinds := [], alts := [], laidByText := true, laidKinds := [.data, .wider, .data, .pinned], laidTests := true, laidLooks := .later }
def FactsPlaysUptoCardSaid : Prop := Claim7.holds Tryz.pinned (.plain (OpenSpec.upto factsPlaysSpec)) factsPlaysUptoCard
end Rows
end Go.Proofs.YtlbmijcpalfaeaaGreatDoor

/-
  DERIVED. GIVEN WITH THE SEED: THE CARDS: each row of YthmcgfiaimnplabDoorRows.lean that lists a variable, with what it lists TIED to the program's text (the seventh form; the later family's looks); each row that meets fmt, with fmt's text TOLD by the authors' own Lean function (tested against real Go, not proved from fmt's source: count such statements apart). THE CARD IS WHAT COUNTS. Prove the row's statement (the work); the ties are given (YthmcgfiaimnplabDoorTie.lean); close each card by the builder's one call (the guide's Derived/Test/ToyasCard.lean, 'card_holds'). Laid BY PROGRAM, IN A SANDBOX (cutbox-door.mjs). By AI agents, Wed Nov 11 2026. No macro, syntax, notation, axiom, sorry.
-/
import Derived.Test.YthmcgfiaimnplabDoorRows
import GoSem.ClaimSeven
namespace Go.Proofs.YthmcgfiaimnplabDoor
namespace Rows

/-- THE TIED CARD OF 'sorrellaw01.RunesDigits'. -/
def runesDigitsCard : Claim7 := { stood := { row := runesDigitsRow, standIns := [], harness := (true, "b2f58358c6a7daf2a65b0604b6917345db13192d8b4b6f3a50aeacae29154cbc"), looks := false }, kinds := [], alts := [], laidByText := true, laidKinds := [.data, .wider, .pinned], laidTests := true, laidLooks := .later }
def RunesDigitsCardSaid : Prop := Claim7.holds Tryd.pinned (.plain (OpenSpec.ofChange runesDigitsSpec)) runesDigitsCard

/-- THE SECOND FORM's CARD OF 'sorrellaw01.RunesDigits'. -/
def runesDigitsUptoCard : Claim7 := { stood := { row := runesDigitsUptoRow, standIns := [], harness := (true, "b2f58358c6a7daf2a65b0604b6917345db13192d8b4b6f3a50aeacae29154cbc"), looks := false }, kinds := [], alts := [], laidByText := true, laidKinds := [.data, .wider, .pinned], laidTests := true, laidLooks := .later }
def RunesDigitsUptoCardSaid : Prop := Claim7.holds Tryd.pinned (.plain (OpenSpec.upto runesDigitsSpec)) runesDigitsUptoCard
end Rows
end Go.Proofs.YthmcgfiaimnplabDoor

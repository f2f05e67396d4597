/-
  DERIVED. GIVEN WITH THE SEED: THE CARDS: each row of YtlllkjbbldhddaaDoorRows.lean that lists a variable, with what it lists TIED to the program's text (the seventh form; the later family's looks); each row that meets fmt, with fmt's text TOLD by the authors' own Lean function (tested against real Go, not proved from fmt's source: count such statements apart). THE CARD IS WHAT COUNTS. Prove the row's statement (the work); the ties are given (YtlllkjbbldhddaaDoorTie.lean); close each card by the builder's one call (the guide's Derived/Test/ToyasCard.lean, 'card_holds'). Laid BY PROGRAM, IN A SANDBOX (cutbox-door.mjs). By AI agents, Wed Nov 11 2026. No macro, syntax, notation, axiom, sorry.
-/
import Derived.Test.YtlllkjbbldhddaaDoorRows
import GoSem.ClaimSeven
namespace Go.Proofs.YtlllkjbbldhddaaDoor
namespace Rows

/-- THE TIED CARD OF 'sorrellaw02.ExprPlays'. -/
def exprPlaysCard : Claim7 := { stood := { row := exprPlaysRow, standIns := [], harness := (true, "f78323706d9e45e937a4b0a4e9c5d40c48da3c200812ae84f653c9d4dccfd319"), looks := false }, kinds := [], alts := [], laidByText := true, laidKinds := [.data, .wider, .pinned], laidTests := true, laidLooks := .later }
def ExprPlaysCardSaid : Prop := Claim7.holds Tryd.pinned (.plain (OpenSpec.ofChange exprPlaysSpec)) exprPlaysCard

/-- THE TIED CARD OF 'sorrellaw02.ExprKeeps'. -/
def exprKeepsCard : Claim7 := { stood := { row := exprKeepsRow, standIns := [], harness := (true, "f78323706d9e45e937a4b0a4e9c5d40c48da3c200812ae84f653c9d4dccfd319"), looks := false }, kinds := [], alts := [], laidByText := true, laidKinds := [.data, .wider, .pinned], laidTests := true, laidLooks := .later }
def ExprKeepsCardSaid : Prop := Claim7.holds Tryd.pinned (.plain (OpenSpec.ofChange exprKeepsSpec)) exprKeepsCard

/-- THE TIED CARD OF 'sorrellaw14.PatternPlays'. -/
def patternPlaysCard : Claim7 := { stood := { row := patternPlaysRow, standIns := [], harness := (true, "f78323706d9e45e937a4b0a4e9c5d40c48da3c200812ae84f653c9d4dccfd319"), looks := false }, kinds := [], alts := [], laidByText := true, laidKinds := [.data, .wider, .pinned], laidTests := true, laidLooks := .later }
def PatternPlaysCardSaid : Prop := Claim7.holds Tryd.pinned (.plain (OpenSpec.ofChange patternPlaysSpec)) patternPlaysCard

/-- THE TIED CARD OF 'sorrellaw14.PatternBack'. -/
def patternBackCard : Claim7 := { stood := { row := patternBackRow, standIns := [], harness := (true, "f78323706d9e45e937a4b0a4e9c5d40c48da3c200812ae84f653c9d4dccfd319"), looks := false }, kinds := [], alts := [], laidByText := true, laidKinds := [.data, .wider, .pinned], laidTests := true, laidLooks := .later }
def PatternBackCardSaid : Prop := Claim7.holds Tryd.pinned (.plain (OpenSpec.ofChange patternBackSpec)) patternBackCard

/-- THE TIED CARD OF 'sorrellaw14.PatternSize'. -/
def patternSizeCard : Claim7 := { stood := { row := patternSizeRow, standIns := [], harness := (true, "f78323706d9e45e937a4b0a4e9c5d40c48da3c200812ae84f653c9d4dccfd319"), looks := false }, kinds := [], alts := [], laidByText := true, laidKinds := [.wider], laidTests := true, laidLooks := .later }
def PatternSizeCardSaid : Prop := Claim7.holds Tryd.pinned (.plain (OpenSpec.ofChange patternSizeSpec)) patternSizeCard

/-- THE TIED CARD OF 'sorrellaw14.PatternPlain'. -/
def patternPlainCard : Claim7 := { stood := { row := patternPlainRow, standIns := [], harness := (true, "f78323706d9e45e937a4b0a4e9c5d40c48da3c200812ae84f653c9d4dccfd319"), looks := false }, kinds := [], alts := [], laidByText := true, laidKinds := [.data, .wider, .pinned], laidTests := true, laidLooks := .later }
def PatternPlainCardSaid : Prop := Claim7.holds Tryd.pinned (.plain (OpenSpec.ofChange patternPlainSpec)) patternPlainCard

/-- THE SECOND FORM's CARD OF 'sorrellaw02.ExprPlays'. -/
def exprPlaysUptoCard : Claim7 := { stood := { row := exprPlaysUptoRow, standIns := [], harness := (true, "f78323706d9e45e937a4b0a4e9c5d40c48da3c200812ae84f653c9d4dccfd319"), looks := false }, kinds := [], alts := [], laidByText := true, laidKinds := [.data, .wider, .pinned], laidTests := true, laidLooks := .later }
def ExprPlaysUptoCardSaid : Prop := Claim7.holds Tryd.pinned (.plain (OpenSpec.upto exprPlaysSpec)) exprPlaysUptoCard

/-- THE SECOND FORM's CARD OF 'sorrellaw02.ExprKeeps'. -/
def exprKeepsUptoCard : Claim7 := { stood := { row := exprKeepsUptoRow, standIns := [], harness := (true, "f78323706d9e45e937a4b0a4e9c5d40c48da3c200812ae84f653c9d4dccfd319"), looks := false }, kinds := [], alts := [], laidByText := true, laidKinds := [.data, .wider, .pinned], laidTests := true, laidLooks := .later }
def ExprKeepsUptoCardSaid : Prop := Claim7.holds Tryd.pinned (.plain (OpenSpec.upto exprKeepsSpec)) exprKeepsUptoCard

/-- THE SECOND FORM's CARD OF 'sorrellaw14.PatternPlays'. -/
def patternPlaysUptoCard : Claim7 := { stood := { row := patternPlaysUptoRow, standIns := [], harness := (true, "f78323706d9e45e937a4b0a4e9c5d40c48da3c200812ae84f653c9d4dccfd319"), looks := false }, kinds := [], alts := [], laidByText := true, laidKinds := [.data, .wider, .pinned], laidTests := true, laidLooks := .later }
def PatternPlaysUptoCardSaid : Prop := Claim7.holds Tryd.pinned (.plain (OpenSpec.upto patternPlaysSpec)) patternPlaysUptoCard

/-- THE SECOND FORM's CARD OF 'sorrellaw14.PatternBack'. -/
def patternBackUptoCard : Claim7 := { stood := { row := patternBackUptoRow, standIns := [], harness := (true, "f78323706d9e45e937a4b0a4e9c5d40c48da3c200812ae84f653c9d4dccfd319"), looks := false }, kinds := [], alts := [], laidByText := true, laidKinds := [.data, .wider, .pinned], laidTests := true, laidLooks := .later }
def PatternBackUptoCardSaid : Prop := Claim7.holds Tryd.pinned (.plain (OpenSpec.upto patternBackSpec)) patternBackUptoCard

/-- THE SECOND FORM's CARD OF 'sorrellaw14.PatternSize'. -/
def patternSizeUptoCard : Claim7 := { stood := { row := patternSizeUptoRow, standIns := [], harness := (true, "f78323706d9e45e937a4b0a4e9c5d40c48da3c200812ae84f653c9d4dccfd319"), looks := false }, kinds := [], alts := [], laidByText := true, laidKinds := [.wider], laidTests := true, laidLooks := .later }
def PatternSizeUptoCardSaid : Prop := Claim7.holds Tryd.pinned (.plain (OpenSpec.upto patternSizeSpec)) patternSizeUptoCard

/-- THE SECOND FORM's CARD OF 'sorrellaw14.PatternPlain'. -/
def patternPlainUptoCard : Claim7 := { stood := { row := patternPlainUptoRow, standIns := [], harness := (true, "f78323706d9e45e937a4b0a4e9c5d40c48da3c200812ae84f653c9d4dccfd319"), looks := false }, kinds := [], alts := [], laidByText := true, laidKinds := [.data, .wider, .pinned], laidTests := true, laidLooks := .later }
def PatternPlainUptoCardSaid : Prop := Claim7.holds Tryd.pinned (.plain (OpenSpec.upto patternPlainSpec)) patternPlainUptoCard
end Rows
end Go.Proofs.YtlllkjbbldhddaaDoor

/-
  DERIVED. GIVEN WITH THE SEED: THE CARDS: each row of YtpdohdmpjaklgaaDoorRows.lean that lists a variable, with what it lists TIED to the program's text (the seventh form; the later family's looks); each row that meets fmt, with fmt's text TOLD by the authors' own Lean function (tested against real Go, not proved from fmt's source: count such statements apart). THE CARD IS WHAT COUNTS. Prove the row's statement (the work); the ties are given (YtpdohdmpjaklgaaDoorTie.lean); close each card by the builder's one call (the guide's Derived/Test/ToyasCard.lean, 'card_holds'). Laid BY PROGRAM, IN A SANDBOX (cutbox-door.mjs). By AI agents, Wed Nov 11 2026. No macro, syntax, notation, axiom, sorry.
-/
import Derived.Test.YtpdohdmpjaklgaaDoorRows
import GoSem.ClaimSeven
namespace Go.Proofs.YtpdohdmpjaklgaaDoor
namespace Rows

/-- THE TIED CARD OF 'sorrellaw07.EnvPlays'. -/
def envPlaysCard : Claim7 := { stood := { row := envPlaysRow, standIns := [], harness := (true, "5c32dd43e3eb27a1608c0332bacbf34aa14e9cb67734d7a20761873ae9e3dec2"), looks := false }, kinds := [], alts := [], laidByText := true, laidKinds := [.data, .data, .data, .wider], laidTests := true, laidLooks := .later }
def EnvPlaysCardSaid : Prop := Claim7.holds Tryd.pinned (.plain (OpenSpec.ofChange envPlaysSpec)) envPlaysCard

/-- THE TIED CARD OF 'sorrellaw07.EnvReads'. -/
def envReadsCard : Claim7 := { stood := { row := envReadsRow, standIns := [], harness := (true, "5c32dd43e3eb27a1608c0332bacbf34aa14e9cb67734d7a20761873ae9e3dec2"), looks := false }, kinds := [], alts := [], laidByText := true, laidKinds := [.data, .wider, .pinned], laidTests := true, laidLooks := .later }
def EnvReadsCardSaid : Prop := Claim7.holds Tryd.pinned (.plain (OpenSpec.ofChange envReadsSpec)) envReadsCard

/-- THE TIED CARD OF 'sorrellaw07.EnvBack'. -/
def envBackCard : Claim7 := { stood := { row := envBackRow, standIns := [], harness := (true, "5c32dd43e3eb27a1608c0332bacbf34aa14e9cb67734d7a20761873ae9e3dec2"), looks := false }, kinds := [], alts := [], laidByText := true, laidKinds := [.data, .data, .data, .data, .wider, .pinned], laidTests := true, laidLooks := .later }
def EnvBackCardSaid : Prop := Claim7.holds Tryd.pinned (.plain (OpenSpec.ofChange envBackSpec)) envBackCard

/-- THE TIED CARD OF 'sorrellaw07.EnvSets'. -/
def envSetsCard : Claim7 := { stood := { row := envSetsRow, standIns := [], harness := (true, "5c32dd43e3eb27a1608c0332bacbf34aa14e9cb67734d7a20761873ae9e3dec2"), looks := false }, kinds := [], alts := [], laidByText := true, laidKinds := [.wider], laidTests := true, laidLooks := .later }
def EnvSetsCardSaid : Prop := Claim7.holds Tryd.pinned (.plain (OpenSpec.ofChange envSetsSpec)) envSetsCard

/-- THE TIED CARD OF 'sorrellaw07.EnvKeeps'. -/
def envKeepsCard : Claim7 := { stood := { row := envKeepsRow, standIns := [], harness := (true, "5c32dd43e3eb27a1608c0332bacbf34aa14e9cb67734d7a20761873ae9e3dec2"), looks := false }, kinds := [], alts := [], laidByText := true, laidKinds := [.data, .data, .data, .data, .wider, .pinned], laidTests := true, laidLooks := .later }
def EnvKeepsCardSaid : Prop := Claim7.holds Tryd.pinned (.plain (OpenSpec.ofChange envKeepsSpec)) envKeepsCard

/-- THE SECOND FORM's CARD OF 'sorrellaw07.EnvPlays'. -/
def envPlaysUptoCard : Claim7 := { stood := { row := envPlaysUptoRow, standIns := [], harness := (true, "5c32dd43e3eb27a1608c0332bacbf34aa14e9cb67734d7a20761873ae9e3dec2"), looks := false }, kinds := [], alts := [], laidByText := true, laidKinds := [.data, .data, .data, .wider], laidTests := true, laidLooks := .later }
def EnvPlaysUptoCardSaid : Prop := Claim7.holds Tryd.pinned (.plain (OpenSpec.upto envPlaysSpec)) envPlaysUptoCard

/-- THE SECOND FORM's CARD OF 'sorrellaw07.EnvReads'. -/
def envReadsUptoCard : Claim7 := { stood := { row := envReadsUptoRow, standIns := [], harness := (true, "5c32dd43e3eb27a1608c0332bacbf34aa14e9cb67734d7a20761873ae9e3dec2"), looks := false }, kinds := [], alts := [], laidByText := true, laidKinds := [.data, .wider, .pinned], laidTests := true, laidLooks := .later }
def EnvReadsUptoCardSaid : Prop := Claim7.holds Tryd.pinned (.plain (OpenSpec.upto envReadsSpec)) envReadsUptoCard

/-- THE SECOND FORM's CARD OF 'sorrellaw07.EnvBack'. -/
def envBackUptoCard : Claim7 := { stood := { row := envBackUptoRow, standIns := [], harness := (true, "5c32dd43e3eb27a1608c0332bacbf34aa14e9cb67734d7a20761873ae9e3dec2"), looks := false }, kinds := [], alts := [], laidByText := true, laidKinds := [.data, .data, .data, .data, .wider, .pinned], laidTests := true, laidLooks := .later }
def EnvBackUptoCardSaid : Prop := Claim7.holds Tryd.pinned (.plain (OpenSpec.upto envBackSpec)) envBackUptoCard

/-- THE SECOND FORM's CARD OF 'sorrellaw07.EnvSets'. -/
def envSetsUptoCard : Claim7 := { stood := { row := envSetsUptoRow, standIns := [], harness := (true, "5c32dd43e3eb27a1608c0332bacbf34aa14e9cb67734d7a20761873ae9e3dec2"), looks := false }, kinds := [], alts := [], laidByText := true, laidKinds := [.wider], laidTests := true, laidLooks := .later }
def EnvSetsUptoCardSaid : Prop := Claim7.holds Tryd.pinned (.plain (OpenSpec.upto envSetsSpec)) envSetsUptoCard

/-- THE SECOND FORM's CARD OF 'sorrellaw07.EnvKeeps'. -/
def envKeepsUptoCard : Claim7 := { stood := { row := envKeepsUptoRow, standIns := [], harness := (true, "5c32dd43e3eb27a1608c0332bacbf34aa14e9cb67734d7a20761873ae9e3dec2"), looks := false }, kinds := [], alts := [], laidByText := true, laidKinds := [.data, .data, .data, .data, .wider, .pinned], laidTests := true, laidLooks := .later }
def EnvKeepsUptoCardSaid : Prop := Claim7.holds Tryd.pinned (.plain (OpenSpec.upto envKeepsSpec)) envKeepsUptoCard
end Rows
end Go.Proofs.YtpdohdmpjaklgaaDoor

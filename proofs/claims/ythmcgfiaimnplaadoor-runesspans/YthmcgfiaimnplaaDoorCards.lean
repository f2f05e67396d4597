/-
  DERIVED. GIVEN WITH THE SEED: THE CARDS: each row of YthmcgfiaimnplaaDoorRows.lean that lists a variable, with what it lists TIED to the program's text (the seventh form; the later family's looks); each row that meets fmt, with fmt's text TOLD by the authors' own Lean function (tested against real Go, not proved from fmt's source: count such statements apart). THE CARD IS WHAT COUNTS. Prove the row's statement (the work); the ties are given (YthmcgfiaimnplaaDoorTie.lean); close each card by the builder's one call (the guide's Derived/Test/ToyasCard.lean, 'card_holds'). Laid BY PROGRAM, IN A SANDBOX (cutbox-door.mjs). By AI agents, Wed Nov 11 2026. No macro, syntax, notation, axiom, sorry.
-/
import Derived.Test.YthmcgfiaimnplaaDoorRows
import GoSem.ClaimSeven
namespace Go.Proofs.YthmcgfiaimnplaaDoor
namespace Rows

/-- THE TIED CARD OF 'sorrellaw01.RunesPlays'. -/
def runesPlaysCard : Claim7 := { stood := { row := runesPlaysRow, standIns := [], harness := (true, "4b227305a9402051623927e3beba7ac2d7ca6054ae359765a797c1d19806d0af"), looks := false }, kinds := [], alts := [], laidByText := true, laidKinds := [.data, .wider, .pinned], laidTests := true, laidLooks := .later }
def RunesPlaysCardSaid : Prop := Claim7.holds Tryd.pinned (.plain (OpenSpec.ofChange runesPlaysSpec)) runesPlaysCard

/-- THE TIED CARD OF 'sorrellaw01.RunesKinds'. -/
def runesKindsCard : Claim7 := { stood := { row := runesKindsRow, standIns := [], harness := (true, "4b227305a9402051623927e3beba7ac2d7ca6054ae359765a797c1d19806d0af"), looks := false }, kinds := [], alts := [], laidByText := true, laidKinds := [.data, .wider, .pinned], laidTests := true, laidLooks := .later }
def RunesKindsCardSaid : Prop := Claim7.holds Tryd.pinned (.plain (OpenSpec.ofChange runesKindsSpec)) runesKindsCard

/-- THE TIED CARD OF 'sorrellaw01.RunesNames'. -/
def runesNamesCard : Claim7 := { stood := { row := runesNamesRow, standIns := [], harness := (true, "4b227305a9402051623927e3beba7ac2d7ca6054ae359765a797c1d19806d0af"), looks := false }, kinds := [], alts := [], laidByText := true, laidKinds := [.data, .wider, .pinned], laidTests := true, laidLooks := .later }
def RunesNamesCardSaid : Prop := Claim7.holds Tryd.pinned (.plain (OpenSpec.ofChange runesNamesSpec)) runesNamesCard

/-- THE TIED CARD OF 'sorrellaw01.RunesOrder'. -/
def runesOrderCard : Claim7 := { stood := { row := runesOrderRow, standIns := [], harness := (true, "4b227305a9402051623927e3beba7ac2d7ca6054ae359765a797c1d19806d0af"), looks := false }, kinds := [], alts := [], laidByText := true, laidKinds := [.data, .wider, .pinned], laidTests := true, laidLooks := .later }
def RunesOrderCardSaid : Prop := Claim7.holds Tryd.pinned (.plain (OpenSpec.ofChange runesOrderSpec)) runesOrderCard

/-- THE TIED CARD OF 'sorrellaw01.RunesRange'. -/
def runesRangeCard : Claim7 := { stood := { row := runesRangeRow, standIns := [], harness := (true, "4b227305a9402051623927e3beba7ac2d7ca6054ae359765a797c1d19806d0af"), looks := false }, kinds := [], alts := [], laidByText := true, laidKinds := [.data, .wider, .pinned], laidTests := true, laidLooks := .later }
def RunesRangeCardSaid : Prop := Claim7.holds Tryd.pinned (.plain (OpenSpec.ofChange runesRangeSpec)) runesRangeCard

/-- THE TIED CARD OF 'sorrellaw01.RunesSpans'. -/
def runesSpansCard : Claim7 := { stood := { row := runesSpansRow, standIns := [], harness := (true, "4b227305a9402051623927e3beba7ac2d7ca6054ae359765a797c1d19806d0af"), looks := false }, kinds := [], alts := [], laidByText := true, laidKinds := [.data, .wider, .pinned], laidTests := true, laidLooks := .later }
def RunesSpansCardSaid : Prop := Claim7.holds Tryd.pinned (.plain (OpenSpec.ofChange runesSpansSpec)) runesSpansCard

/-- THE SECOND FORM's CARD OF 'sorrellaw01.RunesPlays'. -/
def runesPlaysUptoCard : Claim7 := { stood := { row := runesPlaysUptoRow, standIns := [], harness := (true, "4b227305a9402051623927e3beba7ac2d7ca6054ae359765a797c1d19806d0af"), looks := false }, kinds := [], alts := [], laidByText := true, laidKinds := [.data, .wider, .pinned], laidTests := true, laidLooks := .later }
def RunesPlaysUptoCardSaid : Prop := Claim7.holds Tryd.pinned (.plain (OpenSpec.upto runesPlaysSpec)) runesPlaysUptoCard

/-- THE SECOND FORM's CARD OF 'sorrellaw01.RunesKinds'. -/
def runesKindsUptoCard : Claim7 := { stood := { row := runesKindsUptoRow, standIns := [], harness := (true, "4b227305a9402051623927e3beba7ac2d7ca6054ae359765a797c1d19806d0af"), looks := false }, kinds := [], alts := [], laidByText := true, laidKinds := [.data, .wider, .pinned], laidTests := true, laidLooks := .later }
def RunesKindsUptoCardSaid : Prop := Claim7.holds Tryd.pinned (.plain (OpenSpec.upto runesKindsSpec)) runesKindsUptoCard

/-- THE SECOND FORM's CARD OF 'sorrellaw01.RunesNames'. -/
def runesNamesUptoCard : Claim7 := { stood := { row := runesNamesUptoRow, standIns := [], harness := (true, "4b227305a9402051623927e3beba7ac2d7ca6054ae359765a797c1d19806d0af"), looks := false }, kinds := [], alts := [], laidByText := true, laidKinds := [.data, .wider, .pinned], laidTests := true, laidLooks := .later }
def RunesNamesUptoCardSaid : Prop := Claim7.holds Tryd.pinned (.plain (OpenSpec.upto runesNamesSpec)) runesNamesUptoCard

/-- THE SECOND FORM's CARD OF 'sorrellaw01.RunesOrder'. -/
def runesOrderUptoCard : Claim7 := { stood := { row := runesOrderUptoRow, standIns := [], harness := (true, "4b227305a9402051623927e3beba7ac2d7ca6054ae359765a797c1d19806d0af"), looks := false }, kinds := [], alts := [], laidByText := true, laidKinds := [.data, .wider, .pinned], laidTests := true, laidLooks := .later }
def RunesOrderUptoCardSaid : Prop := Claim7.holds Tryd.pinned (.plain (OpenSpec.upto runesOrderSpec)) runesOrderUptoCard

/-- THE SECOND FORM's CARD OF 'sorrellaw01.RunesRange'. -/
def runesRangeUptoCard : Claim7 := { stood := { row := runesRangeUptoRow, standIns := [], harness := (true, "4b227305a9402051623927e3beba7ac2d7ca6054ae359765a797c1d19806d0af"), looks := false }, kinds := [], alts := [], laidByText := true, laidKinds := [.data, .wider, .pinned], laidTests := true, laidLooks := .later }
def RunesRangeUptoCardSaid : Prop := Claim7.holds Tryd.pinned (.plain (OpenSpec.upto runesRangeSpec)) runesRangeUptoCard

/-- THE SECOND FORM's CARD OF 'sorrellaw01.RunesSpans'. -/
def runesSpansUptoCard : Claim7 := { stood := { row := runesSpansUptoRow, standIns := [], harness := (true, "4b227305a9402051623927e3beba7ac2d7ca6054ae359765a797c1d19806d0af"), looks := false }, kinds := [], alts := [], laidByText := true, laidKinds := [.data, .wider, .pinned], laidTests := true, laidLooks := .later }
def RunesSpansUptoCardSaid : Prop := Claim7.holds Tryd.pinned (.plain (OpenSpec.upto runesSpansSpec)) runesSpansUptoCard
end Rows
end Go.Proofs.YthmcgfiaimnplaaDoor

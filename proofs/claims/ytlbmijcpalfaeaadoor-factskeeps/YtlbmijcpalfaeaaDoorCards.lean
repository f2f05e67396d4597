/-
  DERIVED. GIVEN WITH THE SEED: THE CARDS: each row of YtlbmijcpalfaeaaDoorRows.lean that lists a variable, with what it lists TIED to the program's text (the seventh form; the later family's looks); each row that meets fmt, with fmt's text TOLD by the authors' own Lean function (tested against real Go, not proved from fmt's source: count such statements apart). THE CARD IS WHAT COUNTS. Prove the row's statement (the work); the ties are given (YtlbmijcpalfaeaaDoorTie.lean); close each card by the builder's one call (the guide's Derived/Test/ToyasCard.lean, 'card_holds'). Laid BY PROGRAM, IN A SANDBOX (cutbox-door.mjs). By AI agents, Wed Nov 11 2026. No macro, syntax, notation, axiom, sorry.
-/
import Derived.Test.YtlbmijcpalfaeaaDoorRows
import GoSem.ClaimSeven
namespace Go.Proofs.YtlbmijcpalfaeaaDoor
namespace Rows

/-- THE TIED CARD OF 'sorrellaw02.ExprPlays'. -/
def exprPlaysCard : Claim7 := { stood := { row := exprPlaysRow, standIns := [], harness := (true, "31f02ebc227e687de68324bb21cc5b65de712200b3adc61e0de171779c012333"), looks := false }, kinds := [], alts := [], laidByText := true, laidKinds := [.data, .wider, .pinned], laidTests := true, laidLooks := .later }
def ExprPlaysCardSaid : Prop := Claim7.holds Tryd.pinned (.plain (OpenSpec.ofChange exprPlaysSpec)) exprPlaysCard

/-- THE TIED CARD OF 'sorrellaw10.TableDoubles'. -/
def tableDoublesCard : Claim7 := { stood := { row := tableDoublesRow, standIns := [], harness := (true, "31f02ebc227e687de68324bb21cc5b65de712200b3adc61e0de171779c012333"), looks := false }, kinds := [], alts := [], laidByText := true, laidKinds := [.wider], laidTests := true, laidLooks := .later }
def TableDoublesCardSaid : Prop := Claim7.holds Tryd.pinned (.plain (OpenSpec.ofChange tableDoublesSpec)) tableDoublesCard

/-- THE TIED CARD OF 'sorrellaw10.TableNil'. -/
def tableNilCard : Claim7 := { stood := { row := tableNilRow, standIns := [], harness := (true, "31f02ebc227e687de68324bb21cc5b65de712200b3adc61e0de171779c012333"), looks := false }, kinds := [], alts := [], laidByText := true, laidKinds := [.wider], laidTests := true, laidLooks := .later }
def TableNilCardSaid : Prop := Claim7.holds Tryd.pinned (.plain (OpenSpec.ofChange tableNilSpec)) tableNilCard

/-- THE TIED CARD OF 'sorrellaw12.PictureChecks'. -/
def pictureChecksCard : Claim7 := { stood := { row := pictureChecksRow, standIns := [], harness := (true, "31f02ebc227e687de68324bb21cc5b65de712200b3adc61e0de171779c012333"), looks := false }, kinds := [], alts := [], laidByText := true, laidKinds := [.data, .wider, .pinned], laidTests := true, laidLooks := .later }
def PictureChecksCardSaid : Prop := Claim7.holds Tryd.pinned (.plain (OpenSpec.ofChange pictureChecksSpec)) pictureChecksCard

/-- THE TIED CARD OF 'sorrellaw13.FactsKeeps'. -/
def factsKeepsCard : Claim7 := { stood := { row := factsKeepsRow, standIns := [], harness := (true, "31f02ebc227e687de68324bb21cc5b65de712200b3adc61e0de171779c012333"), looks := false }, kinds := [], alts := [], laidByText := true, laidKinds := [.data, .wider, .data, .pinned], laidTests := true, laidLooks := .later }
def FactsKeepsCardSaid : Prop := Claim7.holds Tryd.pinned (.plain (OpenSpec.ofChange factsKeepsSpec)) factsKeepsCard

/-- THE SECOND FORM's CARD OF 'sorrellaw02.ExprPlays'. -/
def exprPlaysUptoCard : Claim7 := { stood := { row := exprPlaysUptoRow, standIns := [], harness := (true, "31f02ebc227e687de68324bb21cc5b65de712200b3adc61e0de171779c012333"), looks := false }, kinds := [], alts := [], laidByText := true, laidKinds := [.data, .wider, .pinned], laidTests := true, laidLooks := .later }
def ExprPlaysUptoCardSaid : Prop := Claim7.holds Tryd.pinned (.plain (OpenSpec.upto exprPlaysSpec)) exprPlaysUptoCard

/-- THE SECOND FORM's CARD OF 'sorrellaw10.TableDoubles'. -/
def tableDoublesUptoCard : Claim7 := { stood := { row := tableDoublesUptoRow, standIns := [], harness := (true, "31f02ebc227e687de68324bb21cc5b65de712200b3adc61e0de171779c012333"), looks := false }, kinds := [], alts := [], laidByText := true, laidKinds := [.wider], laidTests := true, laidLooks := .later }
def TableDoublesUptoCardSaid : Prop := Claim7.holds Tryd.pinned (.plain (OpenSpec.upto tableDoublesSpec)) tableDoublesUptoCard

/-- THE SECOND FORM's CARD OF 'sorrellaw10.TableNil'. -/
def tableNilUptoCard : Claim7 := { stood := { row := tableNilUptoRow, standIns := [], harness := (true, "31f02ebc227e687de68324bb21cc5b65de712200b3adc61e0de171779c012333"), looks := false }, kinds := [], alts := [], laidByText := true, laidKinds := [.wider], laidTests := true, laidLooks := .later }
def TableNilUptoCardSaid : Prop := Claim7.holds Tryd.pinned (.plain (OpenSpec.upto tableNilSpec)) tableNilUptoCard

/-- THE SECOND FORM's CARD OF 'sorrellaw12.PictureChecks'. -/
def pictureChecksUptoCard : Claim7 := { stood := { row := pictureChecksUptoRow, standIns := [], harness := (true, "31f02ebc227e687de68324bb21cc5b65de712200b3adc61e0de171779c012333"), looks := false }, kinds := [], alts := [], laidByText := true, laidKinds := [.data, .wider, .pinned], laidTests := true, laidLooks := .later }
def PictureChecksUptoCardSaid : Prop := Claim7.holds Tryd.pinned (.plain (OpenSpec.upto pictureChecksSpec)) pictureChecksUptoCard

/-- THE SECOND FORM's CARD OF 'sorrellaw13.FactsKeeps'. -/
def factsKeepsUptoCard : Claim7 := { stood := { row := factsKeepsUptoRow, standIns := [], harness := (true, "31f02ebc227e687de68324bb21cc5b65de712200b3adc61e0de171779c012333"), looks := false }, kinds := [], alts := [], laidByText := true, laidKinds := [.data, .wider, .data, .pinned], laidTests := true, laidLooks := .later }
def FactsKeepsUptoCardSaid : Prop := Claim7.holds Tryd.pinned (.plain (OpenSpec.upto factsKeepsSpec)) factsKeepsUptoCard
end Rows
end Go.Proofs.YtlbmijcpalfaeaaDoor

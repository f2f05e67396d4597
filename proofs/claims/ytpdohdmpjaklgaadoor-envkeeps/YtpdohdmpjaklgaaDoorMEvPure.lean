/-
  Environments, plainly: what Set answers.
-/
import Derived.Test.YtpdohdmpjaklgaaDoorMDecPure
import Derived.Test.YtpdohdmpjaklgaaDoorMGEvA
set_option linter.unusedSimpArgs false
set_option linter.unusedVariables false
namespace Go.Proofs.YtpdohdmpjaklgaaDoor
open Go.RowKit Go.Lib

def setE (l : List Bd) (nm : ByteArray) : Int := if nameB nm = false then 7 else if lastB l nm < 0 ∧ 64 ≤ l.length then 10 else 0
/-- What Set answers. -/
def setR (l : List Bd) (nm : ByteArray) (n : Int) : List Bd × Int := if setE l nm = 0 then (setB l nm n, 0) else ([], setE l nm)

end Go.Proofs.YtpdohdmpjaklgaaDoor

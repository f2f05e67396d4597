/-
  The program is awake.
-/
import Derived.Test.YtkgfcamlfnlpoaaDoorArLw
import Derived.Test.YtkgfcamlfnlpoaaDoorShelf
set_option linter.unusedSimpArgs false
set_option linter.unusedVariables false
namespace Go.Proofs.YtkgfcamlfnlpoaaDoor
open Go.RowKit Go.Lib

end Go.Proofs.YtkgfcamlfnlpoaaDoor

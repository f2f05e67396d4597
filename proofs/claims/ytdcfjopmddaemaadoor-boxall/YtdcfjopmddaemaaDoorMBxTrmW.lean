/-
  What term and Box make of a sound expression.
-/
import Derived.Test.YtdcfjopmddaemaaDoorMBxOfW
import Derived.Test.YtdcfjopmddaemaaDoorMGC
set_option linter.unusedSimpArgs false
set_option linter.unusedVariables false
namespace Go.Proofs.YtdcfjopmddaemaaDoor
open Go.RowKit Go.Lib Go.Sort

end Go.Proofs.YtdcfjopmddaemaaDoor

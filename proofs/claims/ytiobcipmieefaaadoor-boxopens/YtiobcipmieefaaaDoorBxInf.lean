/-
  A term's place in a row.
-/
import Derived.Test.YtiobcipmieefaaaDoorBxTm
namespace Go.Proofs.YtiobcipmieefaaaDoor
open Go.RowKit
theorem Tryd.infoTerm : (Tryd.prog.info? 25).map (fun i => (i.zero, i.size, i.bytes)) = some (some .nilIface, 1, 16) := by kernel_rfl
end Go.Proofs.YtiobcipmieefaaaDoor

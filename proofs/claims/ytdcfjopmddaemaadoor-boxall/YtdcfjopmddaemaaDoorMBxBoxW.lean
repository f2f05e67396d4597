/-
  What Box answers.
-/
import Derived.Test.YtdcfjopmddaemaaDoorMBxTrmW
import Derived.Test.YtdcfjopmddaemaaDoorMBxTm
set_option linter.unusedSimpArgs false
set_option linter.unusedVariables false
namespace Go.Proofs.YtdcfjopmddaemaaDoor
open Go.RowKit Go.Lib Go.Sort


theorem five_iface {t : Tm} (h : Five t) : ∃ u x, tv t = .iface u x := by
  cases t with
  | nil => exact h.elim
  | other u x => exact h.elim
  | _ => exact ⟨_, _, rfl⟩

end Go.Proofs.YtdcfjopmddaemaaDoor

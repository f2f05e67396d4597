/-
  BoxAll, walked.
-/
import Derived.Test.YtdcfjopmddaemaaDoorMBbU
import Derived.Test.YtdcfjopmddaemaaDoorMBbV
set_option linter.unusedSimpArgs false
set_option linter.unusedVariables false
namespace Go.Proofs.YtdcfjopmddaemaaDoor
open Go.RowKit Go.Shelf
attribute [local go_sem] Oper.semAt_some

theorem boxAll_walk (w : World) (ao co : Option Addr) (cap cc : Nat) (l : List Nd) (cl : List Cl) (cut : Int) (T0 : SpanCells w) (hR : Rd w ao cap l) (hN : Cls w co cc cl) (hnm : ∀ x ∈ cl, x.name.size ≤ maxLen) (hF : Fit l) (hlen : cl.length * 64 ≤ 140737488351232) :
    Calls Tryd.prog 5 #[.slice ao l.length cap, .int .i64 cut, .slice co cl.length cc] w fun e W' => e = .returned (.bool true) ∧ Below w.heap.size w W' := by
  refine (callsIn_wide (n := 4)).1 ?_
  cases hsd : begL l with
  | none => exact boxAll_un l ao cap cut co cc cl w T0 hR hF hN hnm hlen hsd
  | some fr => exact boxAll_so l ao cap cut co cc cl w T0 hR hF hN hnm hlen fr hsd
end Go.Proofs.YtdcfjopmddaemaaDoor

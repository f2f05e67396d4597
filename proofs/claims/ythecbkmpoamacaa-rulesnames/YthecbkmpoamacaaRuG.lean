/-
  What a program that does nothing does not answer.
-/
import Derived.Test.YthecbkmpoamacaaRuF
set_option linter.unusedSimpArgs false
set_option linter.unusedVariables false
namespace Go.Proofs.Ythecbkmpoamacaa
open Go.RowKit

theorem nam_twice : namR ⟨#[116, 119, 105, 99, 101]⟩ = (14, 0) := by decide
set_option maxRecDepth 20000 in
set_option maxHeartbeats 1000000 in
theorem awake17_any (w : World) :
    Calls Try.prog 4 #[] w fun e w' => e = .returned (.bool true) ∧ Below w.heap.size w w' := by
  have cN := named_any w ⟨#[116, 119, 105, 99, 101]⟩
  rw [nam_twice] at cN
  go_enter Try.func4, Try.ntmps4
  go_wp2_with (go_at_call 7; refine cN.mono ?_; rintro e w3 ⟨rfl, hb3⟩)
  go_ret
  exact ⟨rfl, hb3⟩
end Go.Proofs.Ythecbkmpoamacaa

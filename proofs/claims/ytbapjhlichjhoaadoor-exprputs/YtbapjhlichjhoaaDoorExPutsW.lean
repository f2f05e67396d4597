/-
  The walk of ExprPuts.
-/
import Derived.Test.YtbapjhlichjhoaaDoorExPutsA
import Derived.Test.YtbapjhlichjhoaaDoorExPutsC
import Derived.Test.YtbapjhlichjhoaaDoorExPutsD
set_option linter.unusedSimpArgs false
set_option linter.unusedVariables false
namespace Go.Proofs.YtbapjhlichjhoaaDoor
open Go.RowKit Go.Lib

theorem puts_walk (w : World) (ao bo : Option Addr) (cap cb : Nat) (l m : List Nd) (at_ : Int) (T0 : SpanCells w) (E0 : Rd w ao cap l) (P0 : Rd w bo cb m) (FE : Fit l) (FP : Fit m) :
    Calls Tryd.prog 6 #[.slice ao l.length cap, .int .i64 at_, .slice bo m.length cb] w fun e w' => e = .returned (.bool true) ∧ Below w.heap.size w w' := by
  cases hn : begL l with
  | none => exact puts_A w ao bo cap cb l m at_ T0 E0 P0 FE FP hn
  | some fr =>
    by_cases h1 : at_ < 0
    · exact puts_B1 w ao bo cap cb l m at_ T0 E0 P0 FE FP fr hn h1
    by_cases h2 : (l.length : Int) ≤ at_
    · exact puts_B2 w ao bo cap cb l m at_ T0 E0 P0 FE FP fr hn ⟨by omega, h2⟩
    obtain ⟨i, rfl⟩ : ∃ i : Nat, at_ = (i : Int) := ⟨at_.toNat, by omega⟩
    have hi : i < l.length := by omega
    cases hm : begL m with
    | none => exact puts_C1 w ao bo cap cb l m T0 E0 P0 FE FP fr i hn hi hm
    | some fm =>
      by_cases hlg : l.length + m.length + fr.getD i 0 ≤ 64 + (i + 1)
      · exact puts_C3 w ao bo cap cb l m T0 E0 P0 FE FP fr i hn hi fm hm hlg
      · exact puts_C2 w ao bo cap cb l m T0 E0 P0 FE FP fr i hn hi fm hm (by omega)
end Go.Proofs.YtbapjhlichjhoaaDoor

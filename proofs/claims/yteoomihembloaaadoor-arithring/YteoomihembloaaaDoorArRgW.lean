/-
  ArithRing, walked.
-/
import Derived.Test.YteoomihembloaaaDoorArRg
import Derived.Test.YteoomihembloaaaDoorArAwk
import Derived.Test.YteoomihembloaaaDoorArFrame
set_option linter.unusedSimpArgs false
set_option linter.unusedVariables false
namespace Go.Proofs.YteoomihembloaaaDoor
open Go.RowKit Go.Lib

set_option maxRecDepth 100000 in
set_option maxHeartbeats 8000000 in
theorem ring.walk (a b c : Int) (w : World) (hT : Tb4 w) :
    Calls Tryd.prog 7 #[.int .i64 a, .int .i64 b, .int .i64 c] w fun e w' => e = .returned (.bool true) ∧ Below w.heap.size w w' := by
  have hG := hT.g
  have cw : Hid (∀ W, GrpCells W → Calls Tryd.prog 9 #[] W fun e w' => e = .returned (.bool true) ∧ Below W.heap.size W w') := awake_any
  have HG : Hid (∀ W, Below w.heap.size w W → GrpCells W) := fun W h => hG.below h
  have hb : Below w.heap.size w w := Below.refl _ _
  obtain ⟨S, T, U, D, NB, M, V, Mc, NA, AN, X1, NoA, NoB, XO, OR, hR⟩ := ring_ok a b c
  obtain ⟨s1, s2, t1, u1, t2, d1, nb, d2, z, m1, m2, v1, mc, v2, n1, n2, an, x1, na, nob, x2, xo, or_, xo2, no, ao⟩ := hR
  clear hG hT
  go_enter Tryd.func7, Tryd.ntmps7
  go_wp2_with (first
    | (go_at_call 9; refine (cw.out _ (HG.out _ hb)).mono ?_; rintro e w2 ⟨rfl, hc⟩; replace hb := hb.trans (hc.mono hb.size); clear hc)
    | (go_at_call_of 16 (Value.int .i64 3); refine (apl_new1 3 _ _ (HG.out _ hb)).mono ?_; rintro e w2 ⟨rfl, hc⟩; replace hb := hb.trans (hc.mono hb.size); clear hc)
    | (go_at_call_of 16 (Value.int .i64 4); refine (apl_new1 4 _ _ (HG.out _ hb)).mono ?_; rintro e w2 ⟨rfl, hc⟩; replace hb := hb.trans (hc.mono hb.size); clear hc)
    | (go_at_call 16; refine (apl_new2 _ _ _ _ (HG.out _ hb)).mono ?_; rintro e w2 ⟨rfl, hc⟩; replace hb := hb.trans (hc.mono hb.size); clear hc))
  go_ret
  exact ⟨rfl, hb⟩
end Go.Proofs.YteoomihembloaaaDoor

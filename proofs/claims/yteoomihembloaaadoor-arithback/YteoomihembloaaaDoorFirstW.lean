/-
  What first and width answer, for every text.
-/
import Derived.Test.YteoomihembloaaaDoorIterW
import Derived.Test.YteoomihembloaaaDoorDecPure
set_option linter.unusedSimpArgs false
namespace Go.Proofs.YteoomihembloaaaDoor
open Go.RowKit Go.Lib

theorem first_any (s : ByteArray) (w : World) (hT : Tabs w) :
    Calls Tryd.prog 45 #[.string s] w fun e w' => e = .returned (.int .i32 (decodeGo s).1) ∧ Below w.heap.size w w' := by
  go_enter Tryd.func45, Tryd.ntmps45
  go_wp2_with (go_at_call 50; refine (Tryd.utf8_DecodeRuneInString _ _ hT.utf).mono ?_; rintro e w2 ⟨rfl, hb2⟩)
  go_ret
  exact ⟨rfl, hb2⟩
end Go.Proofs.YteoomihembloaaaDoor

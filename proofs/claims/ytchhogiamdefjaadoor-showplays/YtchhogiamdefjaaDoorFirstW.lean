/-
  What first and width answer, for every text.
-/
import Derived.Test.YtchhogiamdefjaaDoorIterW
import Derived.Test.YtchhogiamdefjaaDoorDecPure
set_option linter.unusedSimpArgs false
namespace Go.Proofs.YtchhogiamdefjaaDoor
open Go.RowKit Go.Lib

theorem first_any (s : ByteArray) (w : World) (hT : Tabs w) :
    Calls Tryd.prog 62 #[.string s] w fun e w' => e = .returned (.int .i32 (decodeGo s).1) ∧ Below w.heap.size w w' := by
  go_enter Tryd.func62, Tryd.ntmps62
  go_wp2_with (go_at_call 94; refine (Tryd.utf8_DecodeRuneInString _ _ hT.utf).mono ?_; rintro e w2 ⟨rfl, hb2⟩)
  go_ret
  exact ⟨rfl, hb2⟩
theorem width_any (s : ByteArray) (w : World) (hT : Tabs w) :
    Calls Tryd.prog 63 #[.string s] w fun e w' => e = .returned (.int .i64 (decodeGo s).2) ∧ Below w.heap.size w w' := by
  go_enter Tryd.func63, Tryd.ntmps63
  go_wp2_with (go_at_call 94; refine (Tryd.utf8_DecodeRuneInString _ _ hT.utf).mono ?_; rintro e w2 ⟨rfl, hb2⟩)
  go_ret
  exact ⟨rfl, hb2⟩
end Go.Proofs.YtchhogiamdefjaaDoor

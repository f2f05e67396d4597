/-
  What first and width answer, for every text.
-/
import Derived.Test.YtaonednimkoeiaaDoorIterW
import Derived.Test.YtaonednimkoeiaaDoorDecPure
set_option linter.unusedSimpArgs false
namespace Go.Proofs.YtaonednimkoeiaaDoor
open Go.RowKit Go.Lib

theorem first_any (s : ByteArray) (w : World) (hT : Tabs w) :
    Calls Tryd.prog 79 #[.string s] w fun e w' => e = .returned (.int .i32 (decodeGo s).1) ∧ Below w.heap.size w w' := by
  go_enter Tryd.func79, Tryd.ntmps79
  go_wp2_with (go_at_call 111; refine (Tryd.utf8_DecodeRuneInString _ _ hT.utf).mono ?_; rintro e w2 ⟨rfl, hb2⟩)
  go_ret
  exact ⟨rfl, hb2⟩
theorem width_any (s : ByteArray) (w : World) (hT : Tabs w) :
    Calls Tryd.prog 80 #[.string s] w fun e w' => e = .returned (.int .i64 (decodeGo s).2) ∧ Below w.heap.size w w' := by
  go_enter Tryd.func80, Tryd.ntmps80
  go_wp2_with (go_at_call 111; refine (Tryd.utf8_DecodeRuneInString _ _ hT.utf).mono ?_; rintro e w2 ⟨rfl, hb2⟩)
  go_ret
  exact ⟨rfl, hb2⟩
end Go.Proofs.YtaonednimkoeiaaDoor

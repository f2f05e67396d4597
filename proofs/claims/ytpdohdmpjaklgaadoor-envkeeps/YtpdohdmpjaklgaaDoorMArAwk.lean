/-
  The program is awake.
-/
import Derived.Test.YtpdohdmpjaklgaaDoorMArLw
import Derived.Test.YtpdohdmpjaklgaaDoorMShelf
set_option linter.unusedSimpArgs false
set_option linter.unusedVariables false
namespace Go.Proofs.YtpdohdmpjaklgaaDoor
open Go.RowKit Go.Lib

theorem text_seven (w : World) :
    Calls Tryd.prog 26 #[.int .i64 7] w fun e w' => e = .returned (.string ⟨#[55]⟩) ∧ w' = w := by
  have cf : Hid (∀ W, Calls Tryd.prog 48 #[.int .i64 7, .int .i64 10] W fun e w' => e = .returned (.string ⟨#[55]⟩) ∧ w' = W) := fun W => by
    have h := Tryd.strconv_FormatInt_10_small 7 (by omega) W
    have e : (decDigits 7).toArray = #[55] := by rw [decDigits]; simp
    rw [e] at h
    exact h
  go_enter Tryd.func26, Tryd.ntmps26
  go_wp2_with (go_at_call 48; refine (cf.out _).mono ?_; rintro e w2 ⟨rfl, hw⟩; obtain rfl := hw.symm)
  go_ret
  exact ⟨rfl, by first | rfl | trivial⟩

end Go.Proofs.YtpdohdmpjaklgaaDoor

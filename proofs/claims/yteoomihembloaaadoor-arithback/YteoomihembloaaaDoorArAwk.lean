/-
  The program is awake.
-/
import Derived.Test.YteoomihembloaaaDoorArLw
import Derived.Test.YteoomihembloaaaDoorShelf
set_option linter.unusedSimpArgs false
set_option linter.unusedVariables false
namespace Go.Proofs.YteoomihembloaaaDoor
open Go.RowKit Go.Lib

theorem text_seven (w : World) :
    Calls Tryd.prog 14 #[.int .i64 7] w fun e w' => e = .returned (.string ⟨#[55]⟩) ∧ w' = w := by
  have cf : Hid (∀ W, Calls Tryd.prog 31 #[.int .i64 7, .int .i64 10] W fun e w' => e = .returned (.string ⟨#[55]⟩) ∧ w' = W) := fun W => by
    have h := Tryd.strconv_FormatInt_10_small 7 (by omega) W
    have e : (decDigits 7).toArray = #[55] := by rw [decDigits]; simp
    rw [e] at h
    exact h
  go_enter Tryd.func14, Tryd.ntmps14
  go_wp2_with (go_at_call 31; refine (cf.out _).mono ?_; rintro e w2 ⟨rfl, hw⟩; obtain rfl := hw.symm)
  go_ret
  exact ⟨rfl, by first | rfl | trivial⟩

theorem awake_any (w : World) (hG : GrpCells w) :
    Calls Tryd.prog 9 #[] w fun e w' => e = .returned (.bool true) ∧ Below w.heap.size w w' := by
  have ca : Hid (∀ W, GrpCells W → Calls Tryd.prog 10 #[.int .i64 5, .slice (some ⟨W.heap.size, 0, none⟩) 2 2] (W.alloc (.cells #[.int .i64 2, .int .i64 3] 2)) fun e w' => e = .returned (.tuple #[.int .i64 5, .int .i64 0]) ∧ Below W.heap.size W w') := fun W hW => by
    have := app_new2 5 2 3 W hW
    have e : apR 5 [2, 3] = (5, 0) := by
      have : wrap64 5 = 5 := w6_id (by unfold i6; omega)
      simp [apR, ap2, this]
    rw [e] at this
    exact this
  have ct : Hid (∀ W, Calls Tryd.prog 14 #[.int .i64 7] W fun e w' => e = .returned (.string ⟨#[55]⟩) ∧ w' = W) := text_seven
  go_enter Tryd.func9, Tryd.ntmps9
  go_wp2_with (first | (go_at_call 10; refine (ca.out _ hG).mono ?_; rintro e w2 ⟨rfl, hb2⟩) | (go_at_call 14; refine (ct.out _).mono ?_; rintro e w3 ⟨rfl, hw⟩; obtain rfl := hw.symm))
  go_ret
  exact ⟨rfl, hb2⟩
end Go.Proofs.YteoomihembloaaaDoor

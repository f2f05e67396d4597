/-
  Small facts on what is returned; what outside answers.
-/
import Derived.Test.YtpdohdmpjaklgaaDoorMFirstW
import Derived.Test.YtpdohdmpjaklgaaDoorMDecPure
set_option linter.unusedSimpArgs false
set_option linter.unusedVariables false
namespace Go.Proofs.YtpdohdmpjaklgaaDoor
open Go.RowKit Go.Lib

theorem ret2 {k l : IntKind} {a b c d : Int} (h : a = c) (h' : b = d) : Ending.returned (.tuple #[.int k a, .int l b]) = .returned (.tuple #[.int k c, .int l d]) := by rw [h, h']
theorem ret3 {k l m : IntKind} {a b c d x y : Int} (h : a = c) (h' : b = d) (h2 : x = y) : Ending.returned (.tuple #[.int k a, .int l b, .int m x]) = .returned (.tuple #[.int k c, .int l d, .int m y]) := by rw [h, h', h2]

theorem outside_any (s : ByteArray) (at_ : Int) (w : World) :
    Calls Tryd.prog 93 #[.string s, .int .i64 at_] w fun e w' => e = .returned (.bool (decide (at_ < 0 ∨ (s.size : Int) < at_))) ∧ w' = w := by
  by_cases h1 : at_ < 0
  · go_enter Tryd.func93, Tryd.ntmps93
    go_wp2
    go_ret
    exact ⟨ret_bool (by simp [h1]), rfl⟩
  · go_enter Tryd.func93, Tryd.ntmps93
    go_wp2
    go_ret
    exact ⟨ret_bool (by simp; omega), rfl⟩
end Go.Proofs.YtpdohdmpjaklgaaDoor

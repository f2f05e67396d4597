/-
  What Column answers, the program's and the document's, for every text and place.
-/
import Derived.Test.YtpdohdmpjaklgaaDoorMCheckW
set_option linter.unusedSimpArgs false
set_option linter.unusedVariables false
namespace Go.Proofs.YtpdohdmpjaklgaaDoor
open Go.RowKit Go.Lib

/-- Line, column and error of a place. -/
def colI (s : ByteArray) (at_ : Int) : Nat × Nat × Int := if at_ < 0 ∨ (s.size : Int) < at_ then (0, 0, 2) else ((colE (s.extract 0 at_.toNat)).1, (colE (s.extract 0 at_.toNat)).2, 0)

theorem head_size (s : ByteArray) (k : Nat) (h : k ≤ s.size) : (s.extract 0 k).size = k := by simp [ByteArray.size_extract]; omega
theorem head_get! (s : ByteArray) (k j : Nat) (h : k ≤ s.size) (hj : j < k) : (s.extract 0 k).get! j = s.get! j := by
  have h1 : j < (s.extract 0 k).size := by rw [head_size s k h]; exact hj
  rw [Utf8W.get!_of_lt _ j h1, Utf8W.get!_of_lt s j (by omega)]
  simp [ByteArray.getElem_extract]
theorem lnF_head (s : ByteArray) (k : Nat) (h : k ≤ s.size) : ∀ j, j ≤ k → lnF (s.extract 0 k) j = lnF s j
  | 0, _ => rfl
  | j + 1, hj => by
    simp only [lnF]
    rw [head_get! s k j h (by omega), lnF_head s k h j (by omega)]
theorem lnF_le (s : ByteArray) : ∀ j, 1 ≤ (lnF s j).1 ∧ (lnF s j).1 ≤ j + 1 ∧ (lnF s j).2 ≤ j
  | 0 => by simp [lnF]
  | j + 1 => by
    have := lnF_le s j
    simp only [lnF]
    split
    · simp only; omega
    · omega
theorem mid_eq (s : ByteArray) (a k : Nat) (h : k ≤ s.size) : s.extract a k = (s.extract 0 k).extract a (s.extract 0 k).size := by
  rw [head_size s k h]
  apply ByteArray.ext
  apply Array.ext'
  rw [extract_data, extract_data, extract_data]
  simp only [List.drop_zero, Nat.sub_zero]
  rw [List.drop_take, List.take_take]
  congr 1
  omega

/-! ### the document's -/
end Go.Proofs.YtpdohdmpjaklgaaDoor

/-
  From a row's list to the tables, of layer 7.
-/
import Derived.Test.YtpdohdmpjaklgaaDoorMArFrame
set_option linter.unusedSimpArgs false
set_option linter.unusedVariables false
namespace Go.Proofs.YtpdohdmpjaklgaaDoor
open Go.RowKit Go.Lib Go.ChangeShapes Go.WideShapes

theorem tabE4_of_laid {W : World} (h : laidMetH Tryd.prog [("math/bits.deBruijn32tab", Rows.laid_math_bits_deBruijn32tab), ("math/bits.deBruijn64tab", Rows.laid_math_bits_deBruijn64tab), ("internal/strconv.uint64pow10", Rows.laid_internal_strconv_uint64pow10), ("sorrel/runes.spans", Rows.laid_sorrel_runes_spans)] W) : SpanCells W ∧ Pows W := by
  rw [MakeChecks.laidMetH_plain _ _ _ (by kernel_rfl)] at h
  have r1 := laidMet.reads h (n := "internal/strconv.uint64pow10") (d := Rows.laid_internal_strconv_uint64pow10) (by simp)
  have r4 := laidMet.reads h (n := "sorrel/runes.spans") (d := Rows.laid_sorrel_runes_spans) (by simp)
  rw [powData_eq] at r1
  rw [spansData_eq] at r4
  exact ⟨spans_of_reads r4, pows_of_reads r1⟩
theorem tabE6_of_laid {W : World} (h : laidMetH Tryd.prog [("math/bits.deBruijn32tab", Rows.laid_math_bits_deBruijn32tab), ("math/bits.deBruijn64tab", Rows.laid_math_bits_deBruijn64tab), ("internal/strconv.uint64pow10", Rows.laid_internal_strconv_uint64pow10), ("unicode/utf8.acceptRanges", Rows.laid_unicode_utf8_acceptRanges), ("sorrel/runes.spans", Rows.laid_sorrel_runes_spans), ("unicode/utf8.first", Rows.laid_unicode_utf8_first)] W) : Tabs W ∧ Pows W := by
  rw [MakeChecks.laidMetH_plain _ _ _ (by kernel_rfl)] at h
  have r1 := laidMet.reads h (n := "internal/strconv.uint64pow10") (d := Rows.laid_internal_strconv_uint64pow10) (by simp)
  have r3 := laidMet.reads h (n := "unicode/utf8.acceptRanges") (d := Rows.laid_unicode_utf8_acceptRanges) (by simp)
  have r4 := laidMet.reads h (n := "sorrel/runes.spans") (d := Rows.laid_sorrel_runes_spans) (by simp)
  have r5 := laidMet.reads h (n := "unicode/utf8.first") (d := Rows.laid_unicode_utf8_first) (by simp)
  rw [powData_eq] at r1
  rw [accept_eq] at r3
  rw [spansData_eq] at r4
  rw [first_eq] at r5
  exact ⟨⟨spans_of_reads r4, utf8Tabs_of_reads Tryd.lays260 u8Extra r5 r3⟩, pows_of_reads r1⟩
def laidWorldE (P : Program) (os : Os) : World :=
  { World.holding P os ⟨#[], #[], []⟩ with heap := setVals (setVals (setVals (setVals (setVals (setVals (World.holding P os ⟨#[], #[], []⟩).heap 0 spanVals) 3 firstVals) 4 acceptVals) 1 (deVals Rows.laid_internal_strconv_uint64pow10)) 5 (deVals Rows.laid_math_bits_deBruijn32tab)) 6 (deVals Rows.laid_math_bits_deBruijn64tab) }
end Go.Proofs.YtpdohdmpjaklgaaDoor

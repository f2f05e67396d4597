/-
  The tables of a row over arith, read off its list; a world in which they lie: a witness.
-/
import Derived.Test.YteoomihembloaaaDoorFrame
import Derived.Test.YteoomihembloaaaDoorArW
import Derived.Test.YteoomihembloaaaDoorRows
import Derived.Lib.LaidTab
set_option linter.unusedSimpArgs false
set_option linter.unusedVariables false
namespace Go.Proofs.YteoomihembloaaaDoor
open Go.RowKit Go.Lib
open Go.Sort (grow)

/-- The numbers' table. -/
def Pows (w : World) : Prop := TabIs Tryd.prog w "internal/strconv.uint64pow10" .u64 pow10Tab
theorem gPow : Tryd.prog.globalNamed "internal/strconv.uint64pow10" = some 2 := by kernel_rfl
theorem Pows.below {w w' : World} (h : Pows w) (hb : Below w.heap.size w w') : Pows w' := by
  unfold Pows TabIs World.var? at *
  rw [gPow] at *
  simp only [Option.bind_eq_bind, Option.bind_some] at *
  cases hk : w.heap[ 2 ]? with
  | none => rw [hk] at h; cases h
  | some o =>
    rw [hb.block _ (lt_of_block hk), hk]
    rw [hk] at h
    exact h
theorem below_grow {w : World} (k : Nat) (os : Array Obj) : Below w.heap.size w (grow (w.drewN k) os) :=
  ⟨rfl, rfl, rfl, by simp [grow, World.drewN], fun i hi => by simp [grow, World.drewN, Array.getElem?_append_left hi]⟩

theorem gPowType : (Tryd.prog.globals[ 2 ]?).map (·.type) = some 86 := by kernel_rfl
theorem c_pow : Tryd.prog.cellsOf 86 = 20 := by kernel_rfl
theorem c_u64 : Tryd.prog.cellsOf 33 = 1 := by kernel_rfl
theorem gGrp : Tryd.prog.globalNamed "sorrel/arith.groups" = some 0 := by kernel_rfl
theorem gGrpType : (Tryd.prog.globals[ 0 ]?).map (·.type) = some 41 := by kernel_rfl
theorem c_grps : Tryd.prog.cellsOf 41 = 18 := by kernel_rfl
theorem c_grp : Tryd.prog.cellsOf 40 = 1 := by kernel_rfl
theorem u_grp : Tryd.prog.underlying 40 = some (.int .i64) := by kernel_rfl

theorem powData_eq : Rows.laid_internal_strconv_uint64pow10 = (tabData .u64 pow10Tab : DataW Unit) := by kernel_rfl
theorem grpData_eq : Rows.laid_sorrel_arith_groups = (tabData .i64 grps : DataW Unit) := by kernel_rfl

theorem pows_of_reads {w : World} (h : VarReads Tryd.prog w "internal/strconv.uint64pow10" (tabData .u64 pow10Tab)) : Pows w := by
  obtain ⟨g, t, cs, fuel, p, hg, hty, hvar, hd⟩ := h
  obtain rfl := Option.some.inj (gPow.symm.trans hg)
  obtain rfl := Option.some.inj (gPowType.symm.trans hty)
  unfold Pows TabIs
  rw [hvar, ← cells_of_tab Tryd.underlying86 Tryd.underlying33 c_u64 c_pow hd]
theorem grps_of_reads {w : World} (h : VarReads Tryd.prog w "sorrel/arith.groups" (tabData .i64 grps)) : GrpCells w := by
  obtain ⟨g, t, cs, fuel, p, hg, hty, hvar, hd⟩ := h
  obtain rfl := Option.some.inj (gGrp.symm.trans hg)
  obtain rfl := Option.some.inj (gGrpType.symm.trans hty)
  have e := cells_of_tab Tryd.underlying41 u_grp c_grp c_grps hd
  intro k hk
  rw [World.var?_cell hg hvar k, ← Array.getElem?_toList, e, List.getElem?_map]
  have hl : k < grps.length := hk
  rw [List.getElem?_eq_getElem hl, Option.map_some, List.getD_eq_getElem?_getD, List.getElem?_eq_getElem hl]
  rfl

/-- What the rows over arith lay. -/
structure Tb4 (w : World) : Prop where
  g : GrpCells w
  p : Pows w
theorem Tb4.below {w w' : World} (h : Tb4 w) (hb : Below w.heap.size w w') : Tb4 w' := ⟨h.g.below hb, h.p.below hb⟩

theorem tab4_of_laid {W : World} (h : laidMetH Tryd.prog [("math/bits.deBruijn32tab", Rows.laid_math_bits_deBruijn32tab), ("math/bits.deBruijn64tab", Rows.laid_math_bits_deBruijn64tab), ("internal/strconv.uint64pow10", Rows.laid_internal_strconv_uint64pow10), ("sorrel/arith.groups", Rows.laid_sorrel_arith_groups)] W) : Tb4 W := by
  rw [MakeChecks.laidMetH_plain _ _ _ (by kernel_rfl)] at h
  have r1 := laidMet.reads h (n := "internal/strconv.uint64pow10") (d := Rows.laid_internal_strconv_uint64pow10) (by simp)
  have r2 := laidMet.reads h (n := "sorrel/arith.groups") (d := Rows.laid_sorrel_arith_groups) (by simp)
  rw [powData_eq] at r1
  rw [grpData_eq] at r2
  exact ⟨grps_of_reads r2, pows_of_reads r1⟩
theorem tab7_of_laid {W : World} (h : laidMetH Tryd.prog [("math/bits.deBruijn32tab", Rows.laid_math_bits_deBruijn32tab), ("math/bits.deBruijn64tab", Rows.laid_math_bits_deBruijn64tab), ("internal/strconv.uint64pow10", Rows.laid_internal_strconv_uint64pow10), ("unicode/utf8.acceptRanges", Rows.laid_unicode_utf8_acceptRanges), ("sorrel/runes.spans", Rows.laid_sorrel_runes_spans), ("sorrel/arith.groups", Rows.laid_sorrel_arith_groups), ("unicode/utf8.first", Rows.laid_unicode_utf8_first)] W) : Tb4 W ∧ Tabs W := by
  rw [MakeChecks.laidMetH_plain _ _ _ (by kernel_rfl)] at h
  have r1 := laidMet.reads h (n := "internal/strconv.uint64pow10") (d := Rows.laid_internal_strconv_uint64pow10) (by simp)
  have r2 := laidMet.reads h (n := "sorrel/arith.groups") (d := Rows.laid_sorrel_arith_groups) (by simp)
  have r3 := laidMet.reads h (n := "unicode/utf8.acceptRanges") (d := Rows.laid_unicode_utf8_acceptRanges) (by simp)
  have r4 := laidMet.reads h (n := "sorrel/runes.spans") (d := Rows.laid_sorrel_runes_spans) (by simp)
  have r5 := laidMet.reads h (n := "unicode/utf8.first") (d := Rows.laid_unicode_utf8_first) (by simp)
  rw [powData_eq] at r1
  rw [grpData_eq] at r2
  rw [accept_eq] at r3
  rw [spansData_eq] at r4
  rw [first_eq] at r5
  exact ⟨⟨grps_of_reads r2, pows_of_reads r1⟩, spans_of_reads r4, utf8Tabs_of_reads Tryd.lays260 u8Extra r5 r3⟩

def deVals (d : DataW Unit) : Array Value := match d with
  | .agg l => (l.map fun x => match x with | .lit (.int k z) => Value.int k z | _ => Value.int .u8 0).toArray
  | _ => #[]
def laidWorldA (P : Program) (os : Os) : World :=
  { World.holding P os ⟨#[], #[], []⟩ with heap := setVals (setVals (setVals (setVals (setVals (setVals (setVals (World.holding P os ⟨#[], #[], []⟩).heap 1 spanVals) 3 firstVals) 4 acceptVals) 0 (deVals Rows.laid_sorrel_arith_groups)) 2 (deVals Rows.laid_internal_strconv_uint64pow10)) 5 (deVals Rows.laid_math_bits_deBruijn32tab)) 6 (deVals Rows.laid_math_bits_deBruijn64tab) }
end Go.Proofs.YteoomihembloaaaDoor

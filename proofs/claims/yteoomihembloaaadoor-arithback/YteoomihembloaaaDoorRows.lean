/-
  NARROWER THAN 'FOR EVERY INPUT', by the rows' own cells (each row's printed sentence says how): ArithPlays: laid · ArithTexts: laid · ArithBack: laid · ArithCuts: laid · ArithRing: laid · ArithShifts: laid.
  DERIVED. THE GIVEN ROWS OF THIS SEAT. 6 by the template 'for every input the law returns true; each argument reads behind the call as it read before'; 0 by the template 'total and deterministic' (their statements: YteoomihembloaaaDoorTotals.lean).
  GIVEN WITH THE SEED: the statements are not yours to turn. If you find one false, say at which input.
  Laid BY PROGRAM, IN A SANDBOX (cutbox-rows.mjs): the forced cells as the released guide's own fill.sh prints them over the translation 80b11b85f6d80877… (all of the seat's roots in one cut). By AI agents, Wed Nov 11 2026. No macro, syntax, notation, axiom, sorry.
-/
import Derived.Test.YteoomihembloaaaDoorChecked
import GoSem.PinnedTables
import GoSem.Claim
import GoSem.ClaimJoined
import GoSem.ClaimMapViews
import Derived.JoinedTies
import Derived.KernelRfl
namespace Go.Proofs.YteoomihembloaaaDoor
/- THE CELL 'sum', in the pinned program and in every row, IS THE sha256 OF THE DUMP (.gsa) THAT YteoomihembloaaaDoorProg.lean LOADS. Nothing in Lean hashes anything: it is a label: what it is worth is what the hold of that sum in a sandbox is worth. -/
noncomputable def Tryd.pinned : Pinned := { name := "yteoomihembloaaadoor", sum := "80b11b85f6d80877c9c87750b4854da48533e2bf0c4394b4437e60c588c50120", checked := Tryd.checked }
namespace Rows
def none {H : Type} : Left H := { results := [], args := [] }

/- WHAT THE LISTED PACKAGE-LEVEL VARIABLES READ AS WHEN THE CALL BEGINS. Each datum BY PROGRAM (the guide's laid-datum.mjs) off the statement by which the dump's own 'gosem.cut.vars' lays the variable. In a bare row this is a premise. The card (YteoomihembloaaaDoorCards.lean) ties it to the program's text. -/
def laid_math_bits_deBruijn32tab {H : Type} : DataW H := .agg [.lit (.int .u8 0), .lit (.int .u8 1), .lit (.int .u8 28), .lit (.int .u8 2), .lit (.int .u8 29), .lit (.int .u8 14), .lit (.int .u8 24), .lit (.int .u8 3), .lit (.int .u8 30), .lit (.int .u8 22), .lit (.int .u8 20), .lit (.int .u8 15), .lit (.int .u8 25), .lit (.int .u8 17), .lit (.int .u8 4), .lit (.int .u8 8), .lit (.int .u8 31), .lit (.int .u8 27), .lit (.int .u8 13), .lit (.int .u8 23), .lit (.int .u8 21), .lit (.int .u8 19), .lit (.int .u8 16), .lit (.int .u8 7), .lit (.int .u8 26), .lit (.int .u8 12), .lit (.int .u8 18), .lit (.int .u8 6), .lit (.int .u8 11), .lit (.int .u8 5), .lit (.int .u8 10), .lit (.int .u8 9)]
def laid_math_bits_deBruijn64tab {H : Type} : DataW H := .agg [.lit (.int .u8 0), .lit (.int .u8 1), .lit (.int .u8 56), .lit (.int .u8 2), .lit (.int .u8 57), .lit (.int .u8 49), .lit (.int .u8 28), .lit (.int .u8 3), .lit (.int .u8 61), .lit (.int .u8 58), .lit (.int .u8 42), .lit (.int .u8 50), .lit (.int .u8 38), .lit (.int .u8 29), .lit (.int .u8 17), .lit (.int .u8 4), .lit (.int .u8 62), .lit (.int .u8 47), .lit (.int .u8 59), .lit (.int .u8 36), .lit (.int .u8 45), .lit (.int .u8 43), .lit (.int .u8 51), .lit (.int .u8 22), .lit (.int .u8 53), .lit (.int .u8 39), .lit (.int .u8 33), .lit (.int .u8 30), .lit (.int .u8 24), .lit (.int .u8 18), .lit (.int .u8 12), .lit (.int .u8 5), .lit (.int .u8 63), .lit (.int .u8 55), .lit (.int .u8 48), .lit (.int .u8 27), .lit (.int .u8 60), .lit (.int .u8 41), .lit (.int .u8 37), .lit (.int .u8 16), .lit (.int .u8 46), .lit (.int .u8 35), .lit (.int .u8 44), .lit (.int .u8 21), .lit (.int .u8 52), .lit (.int .u8 32), .lit (.int .u8 23), .lit (.int .u8 11), .lit (.int .u8 54), .lit (.int .u8 26), .lit (.int .u8 40), .lit (.int .u8 15), .lit (.int .u8 34), .lit (.int .u8 20), .lit (.int .u8 31), .lit (.int .u8 10), .lit (.int .u8 25), .lit (.int .u8 14), .lit (.int .u8 19), .lit (.int .u8 9), .lit (.int .u8 13), .lit (.int .u8 8), .lit (.int .u8 7), .lit (.int .u8 6)]
def laid_internal_strconv_uint64pow10 {H : Type} : DataW H := .agg [.lit (.int .u64 1), .lit (.int .u64 10), .lit (.int .u64 100), .lit (.int .u64 1000), .lit (.int .u64 10000), .lit (.int .u64 100000), .lit (.int .u64 1000000), .lit (.int .u64 10000000), .lit (.int .u64 100000000), .lit (.int .u64 1000000000), .lit (.int .u64 10000000000), .lit (.int .u64 100000000000), .lit (.int .u64 1000000000000), .lit (.int .u64 10000000000000), .lit (.int .u64 100000000000000), .lit (.int .u64 1000000000000000), .lit (.int .u64 10000000000000000), .lit (.int .u64 100000000000000000), .lit (.int .u64 1000000000000000000), .lit (.int .u64 10000000000000000000)]
def laid_sorrel_arith_groups {H : Type} : DataW H := .agg [.lit (.int .i64 0), .lit (.int .i64 0), .lit (.int .i64 0), .lit (.int .i64 1), .lit (.int .i64 1), .lit (.int .i64 2), .lit (.int .i64 2), .lit (.int .i64 2), .lit (.int .i64 3), .lit (.int .i64 3), .lit (.int .i64 4), .lit (.int .i64 4), .lit (.int .i64 4), .lit (.int .i64 5), .lit (.int .i64 5), .lit (.int .i64 6), .lit (.int .i64 6), .lit (.int .i64 7)]
def laid_unicode_utf8_acceptRanges {H : Type} : DataW H := .agg [.agg [.lit (.int .u8 128), .lit (.int .u8 191)], .agg [.lit (.int .u8 160), .lit (.int .u8 191)], .agg [.lit (.int .u8 128), .lit (.int .u8 159)], .agg [.lit (.int .u8 144), .lit (.int .u8 191)], .agg [.lit (.int .u8 128), .lit (.int .u8 143)], .agg [.lit (.int .u8 0), .lit (.int .u8 0)], .agg [.lit (.int .u8 0), .lit (.int .u8 0)], .agg [.lit (.int .u8 0), .lit (.int .u8 0)], .agg [.lit (.int .u8 0), .lit (.int .u8 0)], .agg [.lit (.int .u8 0), .lit (.int .u8 0)], .agg [.lit (.int .u8 0), .lit (.int .u8 0)], .agg [.lit (.int .u8 0), .lit (.int .u8 0)], .agg [.lit (.int .u8 0), .lit (.int .u8 0)], .agg [.lit (.int .u8 0), .lit (.int .u8 0)], .agg [.lit (.int .u8 0), .lit (.int .u8 0)], .agg [.lit (.int .u8 0), .lit (.int .u8 0)]]
def laid_sorrel_runes_spans {H : Type} : DataW H := .agg [.agg [.lit (.int .i32 97), .lit (.int .i32 122), .lit (.int .i64 1)], .agg [.lit (.int .i32 65), .lit (.int .i32 90), .lit (.int .i64 1)], .agg [.lit (.int .i32 95), .lit (.int .i32 95), .lit (.int .i64 1)], .agg [.lit (.int .i32 192), .lit (.int .i32 214), .lit (.int .i64 1)], .agg [.lit (.int .i32 216), .lit (.int .i32 246), .lit (.int .i64 1)], .agg [.lit (.int .i32 248), .lit (.int .i32 591), .lit (.int .i64 1)], .agg [.lit (.int .i32 880), .lit (.int .i32 893), .lit (.int .i64 1)], .agg [.lit (.int .i32 895), .lit (.int .i32 902), .lit (.int .i64 1)], .agg [.lit (.int .i32 904), .lit (.int .i32 1023), .lit (.int .i64 1)], .agg [.lit (.int .i32 1024), .lit (.int .i32 1153), .lit (.int .i64 1)], .agg [.lit (.int .i32 1162), .lit (.int .i32 1327), .lit (.int .i64 1)], .agg [.lit (.int .i32 19968), .lit (.int .i32 40959), .lit (.int .i64 1)], .agg [.lit (.int .i32 66560), .lit (.int .i32 66639), .lit (.int .i64 1)], .agg [.lit (.int .i32 48), .lit (.int .i32 57), .lit (.int .i64 2)], .agg [.lit (.int .i32 1632), .lit (.int .i32 1641), .lit (.int .i64 2)], .agg [.lit (.int .i32 65296), .lit (.int .i32 65305), .lit (.int .i64 2)], .agg [.lit (.int .i32 9), .lit (.int .i32 10), .lit (.int .i64 3)], .agg [.lit (.int .i32 13), .lit (.int .i32 13), .lit (.int .i64 3)], .agg [.lit (.int .i32 32), .lit (.int .i32 32), .lit (.int .i64 3)], .agg [.lit (.int .i32 160), .lit (.int .i32 160), .lit (.int .i64 3)], .agg [.lit (.int .i32 12288), .lit (.int .i32 12288), .lit (.int .i64 3)], .agg [.lit (.int .i32 37), .lit (.int .i32 38), .lit (.int .i64 4)], .agg [.lit (.int .i32 40), .lit (.int .i32 45), .lit (.int .i64 4)], .agg [.lit (.int .i32 47), .lit (.int .i32 47), .lit (.int .i64 4)], .agg [.lit (.int .i32 58), .lit (.int .i32 64), .lit (.int .i64 4)], .agg [.lit (.int .i32 94), .lit (.int .i32 94), .lit (.int .i64 4)], .agg [.lit (.int .i32 124), .lit (.int .i32 124), .lit (.int .i64 4)], .agg [.lit (.int .i32 126), .lit (.int .i32 126), .lit (.int .i64 4)], .agg [.lit (.int .i32 172), .lit (.int .i32 172), .lit (.int .i64 4)], .agg [.lit (.int .i32 183), .lit (.int .i32 183), .lit (.int .i64 4)], .agg [.lit (.int .i32 215), .lit (.int .i32 215), .lit (.int .i64 4)], .agg [.lit (.int .i32 247), .lit (.int .i32 247), .lit (.int .i64 4)], .agg [.lit (.int .i32 8722), .lit (.int .i32 8722), .lit (.int .i64 4)], .agg [.lit (.int .i32 8743), .lit (.int .i32 8744), .lit (.int .i64 4)], .agg [.lit (.int .i32 8801), .lit (.int .i32 8801), .lit (.int .i64 4)], .agg [.lit (.int .i32 8810), .lit (.int .i32 8811), .lit (.int .i64 4)], .agg [.lit (.int .i32 8853), .lit (.int .i32 8853), .lit (.int .i64 4)], .agg [.lit (.int .i32 8320), .lit (.int .i32 8329), .lit (.int .i64 5)]]
/-- One of Go's own tables, pinned by name: the form's constant. -/
def laid_unicode_utf8_first : DataW Unit := Go.Pinned.utf8First

/-- 'sorrellaw06.ArithPlays': WHATEVER THE INPUT: true; the input reads as it did. -/
def arithPlaysSpec : ChangeSpec := { name := "arithPlays", fn := fun _ => fun
  | [d1, d2] => { results := [.lit (.bool true)], args := [d1, d2] }
  | _ => none }
def arithPlaysRow : OpenClaim := { program := "yteoomihembloaaadoor", sum := "80b11b85f6d80877c9c87750b4854da48533e2bf0c4394b4437e60c588c50120", func := "sorrel/sorrellaw06.ArithPlays", spec := "arithPlays", named := ["sorrel/arith.groups", "internal/strconv.uint64pow10", "math/bits.deBruijn32tab", "math/bits.deBruijn64tab"], apart := false, laid := [("math/bits.deBruijn32tab", laid_math_bits_deBruijn32tab), ("math/bits.deBruijn64tab", laid_math_bits_deBruijn64tab), ("internal/strconv.uint64pow10", laid_internal_strconv_uint64pow10), ("sorrel/arith.groups", laid_sorrel_arith_groups)] }
def ArithPlaysSaid : Prop := arithPlaysRow.holds Tryd.pinned (OpenSpec.ofChange arithPlaysSpec)

/-- ITS FALSE NEIGHBOUR: 'it returns false'. Refute it at one input. -/
def arithPlaysWrong : ChangeSpec := { name := "arithPlays", fn := fun _ => fun
  | [d1, d2] => { results := [.lit (.bool false)], args := [d1, d2] }
  | _ => none }
def ArithPlaysWrongFalsely : Prop := arithPlaysRow.holds Tryd.pinned (OpenSpec.ofChange arithPlaysWrong)

/-- 'sorrellaw06.ArithTexts': WHATEVER THE INPUT: true; the input reads as it did. -/
def arithTextsSpec : ChangeSpec := { name := "arithTexts", fn := fun _ => fun
  | [d1, d2] => { results := [.lit (.bool true)], args := [d1, d2] }
  | _ => none }
def arithTextsRow : OpenClaim := { program := "yteoomihembloaaadoor", sum := "80b11b85f6d80877c9c87750b4854da48533e2bf0c4394b4437e60c588c50120", func := "sorrel/sorrellaw06.ArithTexts", spec := "arithTexts", named := ["sorrel/arith.groups", "internal/strconv.uint64pow10", "math/bits.deBruijn32tab", "math/bits.deBruijn64tab", "unicode/utf8.first", "unicode/utf8.acceptRanges", "sorrel/runes.spans"], apart := false, laid := [("math/bits.deBruijn32tab", laid_math_bits_deBruijn32tab), ("math/bits.deBruijn64tab", laid_math_bits_deBruijn64tab), ("internal/strconv.uint64pow10", laid_internal_strconv_uint64pow10), ("unicode/utf8.acceptRanges", laid_unicode_utf8_acceptRanges), ("sorrel/runes.spans", laid_sorrel_runes_spans), ("sorrel/arith.groups", laid_sorrel_arith_groups), ("unicode/utf8.first", laid_unicode_utf8_first)] }
def ArithTextsSaid : Prop := arithTextsRow.holds Tryd.pinned (OpenSpec.ofChange arithTextsSpec)

/-- ITS FALSE NEIGHBOUR: 'it returns false'. Refute it at one input. -/
def arithTextsWrong : ChangeSpec := { name := "arithTexts", fn := fun _ => fun
  | [d1, d2] => { results := [.lit (.bool false)], args := [d1, d2] }
  | _ => none }
def ArithTextsWrongFalsely : Prop := arithTextsRow.holds Tryd.pinned (OpenSpec.ofChange arithTextsWrong)

/-- 'sorrellaw06.ArithBack': WHATEVER THE INPUT: true; the input reads as it did. -/
def arithBackSpec : ChangeSpec := { name := "arithBack", fn := fun _ => fun
  | [d1, d2] => { results := [.lit (.bool true)], args := [d1, d2] }
  | _ => none }
def arithBackRow : OpenClaim := { program := "yteoomihembloaaadoor", sum := "80b11b85f6d80877c9c87750b4854da48533e2bf0c4394b4437e60c588c50120", func := "sorrel/sorrellaw06.ArithBack", spec := "arithBack", named := ["sorrel/arith.groups", "internal/strconv.uint64pow10", "math/bits.deBruijn32tab", "math/bits.deBruijn64tab", "unicode/utf8.first", "unicode/utf8.acceptRanges", "sorrel/runes.spans"], apart := false, laid := [("math/bits.deBruijn32tab", laid_math_bits_deBruijn32tab), ("math/bits.deBruijn64tab", laid_math_bits_deBruijn64tab), ("internal/strconv.uint64pow10", laid_internal_strconv_uint64pow10), ("unicode/utf8.acceptRanges", laid_unicode_utf8_acceptRanges), ("sorrel/runes.spans", laid_sorrel_runes_spans), ("sorrel/arith.groups", laid_sorrel_arith_groups), ("unicode/utf8.first", laid_unicode_utf8_first)] }
def ArithBackSaid : Prop := arithBackRow.holds Tryd.pinned (OpenSpec.ofChange arithBackSpec)

/-- ITS FALSE NEIGHBOUR: 'it returns false'. Refute it at one input. -/
def arithBackWrong : ChangeSpec := { name := "arithBack", fn := fun _ => fun
  | [d1, d2] => { results := [.lit (.bool false)], args := [d1, d2] }
  | _ => none }
def ArithBackWrongFalsely : Prop := arithBackRow.holds Tryd.pinned (OpenSpec.ofChange arithBackWrong)

/-- 'sorrellaw06.ArithCuts': WHATEVER THE INPUT: true; the input reads as it did. -/
def arithCutsSpec : ChangeSpec := { name := "arithCuts", fn := fun _ => fun
  | [d1, d2] => { results := [.lit (.bool true)], args := [d1, d2] }
  | _ => none }
def arithCutsRow : OpenClaim := { program := "yteoomihembloaaadoor", sum := "80b11b85f6d80877c9c87750b4854da48533e2bf0c4394b4437e60c588c50120", func := "sorrel/sorrellaw06.ArithCuts", spec := "arithCuts", named := ["sorrel/arith.groups", "internal/strconv.uint64pow10", "math/bits.deBruijn32tab", "math/bits.deBruijn64tab"], apart := false, laid := [("math/bits.deBruijn32tab", laid_math_bits_deBruijn32tab), ("math/bits.deBruijn64tab", laid_math_bits_deBruijn64tab), ("internal/strconv.uint64pow10", laid_internal_strconv_uint64pow10), ("sorrel/arith.groups", laid_sorrel_arith_groups)] }
def ArithCutsSaid : Prop := arithCutsRow.holds Tryd.pinned (OpenSpec.ofChange arithCutsSpec)

/-- ITS FALSE NEIGHBOUR: 'it returns false'. Refute it at one input. -/
def arithCutsWrong : ChangeSpec := { name := "arithCuts", fn := fun _ => fun
  | [d1, d2] => { results := [.lit (.bool false)], args := [d1, d2] }
  | _ => none }
def ArithCutsWrongFalsely : Prop := arithCutsRow.holds Tryd.pinned (OpenSpec.ofChange arithCutsWrong)

/-- 'sorrellaw06.ArithRing': WHATEVER THE INPUT: true; the input reads as it did. -/
def arithRingSpec : ChangeSpec := { name := "arithRing", fn := fun _ => fun
  | [d1, d2, d3] => { results := [.lit (.bool true)], args := [d1, d2, d3] }
  | _ => none }
def arithRingRow : OpenClaim := { program := "yteoomihembloaaadoor", sum := "80b11b85f6d80877c9c87750b4854da48533e2bf0c4394b4437e60c588c50120", func := "sorrel/sorrellaw06.ArithRing", spec := "arithRing", named := ["sorrel/arith.groups", "internal/strconv.uint64pow10", "math/bits.deBruijn32tab", "math/bits.deBruijn64tab"], apart := false, laid := [("math/bits.deBruijn32tab", laid_math_bits_deBruijn32tab), ("math/bits.deBruijn64tab", laid_math_bits_deBruijn64tab), ("internal/strconv.uint64pow10", laid_internal_strconv_uint64pow10), ("sorrel/arith.groups", laid_sorrel_arith_groups)] }
def ArithRingSaid : Prop := arithRingRow.holds Tryd.pinned (OpenSpec.ofChange arithRingSpec)

/-- ITS FALSE NEIGHBOUR: 'it returns false'. Refute it at one input. -/
def arithRingWrong : ChangeSpec := { name := "arithRing", fn := fun _ => fun
  | [d1, d2, d3] => { results := [.lit (.bool false)], args := [d1, d2, d3] }
  | _ => none }
def ArithRingWrongFalsely : Prop := arithRingRow.holds Tryd.pinned (OpenSpec.ofChange arithRingWrong)

/-- 'sorrellaw06.ArithShifts': WHATEVER THE INPUT: true; the input reads as it did. -/
def arithShiftsSpec : ChangeSpec := { name := "arithShifts", fn := fun _ => fun
  | [d1, d2] => { results := [.lit (.bool true)], args := [d1, d2] }
  | _ => none }
def arithShiftsRow : OpenClaim := { program := "yteoomihembloaaadoor", sum := "80b11b85f6d80877c9c87750b4854da48533e2bf0c4394b4437e60c588c50120", func := "sorrel/sorrellaw06.ArithShifts", spec := "arithShifts", named := ["sorrel/arith.groups", "internal/strconv.uint64pow10", "math/bits.deBruijn32tab", "math/bits.deBruijn64tab"], apart := false, laid := [("math/bits.deBruijn32tab", laid_math_bits_deBruijn32tab), ("math/bits.deBruijn64tab", laid_math_bits_deBruijn64tab), ("internal/strconv.uint64pow10", laid_internal_strconv_uint64pow10), ("sorrel/arith.groups", laid_sorrel_arith_groups)] }
def ArithShiftsSaid : Prop := arithShiftsRow.holds Tryd.pinned (OpenSpec.ofChange arithShiftsSpec)

/-- ITS FALSE NEIGHBOUR: 'it returns false'. Refute it at one input. -/
def arithShiftsWrong : ChangeSpec := { name := "arithShifts", fn := fun _ => fun
  | [d1, d2] => { results := [.lit (.bool false)], args := [d1, d2] }
  | _ => none }
def ArithShiftsWrongFalsely : Prop := arithShiftsRow.holds Tryd.pinned (OpenSpec.ofChange arithShiftsWrong)

/- THE SECOND FORM. 'bulk': how many values and letters a reading holds, each counted each time it is reached (what is shared counts as often as it is met; a slice's spare places count too). A statement '..UptoSaid' is the law's where the arguments, and the package variables that the reading takes, are together of bulk at most 1048576: NARROWER than '..Said'. Prove '..Said' where nothing that the law and all that it calls make is longer than what came in: it says more and counts as full. Else prove '..UptoSaid'. A law counts once. -/
mutual
def uptoBulk {H : Type} : DataW H → Nat
  | .lit (.string bytes) => bytes.length + 1
  | .lit _ => 1
  | .nil => 1
  | .ptr d => uptoBulk d + 1
  | .slice elems spare => uptoBulkAll elems + uptoBulkAll spare + 1
  | .agg parts => uptoBulkAll parts + 1
  | .iface _ d => uptoBulk d + 1
  | .map entries => uptoBulkEntries entries + 1
  | .held _ => 1
def uptoBulkAll {H : Type} : List (DataW H) → Nat
  | [] => 0
  | d :: r => uptoBulk d + uptoBulkAll r
def uptoBulkEntries {H : Type} : List (Lit × DataW H) → Nat
  | [] => 0
  | x :: r => uptoBulkEntry x + uptoBulkEntries r
def uptoBulkEntry {H : Type} : Lit × DataW H → Nat
  | (.string bytes, d) => bytes.length + uptoBulk d + 1
  | (_, d) => uptoBulk d + 1
 end
def uptoSmall : (H : Type) → List (DataW H) → Bool := fun _ ds => decide (uptoBulkAll ds ≤ 1048576)
def OpenSpec.upto (s : _root_.Go.ChangeSpec) : _root_.Go.OpenSpec := { _root_.Go.OpenSpec.ofChange s with cond := some uptoSmall }

/-- 'sorrellaw06.ArithPlays', WHERE WHAT IT READS IS OF BULK AT MOST 1048576: true; the input reads as it did. -/
def arithPlaysUptoRow : OpenClaim := { program := "yteoomihembloaaadoor", sum := "80b11b85f6d80877c9c87750b4854da48533e2bf0c4394b4437e60c588c50120", func := "sorrel/sorrellaw06.ArithPlays", spec := "arithPlays", named := ["sorrel/arith.groups", "internal/strconv.uint64pow10", "math/bits.deBruijn32tab", "math/bits.deBruijn64tab"], apart := false, laid := [("math/bits.deBruijn32tab", laid_math_bits_deBruijn32tab), ("math/bits.deBruijn64tab", laid_math_bits_deBruijn64tab), ("internal/strconv.uint64pow10", laid_internal_strconv_uint64pow10), ("sorrel/arith.groups", laid_sorrel_arith_groups)], narrowed := true }
def ArithPlaysUptoSaid : Prop := arithPlaysUptoRow.holds Tryd.pinned (OpenSpec.upto arithPlaysSpec)

/-- 'sorrellaw06.ArithTexts', WHERE WHAT IT READS IS OF BULK AT MOST 1048576: true; the input reads as it did. -/
def arithTextsUptoRow : OpenClaim := { program := "yteoomihembloaaadoor", sum := "80b11b85f6d80877c9c87750b4854da48533e2bf0c4394b4437e60c588c50120", func := "sorrel/sorrellaw06.ArithTexts", spec := "arithTexts", named := ["sorrel/arith.groups", "internal/strconv.uint64pow10", "math/bits.deBruijn32tab", "math/bits.deBruijn64tab", "unicode/utf8.first", "unicode/utf8.acceptRanges", "sorrel/runes.spans"], apart := false, laid := [("math/bits.deBruijn32tab", laid_math_bits_deBruijn32tab), ("math/bits.deBruijn64tab", laid_math_bits_deBruijn64tab), ("internal/strconv.uint64pow10", laid_internal_strconv_uint64pow10), ("unicode/utf8.acceptRanges", laid_unicode_utf8_acceptRanges), ("sorrel/runes.spans", laid_sorrel_runes_spans), ("sorrel/arith.groups", laid_sorrel_arith_groups), ("unicode/utf8.first", laid_unicode_utf8_first)], narrowed := true }
def ArithTextsUptoSaid : Prop := arithTextsUptoRow.holds Tryd.pinned (OpenSpec.upto arithTextsSpec)

/-- 'sorrellaw06.ArithBack', WHERE WHAT IT READS IS OF BULK AT MOST 1048576: true; the input reads as it did. -/
def arithBackUptoRow : OpenClaim := { program := "yteoomihembloaaadoor", sum := "80b11b85f6d80877c9c87750b4854da48533e2bf0c4394b4437e60c588c50120", func := "sorrel/sorrellaw06.ArithBack", spec := "arithBack", named := ["sorrel/arith.groups", "internal/strconv.uint64pow10", "math/bits.deBruijn32tab", "math/bits.deBruijn64tab", "unicode/utf8.first", "unicode/utf8.acceptRanges", "sorrel/runes.spans"], apart := false, laid := [("math/bits.deBruijn32tab", laid_math_bits_deBruijn32tab), ("math/bits.deBruijn64tab", laid_math_bits_deBruijn64tab), ("internal/strconv.uint64pow10", laid_internal_strconv_uint64pow10), ("unicode/utf8.acceptRanges", laid_unicode_utf8_acceptRanges), ("sorrel/runes.spans", laid_sorrel_runes_spans), ("sorrel/arith.groups", laid_sorrel_arith_groups), ("unicode/utf8.first", laid_unicode_utf8_first)], narrowed := true }
def ArithBackUptoSaid : Prop := arithBackUptoRow.holds Tryd.pinned (OpenSpec.upto arithBackSpec)

/-- 'sorrellaw06.ArithCuts', WHERE WHAT IT READS IS OF BULK AT MOST 1048576: true; the input reads as it did. -/
def arithCutsUptoRow : OpenClaim := { program := "yteoomihembloaaadoor", sum := "80b11b85f6d80877c9c87750b4854da48533e2bf0c4394b4437e60c588c50120", func := "sorrel/sorrellaw06.ArithCuts", spec := "arithCuts", named := ["sorrel/arith.groups", "internal/strconv.uint64pow10", "math/bits.deBruijn32tab", "math/bits.deBruijn64tab"], apart := false, laid := [("math/bits.deBruijn32tab", laid_math_bits_deBruijn32tab), ("math/bits.deBruijn64tab", laid_math_bits_deBruijn64tab), ("internal/strconv.uint64pow10", laid_internal_strconv_uint64pow10), ("sorrel/arith.groups", laid_sorrel_arith_groups)], narrowed := true }
def ArithCutsUptoSaid : Prop := arithCutsUptoRow.holds Tryd.pinned (OpenSpec.upto arithCutsSpec)

/-- 'sorrellaw06.ArithRing', WHERE WHAT IT READS IS OF BULK AT MOST 1048576: true; the input reads as it did. -/
def arithRingUptoRow : OpenClaim := { program := "yteoomihembloaaadoor", sum := "80b11b85f6d80877c9c87750b4854da48533e2bf0c4394b4437e60c588c50120", func := "sorrel/sorrellaw06.ArithRing", spec := "arithRing", named := ["sorrel/arith.groups", "internal/strconv.uint64pow10", "math/bits.deBruijn32tab", "math/bits.deBruijn64tab"], apart := false, laid := [("math/bits.deBruijn32tab", laid_math_bits_deBruijn32tab), ("math/bits.deBruijn64tab", laid_math_bits_deBruijn64tab), ("internal/strconv.uint64pow10", laid_internal_strconv_uint64pow10), ("sorrel/arith.groups", laid_sorrel_arith_groups)], narrowed := true }
def ArithRingUptoSaid : Prop := arithRingUptoRow.holds Tryd.pinned (OpenSpec.upto arithRingSpec)

/-- 'sorrellaw06.ArithShifts', WHERE WHAT IT READS IS OF BULK AT MOST 1048576: true; the input reads as it did. -/
def arithShiftsUptoRow : OpenClaim := { program := "yteoomihembloaaadoor", sum := "80b11b85f6d80877c9c87750b4854da48533e2bf0c4394b4437e60c588c50120", func := "sorrel/sorrellaw06.ArithShifts", spec := "arithShifts", named := ["sorrel/arith.groups", "internal/strconv.uint64pow10", "math/bits.deBruijn32tab", "math/bits.deBruijn64tab"], apart := false, laid := [("math/bits.deBruijn32tab", laid_math_bits_deBruijn32tab), ("math/bits.deBruijn64tab", laid_math_bits_deBruijn64tab), ("internal/strconv.uint64pow10", laid_internal_strconv_uint64pow10), ("sorrel/arith.groups", laid_sorrel_arith_groups)], narrowed := true }
def ArithShiftsUptoSaid : Prop := arithShiftsUptoRow.holds Tryd.pinned (OpenSpec.upto arithShiftsSpec)

end Rows
end Go.Proofs.YteoomihembloaaaDoor

/-
  NARROWER THAN 'FOR EVERY INPUT', by the rows' own cells (each row's printed sentence says how): ExprPlays: laid · ParseSpelled: laid · ParseKeeps: laid · ShowLeast: laid · ShowNames: laid.
  DERIVED. THE GIVEN ROWS OF THIS SEAT. 5 by the template 'for every input the law returns true; each argument reads behind the call as it read before'; 0 by the template 'total and deterministic' (their statements: YtjmccobblpcbhaaDoorTotals.lean).
  GIVEN WITH THE SEED: the statements are not yours to turn. If you find one false, say at which input.
  Laid BY PROGRAM, IN A SANDBOX (cutbox-rows.mjs): the forced cells as the released guide's own fill.sh prints them over the translation 0244ef64b77b16ed… (all of the seat's roots in one cut). By AI agents, Wed Nov 11 2026. No macro, syntax, notation, axiom, sorry.
-/
import Derived.Test.YtjmccobblpcbhaaDoorChecked
import GoSem.PinnedTables
import GoSem.Claim
import GoSem.ClaimJoined
import GoSem.ClaimMapViews
import Derived.JoinedTies
import Derived.KernelRfl
namespace Go.Proofs.YtjmccobblpcbhaaDoor
/- THE CELL 'sum', in the pinned program and in every row, IS THE sha256 OF THE DUMP (.gsa) THAT YtjmccobblpcbhaaDoorProg.lean LOADS. Nothing in Lean hashes anything: it is a label: what it is worth is what the hold of that sum in a sandbox is worth. -/
noncomputable def Tryd.pinned : Pinned := { name := "ytjmccobblpcbhaadoor", sum := "0244ef64b77b16ed7d1541516f9e9ea47de74384f830c0c0f7dac572aa4affcd", checked := Tryd.checked }
namespace Rows
def none {H : Type} : Left H := { results := [], args := [] }

/- WHAT THE LISTED PACKAGE-LEVEL VARIABLES READ AS WHEN THE CALL BEGINS. Each datum BY PROGRAM (the guide's laid-datum.mjs) off the statement by which the dump's own 'gosem.cut.vars' lays the variable. In a bare row this is a premise. The card (YtjmccobblpcbhaaDoorCards.lean) ties it to the program's text. -/
def laid_unicode_utf8_acceptRanges {H : Type} : DataW H := .agg [.agg [.lit (.int .u8 128), .lit (.int .u8 191)], .agg [.lit (.int .u8 160), .lit (.int .u8 191)], .agg [.lit (.int .u8 128), .lit (.int .u8 159)], .agg [.lit (.int .u8 144), .lit (.int .u8 191)], .agg [.lit (.int .u8 128), .lit (.int .u8 143)], .agg [.lit (.int .u8 0), .lit (.int .u8 0)], .agg [.lit (.int .u8 0), .lit (.int .u8 0)], .agg [.lit (.int .u8 0), .lit (.int .u8 0)], .agg [.lit (.int .u8 0), .lit (.int .u8 0)], .agg [.lit (.int .u8 0), .lit (.int .u8 0)], .agg [.lit (.int .u8 0), .lit (.int .u8 0)], .agg [.lit (.int .u8 0), .lit (.int .u8 0)], .agg [.lit (.int .u8 0), .lit (.int .u8 0)], .agg [.lit (.int .u8 0), .lit (.int .u8 0)], .agg [.lit (.int .u8 0), .lit (.int .u8 0)], .agg [.lit (.int .u8 0), .lit (.int .u8 0)]]
def laid_sorrel_runes_spans {H : Type} : DataW H := .agg [.agg [.lit (.int .i32 97), .lit (.int .i32 122), .lit (.int .i64 1)], .agg [.lit (.int .i32 65), .lit (.int .i32 90), .lit (.int .i64 1)], .agg [.lit (.int .i32 95), .lit (.int .i32 95), .lit (.int .i64 1)], .agg [.lit (.int .i32 192), .lit (.int .i32 214), .lit (.int .i64 1)], .agg [.lit (.int .i32 216), .lit (.int .i32 246), .lit (.int .i64 1)], .agg [.lit (.int .i32 248), .lit (.int .i32 591), .lit (.int .i64 1)], .agg [.lit (.int .i32 880), .lit (.int .i32 893), .lit (.int .i64 1)], .agg [.lit (.int .i32 895), .lit (.int .i32 902), .lit (.int .i64 1)], .agg [.lit (.int .i32 904), .lit (.int .i32 1023), .lit (.int .i64 1)], .agg [.lit (.int .i32 1024), .lit (.int .i32 1153), .lit (.int .i64 1)], .agg [.lit (.int .i32 1162), .lit (.int .i32 1327), .lit (.int .i64 1)], .agg [.lit (.int .i32 19968), .lit (.int .i32 40959), .lit (.int .i64 1)], .agg [.lit (.int .i32 66560), .lit (.int .i32 66639), .lit (.int .i64 1)], .agg [.lit (.int .i32 48), .lit (.int .i32 57), .lit (.int .i64 2)], .agg [.lit (.int .i32 1632), .lit (.int .i32 1641), .lit (.int .i64 2)], .agg [.lit (.int .i32 65296), .lit (.int .i32 65305), .lit (.int .i64 2)], .agg [.lit (.int .i32 9), .lit (.int .i32 10), .lit (.int .i64 3)], .agg [.lit (.int .i32 13), .lit (.int .i32 13), .lit (.int .i64 3)], .agg [.lit (.int .i32 32), .lit (.int .i32 32), .lit (.int .i64 3)], .agg [.lit (.int .i32 160), .lit (.int .i32 160), .lit (.int .i64 3)], .agg [.lit (.int .i32 12288), .lit (.int .i32 12288), .lit (.int .i64 3)], .agg [.lit (.int .i32 37), .lit (.int .i32 38), .lit (.int .i64 4)], .agg [.lit (.int .i32 40), .lit (.int .i32 45), .lit (.int .i64 4)], .agg [.lit (.int .i32 47), .lit (.int .i32 47), .lit (.int .i64 4)], .agg [.lit (.int .i32 58), .lit (.int .i32 64), .lit (.int .i64 4)], .agg [.lit (.int .i32 94), .lit (.int .i32 94), .lit (.int .i64 4)], .agg [.lit (.int .i32 124), .lit (.int .i32 124), .lit (.int .i64 4)], .agg [.lit (.int .i32 126), .lit (.int .i32 126), .lit (.int .i64 4)], .agg [.lit (.int .i32 172), .lit (.int .i32 172), .lit (.int .i64 4)], .agg [.lit (.int .i32 183), .lit (.int .i32 183), .lit (.int .i64 4)], .agg [.lit (.int .i32 215), .lit (.int .i32 215), .lit (.int .i64 4)], .agg [.lit (.int .i32 247), .lit (.int .i32 247), .lit (.int .i64 4)], .agg [.lit (.int .i32 8722), .lit (.int .i32 8722), .lit (.int .i64 4)], .agg [.lit (.int .i32 8743), .lit (.int .i32 8744), .lit (.int .i64 4)], .agg [.lit (.int .i32 8801), .lit (.int .i32 8801), .lit (.int .i64 4)], .agg [.lit (.int .i32 8810), .lit (.int .i32 8811), .lit (.int .i64 4)], .agg [.lit (.int .i32 8853), .lit (.int .i32 8853), .lit (.int .i64 4)], .agg [.lit (.int .i32 8320), .lit (.int .i32 8329), .lit (.int .i64 5)]]
/-- One of Go's own tables, pinned by name: the form's constant. -/
def laid_unicode_utf8_first : DataW Unit := Go.Pinned.utf8First
def laid_math_bits_deBruijn32tab {H : Type} : DataW H := .agg [.lit (.int .u8 0), .lit (.int .u8 1), .lit (.int .u8 28), .lit (.int .u8 2), .lit (.int .u8 29), .lit (.int .u8 14), .lit (.int .u8 24), .lit (.int .u8 3), .lit (.int .u8 30), .lit (.int .u8 22), .lit (.int .u8 20), .lit (.int .u8 15), .lit (.int .u8 25), .lit (.int .u8 17), .lit (.int .u8 4), .lit (.int .u8 8), .lit (.int .u8 31), .lit (.int .u8 27), .lit (.int .u8 13), .lit (.int .u8 23), .lit (.int .u8 21), .lit (.int .u8 19), .lit (.int .u8 16), .lit (.int .u8 7), .lit (.int .u8 26), .lit (.int .u8 12), .lit (.int .u8 18), .lit (.int .u8 6), .lit (.int .u8 11), .lit (.int .u8 5), .lit (.int .u8 10), .lit (.int .u8 9)]
def laid_math_bits_deBruijn64tab {H : Type} : DataW H := .agg [.lit (.int .u8 0), .lit (.int .u8 1), .lit (.int .u8 56), .lit (.int .u8 2), .lit (.int .u8 57), .lit (.int .u8 49), .lit (.int .u8 28), .lit (.int .u8 3), .lit (.int .u8 61), .lit (.int .u8 58), .lit (.int .u8 42), .lit (.int .u8 50), .lit (.int .u8 38), .lit (.int .u8 29), .lit (.int .u8 17), .lit (.int .u8 4), .lit (.int .u8 62), .lit (.int .u8 47), .lit (.int .u8 59), .lit (.int .u8 36), .lit (.int .u8 45), .lit (.int .u8 43), .lit (.int .u8 51), .lit (.int .u8 22), .lit (.int .u8 53), .lit (.int .u8 39), .lit (.int .u8 33), .lit (.int .u8 30), .lit (.int .u8 24), .lit (.int .u8 18), .lit (.int .u8 12), .lit (.int .u8 5), .lit (.int .u8 63), .lit (.int .u8 55), .lit (.int .u8 48), .lit (.int .u8 27), .lit (.int .u8 60), .lit (.int .u8 41), .lit (.int .u8 37), .lit (.int .u8 16), .lit (.int .u8 46), .lit (.int .u8 35), .lit (.int .u8 44), .lit (.int .u8 21), .lit (.int .u8 52), .lit (.int .u8 32), .lit (.int .u8 23), .lit (.int .u8 11), .lit (.int .u8 54), .lit (.int .u8 26), .lit (.int .u8 40), .lit (.int .u8 15), .lit (.int .u8 34), .lit (.int .u8 20), .lit (.int .u8 31), .lit (.int .u8 10), .lit (.int .u8 25), .lit (.int .u8 14), .lit (.int .u8 19), .lit (.int .u8 9), .lit (.int .u8 13), .lit (.int .u8 8), .lit (.int .u8 7), .lit (.int .u8 6)]
def laid_internal_strconv_uint64pow10 {H : Type} : DataW H := .agg [.lit (.int .u64 1), .lit (.int .u64 10), .lit (.int .u64 100), .lit (.int .u64 1000), .lit (.int .u64 10000), .lit (.int .u64 100000), .lit (.int .u64 1000000), .lit (.int .u64 10000000), .lit (.int .u64 100000000), .lit (.int .u64 1000000000), .lit (.int .u64 10000000000), .lit (.int .u64 100000000000), .lit (.int .u64 1000000000000), .lit (.int .u64 10000000000000), .lit (.int .u64 100000000000000), .lit (.int .u64 1000000000000000), .lit (.int .u64 10000000000000000), .lit (.int .u64 100000000000000000), .lit (.int .u64 1000000000000000000), .lit (.int .u64 10000000000000000000)]
def laid_sorrel_show_writings {H : Type} : DataW H := .agg [.agg [.lit (.string []), .lit (.string []), .lit (.int .i64 0)], .agg [.lit (.string []), .lit (.string []), .lit (.int .i64 11)], .agg [.lit (.string []), .lit (.string []), .lit (.int .i64 11)], .agg [.lit (.string [45]), .lit (.string [110, 101, 103]), .lit (.int .i64 10)], .agg [.lit (.string [126]), .lit (.string [110, 111, 116]), .lit (.int .i64 10)], .agg [.lit (.string [43]), .lit (.string [97, 100, 100]), .lit (.int .i64 8)], .agg [.lit (.string [45]), .lit (.string [115, 117, 98]), .lit (.int .i64 8)], .agg [.lit (.string [42]), .lit (.string [109, 117, 108]), .lit (.int .i64 9)], .agg [.lit (.string [47]), .lit (.string [100, 105, 118]), .lit (.int .i64 9)], .agg [.lit (.string [37]), .lit (.string [114, 101, 109]), .lit (.int .i64 9)], .agg [.lit (.string [38]), .lit (.string [97, 110, 100]), .lit (.int .i64 4)], .agg [.lit (.string [124]), .lit (.string [111, 114]), .lit (.int .i64 2)], .agg [.lit (.string [94]), .lit (.string [120, 111, 114]), .lit (.int .i64 3)], .agg [.lit (.string [60, 60]), .lit (.string [115, 104, 108]), .lit (.int .i64 7)], .agg [.lit (.string [62, 62]), .lit (.string [115, 104, 114]), .lit (.int .i64 7)], .agg [.lit (.string [61, 61]), .lit (.string [101, 113]), .lit (.int .i64 5)], .agg [.lit (.string [60]), .lit (.string [108, 116]), .lit (.int .i64 6)], .agg [.lit (.string [63]), .lit (.string [105, 102]), .lit (.int .i64 1)], .agg [.lit (.string []), .lit (.string []), .lit (.int .i64 11)]]

/-- 'sorrellaw02.ExprPlays': WHATEVER THE INPUT: true; the input reads as it did. -/
def exprPlaysSpec : ChangeSpec := { name := "exprPlays", fn := fun _ => fun
  | [d1, d2, d3] => { results := [.lit (.bool true)], args := [d1, d2, d3] }
  | _ => none }
def exprPlaysRow : OpenClaim := { program := "ytjmccobblpcbhaadoor", sum := "0244ef64b77b16ed7d1541516f9e9ea47de74384f830c0c0f7dac572aa4affcd", func := "sorrel/sorrellaw02.ExprPlays", spec := "exprPlays", unfollowed := true, recurses := true, named := ["sorrel/runes.spans", "unicode/utf8.first", "unicode/utf8.acceptRanges"], apart := false, laid := [("unicode/utf8.acceptRanges", laid_unicode_utf8_acceptRanges), ("sorrel/runes.spans", laid_sorrel_runes_spans), ("unicode/utf8.first", laid_unicode_utf8_first)] }
def ExprPlaysSaid : Prop := exprPlaysRow.holds Tryd.pinned (OpenSpec.ofChange exprPlaysSpec)

/-- ITS FALSE NEIGHBOUR: 'it returns false'. Refute it at one input. -/
def exprPlaysWrong : ChangeSpec := { name := "exprPlays", fn := fun _ => fun
  | [d1, d2, d3] => { results := [.lit (.bool false)], args := [d1, d2, d3] }
  | _ => none }
def ExprPlaysWrongFalsely : Prop := exprPlaysRow.holds Tryd.pinned (OpenSpec.ofChange exprPlaysWrong)

/-- 'sorrellaw04.ParseSpelled': WHATEVER THE INPUT: true; the input reads as it did. -/
def parseSpelledSpec : ChangeSpec := { name := "parseSpelled", fn := fun _ => fun
  | [d1, d2] => { results := [.lit (.bool true)], args := [d1, d2] }
  | _ => none }
def parseSpelledRow : OpenClaim := { program := "ytjmccobblpcbhaadoor", sum := "0244ef64b77b16ed7d1541516f9e9ea47de74384f830c0c0f7dac572aa4affcd", func := "sorrel/sorrellaw04.ParseSpelled", spec := "parseSpelled", unfollowed := true, recurses := true, named := ["unicode/utf8.first", "unicode/utf8.acceptRanges", "sorrel/runes.spans"], apart := false, laid := [("unicode/utf8.acceptRanges", laid_unicode_utf8_acceptRanges), ("sorrel/runes.spans", laid_sorrel_runes_spans), ("unicode/utf8.first", laid_unicode_utf8_first)] }
def ParseSpelledSaid : Prop := parseSpelledRow.holds Tryd.pinned (OpenSpec.ofChange parseSpelledSpec)

/-- ITS FALSE NEIGHBOUR: 'it returns false'. Refute it at one input. -/
def parseSpelledWrong : ChangeSpec := { name := "parseSpelled", fn := fun _ => fun
  | [d1, d2] => { results := [.lit (.bool false)], args := [d1, d2] }
  | _ => none }
def ParseSpelledWrongFalsely : Prop := parseSpelledRow.holds Tryd.pinned (OpenSpec.ofChange parseSpelledWrong)

/-- 'sorrellaw04.ParseKeeps': WHATEVER THE INPUT: true; the input reads as it did. -/
def parseKeepsSpec : ChangeSpec := { name := "parseKeeps", fn := fun _ => fun
  | [d1, d2] => { results := [.lit (.bool true)], args := [d1, d2] }
  | _ => none }
def parseKeepsRow : OpenClaim := { program := "ytjmccobblpcbhaadoor", sum := "0244ef64b77b16ed7d1541516f9e9ea47de74384f830c0c0f7dac572aa4affcd", func := "sorrel/sorrellaw04.ParseKeeps", spec := "parseKeeps", unfollowed := true, recurses := true, named := ["unicode/utf8.first", "unicode/utf8.acceptRanges", "sorrel/runes.spans"], apart := false, laid := [("unicode/utf8.acceptRanges", laid_unicode_utf8_acceptRanges), ("sorrel/runes.spans", laid_sorrel_runes_spans), ("unicode/utf8.first", laid_unicode_utf8_first)] }
def ParseKeepsSaid : Prop := parseKeepsRow.holds Tryd.pinned (OpenSpec.ofChange parseKeepsSpec)

/-- ITS FALSE NEIGHBOUR: 'it returns false'. Refute it at one input. -/
def parseKeepsWrong : ChangeSpec := { name := "parseKeeps", fn := fun _ => fun
  | [d1, d2] => { results := [.lit (.bool false)], args := [d1, d2] }
  | _ => none }
def ParseKeepsWrongFalsely : Prop := parseKeepsRow.holds Tryd.pinned (OpenSpec.ofChange parseKeepsWrong)

/-- 'sorrellaw05.ShowLeast': WHATEVER THE INPUT: true; the input reads as it did. -/
def showLeastSpec : ChangeSpec := { name := "showLeast", fn := fun _ => fun
  | [d] => { results := [.lit (.bool true)], args := [d] }
  | _ => none }
def showLeastRow : OpenClaim := { program := "ytjmccobblpcbhaadoor", sum := "0244ef64b77b16ed7d1541516f9e9ea47de74384f830c0c0f7dac572aa4affcd", func := "sorrel/sorrellaw05.ShowLeast", spec := "showLeast", inPlace := ["internal/abi.NoEscape"], unfollowed := true, recurses := true, named := ["sorrel/runes.spans", "internal/strconv.uint64pow10", "math/bits.deBruijn32tab", "math/bits.deBruijn64tab", "sorrel/show.writings", "unicode/utf8.first", "unicode/utf8.acceptRanges"], apart := false, laid := [("math/bits.deBruijn32tab", laid_math_bits_deBruijn32tab), ("math/bits.deBruijn64tab", laid_math_bits_deBruijn64tab), ("internal/strconv.uint64pow10", laid_internal_strconv_uint64pow10), ("unicode/utf8.acceptRanges", laid_unicode_utf8_acceptRanges), ("sorrel/runes.spans", laid_sorrel_runes_spans), ("sorrel/show.writings", laid_sorrel_show_writings), ("unicode/utf8.first", laid_unicode_utf8_first)] }
def ShowLeastSaid : Prop := showLeastRow.holds Tryd.pinned (OpenSpec.ofChange showLeastSpec)

/-- ITS FALSE NEIGHBOUR: 'it returns false'. Refute it at one input. -/
def showLeastWrong : ChangeSpec := { name := "showLeast", fn := fun _ => fun
  | [d] => { results := [.lit (.bool false)], args := [d] }
  | _ => none }
def ShowLeastWrongFalsely : Prop := showLeastRow.holds Tryd.pinned (OpenSpec.ofChange showLeastWrong)

/-- 'sorrellaw05.ShowNames': WHATEVER THE INPUT: true; the input reads as it did. -/
def showNamesSpec : ChangeSpec := { name := "showNames", fn := fun _ => fun
  | [d] => { results := [.lit (.bool true)], args := [d] }
  | _ => none }
def showNamesRow : OpenClaim := { program := "ytjmccobblpcbhaadoor", sum := "0244ef64b77b16ed7d1541516f9e9ea47de74384f830c0c0f7dac572aa4affcd", func := "sorrel/sorrellaw05.ShowNames", spec := "showNames", inPlace := ["internal/abi.NoEscape"], unfollowed := true, recurses := true, named := ["sorrel/runes.spans", "internal/strconv.uint64pow10", "math/bits.deBruijn32tab", "math/bits.deBruijn64tab", "sorrel/show.writings", "unicode/utf8.first", "unicode/utf8.acceptRanges"], apart := false, laid := [("math/bits.deBruijn32tab", laid_math_bits_deBruijn32tab), ("math/bits.deBruijn64tab", laid_math_bits_deBruijn64tab), ("internal/strconv.uint64pow10", laid_internal_strconv_uint64pow10), ("unicode/utf8.acceptRanges", laid_unicode_utf8_acceptRanges), ("sorrel/runes.spans", laid_sorrel_runes_spans), ("sorrel/show.writings", laid_sorrel_show_writings), ("unicode/utf8.first", laid_unicode_utf8_first)] }
def ShowNamesSaid : Prop := showNamesRow.holds Tryd.pinned (OpenSpec.ofChange showNamesSpec)

/-- ITS FALSE NEIGHBOUR: 'it returns false'. Refute it at one input. -/
def showNamesWrong : ChangeSpec := { name := "showNames", fn := fun _ => fun
  | [d] => { results := [.lit (.bool false)], args := [d] }
  | _ => none }
def ShowNamesWrongFalsely : Prop := showNamesRow.holds Tryd.pinned (OpenSpec.ofChange showNamesWrong)

/- THE SECOND FORM. 'bulk': how many values and letters a reading holds, each counted each time it is reached (what is shared counts as often as it is met; a slice's spare places count too). A statement '..UptoSaid' is the law's where the arguments, and the package variables that the reading takes, are together of bulk at most 1048576: NARROWER than '..Said'. Prove '..Said' where nothing that the law and all that it calls make is longer than what came in: it says more and counts as full. Else prove '..UptoSaid'. A law counts once. -/
mutual
def uptoBulk {H : Type} : DataW H → Nat
  | .lit (.string bytes) => bytes.length + 1
  | .lit _ => 1
  | .nil => 1
  | .ptr d => uptoBulk d + 1
  | .slice elems spare => uptoBulkAll elems + uptoBulkAll spare + 1
  | .agg parts => uptoBulkAll parts + 1
  | .iface _ d => uptoBulk d + 1
  | .map entries => uptoBulkEntries entries + 1
  | .held _ => 1
def uptoBulkAll {H : Type} : List (DataW H) → Nat
  | [] => 0
  | d :: r => uptoBulk d + uptoBulkAll r
def uptoBulkEntries {H : Type} : List (Lit × DataW H) → Nat
  | [] => 0
  | x :: r => uptoBulkEntry x + uptoBulkEntries r
def uptoBulkEntry {H : Type} : Lit × DataW H → Nat
  | (.string bytes, d) => bytes.length + uptoBulk d + 1
  | (_, d) => uptoBulk d + 1
 end
def uptoSmall : (H : Type) → List (DataW H) → Bool := fun _ ds => decide (uptoBulkAll ds ≤ 1048576)
def OpenSpec.upto (s : _root_.Go.ChangeSpec) : _root_.Go.OpenSpec := { _root_.Go.OpenSpec.ofChange s with cond := some uptoSmall }

/-- 'sorrellaw02.ExprPlays', WHERE WHAT IT READS IS OF BULK AT MOST 1048576: true; the input reads as it did. -/
def exprPlaysUptoRow : OpenClaim := { program := "ytjmccobblpcbhaadoor", sum := "0244ef64b77b16ed7d1541516f9e9ea47de74384f830c0c0f7dac572aa4affcd", func := "sorrel/sorrellaw02.ExprPlays", spec := "exprPlays", unfollowed := true, recurses := true, named := ["sorrel/runes.spans", "unicode/utf8.first", "unicode/utf8.acceptRanges"], apart := false, laid := [("unicode/utf8.acceptRanges", laid_unicode_utf8_acceptRanges), ("sorrel/runes.spans", laid_sorrel_runes_spans), ("unicode/utf8.first", laid_unicode_utf8_first)], narrowed := true }
def ExprPlaysUptoSaid : Prop := exprPlaysUptoRow.holds Tryd.pinned (OpenSpec.upto exprPlaysSpec)

/-- 'sorrellaw04.ParseSpelled', WHERE WHAT IT READS IS OF BULK AT MOST 1048576: true; the input reads as it did. -/
def parseSpelledUptoRow : OpenClaim := { program := "ytjmccobblpcbhaadoor", sum := "0244ef64b77b16ed7d1541516f9e9ea47de74384f830c0c0f7dac572aa4affcd", func := "sorrel/sorrellaw04.ParseSpelled", spec := "parseSpelled", unfollowed := true, recurses := true, named := ["unicode/utf8.first", "unicode/utf8.acceptRanges", "sorrel/runes.spans"], apart := false, laid := [("unicode/utf8.acceptRanges", laid_unicode_utf8_acceptRanges), ("sorrel/runes.spans", laid_sorrel_runes_spans), ("unicode/utf8.first", laid_unicode_utf8_first)], narrowed := true }
def ParseSpelledUptoSaid : Prop := parseSpelledUptoRow.holds Tryd.pinned (OpenSpec.upto parseSpelledSpec)

/-- 'sorrellaw04.ParseKeeps', WHERE WHAT IT READS IS OF BULK AT MOST 1048576: true; the input reads as it did. -/
def parseKeepsUptoRow : OpenClaim := { program := "ytjmccobblpcbhaadoor", sum := "0244ef64b77b16ed7d1541516f9e9ea47de74384f830c0c0f7dac572aa4affcd", func := "sorrel/sorrellaw04.ParseKeeps", spec := "parseKeeps", unfollowed := true, recurses := true, named := ["unicode/utf8.first", "unicode/utf8.acceptRanges", "sorrel/runes.spans"], apart := false, laid := [("unicode/utf8.acceptRanges", laid_unicode_utf8_acceptRanges), ("sorrel/runes.spans", laid_sorrel_runes_spans), ("unicode/utf8.first", laid_unicode_utf8_first)], narrowed := true }
def ParseKeepsUptoSaid : Prop := parseKeepsUptoRow.holds Tryd.pinned (OpenSpec.upto parseKeepsSpec)

/-- 'sorrellaw05.ShowLeast', WHERE WHAT IT READS IS OF BULK AT MOST 1048576: true; the input reads as it did. -/
def showLeastUptoRow : OpenClaim := { program := "ytjmccobblpcbhaadoor", sum := "0244ef64b77b16ed7d1541516f9e9ea47de74384f830c0c0f7dac572aa4affcd", func := "sorrel/sorrellaw05.ShowLeast", spec := "showLeast", inPlace := ["internal/abi.NoEscape"], unfollowed := true, recurses := true, named := ["sorrel/runes.spans", "internal/strconv.uint64pow10", "math/bits.deBruijn32tab", "math/bits.deBruijn64tab", "sorrel/show.writings", "unicode/utf8.first", "unicode/utf8.acceptRanges"], apart := false, laid := [("math/bits.deBruijn32tab", laid_math_bits_deBruijn32tab), ("math/bits.deBruijn64tab", laid_math_bits_deBruijn64tab), ("internal/strconv.uint64pow10", laid_internal_strconv_uint64pow10), ("unicode/utf8.acceptRanges", laid_unicode_utf8_acceptRanges), ("sorrel/runes.spans", laid_sorrel_runes_spans), ("sorrel/show.writings", laid_sorrel_show_writings), ("unicode/utf8.first", laid_unicode_utf8_first)], narrowed := true }
def ShowLeastUptoSaid : Prop := showLeastUptoRow.holds Tryd.pinned (OpenSpec.upto showLeastSpec)

/-- 'sorrellaw05.ShowNames', WHERE WHAT IT READS IS OF BULK AT MOST 1048576: true; the input reads as it did. -/
def showNamesUptoRow : OpenClaim := { program := "ytjmccobblpcbhaadoor", sum := "0244ef64b77b16ed7d1541516f9e9ea47de74384f830c0c0f7dac572aa4affcd", func := "sorrel/sorrellaw05.ShowNames", spec := "showNames", inPlace := ["internal/abi.NoEscape"], unfollowed := true, recurses := true, named := ["sorrel/runes.spans", "internal/strconv.uint64pow10", "math/bits.deBruijn32tab", "math/bits.deBruijn64tab", "sorrel/show.writings", "unicode/utf8.first", "unicode/utf8.acceptRanges"], apart := false, laid := [("math/bits.deBruijn32tab", laid_math_bits_deBruijn32tab), ("math/bits.deBruijn64tab", laid_math_bits_deBruijn64tab), ("internal/strconv.uint64pow10", laid_internal_strconv_uint64pow10), ("unicode/utf8.acceptRanges", laid_unicode_utf8_acceptRanges), ("sorrel/runes.spans", laid_sorrel_runes_spans), ("sorrel/show.writings", laid_sorrel_show_writings), ("unicode/utf8.first", laid_unicode_utf8_first)], narrowed := true }
def ShowNamesUptoSaid : Prop := showNamesUptoRow.holds Tryd.pinned (OpenSpec.upto showNamesSpec)

end Rows
end Go.Proofs.YtjmccobblpcbhaaDoor

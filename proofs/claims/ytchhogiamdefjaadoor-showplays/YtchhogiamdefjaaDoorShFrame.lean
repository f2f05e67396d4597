/-
  The tables of a row over show, read off its list; a world in which they lie: a witness.
-/
import Derived.Test.YtchhogiamdefjaaDoorFrame
import Derived.Test.YtchhogiamdefjaaDoorShW
import Derived.Test.YtchhogiamdefjaaDoorRows
import Derived.Lib.LaidTab
set_option linter.unusedSimpArgs false
set_option linter.unusedVariables false
namespace Go.Proofs.YtchhogiamdefjaaDoor
open Go.RowKit Go.Lib

theorem c_writing : Tryd.prog.cellsOf 89 = 3 := by kernel_rfl
theorem c_string : Tryd.prog.cellsOf 9 = 1 := by kernel_rfl
theorem gWrit : Tryd.prog.globalNamed "sorrel/show.writings" = some 0 := by kernel_rfl
theorem gWritType : (Tryd.prog.globals[ 0 ]?).map (·.type) = some 90 := by kernel_rfl
theorem gPowType : (Tryd.prog.globals[ 4 ]?).map (·.type) = some 157 := by kernel_rfl
theorem c_pow : Tryd.prog.cellsOf 157 = 20 := by kernel_rfl
theorem c_u64 : Tryd.prog.cellsOf 65 = 1 := by kernel_rfl

def writData : DataW Unit := .agg (wrTab.map fun p => .agg [.lit (.string p.1), .lit (.string p.2.1), .lit (.int .i64 p.2.2)])
theorem writData_eq : Rows.laid_sorrel_show_writings = writData := rfl
theorem powData_eq : Rows.laid_internal_strconv_uint64pow10 = (tabData .u64 pow10Tab : DataW Unit) := by kernel_rfl
theorem wrTab_length : wrTab.length = 19 := rfl

theorem str_of {s : ByteArray} {l : List UInt8} (h : s.data.toList = l) : s = txt l := by subst h; exact (txt_data s).symm

theorem writ_of_reads {w : World} (h : VarReads Tryd.prog w "sorrel/show.writings" writData) : WrCells w := by
  intro k hk
  obtain ⟨g, t, cs, fuel, p, hg, hty, hvar, hd⟩ := h
  obtain rfl := Option.some.inj (gWrit.symm.trans hg)
  obtain rfl := Option.some.inj (gWritType.symm.trans hty)
  obtain ⟨fuel', d, q, hdi, he⟩ := array_elem Tryd.underlying90 hd k hk
  have hkl : k < wrTab.length := by rw [wrTab_length]; exact hk
  have e : wrTab.getD k ([], [], 0) = wrTab[k] := by simp [hkl]
  rw [List.getElem?_map, List.getElem?_eq_getElem hkl, Option.map_some, Option.some.injEq] at hdi
  rw [← e] at hdi
  generalize wrTab.getD k ([], [], 0) = P at *
  obtain ⟨a, b, c⟩ := P
  simp only at hdi ⊢
  subst hdi
  rw [c_writing] at he
  obtain ⟨xs, n, _, hx, hl, hxl, hall⟩ := DataW.trod_struct Tryd.underlying89 he
  have hxs : xs.map (·.1) = [.lit (.string a), .lit (.string b), .lit (.int .i64 c)] := by
    have := congrArg Prod.fst hx
    simpa using this.symm
  have g0 : DataW.trod (fun _ => ()) Tryd.prog w 0 (fun _ => true) false n 9 ((((cs.toList.drop (k * 3)).take 3).drop 0).take (Tryd.prog.cellsOf 9)) = xs[0]? := hall 0 _ rfl
  have g1 : DataW.trod (fun _ => ()) Tryd.prog w 0 (fun _ => true) false n 9 ((((cs.toList.drop (k * 3)).take 3).drop 1).take (Tryd.prog.cellsOf 9)) = xs[1]? := hall 1 _ rfl
  have g2 : DataW.trod (fun _ => ()) Tryd.prog w 0 (fun _ => true) false n 3 ((((cs.toList.drop (k * 3)).take 3).drop 2).take (Tryd.prog.cellsOf 3)) = xs[2]? := hall 2 _ rfl
  rw [c_string] at g0 g1
  rw [c_kind] at g2
  match xs, hxs with
  | [x0, x1, x2], hxs =>
    simp only [List.map_cons, List.map_nil, List.cons.injEq, and_true] at hxs
    obtain ⟨x0e, x1e, x2e⟩ := hxs
    simp only [List.getElem?_cons_zero, List.getElem?_cons_succ] at g0 g1 g2
    obtain ⟨z0, k0, d0, _⟩ := DataW.trod_string Tryd.underlying9 g0
    obtain ⟨z1, k1, d1, _⟩ := DataW.trod_string Tryd.underlying9 g1
    obtain ⟨z2, k2, d2, _⟩ := DataW.trod_int Tryd.underlying3 g2
    rw [d0] at x0e
    rw [d1] at x1e
    rw [d2] at x2e
    simp only [DataW.lit.injEq, Lit.int.injEq, Lit.string.injEq, true_and] at x0e x1e x2e
    rw [str_of x0e] at k0
    rw [str_of x1e] at k1
    subst x2e
    have f0 := congrArg (·[0]?) k0
    have f1 := congrArg (·[0]?) k1
    have f2 := congrArg (·[0]?) k2
    simp only [List.getElem?_take, List.getElem?_drop] at f0 f1 f2
    refine ⟨?_, ?_, ?_⟩
    · rw [World.var?_cell hg hvar (k * 3), ← Array.getElem?_toList]; simpa using f0
    · rw [World.var?_cell hg hvar (k * 3 + 1), ← Array.getElem?_toList]; simpa using f1
    · rw [World.var?_cell hg hvar (k * 3 + 2), ← Array.getElem?_toList]; simpa using f2

theorem pows_of_reads {w : World} (h : VarReads Tryd.prog w "internal/strconv.uint64pow10" (tabData .u64 pow10Tab)) : Pows w := by
  obtain ⟨g, t, cs, fuel, p, hg, hty, hvar, hd⟩ := h
  obtain rfl := Option.some.inj (gPow.symm.trans hg)
  obtain rfl := Option.some.inj (gPowType.symm.trans hty)
  unfold Pows TabIs
  rw [hvar, ← cells_of_tab Tryd.underlying157 Tryd.underlying65 c_u64 c_pow hd]

/-- WHAT THE ROW's LIST GIVES. -/
theorem tb5_of_laid {W : World} (h : laidMetH Tryd.prog [("math/bits.deBruijn32tab", Rows.laid_math_bits_deBruijn32tab), ("math/bits.deBruijn64tab", Rows.laid_math_bits_deBruijn64tab), ("internal/strconv.uint64pow10", Rows.laid_internal_strconv_uint64pow10), ("sorrel/runes.spans", Rows.laid_sorrel_runes_spans), ("sorrel/show.writings", Rows.laid_sorrel_show_writings)] W) : Tb5 W := by
  rw [MakeChecks.laidMetH_plain _ _ _ (by kernel_rfl)] at h
  have r1 := laidMet.reads h (n := "internal/strconv.uint64pow10") (d := Rows.laid_internal_strconv_uint64pow10) (by simp)
  have r2 := laidMet.reads h (n := "sorrel/runes.spans") (d := Rows.laid_sorrel_runes_spans) (by simp)
  have r3 := laidMet.reads h (n := "sorrel/show.writings") (d := Rows.laid_sorrel_show_writings) (by simp)
  rw [powData_eq] at r1
  rw [spansData_eq] at r2
  rw [writData_eq] at r3
  exact ⟨writ_of_reads r3, pows_of_reads r1, spans_of_reads r2⟩

def deVals (d : DataW Unit) : Array Value := match d with
  | .agg l => (l.map fun x => match x with | .lit (.int k z) => Value.int k z | _ => Value.int .u8 0).toArray
  | _ => #[]
def writVals : Array Value := (wrTab.flatMap fun p => [Value.string (txt p.1), Value.string (txt p.2.1), Value.int .i64 p.2.2]).toArray
def powVals : Array Value := (pow10Tab.map fun z => Value.int .u64 z).toArray
def laidWorld5 (P : Program) (os : Os) : World :=
  { World.holding P os ⟨#[], #[], []⟩ with heap := setVals (setVals (setVals (setVals (setVals (World.holding P os ⟨#[], #[], []⟩).heap 1 spanVals) 0 writVals) 4 powVals) 5 (deVals Rows.laid_math_bits_deBruijn32tab)) 6 (deVals Rows.laid_math_bits_deBruijn64tab) }
end Go.Proofs.YtchhogiamdefjaaDoor

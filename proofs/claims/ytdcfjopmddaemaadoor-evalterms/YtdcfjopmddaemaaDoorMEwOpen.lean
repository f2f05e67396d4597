/-
  An argument that is a list of bindings, opened, beside lists of nodes; the tables of a row over eval.
-/
import Derived.Test.YtdcfjopmddaemaaDoorMGA
import Derived.Test.YtdcfjopmddaemaaDoorMExOpen
import Derived.Test.YtdcfjopmddaemaaDoorMArW
import Derived.Lib.LaidTab
import Derived.Deep.Slices
import Derived.SizedLaws
set_option linter.unusedSimpArgs false
set_option linter.unusedVariables false
namespace Go.Proofs.YtdcfjopmddaemaaDoor
open Go.RowKit Go.Lib Go.ChangeShapes Go.WideShapes Go.Deep

theorem Tryd.cellsBind : Tryd.prog.cellsOf 156 = 2 := by kernel_rfl
theorem Tryd.bytesBind : Tryd.prog.bytesOf 156 = 24 := by kernel_rfl
theorem spot_noneB {w : World} {a : Addr} {v : Value} (h : w.cell? a = some v) : a.spot = none := by
  unfold World.cell? at h
  split at h
  · split at h
    · cases h
    · rename_i hs; simpa using hs
  · cases h
theorem len2 {α : Type} (l : List α) (h : l.length = 2) : ∃ a b, l = [a, b] := by
  match l, h with
  | [a, b], _ => exact ⟨a, b, rfl⟩
section
variable {H : Type} {enc : TypeId × Value → H} {w : World}
theorem open_bind {fuel : Nat} {cs : List Value} {x : DataW H × List MemPlace} (h : DataW.trod enc Tryd.prog w 0 (fun _ => true) true fuel 156 cs = some x) :
    ∃ y : Bd, cs = [.string y.1, .int .i64 y.2] ∧ i6 y.2 ∧ y.1.size ≤ maxLen := by
  obtain ⟨xs, n, _, rfl, hl, hxl, hall⟩ := DataW.trod_struct Tryd.underlying156 h
  rw [Tryd.cellsBind] at hl
  obtain ⟨v0, v1, rfl⟩ := len2 cs hl
  obtain ⟨x0, x1, rfl⟩ := len2 xs hxl
  have g0 : DataW.trod enc Tryd.prog w 0 (fun _ => true) true n 9 (([v0, v1].drop 0).take (Tryd.prog.cellsOf 9)) = some x0 := hall 0 _ rfl
  have g1 : DataW.trod enc Tryd.prog w 0 (fun _ => true) true n 2 (([v0, v1].drop 1).take (Tryd.prog.cellsOf 2)) = some x1 := hall 1 _ rfl
  rw [Tryd.cellsStr] at g0
  rw [Tryd.cells2] at g1
  obtain ⟨s, k0, _, hs⟩ := DataW.trod_string Tryd.underlying9 g0
  obtain ⟨z1, k1, _, hw⟩ := DataW.trod_int Tryd.underlying2 g1
  simp at k0 k1
  subst k0; subst k1
  exact ⟨(s, z1), rfl, bounds_i64 hw, hs⟩
theorem open_binds {fuel : Nat} {v : Value} {x : DataW H × List MemPlace} (h : DataW.trod enc Tryd.prog w 0 (fun _ => true) true fuel 53 [v] = some x) :
    ∃ (ao : Option Addr) (cap : Nat) (l : List Bd), v = .slice ao l.length cap ∧ Bds w ao cap l ∧ BdOk l ∧ ((∀ n ∈ x.1.weights Tryd.prog 53, n ≤ reachBytes) → cap * 24 ≤ 140737488351232) := by
  rcases open_slice Tryd.underlying53 h with ⟨hcs, rfl⟩ | ⟨a, len, cap, m, n, D, Pl, hcs, _, hl, hm, hmm, rfl, hx⟩
  · simp only [List.cons.injEq, and_true] at hcs
    subst hcs
    exact ⟨none, 0, [], rfl, ⟨⟨by simp, by simp, fun _ => rfl⟩, .inl rfl⟩, fun _ h => by simp at h, fun _ => by simp⟩
  · simp only [List.cons.injEq, and_true] at hcs
    subst hcs
    simp only [if_true] at hmm
    subst hmm
    have each : ∀ i, i < m → ∃ y : Bd, ∃ cs', w.cells? 0 (a.add (i * 2)) 2 = some cs' ∧ cs' = [.string y.1, .int .i64 y.2] ∧ i6 y.2 ∧ y.1.size ≤ maxLen := by
      intro i hi
      obtain ⟨cs', h1, h2⟩ := hx i hi
      rw [Tryd.cellsBind] at h1
      obtain ⟨y, e, h3⟩ := open_bind h2
      exact ⟨y, cs', h1, e, h3⟩
    have : Inhabited Bd := ⟨bd0⟩
    obtain ⟨q, hq⟩ := choose_lt each
    have hlen : ((List.range len).map fun i => q i).length = len := by simp
    have hget : ∀ i, i < len → ((List.range len).map fun i => q i).getD i bd0 = q i := fun i hi => by simp [hi]
    refine ⟨some a, m, (List.range len).map fun i => q i, by rw [hlen], ⟨⟨by rw [hlen]; exact hl, hm, by simp⟩, ?_⟩, fun x hx => ?_, fun hw => ?_⟩
    · by_cases h0 : len = 0
      · left; subst h0; rfl
      · right
        have hc0 : w.cell? a = some (.string (q 0).1) := by
          obtain ⟨cs', h1, rfl, _⟩ := hq 0 (by omega)
          have := (World.cells?_some h1).2.2 0 (by omega)
          rw [Nat.zero_mul] at this
          exact this
        obtain ⟨b, o, sp⟩ := a
        have hsp : sp = none := spot_noneB hc0
        subst hsp
        refine ⟨b, o, rfl, World.block_lt_of_cell? _ _ hc0, fun i hi => ?_⟩
        rw [hlen] at hi
        rw [hget i hi]
        obtain ⟨cs', h1, rfl, h3⟩ := hq i (by omega)
        have hcell := (World.cells?_some h1).2.2
        rw [Go.WideShapes.add_plain] at hcell
        refine ⟨?_, ?_⟩
        · have := hcell 0 (by omega); rw [Go.WideShapes.add_plain] at this; exact this
        · have := hcell 1 (by omega); rw [Go.WideShapes.add_plain] at this; exact this
    · obtain ⟨i, hi, rfl⟩ := List.mem_map.1 hx
      obtain ⟨cs', _, _, h3⟩ := hq i (by have := List.mem_range.1 hi; omega)
      exact h3
    · have := hw ((((List.range len).map D).length + ((List.range (m - len)).map fun j => D (len + j)).length) * Tryd.prog.bytesOf 156) (by simp only [DataW.weights, Tryd.underlying53 ]; exact List.mem_cons_self ..)
      rw [Tryd.bytesBind] at this
      simp only [List.length_map, List.length_range, reachBytes] at this
      omega
end

theorem gGrpW : Tryd.prog.globalNamed "sorrel/arith.groups" = some 0 := by kernel_rfl
theorem gGrpTypeW : (Tryd.prog.globals[ 0 ]?).map (·.type) = some 172 := by kernel_rfl
theorem c_grpsW : Tryd.prog.cellsOf 172 = 18 := by kernel_rfl
theorem c_grpW : Tryd.prog.cellsOf 171 = 1 := by kernel_rfl
theorem u_grpW : Tryd.prog.underlying 171 = some (.int .i64) := by kernel_rfl
theorem grpData_eqW : Rows.laid_sorrel_arith_groups = (tabData .i64 grps : DataW Unit) := by kernel_rfl
theorem grps_of_readsW {w : World} (h : VarReads Tryd.prog w "sorrel/arith.groups" (tabData .i64 grps)) : GrpCells w := by
  obtain ⟨g, t, cs, fuel, p, hg, hty, hvar, hd⟩ := h
  obtain rfl := Option.some.inj (gGrpW.symm.trans hg)
  obtain rfl := Option.some.inj (gGrpTypeW.symm.trans hty)
  have e := cells_of_tab Tryd.underlying172 u_grpW c_grpW c_grpsW hd
  intro k hk
  rw [World.var?_cell hg hvar k, ← Array.getElem?_toList, e, List.getElem?_map]
  have hl : k < grps.length := hk
  rw [List.getElem?_eq_getElem hl, Option.map_some, List.getD_eq_getElem?_getD, List.getElem?_eq_getElem hl]
  rfl
def deValsW (d : DataW Unit) : Array Value := match d with
  | .agg l => (l.map fun x => match x with | .lit (.int k z) => Value.int k z | _ => Value.int .u8 0).toArray
  | _ => #[]
/-- What the rows over eval lay. -/
theorem tabW2_of_laid {W : World} (h : laidMetH Tryd.prog [("sorrel/runes.spans", Rows.laid_sorrel_runes_spans), ("sorrel/arith.groups", Rows.laid_sorrel_arith_groups)] W) : SpanCells W ∧ GrpCells W := by
  rw [MakeChecks.laidMetH_plain _ _ _ (by kernel_rfl)] at h
  have r2 := laidMet.reads h (n := "sorrel/arith.groups") (d := Rows.laid_sorrel_arith_groups) (by simp)
  have r4 := laidMet.reads h (n := "sorrel/runes.spans") (d := Rows.laid_sorrel_runes_spans) (by simp)
  rw [grpData_eqW] at r2
  rw [spansData_eq] at r4
  exact ⟨spans_of_reads r4, grps_of_readsW r2⟩
theorem tabW4_of_laid {W : World} (h : laidMetH Tryd.prog [("unicode/utf8.acceptRanges", Rows.laid_unicode_utf8_acceptRanges), ("sorrel/runes.spans", Rows.laid_sorrel_runes_spans), ("sorrel/arith.groups", Rows.laid_sorrel_arith_groups), ("unicode/utf8.first", Rows.laid_unicode_utf8_first)] W) : Tabs W ∧ GrpCells W := by
  rw [MakeChecks.laidMetH_plain _ _ _ (by kernel_rfl)] at h
  have r2 := laidMet.reads h (n := "sorrel/arith.groups") (d := Rows.laid_sorrel_arith_groups) (by simp)
  have r3 := laidMet.reads h (n := "unicode/utf8.acceptRanges") (d := Rows.laid_unicode_utf8_acceptRanges) (by simp)
  have r4 := laidMet.reads h (n := "sorrel/runes.spans") (d := Rows.laid_sorrel_runes_spans) (by simp)
  have r5 := laidMet.reads h (n := "unicode/utf8.first") (d := Rows.laid_unicode_utf8_first) (by simp)
  rw [grpData_eqW] at r2
  rw [accept_eq] at r3
  rw [spansData_eq] at r4
  rw [first_eq] at r5
  exact ⟨⟨spans_of_reads r4, utf8Tabs_of_reads Tryd.lays260 u8Extra r5 r3⟩, grps_of_readsW r2⟩
def laidWorldW (P : Program) (os : Os) : World :=
  { World.holding P os ⟨#[], #[], []⟩ with heap := setVals (setVals (setVals (setVals (World.holding P os ⟨#[], #[], []⟩).heap 3 spanVals) 1 firstVals) 2 acceptVals) 0 (deValsW Rows.laid_sorrel_arith_groups) }
end Go.Proofs.YtdcfjopmddaemaaDoor

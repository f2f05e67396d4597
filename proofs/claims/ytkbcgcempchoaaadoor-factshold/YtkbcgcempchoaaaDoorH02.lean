/-
  Frame, ArPure, EvP0, EvMem, ExPure, ExArW.
-/
import Derived.Test.YtkbcgcempchoaaaDoorChecked
import GoSem.PinnedTables
import GoSem.Claim
import GoSem.ClaimJoined
import GoSem.ClaimMapViews
import Derived.JoinedTies
import Derived.KernelRfl
import Derived.Shelf.Unicode.DecodeSlow
import Derived.Laws.RangeAny
import Derived.Shelf.Small.Bits
import Derived.Shelf.Strconv.Itoa0
import Derived.Shelf.LaysM
import Derived.Shelf.Strconv.Clone
import Derived.Shelf.Unicode.DecodeAny
import Derived.Ground.SlsfProg
import Derived.Shelf.SlSortCmp.Insertion
import Derived.Shelf.SlSortCmp.SiftDown1
import Derived.Shelf.SlSortCmp.HeapSort1
import Derived.Shelf.SlSortCmp.Insertion1
import Derived.Shelf.SlSortCmp.Median1
import Derived.Shelf.SlSortCmp.Pivot1
import Derived.Shelf.SlSortCmp.ReverseRange1
import Derived.Shelf.SlSortCmp.PartitionEqual1
import Derived.Test.YtkbcgcempchoaaaDoorProg
import Derived.WalkKit
import Derived.Deep.DeepFit
import Derived.Lib.OthersKept
import Derived.Lib.RuneCountTail
import Derived.Lib.LaidU8
import Derived.MakeChecks
import Derived.ProofKit
import Derived.OpenShut
import Derived.Deep.DeepHandedRow
import Derived.RowKit
import Derived.Laws.Entries
import Derived.Below
import Derived.Deep.AppendLies
import Derived.Deep.OwnRows
import Derived.Laws.AppendOwnNone
import Derived.Test.YtkbcgcempchoaaaDoorRows
import Derived.Test.YtkbcgcempchoaaaDoorH01
set_option linter.unusedSimpArgs false
namespace Go.Proofs.YtkbcgcempchoaaaDoor
open Go.RowKit Go.Lib

theorem c_first : Tryd.prog.cellsOf 21 = 1 := by kernel_rfl
theorem c_kind : Tryd.prog.cellsOf 3 = 1 := by kernel_rfl
theorem c_span : Tryd.prog.cellsOf 204 = 3 := by kernel_rfl
theorem gSpans : Tryd.prog.globalNamed "sorrel/runes.spans" = some 3 := by kernel_rfl
theorem gSpansType : (Tryd.prog.globals[ 3 ]?).map (·.type) = some 223 := by kernel_rfl

def spansData : DataW Unit := .agg (spanTab.map fun p => .agg [.lit (.int .i32 p.1), .lit (.int .i32 p.2.1), .lit (.int .i64 p.2.2)])
theorem spansData_eq : Rows.laid_sorrel_runes_spans = spansData := rfl

theorem spans_of_reads {w : World} (h : VarReads Tryd.prog w "sorrel/runes.spans" spansData) : SpanCells w := by
  intro k hk
  obtain ⟨g, t, cs, fuel, p, hg, hty, hvar, hd⟩ := h
  obtain rfl := Option.some.inj (gSpans.symm.trans hg)
  obtain rfl := Option.some.inj (gSpansType.symm.trans hty)
  obtain ⟨fuel', d, q, hdi, he⟩ := array_elem Tryd.underlying223 hd k hk
  have hkl : k < spanTab.length := by rw [spanTab_length]; exact hk
  have e : spanTab.getD k (0, 0, 0) = spanTab[k] := by simp [hkl]
  rw [List.getElem?_map, List.getElem?_eq_getElem hkl, Option.map_some, Option.some.injEq] at hdi
  rw [← e] at hdi
  generalize spanTab.getD k (0, 0, 0) = P at *
  obtain ⟨a, b, c⟩ := P
  simp only at hdi ⊢
  subst hdi
  rw [c_span] at he
  obtain ⟨xs, n, _, hx, hl, hxl, hall⟩ := DataW.trod_struct Tryd.underlying204 he
  have hxs : xs.map (·.1) = [.lit (.int .i32 a), .lit (.int .i32 b), .lit (.int .i64 c)] := by
    have := congrArg Prod.fst hx
    simpa using this.symm
  have g0 : DataW.trod (fun _ => ()) Tryd.prog w 0 (fun _ => true) false n 21 ((((cs.toList.drop (k * 3)).take 3).drop 0).take (Tryd.prog.cellsOf 21)) = xs[0]? := hall 0 _ rfl
  have g1 : DataW.trod (fun _ => ()) Tryd.prog w 0 (fun _ => true) false n 21 ((((cs.toList.drop (k * 3)).take 3).drop 1).take (Tryd.prog.cellsOf 21)) = xs[1]? := hall 1 _ rfl
  have g2 : DataW.trod (fun _ => ()) Tryd.prog w 0 (fun _ => true) false n 3 ((((cs.toList.drop (k * 3)).take 3).drop 2).take (Tryd.prog.cellsOf 3)) = xs[2]? := hall 2 _ rfl
  rw [c_first] at g0 g1
  rw [c_kind] at g2
  match xs, hxs with
  | [x0, x1, x2], hxs =>
    simp only [List.map_cons, List.map_nil, List.cons.injEq, and_true] at hxs
    obtain ⟨x0e, x1e, x2e⟩ := hxs
    simp only [List.getElem?_cons_zero, List.getElem?_cons_succ] at g0 g1 g2
    obtain ⟨z0, k0, d0, _⟩ := DataW.trod_int Tryd.underlying21 g0
    obtain ⟨z1, k1, d1, _⟩ := DataW.trod_int Tryd.underlying21 g1
    obtain ⟨z2, k2, d2, _⟩ := DataW.trod_int Tryd.underlying3 g2
    rw [d0] at x0e
    rw [d1] at x1e
    rw [d2] at x2e
    simp only [DataW.lit.injEq, Lit.int.injEq, true_and] at x0e x1e x2e
    subst x0e; subst x1e; subst x2e
    have f0 := congrArg (·[0]?) k0
    have f1 := congrArg (·[0]?) k1
    have f2 := congrArg (·[0]?) k2
    simp only [List.getElem?_take, List.getElem?_drop] at f0 f1 f2
    refine ⟨?_, ?_, ?_⟩
    · rw [World.var?_cell hg hvar (k * 3), ← Array.getElem?_toList]; simpa using f0
    · rw [World.var?_cell hg hvar (k * 3 + 1), ← Array.getElem?_toList]; simpa using f1
    · rw [World.var?_cell hg hvar (k * 3 + 2), ← Array.getElem?_toList]; simpa using f2

theorem u8Extra : U8Extra Tryd.prog Tryd.lays260_ren := ⟨by kernel_rfl, by kernel_rfl, by kernel_rfl, by kernel_rfl, by kernel_rfl, by kernel_rfl, by kernel_rfl⟩
theorem first_eq : Rows.laid_unicode_utf8_first = firstData := by kernel_rfl
theorem accept_eq : Rows.laid_unicode_utf8_acceptRanges = acceptData := by kernel_rfl

end Go.Proofs.YtkbcgcempchoaaaDoor

namespace Go.Proofs.YtkbcgcempchoaaaDoor
open Go.ChangeShapes Go.WideShapes Go.ChangeAt Go.RowKit Go.Lib

theorem own : ownKnob Tryd.prog.godebug = none := by kernel_rfl

def spanVals : Array Value := (spanTab.flatMap fun p => [Value.int .i32 p.1, Value.int .i32 p.2.1, Value.int .i64 p.2.2]).toArray
def firstVals : Array Value := (firstTab.map fun z => Value.int .u8 z).toArray
def acceptVals : Array Value := ((List.range 16).flatMap fun i => [Value.int .u8 (accLo i), Value.int .u8 (accHi i)]).toArray

def setVals (h : Array Obj) (g : Nat) (vs : Array Value) : Array Obj := h.modify g fun
  | .cells _ t frozen => .cells vs t frozen
  | o => o
/-- THE END OF A CALL THAT ONLY ADDS MEMORY: its bool, and the arguments as they were. -/
theorem post_below {H : Type} {enc : TypeId × Value → H} {P : Program} {f : Func} {s : ChangeSpec} {W W' : World} {args : Array Value} {v : Value} {ds gs : List (DataW H)} {before pa pv : List MemPlace}
    (hW : DataW.Whole enc P f.params.toList s.vars false W args.toList ds gs before)
    (hres : ∀ (b : Nat) (sp : Nat → Bool) (hd : Bool), DataW.TrodAll enc P W' b sp hd f.resultTypes.toList (v.resultList f.resultTypes.size) (s.fn H (ds ++ gs)).results [])
    (hargs : ∀ sp : Nat → Bool, (∀ p ∈ before, sp p.block = true) → DataW.TrodAll enc P W' 0 sp true f.params.toList args.toList (s.fn H (ds ++ gs)).args pa)
    (hvars : ∀ sp : Nat → Bool, (∀ p ∈ before, sp p.block = true) → DataW.TrodVars enc P W' sp s.vars (s.fn H (ds ++ gs)).vars pv)
    (hps : before = pa ++ pv) (hk : W.keptBut W' (· ∈ before)) : s.post enc P f false true false false W args v W' := by
  have hold : ∀ p ∈ before, (fun b => decide (b < W.heap.size)) p.block = true := fun p hp => by simpa using hW.lt p hp
  refine ⟨ds, gs, before, [], pa, pv, hW, hres _ _ _, hargs _ hold, hvars _ hold, World.keptBut_mono (fun p hp => ⟨hp, ?_⟩) hk, fun h => by cases h⟩
  rw [hps, List.mem_append] at hp
  exact Or.inr hp
end Go.Proofs.YtkbcgcempchoaaaDoor

set_option linter.unusedSimpArgs false
set_option linter.unusedVariables false
namespace Go.Proofs.YtkbcgcempchoaaaDoor
open Go.RowKit

/-- A number of 64 bits, with a sign. -/
def i6 (n : Int) : Prop := -9223372036854775808 ≤ n ∧ n ≤ 9223372036854775807
def B6 (n : Int) : BitVec 64 := BitVec.ofInt 64 n

theorem wrap_toNat (x : BitVec 64) : IntKind.i64.wrap (x.toNat : Int) = x.toInt := by
  rw [BitVec.toInt_eq_toNat_cond]
  have := x.isLt
  simp only [IntKind.wrap, IntKind.bits, IntKind.signed]
  simp at *
  split <;> split <;> omega

theorem bits_and (a b : Int) : bits .and .i64 a b = (B6 a &&& B6 b).toInt := wrap_toNat _
/-- The operators with one number. -/
def ap1 (op a : Int) : Int := if op = 3 then wrap64 (-a) else bits .xor .i64 (-1) a
/-- By how much is shifted. -/
def by6 (b : Int) : Int := bits .and .i64 b 63
/-- The operators with two numbers. -/
def ap2 (op a b : Int) : Int :=
  if op = 5 then wrap64 (a + b)
  else if op = 6 then wrap64 (a - b)
  else if op = 7 then wrap64 (a * b)
  else if op = 8 then wrap64 (a.tdiv b)
  else if op = 9 then a.tmod b
  else if op = 10 then bits .and .i64 a b
  else if op = 11 then bits .or .i64 a b
  else if op = 12 then bits .xor .i64 a b
  else if op = 13 then wrap64 (a * 2 ^ (by6 b).toNat)
  else if op = 14 then a / 2 ^ (by6 b).toNat
  else if op = 15 then (if a = b then 1 else 0)
  else (if a < b then 1 else 0)
/-- What Apply answers. -/
def apR (op : Int) (l : List Int) : Int × Int :=
  match l with
  | [a] => if op = 3 ∨ op = 4 then (ap1 op a, 0) else (0, 2)
  | [a, b] => if 5 ≤ op ∧ op ≤ 16 then (if (op = 8 ∨ op = 9) ∧ b = 0 then (0, 12) else (ap2 op a b, 0)) else (0, 2)
  | [c, a, b] => if op = 17 then (if c = 0 then b else a, 0) else (0, 2)
  | _ => (0, 2)

theorem by6_eq (b : Int) : by6 b = b % 64 := by
  unfold by6
  rw [bits_and]
  have h63 : B6 63 = 63#64 := by decide
  rw [h63, BitVec.toInt_eq_toNat_of_lt]
  · rw [BitVec.toNat_and]
    have e : (63#64).toNat = 2 ^ 6 - 1 := by decide
    rw [e, Nat.and_two_pow_sub_one_eq_mod]
    unfold B6
    rw [BitVec.toNat_ofInt]
    simp only [Nat.reducePow]
    omega
  · rw [BitVec.toNat_and]
    have e : (63#64).toNat = 2 ^ 6 - 1 := by decide
    rw [e, Nat.and_two_pow_sub_one_eq_mod]
    omega
theorem by6_in (b : Int) : 0 ≤ by6 b ∧ by6 b < 64 := by rw [by6_eq]; omega

end Go.Proofs.YtkbcgcempchoaaaDoor

set_option linter.unusedSimpArgs false
set_option linter.unusedVariables false
namespace Go.Proofs.YtkbcgcempchoaaaDoor
open Go.RowKit

abbrev Bd := ByteArray × Int
def bd0 : Bd := (⟨#[]⟩, 0)
/-- The last of the first k bindings whose name is nm; -1. -/
def lastN (l : List Bd) (nm : ByteArray) : Nat → Int
  | 0 => -1
  | k + 1 => if (l.getD k bd0).1 = nm then (k : Int) else lastN l nm k
def lastB (l : List Bd) (nm : ByteArray) : Int := lastN l nm l.length
def getN (l : List Bd) (nm : ByteArray) : Nat → Int
  | 0 => 0
  | k + 1 => if (l.getD k bd0).1 = nm then (l.getD k bd0).2 else getN l nm k
def getB (l : List Bd) (nm : ByteArray) : Int := getN l nm l.length
theorem lastN_range (l : List Bd) (nm : ByteArray) : ∀ k : Nat, -1 ≤ lastN l nm k ∧ lastN l nm k < k
  | 0 => by simp [lastN]
  | k + 1 => by
    have := lastN_range l nm k
    unfold lastN
    split <;> omega
theorem lastB_range (l : List Bd) (nm : ByteArray) : -1 ≤ lastB l nm ∧ lastB l nm < l.length := lastN_range l nm _
theorem getN_last (l : List Bd) (nm : ByteArray) : ∀ k : Nat, getN l nm k = if lastN l nm k < 0 then 0 else (l.getD (lastN l nm k).toNat bd0).2
  | 0 => by simp [getN, lastN]
  | k + 1 => by
    unfold getN lastN
    by_cases h : (l.getD k bd0).1 = nm
    · rw [if_pos h, if_pos h, if_neg (by omega)]; simp
    · rw [if_neg h, if_neg h]; exact getN_last l nm k
theorem getB_last (l : List Bd) (nm : ByteArray) : getB l nm = if lastB l nm < 0 then 0 else (l.getD (lastB l nm).toNat bd0).2 := getN_last l nm _
/-- All numbers are of 64 bits. -/
def BdOk (l : List Bd) : Prop := ∀ x ∈ l, i6 x.2 ∧ x.1.size ≤ maxLen
theorem BdOk.getD {l : List Bd} (h : BdOk l) (i : Nat) : i6 (l.getD i bd0).2 ∧ (l.getD i bd0).1.size ≤ maxLen := by
  by_cases hi : i < l.length
  · have : l.getD i bd0 = l[i] := by simp [hi]
    rw [this]; exact h _ (by simp)
  · have : l.getD i bd0 = bd0 := by simp [hi]
    rw [this]; exact ⟨by simp [bd0, i6], by show (0 : Nat) ≤ _; omega⟩

/-! ### What the laws of Set ask -/
end Go.Proofs.YtkbcgcempchoaaaDoor

set_option linter.unusedSimpArgs false
set_option linter.unusedVariables false
namespace Go.Proofs.YtkbcgcempchoaaaDoor
open Go.RowKit Go.Lib

structure BdAt (w : World) (b o : Nat) (x : Bd) : Prop where
  c0 : w.cell? ⟨b, o, none⟩ = some (.string x.1)
  c1 : w.cell? ⟨b, o + 1, none⟩ = some (.int .i64 x.2)
/-- A list of bindings, read. -/
def Bds (w : World) (ao : Option Addr) (cap : Nat) (l : List Bd) : Prop :=
  (l.length ≤ cap ∧ cap ≤ maxLen ∧ (ao = none → cap = 0)) ∧ (l = [] ∨ ∃ b o, ao = some ⟨b, o, none⟩ ∧ b < w.heap.size ∧ ∀ i, i < l.length → BdAt w b (o + i * 2) (l.getD i bd0))
theorem BdAt.below {w w' : World} {b o : Nat} {x : Bd} (h : BdAt w b o x) (hlt : b < w.heap.size) (hb : Below w.heap.size w w') : BdAt w' b o x :=
  ⟨(hb.cell (p := ⟨b, o, none⟩) hlt).trans h.c0, (hb.cell (p := ⟨b, o + 1, none⟩) hlt).trans h.c1⟩
theorem Bds.below {w w' : World} {ao : Option Addr} {cap : Nat} {l : List Bd} (h : Bds w ao cap l) (hb : Below w.heap.size w w') : Bds w' ao cap l := by
  obtain ⟨h1, h2⟩ := h
  refine ⟨h1, ?_⟩
  rcases h2 with h2 | ⟨b, o, rfl, hlt, hc⟩
  · exact .inl h2
  · exact .inr ⟨b, o, rfl, by have := hb.size; omega, fun i hi => (hc i hi).below hlt hb⟩
theorem Bds.at_ {w : World} {ao : Option Addr} {cap : Nat} {l : List Bd} (h : Bds w ao cap l) {i : Nat} (hi : i < l.length) : ∃ b o, ao = some ⟨b, o, none⟩ ∧ b < w.heap.size ∧ BdAt w b (o + i * 2) (l.getD i bd0) := by
  rcases h.2 with h | ⟨b, o, rfl, hb, hc⟩
  · subst h; simp at hi
  · exact ⟨b, o, rfl, hb, hc i hi⟩

def bdCells : List Bd → List Value
  | [] => []
  | x :: r => .string x.1 :: .int .i64 x.2 :: bdCells r
theorem bdCells_length (l : List Bd) : (bdCells l).length = l.length * 2 := by
  induction l with
  | nil => rfl
  | cons a r ih => simp [bdCells, ih]; omega
theorem bdCells_at (l : List Bd) (i : Nat) (x : Bd) (h : l[i]? = some x) : (bdCells l)[i * 2]? = some (.string x.1) ∧ (bdCells l)[i * 2 + 1]? = some (.int .i64 x.2) := by
  induction l generalizing i with
  | nil => simp at h
  | cons a r ih =>
    cases i with
    | zero => simp at h; subst h; simp [bdCells]
    | succ i =>
      have := ih i (by simpa using h)
      have e : (i + 1) * 2 = i * 2 + 2 := by omega
      rw [e]
      simpa [bdCells] using this
theorem bdCells_set (l : List Bd) (i : Nat) (n : Int) (hi : i < l.length) : bdCells (l.set i ((l.getD i bd0).1, n)) = (bdCells l).set (i * 2 + 1) (.int .i64 n) := by
  induction l generalizing i with
  | nil => simp at hi
  | cons a r ih =>
    cases i with
    | zero => simp [bdCells]
    | succ i =>
      have := ih i (by simpa using hi)
      have e : (i + 1) * 2 + 1 = (i * 2 + 1) + 2 := by omega
      rw [e]
      simp [bdCells] at this ⊢
      exact this
theorem bdCells_one (l : List Bd) : ∀ u ∈ bdCells l, u.oneCell' = true := by
  induction l with
  | nil => simp [bdCells]
  | cons a r ih =>
    intro u hu
    simp only [bdCells, List.mem_cons] at hu
    rcases hu with rfl | rfl | hu
    · rfl
    · rfl
    · exact ih u hu

/-- Bindings of the call's own. -/
def OwnB (w : World) (base : Nat) (v : Value) (l : List Bd) : Prop := w.ownsRow base 163 2 v l.length (bdCells l)
theorem own_below {w w' : World} {base : Nat} {e : TypeId} {size : Nat} {v : Value} {n : Nat} {xs : List Value} (h : w.ownsRow base e size v n xs) (hb : Below w.heap.size w w') : w'.ownsRow base e size v n xs :=
  World.ownsRow.kept (row := none) h ⟨hb.os, hb.tape, hb.output, hb.size, fun k hk _ => hb.block k hk⟩ (by
    cases hv : v.ownBlock
    · exact .inl rfl
    · exact .inr (by simp))
theorem OwnB.below {w w' : World} {base : Nat} {v : Value} {l : List Bd} (h : OwnB w base v l) (hb : Below w.heap.size w w') : OwnB w' base v l := own_below h hb
theorem OwnB.mono {w : World} {base base' : Nat} {v : Value} {l : List Bd} (h : OwnB w base v l) (hb : base' ≤ base) : OwnB w base' v l := by
  obtain ⟨h1, h2⟩ := h
  refine ⟨h1, ?_⟩
  rcases h2 with h2 | ⟨g, cap, cur, hv, hg, r⟩
  · exact .inl h2
  · exact .inr ⟨g, cap, cur, hv, by omega, r⟩
theorem OwnB.read {w : World} {base : Nat} {v : Value} {l : List Bd} (h : OwnB w base v l) : ∃ ao cap, v = .slice ao l.length cap ∧ Bds w ao cap l ∧ (∀ a, ao = some a → a.off = 0 ∧ a.spot = none ∧ base ≤ a.block) := by
  obtain ⟨h1, h2⟩ := h
  rcases h2 with ⟨rfl, h0⟩ | ⟨g, cap, cur, rfl, hb, hg, hn, hm, hs, ht⟩
  · have : l = [] := List.length_eq_zero_iff.1 h0
    subst this
    exact ⟨none, 0, rfl, ⟨⟨by simp, by simp [maxLen], fun _ => rfl⟩, .inl rfl⟩, by simp⟩
  · refine ⟨_, cap, rfl, ⟨⟨hn, hm, by simp⟩, .inr ⟨g, 0, rfl, lt_of_block hg, fun i hi => ?_⟩⟩, fun a ha => by cases ha; exact ⟨rfl, rfl, hb⟩⟩
    have hx : l[i]? = some (l.getD i bd0) := by simp [hi]
    obtain ⟨a0, a1⟩ := bdCells_at l i _ hx
    have hc : ∀ j, j < l.length * 2 → w.cell? ⟨g, j, none⟩ = (bdCells l)[j]? := by
      intro j hj
      have : w.cell? ⟨g, j, none⟩ = cur[j]? := by simp [World.cell?, hg]
      rw [this, ← Array.getElem?_toList, ← ht, List.getElem?_take, if_pos (by omega)]
    exact ⟨by rw [Nat.zero_add, hc _ (by omega), a0], by rw [Nat.zero_add, hc _ (by omega), a1]⟩
theorem Tryd.infoBind : (Tryd.prog.info? 163).map (fun i => (i.zero, i.size, i.bytes)) = some (some (.agg #[.string ⟨#[]⟩, .int .i64 0]), 2, 24) := by kernel_rfl
/-- The cells of a list that is read, as a source of append. -/
theorem Bds.src {w : World} {ao : Option Addr} {cap : Nat} {l : List Bd} (h : Bds w ao cap l) : ∀ ad, ao = some ad → ∀ j u, (bdCells l)[j]? = some u → w.cell? (ad.add j) = some u := by
  intro ad had j u hj
  have hjl : j < l.length * 2 := by
    have := (List.getElem?_eq_some_iff.1 hj).1
    rw [bdCells_length] at this; exact this
  obtain ⟨b, o, h1, hb, hc⟩ := h.at_ (i := j / 2) (by omega)
  rw [had] at h1
  cases h1
  have hx : l[j / 2]? = some (l.getD (j / 2) bd0) := by
    have : j / 2 < l.length := by omega
    simp [this]
  obtain ⟨a0, a1⟩ := bdCells_at l _ _ hx
  rw [Go.WideShapes.add_plain]
  rcases Nat.mod_two_eq_zero_or_one j with hr | hr
  · have e : j = j / 2 * 2 := by omega
    rw [← e] at a0
    have e' : o + j / 2 * 2 = o + j := by omega
    have := hc.c0
    rw [e'] at this
    rw [this, ← hj, a0]
  · have e : j = j / 2 * 2 + 1 := by omega
    rw [← e] at a1
    have e' : o + j / 2 * 2 + 1 = o + j := by omega
    have := hc.c1
    rw [e'] at this
    rw [this, ← hj, a1]
theorem OwnB.form {w : World} {base : Nat} {v : Value} {l : List Bd} (h : OwnB w base v l) : ∃ ao cap, v = .slice ao l.length cap := let ⟨ao, cap, h1, _⟩ := h.read; ⟨ao, cap, h1⟩
/-- Behind a store into one binding's number. -/
theorem OwnB.put {w : World} {base g cap : Nat} {l : List Bd} (h : OwnB w base (.slice (some ⟨g, 0, none⟩) l.length cap) l) (i : Nat) (hi : i < l.length) (n : Int) :
    OwnB (w.setCell ⟨g, i * 2 + 1, none⟩ (.int .i64 n)) base (.slice (some ⟨g, 0, none⟩) l.length cap) (l.set i ((l.getD i bd0).1, n)) := by
  obtain ⟨h1, h2⟩ := h
  refine ⟨by rw [bdCells_length, List.length_set], ?_⟩
  rcases h2 with ⟨h2, _⟩ | ⟨g', cap', cur, h3, hb, hg, hn, hm, hs, ht⟩
  · cases h2
  · cases h3
    refine .inr ⟨g, cap, cur.setIfInBounds (i * 2 + 1) (.int .i64 n), by simp, hb, heap_setCell_same w g _ cur _ _ hg, by simpa using hn, hm, by simpa using hs, ?_⟩
    rw [bdCells_set l i n hi, ← ht]
    simp [List.take_set]
end Go.Proofs.YtkbcgcempchoaaaDoor

set_option linter.unusedSimpArgs false
set_option linter.unusedVariables false
namespace Go.Proofs.YtkbcgcempchoaaaDoor

structure Nd where
  op : Int
  n : Int
  name : ByteArray
  kids : List Int
  deriving DecidableEq

def nd0 : Nd := ⟨0, 0, ⟨#[]⟩, []⟩

def aritI (op : Int) : Int := if op = 1 ∨ op = 2 then 0 else if op = 3 ∨ op = 4 then 1 else if 5 ≤ op ∧ op ≤ 16 then 2 else if op = 17 then 3 else -1

theorem aritI_le (op : Int) : aritI op ≤ 3 := by
  unfold aritI; split <;> (try split) <;> (try split) <;> (try split) <;> omega
theorem aritI_ge (op : Int) : -1 ≤ aritI op := by
  unfold aritI; split <;> (try split) <;> (try split) <;> (try split) <;> omega

/-- May a node have all these together? -/
def fitB (op n : Int) (name : ByteArray) (parts : Int) : Bool :=
  decide (0 ≤ aritI op) && decide (parts = aritI op) && (decide (n = 0) || decide (op = 1)) && (if op = 2 then nameB name else name.toList.isEmpty)

def formB (x : Nd) : Bool := fitB x.op x.n x.name x.kids.length

theorem formB_kids {x : Nd} (h : formB x = true) : x.kids.length ≤ 3 := by
  unfold formB fitB at h
  simp only [Bool.and_eq_true, decide_eq_true_eq] at h
  have := aritI_le x.op
  omega

/-- From a cursor down through the kids, the last first. -/
def chainL (fr : List Nat) : List Int → Nat → Option Nat
  | [], c => some c
  | k :: ks, c => if c = 0 ∨ k ≠ (c : Int) - 1 then none else chainL fr ks (fr.getD (c - 1) 0)

def stp (fr : List Nat) (x : Nd) : Option (List Nat) := if formB x = true then (chainL fr x.kids.reverse fr.length).map (fun a => fr ++ [a]) else none

def begR (fr : List Nat) : List Nd → Option (List Nat)
  | [] => some fr
  | x :: l => (stp fr x).bind fun fr' => begR fr' l

def begL (l : List Nd) : Option (List Nat) :=
  if l.length = 0 ∨ 64 < l.length then none else (begR [] l).bind fun fr => if fr.getD (l.length - 1) 0 = 0 then some fr else none

def sndB (l : List Nd) : Bool := (begL l).isSome

/-- No entry is above its place. -/
def Low (fr : List Nat) : Prop := ∀ j, fr.getD j 0 ≤ j

theorem chainL_le {fr : List Nat} (h : Low fr) : ∀ (ks : List Int) (c a : Nat), chainL fr ks c = some a → a ≤ c := by
  intro ks
  induction ks with
  | nil => intro c a h; simp [chainL] at h; omega
  | cons k ks ih =>
    intro c a hh
    simp only [chainL] at hh
    split at hh
    · cases hh
    · have := ih _ _ hh
      have := h (c - 1)
      omega

theorem stp_some {fr fr' : List Nat} {x : Nd} (h : stp fr x = some fr') : formB x = true ∧ ∃ a, chainL fr x.kids.reverse fr.length = some a ∧ fr' = fr ++ [a] := by
  unfold stp at h
  split at h
  · rename_i hf
    cases hc : chainL fr x.kids.reverse fr.length with
    | none => rw [hc] at h; cases h
    | some a => rw [hc] at h; simp at h; exact ⟨hf, a, rfl, h.symm⟩
  · cases h

theorem getD_snoc (fr : List Nat) (a j : Nat) : (fr ++ [a]).getD j 0 = if j < fr.length then fr.getD j 0 else if j = fr.length then a else 0 := by
  simp only [List.getD_eq_getElem?_getD, List.getElem?_append]
  split
  · rfl
  · split
    · subst_vars; simp
    · rw [List.getElem?_eq_none (by simp; omega)]; rfl

theorem Low.snoc {fr : List Nat} (h : Low fr) {a : Nat} (ha : a ≤ fr.length) : Low (fr ++ [a]) := by
  intro j
  rw [getD_snoc]
  split
  · exact h j
  · split <;> omega

theorem begR_append (fr : List Nat) (l m : List Nd) : begR fr (l ++ m) = (begR fr l).bind fun fr' => begR fr' m := by
  induction l generalizing fr with
  | nil => simp [begR]
  | cons x l ih =>
    simp only [List.cons_append, begR]
    cases stp fr x with
    | none => rfl
    | some fr' => simp [ih]

theorem begR_snoc (fr : List Nat) (l : List Nd) (x : Nd) : begR fr (l ++ [x]) = (begR fr l).bind fun fr' => stp fr' x := by
  rw [begR_append]
  congr
  funext fr'
  simp [begR]

theorem begR_some {l : List Nd} : ∀ {fr fr' : List Nat}, begR fr l = some fr' → Low fr → fr'.length = fr.length + l.length ∧ Low fr' ∧ (∀ j, j < fr.length → fr'.getD j 0 = fr.getD j 0) ∧ ∀ x ∈ l, formB x = true := by
  induction l with
  | nil => intro fr fr' h hl; simp [begR] at h; subst h; simp [hl]
  | cons x l ih =>
    intro fr fr' h hl
    simp only [begR] at h
    cases hs : stp fr x with
    | none => rw [hs] at h; cases h
    | some f2 =>
      rw [hs] at h
      simp only [Option.bind_some] at h
      obtain ⟨hf, a, hc, rfl⟩ := stp_some hs
      obtain ⟨h1, h2, h3, h4⟩ := ih h (hl.snoc (chainL_le hl _ _ _ hc))
      refine ⟨by simp at h1 ⊢; omega, h2, fun j hj => ?_, ?_⟩
      · rw [h3 j (by simp; omega), getD_snoc, if_pos hj]
      · intro y hy
        rcases List.mem_cons.1 hy with rfl | hy
        · exact hf
        · exact h4 y hy

theorem low_nil : Low [] := by intro j; simp

theorem begR_take_none {l : List Nd} {i : Nat} (h : begR [] (l.take i) = none) : begR [] l = none := by
  rw [← List.take_append_drop i l, begR_append, h]; rfl

theorem begL_some {l : List Nd} {fr : List Nat} (h : begL l = some fr) : 0 < l.length ∧ l.length ≤ 64 ∧ begR [] l = some fr ∧ fr.getD (l.length - 1) 0 = 0 := by
  unfold begL at h
  split at h
  · cases h
  · rename_i hl
    cases hr : begR [] l with
    | none => rw [hr] at h; cases h
    | some f =>
      rw [hr] at h
      simp only [Option.bind_some] at h
      split at h
      · cases h; exact ⟨by omega, by omega, rfl, by assumption⟩
      · cases h

theorem begL_mk {l : List Nd} {fr : List Nat} (h0 : 0 < l.length) (h1 : l.length ≤ 64) (hr : begR [] l = some fr) (h2 : fr.getD (l.length - 1) 0 = 0) : begL l = some fr := by
  unfold begL
  rw [if_neg (by omega), hr, Option.bind_some, if_pos h2]

theorem begR_len {l : List Nd} {fr : List Nat} (h : begR [] l = some fr) : fr.length = l.length := by
  have := (begR_some h low_nil).1
  simpa using this
end Go.Proofs.YtkbcgcempchoaaaDoor

set_option linter.unusedSimpArgs false
set_option linter.unusedVariables false
namespace Go.Proofs.YtkbcgcempchoaaaDoor
open Go.RowKit Go.Lib

theorem ret2' {k l : IntKind} {a b c d : Int} (h : a = c) (h' : b = d) : Ending.returned (.tuple #[.int k a, .int l b]) = .returned (.tuple #[.int k c, .int l d]) := by rw [h, h']

def arK (op : Int) : Int := max (aritI op) 0
def arE (op : Int) : Int := if aritI op < 0 then 2 else 0
theorem ar_of {op a : Int} (h : aritI op = a) (h0 : 0 ≤ a) : arK op = a ∧ arE op = 0 := by
  unfold arK arE; rw [h, if_neg (by omega)]; exact ⟨by omega, rfl⟩
theorem ar_none {op : Int} (h : aritI op = -1) : arK op = 0 ∧ arE op = 2 := by
  unfold arK arE; rw [h]; exact ⟨by decide, by decide⟩

theorem ar_spec (op : Int) : (arK op = 0 ∧ arE op = 0 ∧ (op = 1 ∨ op = 2)) ∨ (arK op = 1 ∧ arE op = 0 ∧ (op = 3 ∨ op = 4)) ∨ (arK op = 2 ∧ arE op = 0 ∧ 5 ≤ op ∧ op ≤ 16) ∨ (arK op = 3 ∧ arE op = 0 ∧ op = 17) ∨ (arK op = 0 ∧ arE op = 2 ∧ (op < 1 ∨ 17 < op)) := by
  by_cases h1 : op = 1 ∨ op = 2
  · have := ar_of (op := op) (a := 0) (by simp [aritI, h1]) (by omega); omega
  by_cases h2 : op = 3 ∨ op = 4
  · have := ar_of (op := op) (a := 1) (by simp [aritI, h1, h2]) (by omega); omega
  by_cases h3 : 5 ≤ op ∧ op ≤ 16
  · have := ar_of (op := op) (a := 2) (by simp [aritI, h1, h2, h3]) (by omega); omega
  by_cases h4 : op = 17
  · have := ar_of (op := op) (a := 3) (by simp [aritI, h4]) (by omega); omega
  · have := ar_none (op := op) (by simp [aritI, h1, h2, h3, h4]); omega

set_option maxHeartbeats 400000 in
theorem arity_any (op : Int) (w : World) :
    Calls Tryd.prog 54 #[.int .i64 op] w fun e w' => e = .returned (.tuple #[.int .i64 (arK op), .int .i64 (arE op)]) ∧ w' = w := by
  go_enter Tryd.func54, Tryd.ntmps54
  go_wp2
  all_goals
    go_ret2
    have hs := ar_spec op
    simp only [beq_iff_eq, beq_eq_false_iff_ne, ne_eq] at *
    exact ⟨ret2' (by omega) (by omega), trivial⟩

set_option maxHeartbeats 400000 in
theorem fits_any (op n : Int) (name : ByteArray) (parts : Int) (w : World) (hT : SpanCells w) :
    Calls Tryd.prog 63 #[.int .i64 op, .int .i64 n, .string name, .int .i64 parts] w fun e w' => e = .returned (.bool (fitB op n name parts)) ∧ Below w.heap.size w w' := by
  have HF : Hid (fitB op n name parts = (!(arE op != 0) && !(parts != arK op) && !(n != 0 && op != 1) && (if op = 2 then nameB name else name.toList.isEmpty))) := by
    show _ = _
    by_cases h : 0 ≤ aritI op
    · rw [(ar_of rfl h).1, (ar_of rfl h).2]
      unfold fitB
      rw [Bool.eq_iff_iff]
      simp [h]
    · have h1 : aritI op = -1 := by have := aritI_ge op; omega
      rw [(ar_none h1).1, (ar_none h1).2]
      unfold fitB
      simp [h1]
  have ca : Hid (∀ W, Calls Tryd.prog 54 #[.int .i64 op] W fun e w' => e = .returned (.tuple #[.int .i64 (arK op), .int .i64 (arE op)]) ∧ w' = W) := arity_any op
  generalize arK op = k at *
  generalize arE op = x at *
  go_enter Tryd.func63, Tryd.ntmps63
  go_wp2_with (first | (go_at_call 54; refine (ca.out _).mono ?_; rintro e w' ⟨rfl, rfl⟩) | (go_at_call 95; refine (name_spans _ _ hT).mono ?_; rintro e w' ⟨rfl, hb⟩))
  all_goals
    go_ret
    first
    | exact ⟨ret_bool (by rw [HF.out]; simp_all), hb⟩
    | exact ⟨ret_bool (by rw [HF.out]; simp_all), Below.refl _ _⟩
end Go.Proofs.YtkbcgcempchoaaaDoor

/-
  Sh7, ExOpen, ApRows.
-/
import Derived.Test.YtjmccobblpcbhaaDoorChecked
import GoSem.PinnedTables
import GoSem.Claim
import GoSem.ClaimJoined
import GoSem.ClaimMapViews
import Derived.JoinedTies
import Derived.KernelRfl
import Derived.Shelf.Unicode.DecodeSlow
import Derived.Laws.RangeAny
import Derived.Shelf.Strings.Builder1
import Derived.Shelf.Small.Utf8
import Derived.Shelf.Small.Bits
import Derived.Shelf.Strings.BuilderF
import Derived.Shelf.Strings.BuilderK
import Derived.Shelf.Strings.BuilderRune
import Derived.Shelf.Utf8.AppendRune
import Derived.Shelf.Strconv.Itoa0
import Derived.Shelf.Strconv.Itoa1
import Derived.Shelf.LaysM
import Derived.Shelf.Strconv.Itoa2
import Derived.Shelf.Strconv.Itoa3
import Derived.Shelf.Strconv.Itoa4
import Derived.Shelf.Strings.Prefix
import Derived.Shelf.Unicode.DecodeAny
import Derived.Test.YtjmccobblpcbhaaDoorProg
import Derived.WalkKit
import Derived.Deep.DeepFit
import Derived.Lib.OthersKept
import Derived.Lib.RuneCountTail
import Derived.Lib.LaidU8
import Derived.MakeChecks
import Derived.ProofKit
import Derived.OpenShut
import Derived.Deep.DeepHandedRow
import Derived.Lib.MapLaws
import Derived.Sort.Walk0
import Derived.Laws.DeepStrings4
import Derived.Lib.ItoaNum
import Derived.Deep.AppendLies
import Derived.Deep.OwnRows
import Derived.Laws.AppendOwnNone
import Derived.Deep.QuietTactic
import Derived.BigQuiet
import Derived.Deep.RegionWith
import Derived.BigCall
import Derived.Lib.LaidTab
import Derived.Maps.OwnSet
import Derived.StringKeys
import Derived.Deep.Slices
import Derived.Lib.QuietBelow
import Derived.StillTail
import Derived.Laws.OwnMore
import Derived.SizedLaws
import Derived.Below
import Derived.Test.YtjmccobblpcbhaaDoorRows
import Derived.Test.YtjmccobblpcbhaaDoorM01
import Derived.Test.YtjmccobblpcbhaaDoorM02
import Derived.Test.YtjmccobblpcbhaaDoorM03
import Derived.Test.YtjmccobblpcbhaaDoorM04
import Derived.Test.YtjmccobblpcbhaaDoorM05
import Derived.Test.YtjmccobblpcbhaaDoorM06
import Derived.Test.YtjmccobblpcbhaaDoorM07
import Derived.Test.YtjmccobblpcbhaaDoorM08
import Derived.Test.YtjmccobblpcbhaaDoorM09
import Derived.Test.YtjmccobblpcbhaaDoorM10
import Derived.Test.YtjmccobblpcbhaaDoorM11
import Derived.Test.YtjmccobblpcbhaaDoorM12
import Derived.Test.YtjmccobblpcbhaaDoorM13
import Derived.Test.YtjmccobblpcbhaaDoorM14
set_option linter.unusedSimpArgs false
set_option linter.unusedVariables false
namespace Go.Proofs.YtjmccobblpcbhaaDoor
open Go.RowKit Go.Lib

/-- WHAT THE ROW's LIST GIVES. -/
theorem tb7_of_laid {W : World} (h : laidMetH Tryd.prog [("math/bits.deBruijn32tab", Rows.laid_math_bits_deBruijn32tab), ("math/bits.deBruijn64tab", Rows.laid_math_bits_deBruijn64tab), ("internal/strconv.uint64pow10", Rows.laid_internal_strconv_uint64pow10), ("unicode/utf8.acceptRanges", Rows.laid_unicode_utf8_acceptRanges), ("sorrel/runes.spans", Rows.laid_sorrel_runes_spans), ("sorrel/show.writings", Rows.laid_sorrel_show_writings), ("unicode/utf8.first", Rows.laid_unicode_utf8_first)] W) : Tb5 W ∧ Tabs W := by
  rw [MakeChecks.laidMetH_plain _ _ _ (by kernel_rfl)] at h
  have r1 := laidMet.reads h (n := "internal/strconv.uint64pow10") (d := Rows.laid_internal_strconv_uint64pow10) (by simp)
  have r2 := laidMet.reads h (n := "sorrel/runes.spans") (d := Rows.laid_sorrel_runes_spans) (by simp)
  have r3 := laidMet.reads h (n := "sorrel/show.writings") (d := Rows.laid_sorrel_show_writings) (by simp)
  have r4 := laidMet.reads h (n := "unicode/utf8.acceptRanges") (d := Rows.laid_unicode_utf8_acceptRanges) (by simp)
  have r5 := laidMet.reads h (n := "unicode/utf8.first") (d := Rows.laid_unicode_utf8_first) (by simp)
  rw [powData_eq] at r1
  rw [spansData_eq] at r2
  rw [writData_eq] at r3
  rw [accept_eq] at r4
  rw [first_eq] at r5
  exact ⟨⟨writ_of_reads r3, pows_of_reads r1, spans_of_reads r2⟩, ⟨spans_of_reads r2, utf8Tabs_of_reads Tryd.lays260 u8Extra r5 r4⟩⟩
def laidWorld7 (P : Program) (os : Os) : World :=
  { World.holding P os ⟨#[], #[], []⟩ with heap := setVals (setVals (setVals (setVals (setVals (setVals (setVals (World.holding P os ⟨#[], #[], []⟩).heap 1 spanVals) 0 writVals) 4 powVals) 5 (deVals Rows.laid_math_bits_deBruijn32tab)) 6 (deVals Rows.laid_math_bits_deBruijn64tab)) 2 firstVals) 3 acceptVals }
end Go.Proofs.YtjmccobblpcbhaaDoor

set_option linter.unusedSimpArgs false
set_option linter.unusedVariables false
namespace Go.Proofs.YtjmccobblpcbhaaDoor
open Go.RowKit Go.Lib Go.ChangeShapes Go.WideShapes Go.Deep

theorem Tryd.laidOut : laidOutB Tryd.prog = true := by kernel_rfl
theorem Tryd.cells3 : Tryd.prog.cellsOf 3 = 1 := by kernel_rfl
theorem Tryd.cells2 : Tryd.prog.cellsOf 2 = 1 := by kernel_rfl
theorem Tryd.cellsStr : Tryd.prog.cellsOf 9 = 1 := by kernel_rfl
theorem Tryd.cellsInts : Tryd.prog.cellsOf 58 = 1 := by kernel_rfl
theorem Tryd.cellsNode : Tryd.prog.cellsOf 60 = 4 := by kernel_rfl
theorem Tryd.bytes3 : Tryd.prog.bytesOf 3 = 8 := by kernel_rfl
theorem Tryd.bytesNode : Tryd.prog.bytesOf 60 = 56 := by kernel_rfl

theorem len4 {α : Type} (l : List α) (h : l.length = 4) : ∃ a b c d, l = [a, b, c, d] := by
  match l, h with
  | [a, b, c, d], _ => exact ⟨a, b, c, d, rfl⟩

theorem spot_none {w : World} {a : Addr} {v : Value} (h : w.cell? a = some v) : a.spot = none := by
  unfold World.cell? at h
  split at h
  · split at h
    · cases h
    · rename_i hs; simpa using hs
  · cases h

section
variable {H : Type} {enc : TypeId × Value → H} {w : World}

/-- The kids' slice. -/
theorem open_kids {fuel : Nat} {v : Value} {x : DataW H × List MemPlace} (h : DataW.trod enc Tryd.prog w 0 (fun _ => true) true fuel 58 [v] = some x) :
    ∃ ks, Ints w w.heap.size v ks ∧ ((∀ n ∈ x.1.weights Tryd.prog 58, n ≤ reachBytes) → ks.length * 8 ≤ 140737488351232) := by
  rcases open_ints Tryd.underlying58 Tryd.underlying3 Tryd.cells3 h with ⟨hcs, rfl⟩ | ⟨a, len, cap, zs, hcs, _, hl, hm, hz, rfl, hc, _⟩
  · simp only [List.cons.injEq, and_true] at hcs
    subst hcs
    exact ⟨[], ⟨none, 0, rfl, by simp, ⟨by simp [maxLen], fun _ => rfl⟩, .inl rfl⟩, fun _ => by simp⟩
  · simp only [List.cons.injEq, and_true] at hcs
    subst hcs
    simp only [if_true] at hz
    have hlen : (zs.take len).length = len := by simp; omega
    refine ⟨zs.take len, ⟨some a, cap, by rw [hlen], by omega, ⟨hm, by simp⟩, ?_⟩, fun hw => ?_⟩
    · by_cases h0 : len = 0
      · left; exact List.length_eq_zero_iff.1 (by omega)
      · right
        have hc0 := hc 0 (by omega)
        obtain ⟨b, o, sp⟩ := a
        have hsp : sp = none := by
          have e : (⟨b, o, sp⟩ : Addr).add 0 = ⟨b, o, sp⟩ := rfl
          rw [e] at hc0; exact spot_none hc0
        subst hsp
        refine ⟨b, o, rfl, World.block_lt_of_cell? _ _ hc0, fun j hj => ?_⟩
        rw [hlen] at hj
        have := hc j (by omega)
        rw [Go.WideShapes.add_plain] at this
        rw [this]
        simp [List.getElem?_take, hj]
    · have := hw ((((lits .i64 (zs.take len)).length : Nat) + (lits .i64 (zs.drop len)).length) * Tryd.prog.bytesOf 3) (by simp only [DataW.weights, Tryd.underlying58 ]; exact List.mem_cons_self ..)
      rw [Tryd.bytes3] at this
      simp only [lits, List.length_map, List.length_take, List.length_drop, reachBytes] at this
      rw [hlen]; omega

/-- One node. -/
theorem open_node {fuel : Nat} {cs : List Value} {x : DataW H × List MemPlace} (h : DataW.trod enc Tryd.prog w 0 (fun _ => true) true fuel 60 cs = some x) :
    ∃ (y : Nd) (kv : Value), cs = [.int .i64 y.op, .int .i64 y.n, .string y.name, kv] ∧ Ints w w.heap.size kv y.kids ∧ (y.name.size ≤ maxLen ∧ (Lit.int .i64 y.n).wf = true) ∧ ((∀ n ∈ x.1.weights Tryd.prog 60, n ≤ reachBytes) → y.kids.length * 8 ≤ 140737488351232) := by
  obtain ⟨xs, n, _, rfl, hl, hxl, hall⟩ := DataW.trod_struct Tryd.underlying60 h
  rw [Tryd.cellsNode] at hl
  obtain ⟨v0, v1, v2, v3, rfl⟩ := len4 cs hl
  obtain ⟨x0, x1, x2, x3, rfl⟩ := len4 xs hxl
  have g0 : DataW.trod enc Tryd.prog w 0 (fun _ => true) true n 3 (([v0, v1, v2, v3].drop 0).take (Tryd.prog.cellsOf 3)) = some x0 := hall 0 _ rfl
  have g1 : DataW.trod enc Tryd.prog w 0 (fun _ => true) true n 2 (([v0, v1, v2, v3].drop 1).take (Tryd.prog.cellsOf 2)) = some x1 := hall 1 _ rfl
  have g2 : DataW.trod enc Tryd.prog w 0 (fun _ => true) true n 9 (([v0, v1, v2, v3].drop 2).take (Tryd.prog.cellsOf 9)) = some x2 := hall 2 _ rfl
  have g3 : DataW.trod enc Tryd.prog w 0 (fun _ => true) true n 58 (([v0, v1, v2, v3].drop 3).take (Tryd.prog.cellsOf 58)) = some x3 := hall 3 _ rfl
  rw [Tryd.cells3] at g0
  rw [Tryd.cells2] at g1
  rw [Tryd.cellsStr] at g2
  rw [Tryd.cellsInts] at g3
  obtain ⟨z0, k0, _, _⟩ := DataW.trod_int Tryd.underlying3 g0
  obtain ⟨z1, k1, _, hz1⟩ := DataW.trod_int Tryd.underlying2 g1
  obtain ⟨s, k2, _, hs⟩ := DataW.trod_string Tryd.underlying9 g2
  simp at k0 k1 k2
  subst k0; subst k1; subst k2
  obtain ⟨ks, hI, hw⟩ := open_kids (v := v3) g3
  refine ⟨⟨z0, z1, s, ks⟩, v3, rfl, hI, ⟨hs, hz1⟩, fun hh => hw fun q hq => hh q ?_⟩
  simp only [DataW.weights, Tryd.underlying60 ]
  exact DataW.weights_mem_each (j := 3) (t := 58) (d := x3.1) rfl rfl q hq

theorem mem_weightsAll {P : Program} {e : TypeId} {d : DataW H} {n : Nat} : ∀ {ds : List (DataW H)}, d ∈ ds → n ∈ d.weights P e → n ∈ DataW.weightsAll P e ds
  | d0 :: ds, hd, hn => by
    simp only [DataW.weightsAll, List.mem_append]
    rcases List.mem_cons.1 hd with rfl | hd
    · exact .inl hn
    · exact .inr (mem_weightsAll hd hn)

/-- Within the reach, marks and all; the numbers are numbers of 64 bits. -/
structure FitX (l : List Nd) : Prop where
  len : l.length * 56 ≤ 140737488351232
  kids : ∀ x ∈ l, x.kids.length * 8 ≤ 140737488351232
  name : ∀ x ∈ l, x.name.size ≤ maxLen
  num : ∀ x ∈ l, (Lit.int .i64 x.n).wf = true
theorem FitX.fit {l : List Nd} (h : FitX l) : Fit l := ⟨by have := h.len; omega, fun x hx => by have := h.kids x hx; omega, h.name⟩

/-- The whole argument. -/
theorem open_nodesX {fuel : Nat} {v : Value} {x : DataW H × List MemPlace} (h : DataW.trod enc Tryd.prog w 0 (fun _ => true) true fuel 22 [v] = some x) :
    ∃ (ao : Option Addr) (cap : Nat) (l : List Nd), v = .slice ao l.length cap ∧ Rd w ao cap l ∧ ((∀ n ∈ x.1.weights Tryd.prog 22, n ≤ reachBytes) → FitX l) := by
  rcases open_slice Tryd.underlying22 h with ⟨hcs, rfl⟩ | ⟨a, len, cap, m, n, D, Pl, hcs, _, hl, hm, hmm, rfl, hx⟩
  · simp only [List.cons.injEq, and_true] at hcs
    subst hcs
    exact ⟨none, 0, [], rfl, ⟨none, 0, rfl, by simp, by simp, .inl rfl⟩, fun _ => ⟨by simp, by simp, by simp, by simp⟩⟩
  · simp only [List.cons.injEq, and_true] at hcs
    subst hcs
    simp only [if_true] at hmm
    subst hmm
    have each : ∀ i, i < m → ∃ y : Nd × Value, ∃ cs', w.cells? 0 (a.add (i * 4)) 4 = some cs' ∧ cs' = [.int .i64 y.1.op, .int .i64 y.1.n, .string y.1.name, y.2] ∧ Ints w w.heap.size y.2 y.1.kids ∧ (y.1.name.size ≤ maxLen ∧ (Lit.int .i64 y.1.n).wf = true) ∧ ((∀ n ∈ (D i).weights Tryd.prog 60, n ≤ reachBytes) → y.1.kids.length * 8 ≤ 140737488351232) := by
      intro i hi
      obtain ⟨cs', h1, h2⟩ := hx i hi
      rw [Tryd.cellsNode] at h1
      obtain ⟨y, kv, e, h3, h4, h5⟩ := open_node h2
      exact ⟨(y, kv), cs', h1, e, h3, h4, h5⟩
    have : Inhabited (Nd × Value) := ⟨(nd0, .slice none 0 0)⟩
    obtain ⟨q, hq⟩ := choose_lt each
    have hlen : ((List.range len).map fun i => (q i).1).length = len := by simp
    have hget : ∀ i, i < len → ((List.range len).map fun i => (q i).1).getD i nd0 = (q i).1 := fun i hi => by simp [hi]
    refine ⟨some a, m, (List.range len).map fun i => (q i).1, by rw [hlen], ⟨some a, m, rfl, by rw [hlen]; exact hl, hm, ?_⟩, fun hw => ⟨?_, ?_, ?_, ?_⟩⟩
    · by_cases h0 : len = 0
      · left; subst h0; rfl
      · right
        have hc0 : w.cell? a = some (.int .i64 (q 0).1.op) := by
          obtain ⟨cs', h1, rfl, _⟩ := hq 0 (by omega)
          have := (World.cells?_some h1).2.2 0 (by omega)
          rw [Nat.zero_mul] at this
          exact this
        obtain ⟨b, o, sp⟩ := a
        have hsp : sp = none := spot_none hc0
        subst hsp
        refine ⟨b, o, rfl, World.block_lt_of_cell? _ _ hc0, fun i hi => ?_⟩
        rw [hlen] at hi
        rw [hget i hi]
        obtain ⟨cs', h1, rfl, h3, _⟩ := hq i (by omega)
        have hcell := (World.cells?_some h1).2.2
        rw [Go.WideShapes.add_plain] at hcell
        refine ⟨(q i).2, ?_, ?_, ?_, ?_, h3⟩
        · have := hcell 0 (by omega); rw [Go.WideShapes.add_plain] at this; exact this
        · have := hcell 1 (by omega); rw [Go.WideShapes.add_plain] at this; exact this
        · have := hcell 2 (by omega); rw [Go.WideShapes.add_plain] at this; exact this
        · have := hcell 3 (by omega); rw [Go.WideShapes.add_plain] at this; exact this
    · have := hw ((((List.range len).map D).length + ((List.range (m - len)).map fun j => D (len + j)).length) * Tryd.prog.bytesOf 60) (by simp only [DataW.weights, Tryd.underlying22 ]; exact List.mem_cons_self ..)
      rw [Tryd.bytesNode] at this
      simp only [List.length_map, List.length_range, reachBytes] at this
      rw [hlen]; omega
    · intro y hy
      obtain ⟨i, hi, rfl⟩ := List.mem_map.1 hy
      rw [List.mem_range] at hi
      obtain ⟨cs', _, _, _, _, h5⟩ := hq i (by omega)
      have := h5 fun n hn => hw n (by
        simp only [DataW.weights, Tryd.underlying22, List.mem_cons, List.mem_append]
        exact .inr (.inl (mem_weightsAll (List.mem_map.2 ⟨i, List.mem_range.2 hi, rfl⟩) hn)))
      exact this
    · intro y hy
      obtain ⟨i, hi, rfl⟩ := List.mem_map.1 hy
      rw [List.mem_range] at hi
      obtain ⟨cs', _, _, _, h4, _⟩ := hq i (by omega)
      exact h4.1
    · intro y hy
      obtain ⟨i, hi, rfl⟩ := List.mem_map.1 hy
      rw [List.mem_range] at hi
      obtain ⟨cs', _, _, _, h4, _⟩ := hq i (by omega)
      exact h4.2
end

end Go.Proofs.YtjmccobblpcbhaaDoor

set_option linter.unusedSimpArgs false
set_option linter.unusedVariables false
namespace Go.Proofs.YtjmccobblpcbhaaDoor
open Go.RowKit

section
variable {w w' : World} {base : Nat} {e e' : TypeId} {size size' n n' : Nat} {v v' : Value} {xs xs' : List Value}
theorem rw_block (h : w.ownsRow base e size v n xs) {b : Nat} (hb : v.ownBlock = some b) : base ≤ b ∧ b < w.heap.size ∧ ∃ cap cur, v = .slice (some ⟨b, 0, none⟩) n cap ∧ w.heap[b]? = some (.cells cur e (0, 0)) ∧ cur.toList.take (n * size) = xs := by
  rcases h.2 with ⟨rfl, _⟩ | ⟨g, cap, cur, rfl, h1, h2, _, _, _, h3⟩
  · cases hb
  · cases hb
    refine ⟨h1, ?_, cap, cur, rfl, h2, h3⟩
    rcases Nat.lt_or_ge g w.heap.size with h | h
    · exact h
    · rw [Array.getElem?_eq_none h] at h2; cases h2
theorem rw_same (h : w.ownsRow base e size v n xs) (hs : ∀ b, v.ownBlock = some b → w'.heap[b]? = w.heap[b]?) : w'.ownsRow base e size v n xs := by
  refine ⟨h.1, ?_⟩
  rcases h.2 with h | ⟨g, cap, cur, rfl, h1, h2, h3⟩
  · exact .inl h
  · exact .inr ⟨g, cap, cur, rfl, h1, (hs g rfl).trans h2, h3⟩
theorem rw_ne (h : w.ownsRow base e size v n xs) (h' : w.ownsRow base e' size' v' n' xs') (hne : e ≠ e') {b : Nat} (hb : v.ownBlock = some b) : some b ≠ v'.ownBlock := by
  intro hb'
  obtain ⟨_, _, _, _, _, h1, _⟩ := rw_block h hb
  obtain ⟨_, _, _, _, _, h2, _⟩ := rw_block h' hb'.symm
  rw [h1] at h2
  simp at h2
  exact hne h2.2
theorem rw_put {g cap : Nat} (h : w.ownsRow base e size (.slice (some ⟨g, 0, none⟩) n cap) n xs) (i : Nat) (x : Value) : (w.setCell ⟨g, i, none⟩ x).ownsRow base e size (.slice (some ⟨g, 0, none⟩) n cap) n (xs.set i x) := by
  obtain ⟨h1, h2⟩ := h
  refine ⟨by rw [List.length_set]; exact h1, ?_⟩
  rcases h2 with ⟨h2, _⟩ | ⟨g', cap', cur, h3, hb, hg, hn, hm, hs, ht⟩
  · cases h2
  · cases h3
    refine .inr ⟨g, cap, cur.setIfInBounds i x, rfl, hb, heap_setCell_same w g _ cur _ _ hg, hn, hm, by simpa using hs, ?_⟩
    rw [← ht]
    simp [List.take_set]
/-- What a row reads as, whoever owns it. -/
def Rdr (w : World) (e : TypeId) (v : Value) (xs : List Value) : Prop := ∀ b, v.ownBlock = some b → ∃ cur fr, w.heap[b]? = some (.cells cur e fr) ∧ cur.toList.take xs.length = xs
theorem rdr_own (h : w.ownsRow base e size v n xs) : Rdr w e v xs := fun b hb => by
  obtain ⟨_, _, cap, cur, _, h1, h2⟩ := rw_block h hb
  exact ⟨cur, _, h1, by rw [h.1]; exact h2⟩
theorem Rdr.same (h : Rdr w e v xs) (hs : ∀ b, v.ownBlock = some b → w'.heap[b]? = w.heap[b]?) : Rdr w' e v xs := fun b hb => by
  obtain ⟨cur, fr, h1, h2⟩ := h b hb
  exact ⟨cur, fr, (hs b hb).trans h1, h2⟩
theorem Rdr.lt (h : Rdr w e v xs) {b : Nat} (hb : v.ownBlock = some b) : b < w.heap.size := by
  obtain ⟨cur, fr, h1, _⟩ := h b hb
  rcases Nat.lt_or_ge b w.heap.size with h | h
  · exact h
  · rw [Array.getElem?_eq_none h] at h1; cases h1
theorem Rdr.ne (h : Rdr w e v xs) (h' : w.ownsRow base e' size' v' n' xs') (hne : e ≠ e') {b : Nat} (hb : v.ownBlock = some b) : some b ≠ v'.ownBlock := by
  intro hb'
  obtain ⟨_, _, h1, _⟩ := h b hb
  obtain ⟨_, _, _, _, _, h2, _⟩ := rw_block h' hb'.symm
  rw [h1] at h2
  simp at h2
  exact hne h2.2.1
theorem Rdr.cell (h : Rdr w e v xs) {b : Nat} (hb : v.ownBlock = some b) {i : Nat} {u : Value} (hu : xs[i]? = some u) : w.cell? ⟨b, i, none⟩ = some u := by
  obtain ⟨cur, fr, h1, h2⟩ := h b hb
  have hl : i < xs.length := (List.getElem?_eq_some_iff.1 hu).1
  have : w.cell? ⟨b, i, none⟩ = cur[i]? := by simp [World.cell?, h1]
  rw [this, ← hu, ← Array.getElem?_toList]
  conv => rhs; rw [← h2]
  rw [List.getElem?_take, if_pos hl]
theorem rdr_prefix {b c : Nat} {ys : List Value} {m : Nat} (h : w.ownsRow base e size v n (xs ++ ys)) (hv : v.ownBlock = v'.ownBlock) : Rdr w e v' xs := fun b hb => by
  obtain ⟨_, _, cap, cur, _, h1, h2⟩ := rw_block h (hv.trans hb)
  refine ⟨cur, _, h1, ?_⟩
  have hl := h.1
  rw [List.length_append] at hl
  have := congrArg (List.take xs.length) h2
  rw [List.take_take, Nat.min_eq_left (by omega)] at this
  rw [this]
  simp
end

/-- No two of the rows lie in one block, none in the list's own. -/
structure RwsAp (n B : Nat) (A : Nat → Option Addr) : Prop where
  ap : ∀ k k', k < n → k' < n → k ≠ k' → ∀ a a', A k = some a → A k' = some a' → a.block ≠ a'.block
  out : ∀ k, k < n → ∀ a, A k = some a → a.block ≠ B
theorem own_blk {ao : Option Addr} {n c b : Nat} : (Value.slice ao n c).ownBlock = some b ↔ ∃ a, ao = some a ∧ a.block = b := by
  cases ao <;> simp [Value.ownBlock]

/-- The first m of a row bear their marks. -/
def Mk (size fld : Nat) (xs : List Value) (from_ m : Nat) : Prop := ∀ j, j < m → xs[j * size + fld]? = some (.int .i64 ((1000000 + from_ + j : Nat) : Int))

/-- The rows, the first i of them marked, and the first j of row i. -/
structure P1 (w : World) (base : Nat) (e : TypeId) (size fld n B : Nat) (A : Nat → Option Addr) (C len off : Nat → Nat) (X : Nat → List Value) (i j : Nat) (wr : World) : Prop where
  own : ∀ k, k < n → wr.ownsRow base e size (.slice (A k) (len k) (C k)) (len k) (X k)
  cel : ∀ k, k < n → wr.cell? ⟨B, k, none⟩ = some (.slice (A k) (len k) (C k))
  mks : ∀ k, k < i → Mk size fld (X k) (off k) (len k)
  mi : Mk size fld (X i) (off i) j
  bel : Below base w wr
  hB : B < w.heap.size
  oth : ∀ q, q < w.heap.size → (∀ k, k < n → ∀ a, A k = some a → a.block ≠ q) → wr.heap[q]? = w.heap[q]?
theorem P1.next {w : World} {base : Nat} {e : TypeId} {size fld n B : Nat} {A : Nat → Option Addr} {C len off : Nat → Nat} {X : Nat → List Value} {i : Nat} {wr : World} (h : P1 w base e size fld n B A C len off X i (len i) wr) : P1 w base e size fld n B A C len off X (i + 1) 0 wr := by
  refine ⟨h.own, h.cel, fun k hk => ?_, fun j hj => by omega, h.bel, h.hB, h.oth⟩
  by_cases hki : k = i
  · subst hki; exact h.mi
  · exact h.mks k (by omega)
/-- A cell of row i is written. -/
theorem P1.put {w : World} {base : Nat} {e : TypeId} {size fld n B : Nat} {A : Nat → Option Addr} {C len off : Nat → Nat} {X : Nat → List Value} {i j : Nat} {wr : World} (h : P1 w base e size fld n B A C len off X i j wr) (hap : RwsAp n B A) (hi : i < n) {g : Nat} (hA : A i = some ⟨g, 0, none⟩) (hf : fld < size) (q : Nat) (hq : j * size ≤ q) (x : Value) :
    P1 w base e size fld n B A C len off (fun k => if k = i then (X i).set q x else X k) i j (wr.setCell ⟨g, q, none⟩ x) := by
  have hoi := h.own i hi
  rw [hA] at hoi
  have hb := rw_block hoi (b := g) rfl
  have hlow : ∀ j', j' < j → j' * size + fld < q := by
    intro j' hj'
    have : (j' + 1) * size ≤ j * size := Nat.mul_le_mul_right _ (by omega)
    rw [Nat.succ_mul] at this
    omega
  refine ⟨fun k hk => ?_, fun k hk => ?_, fun k hk => ?_, fun j' hj' => ?_, h.bel.setCell hb.1 _, h.hB, fun p hp hk => ?_⟩
  · by_cases hki : k = i
    · subst hki
      rw [if_pos rfl, hA]
      exact rw_put hoi q x
    · rw [if_neg hki]
      refine rw_same (h.own k hk) fun b hbk => ?_
      obtain ⟨a, ha, rfl⟩ := own_blk.1 hbk
      exact Deep.blk_setCell_other _ _ _ _ (show a.block ≠ g from hap.ap k i hk hi hki a ⟨g, 0, none⟩ ha hA)
  · rw [World.cell?_of_block (w := wr) (Deep.blk_setCell_other _ _ _ _ (fun e => hap.out i hi _ hA e.symm))]
    exact h.cel k hk
  · have hki : k ≠ i := by omega
    simp only [if_neg hki]
    exact h.mks k hk
  · have := hlow j' hj'
    simp only [if_true]
    rw [List.getElem?_set_ne (by omega)]
    exact h.mi j' hj'
  · rw [Deep.blk_setCell_other _ _ _ _ (show p ≠ g from fun e' => hk i hi _ hA e'.symm)]
    exact h.oth p hp hk
/-- The rows marked, the first i of them grown. -/
structure P2 (w : World) (base : Nat) (e eL : TypeId) (size fld n B : Nat) (A : Nat → Option Addr) (C len off : Nat → Nat) (X : Nat → List Value) (i : Nat) (vg : Value) (gs : List Value) (wr : World) : Prop where
  own : ∀ k, i ≤ k → k < n → wr.ownsRow base e size (.slice (A k) (len k) (C k)) (len k) (X k)
  rdr : ∀ k, k < n → Rdr wr e (.slice (A k) (len k) (C k)) (X k)
  cel : ∀ k, k < n → wr.cell? ⟨B, k, none⟩ = some (.slice (A k) (len k) (C k))
  gro : wr.ownsRow base eL 1 vg i gs
  gfr : ∀ b, vg.ownBlock = some b → w.heap.size ≤ b
  row : ∀ k, k < i → ∃ h c Y, gs[k]? = some (.slice (some ⟨h, 0, none⟩) (len k + 12) c) ∧ wr.ownsRow base e size (.slice (some ⟨h, 0, none⟩) (len k + 12) c) (len k + 12) Y ∧
    (∀ j, j < 12 → Y[(len k + j) * size + fld]? = some (.int .i64 ((1000000 + off n + 12 * k + j : Nat) : Int))) ∧ ∀ k', i ≤ k' → k' < n → ∀ a, A k' = some a → a.block ≠ h
  bel : Below base w wr
  hB : B < w.heap.size
  oth : ∀ q, q < w.heap.size → (∀ k, k < n → ∀ a, A k = some a → a.block ≠ q) → wr.heap[q]? = w.heap[q]?
/-- Row i, grown by j. -/
structure P3 (wr : World) (base : Nat) (e : TypeId) (size fld : Nat) (A : Option Addr) (c m : Nat) (xs : List Value) (from_ j : Nat) (vq : Value) (Z : List Value) (wq : World) : Prop where
  own : wq.ownsRow base e size vq (m + j) (xs ++ Z)
  mks : ∀ t, t < j → Z[t * size + fld]? = some (.int .i64 ((1000000 + from_ + t : Nat) : Int))
  gb : wr.grownBy wq (Value.slice A m c).ownBlock
  blk : vq.ownBlock = (Value.slice A m c).ownBlock ∨ ∃ h, vq.ownBlock = some h ∧ wr.heap.size ≤ h
  old : Rdr wq e (.slice A m c) xs
  alt : ∀ b, (Value.slice A m c).ownBlock = some b → b < wr.heap.size
theorem P3.start {wr : World} {base : Nat} {e : TypeId} {size fld : Nat} {A : Option Addr} {c m : Nat} {xs : List Value} {from_ : Nat} (h : wr.ownsRow base e size (.slice A m c) m xs) : P3 wr base e size fld A c m xs from_ 0 (.slice A m c) [] wr :=
  ⟨by simpa using h, fun t ht => by omega, ⟨rfl, rfl, rfl, Nat.le_refl _, fun _ _ _ => rfl⟩, .inl rfl, rdr_own h, fun b hb => (rw_block h hb).2.1⟩
theorem P3.step {wr : World} {base : Nat} {e : TypeId} {size fld : Nat} {A : Option Addr} {c m : Nat} {xs : List Value} {from_ j : Nat} {vq : Value} {Z : List Value} {wq w6 : World} {o : Obj} {g6 cap6 : Nat} {news : List Value} (h : P3 wr base e size fld A c m xs from_ j vq Z wq) (hlx : xs.length = m * size)
    (hown : w6.ownsRow base e size (.slice (some ⟨g6, 0, none⟩) (m + j + 1) cap6) (m + j + 1) (xs ++ Z ++ news)) (hg : (wq.alloc o).grownBy w6 vq.ownBlock) (hd : vq.ownBlock = some g6 ∨ (g6 = (wq.alloc o).heap.size ∧ (wq.alloc o).grownBy w6 none))
    (hn : news[fld]? = some (.int .i64 ((1000000 + from_ + j : Nat) : Int))) : P3 wr base e size fld A c m xs from_ (j + 1) (.slice (some ⟨g6, 0, none⟩) (m + j + 1) cap6) (Z ++ news) w6 := by
  have hZ : Z.length = j * size := by
    have := h.own.1
    rw [List.length_append, hlx, Nat.add_mul] at this
    omega
  have hsz := h.gb.size
  have hb6 : ∀ k, k < wq.heap.size → some k ≠ vq.ownBlock → w6.heap[k]? = wq.heap[k]? := fun k hk hne => by
    rw [hg.block k (by rw [World.size_alloc]; omega) hne]
    exact Deep.blk_alloc_lt _ _ _ hk
  refine ⟨by rw [← List.append_assoc]; exact hown, fun t ht => ?_, ⟨hg.os.trans h.gb.os, hg.tape.trans h.gb.tape, hg.output.trans h.gb.output, ?_, fun k hk hne => ?_⟩, ?_, ?_, h.alt⟩
  · by_cases htj : t = j
    · subst htj
      rw [List.getElem?_append_right (by omega), hZ]
      rw [Nat.add_sub_cancel_left]
      exact hn
    · have h1 := h.mks t (by omega)
      have : t * size + fld < Z.length := (List.getElem?_eq_some_iff.1 h1).1
      rw [List.getElem?_append_left this]
      exact h1
  · have := hg.size; rw [World.size_alloc] at this; omega
  · rw [hb6 k (by omega) ?_]
    · exact h.gb.block k hk hne
    · rcases h.blk with h1 | ⟨q, h1, h2⟩
      · rw [h1]; exact hne
      · rw [h1]; intro e; cases e; omega
  · rcases hd with hd | ⟨hd, _⟩
    · have e : (Value.slice (some ⟨g6, 0, none⟩) (m + j + 1) cap6).ownBlock = vq.ownBlock := hd.symm
      rw [e]; exact h.blk
    · exact .inr ⟨g6, rfl, by rw [hd, World.size_alloc]; omega⟩
  · rcases hd with hd | ⟨hd, hg0⟩
    · rcases h.blk with h1 | ⟨q, h1, h2⟩
      · refine rdr_prefix (ys := Z ++ news) (b := 0) (c := 0) (m := 0) (by rw [← List.append_assoc]; exact hown) ?_
        exact hd.symm.trans h1
      · refine h.old.same fun b hb => hb6 b (h.old.lt hb) ?_
        intro e
        rw [h1] at e
        cases e
        have := h.alt _ hb
        omega
    · refine h.old.same fun b hb => ?_
      rw [hg0.block b (by rw [World.size_alloc]; have := h.old.lt hb; omega) (by simp)]
      exact Deep.blk_alloc_lt _ _ _ (h.old.lt hb)

/-- Row i is grown by twelve, and put into the list of the grown. -/
theorem P2.step {w : World} {base : Nat} {e eL : TypeId} {size fld n B : Nat} {A : Nat → Option Addr} {C len off : Nat → Nat} {X : Nat → List Value} {i : Nat} {vg : Value} {gs : List Value} {wr wq w7 : World} {h9 c9 g7 cap7 : Nat} {Z : List Value} {o : Obj}
    (h : P2 w base e eL size fld n B A C len off X i vg gs wr) (hap : RwsAp n B A) (hne : e ≠ eL) (hi : i < n) (hbase : base ≤ wr.heap.size)
    (h3 : P3 wr base e size fld (A i) (C i) (len i) (X i) (off n + 12 * i) 12 (.slice (some ⟨h9, 0, none⟩) (len i + 12) c9) Z wq)
    (hown : w7.ownsRow base eL 1 (.slice (some ⟨g7, 0, none⟩) (i + 1) cap7) (i + 1) (gs ++ [.slice (some ⟨h9, 0, none⟩) (len i + 12) c9])) (hg : (wq.alloc o).grownBy w7 vg.ownBlock) (hd : vg.ownBlock = some g7 ∨ (g7 = (wq.alloc o).heap.size ∧ (wq.alloc o).grownBy w7 none)) :
    P2 w base e eL size fld n B A C len off X (i + 1) (.slice (some ⟨g7, 0, none⟩) (i + 1) cap7) (gs ++ [.slice (some ⟨h9, 0, none⟩) (len i + 12) c9]) w7 := by
  have hs1 := h3.gb.size
  have hs2 := hg.size
  rw [World.size_alloc] at hs2
  have hgl : gs.length = i := by have := h.gro.1; omega
  -- the list of the grown, behind the growth of row i
  have hgq : wq.ownsRow base eL 1 vg i gs := by
    refine rw_same h.gro fun b hb => h3.gb.block b (rw_block h.gro hb).2.1 ?_
    intro e'
    exact (h.rdr i hi).ne h.gro hne e'.symm hb.symm
  have st : ∀ b, b < wr.heap.size → some b ≠ (Value.slice (A i) (len i) (C i)).ownBlock → some b ≠ vg.ownBlock → w7.heap[b]? = wr.heap[b]? := fun b hb h1 h2 => by
    rw [hg.block b (by rw [World.size_alloc]; omega) h2, Deep.blk_alloc_lt _ _ _ (by omega)]
    exact h3.gb.block b hb h1
  have st2 : ∀ b, b < wq.heap.size → some b ≠ vg.ownBlock → w7.heap[b]? = wq.heap[b]? := fun b hb h2 => by
    rw [hg.block b (by rw [World.size_alloc]; omega) h2, Deep.blk_alloc_lt _ _ _ hb]
  have apart : ∀ k, k < n → k ≠ i → ∀ b, (Value.slice (A k) (len k) (C k)).ownBlock = some b → some b ≠ (Value.slice (A i) (len i) (C i)).ownBlock := fun k hk hki b hb e' => by
    obtain ⟨a, ha, rfl⟩ := own_blk.1 hb
    obtain ⟨a', ha', hb'⟩ := own_blk.1 e'.symm
    exact hap.ap k i hk hi hki a a' ha ha' hb'.symm
  have hX : (X i).length = len i * size := (h.own i (Nat.le_refl _) hi).1
  refine ⟨fun k hk hkn => ?_, fun k hk => ?_, fun k hk => ?_, hown, fun b hb => ?_, fun k hk => ?_, ?_, h.hB, fun q hq hk => ?_⟩
  · exact rw_same (h.own k (by omega) hkn) fun b hb => st b ((h.rdr k hkn).lt hb) (apart k hkn (by omega) b hb) ((h.rdr k hkn).ne h.gro hne hb)
  · by_cases hki : k = i
    · subst hki
      exact h3.old.same fun b hb => st2 b (h3.old.lt hb) (h3.old.ne hgq hne hb)
    · exact (h.rdr k hk).same fun b hb => st b ((h.rdr k hk).lt hb) (apart k hk hki b hb) ((h.rdr k hk).ne h.gro hne hb)
  · have n1 : some B ≠ (Value.slice (A i) (len i) (C i)).ownBlock := by
      intro e'
      obtain ⟨a, ha, hb⟩ := own_blk.1 e'.symm
      exact hap.out i hi a ha hb
    have n2 : some B ≠ vg.ownBlock := fun e' => by have := h.gfr B e'.symm; have := h.hB; omega
    exact (World.cell?_of_block (w := wr) (a := ⟨B, k, none⟩) (st B (by have := h.hB; have := h.bel.size; omega) n1 n2)).trans (h.cel k hk)
  · cases hb
    rcases hd with hd | ⟨hd, _⟩
    · exact h.gfr _ hd
    · have := h.bel.size
      have e9 : g7 = wq.heap.size + 1 := by rw [hd, World.size_alloc]
      show w.heap.size ≤ g7
      omega
  · by_cases hki : k = i
    · subst hki
      refine ⟨h9, c9, X k ++ Z, by rw [List.getElem?_append_right (by omega), hgl]; simp, ?_, fun j hj => ?_, fun k' hk1 hk2 a ha e' => ?_⟩
      · exact rw_same h3.own fun b hb => st2 b (rw_block h3.own hb).2.1 (rw_ne h3.own hgq hne hb)
      · rw [List.getElem?_append_right (by rw [hX, Nat.add_mul]; omega), hX]
        have e1 : (len k + j) * size + fld - len k * size = j * size + fld := by rw [Nat.add_mul]; omega
        rw [e1, h3.mks j hj]
        congr 3
        omega
      · have hb : (Value.slice (A k') (len k') (C k')).ownBlock = some h9 := own_blk.2 ⟨a, ha, e'⟩
        rcases h3.blk with h1 | ⟨q, h1, h2⟩
        · exact apart k' hk2 (by omega) h9 hb h1
        · cases h1
          have h2 : wr.heap.size ≤ h9 := h2
          have := (h.rdr k' hk2).lt hb
          omega
    · obtain ⟨hh, c, Y, h1, h2, h4, h5⟩ := h.row k (by omega)
      refine ⟨hh, c, Y, by rw [List.getElem?_append_left (by omega)]; exact h1, ?_, h4, fun k' hk1 hk2 a ha => h5 k' (by omega) hk2 a ha⟩
      refine rw_same h2 fun b hb => st b (rw_block h2 hb).2.1 ?_ (rw_ne h2 h.gro hne hb)
      cases hb
      intro e'
      obtain ⟨a, ha, hb⟩ := own_blk.1 e'.symm
      exact h5 i (Nat.le_refl _) hi a ha hb
  · have b1 : Below base w wq := h.bel.grown h3.gb hbase (fun k hk => (rw_block (h.own i (Nat.le_refl _) hi) hk).1)
    exact (b1.alloc (by omega) _).grown hg (by rw [World.size_alloc]; omega) (fun k hk => (rw_block h.gro hk).1)
  · rw [st q (by have := h.bel.size; omega) ?_ (fun e' => by have := h.gfr q e'.symm; omega)]
    · exact h.oth q hq hk
    · intro e'
      obtain ⟨a, ha, hb⟩ := own_blk.1 e'.symm
      exact hk i hi a ha hb
end Go.Proofs.YtjmccobblpcbhaaDoor

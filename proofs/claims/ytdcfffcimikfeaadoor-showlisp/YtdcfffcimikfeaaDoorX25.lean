/-
  WrD, WrE, RfD, RsW, RlW, RsdW, PwW.
-/
import Derived.Test.YtdcfffcimikfeaaDoorChecked
import GoSem.PinnedTables
import GoSem.Claim
import GoSem.ClaimJoined
import GoSem.ClaimMapViews
import Derived.JoinedTies
import Derived.KernelRfl
import Derived.Shelf.Unicode.DecodeSlow
import Derived.Laws.RangeAny
import Derived.Shelf.Strings.Builder1
import Derived.Shelf.Small.Utf8
import Derived.Shelf.Small.Bits
import Derived.Shelf.Strings.BuilderF
import Derived.Shelf.Strings.BuilderK
import Derived.Shelf.Strings.BuilderRune
import Derived.Shelf.Utf8.AppendRune
import Derived.Shelf.Strconv.Itoa0
import Derived.Shelf.Strconv.Itoa1
import Derived.Shelf.LaysM
import Derived.Shelf.Strconv.Itoa2
import Derived.Shelf.Strconv.Itoa3
import Derived.Shelf.Strconv.Itoa4
import Derived.Shelf.Strings.Prefix
import Derived.Shelf.Unicode.DecodeAny
import Derived.Shelf.Slices.CompactS
import Derived.Ground.SlsfProg
import Derived.Shelf.SlSortCmp.Insertion
import Derived.Shelf.SlSortCmp.SiftDown1
import Derived.Shelf.SlSortCmp.HeapSort1
import Derived.Shelf.SlSortCmp.Insertion1
import Derived.Shelf.SlSortCmp.Median1
import Derived.Shelf.SlSortCmp.Pivot1
import Derived.Shelf.SlSortCmp.ReverseRange1
import Derived.Shelf.SlSortCmp.PartialInsertion1
import Derived.Shelf.SlSortCmp.PartitionEqual1
import Derived.Shelf.SlSortCmp.Partition1
import Derived.Shelf.SlSortCmp.Pdq1
import Derived.Shelf.SlSortCmp.Whole1
import Derived.Test.YtdcfffcimikfeaaDoorProg
import Derived.WalkKit
import Derived.Deep.DeepFit
import Derived.Lib.OthersKept
import Derived.Lib.RuneCountTail
import Derived.Lib.LaidU8
import Derived.MakeChecks
import Derived.ProofKit
import Derived.OpenShut
import Derived.Deep.DeepHandedRow
import Derived.Lib.MapLaws
import Derived.Sort.Walk0
import Derived.Laws.DeepStrings4
import Derived.Lib.ItoaNum
import Derived.Deep.AppendLies
import Derived.Deep.OwnRows
import Derived.Laws.AppendOwnNone
import Derived.Deep.QuietTactic
import Derived.BigQuiet
import Derived.Deep.RegionWith
import Derived.BigCall
import Derived.Lib.LaidTab
import Derived.Maps.OwnSet
import Derived.StringKeys
import Derived.Deep.Slices
import Derived.Lib.QuietBelow
import Derived.StillTail
import Derived.Laws.OwnMore
import Derived.SizedLaws
import Derived.Lib.Small
import Derived.Lib.Strings
import Derived.Deep.RegionHeld3
import Derived.Laws.ResultCell
import Derived.Deep.Heap
import Derived.Laws.Rows
import Derived.Deep.RegionLaw
import Derived.Laws.IdiomStrings
import Derived.Test.YtdcfffcimikfeaaDoorRows
import Derived.Test.YtdcfffcimikfeaaDoorX01
import Derived.Test.YtdcfffcimikfeaaDoorX02
import Derived.Test.YtdcfffcimikfeaaDoorX03
import Derived.Test.YtdcfffcimikfeaaDoorX04
import Derived.Test.YtdcfffcimikfeaaDoorX05
import Derived.Test.YtdcfffcimikfeaaDoorX06
import Derived.Test.YtdcfffcimikfeaaDoorX07
import Derived.Test.YtdcfffcimikfeaaDoorX08
import Derived.Test.YtdcfffcimikfeaaDoorX09
import Derived.Test.YtdcfffcimikfeaaDoorX10
import Derived.Test.YtdcfffcimikfeaaDoorX11
import Derived.Test.YtdcfffcimikfeaaDoorX12
import Derived.Test.YtdcfffcimikfeaaDoorX13
import Derived.Test.YtdcfffcimikfeaaDoorX14
import Derived.Test.YtdcfffcimikfeaaDoorX15
import Derived.Test.YtdcfffcimikfeaaDoorX16
import Derived.Test.YtdcfffcimikfeaaDoorX17
import Derived.Test.YtdcfffcimikfeaaDoorX18
import Derived.Test.YtdcfffcimikfeaaDoorX19
import Derived.Test.YtdcfffcimikfeaaDoorX20
import Derived.Test.YtdcfffcimikfeaaDoorX21
import Derived.Test.YtdcfffcimikfeaaDoorX22
import Derived.Test.YtdcfffcimikfeaaDoorX23
import Derived.Test.YtdcfffcimikfeaaDoorX24
set_option linter.unusedSimpArgs false
set_option linter.unusedVariables false
namespace Go.Proofs.YtdcfffcimikfeaaDoor
open Go.Lib

/-! ### the nodes that there are -/
theorem nm_empty {s : ByteArray} (h : s.toList.isEmpty = true) : s = ⟨#[]⟩ := by
  rw [toList_data] at h
  apply ByteArray.ext
  apply Array.ext'
  simpa using h
theorem len2 : ∀ {l : List Int}, l.length = 2 → ∃ a b, l = [a, b]
  | [a, b], _ => ⟨a, b, rfl⟩
theorem len3 : ∀ {l : List Int}, l.length = 3 → ∃ a b c, l = [a, b, c]
  | [a, b, c], _ => ⟨a, b, c, rfl⟩
theorem nd_cases {x : Nd} (hf : formB (fillN x) = true) : (x.op = 1 ∧ x.kids = [] ∧ x.name = ⟨#[]⟩) ∨ ((x.op = 2 ∨ x.op = 18) ∧ x.kids = [] ∧ x.n = 0 ∧ nameB x.name = true) ∨
    (x.n = 0 ∧ x.name = ⟨#[]⟩ ∧ (((x.op = 3 ∨ x.op = 4) ∧ ∃ a, x.kids = [a]) ∨ ((5 ≤ x.op ∧ x.op ≤ 16) ∧ ∃ a b, x.kids = [a, b]) ∨ (x.op = 17 ∧ ∃ a b c, x.kids = [a, b, c]))) := by
  obtain ⟨op, n, nm, ks⟩ := x
  unfold formB fitB at hf
  rw [fillN_kids, fillN_n, fillN_name] at hf
  simp only [Bool.and_eq_true, Bool.or_eq_true, decide_eq_true_eq] at hf
  obtain ⟨⟨⟨h1, h2⟩, h3⟩, h4⟩ := hf
  simp only
  by_cases h18 : op = 18
  · subst h18
    have e : (fillN ⟨18, n, nm, ks⟩).op = 2 := by unfold fillN; simp
    rw [e] at h1 h2 h3 h4
    have ea : aritI 2 = 0 := by decide
    rw [ea] at h2
    rw [if_pos rfl] at h4
    have hk : ks = [] := List.length_eq_zero_iff.1 (by omega)
    exact .inr (.inl ⟨.inr rfl, hk, by rcases h3 with h | h; exact h; exact absurd h (by decide), h4⟩)
  · have e : (fillN ⟨op, n, nm, ks⟩).op = op := by unfold fillN; rw [if_neg h18]
    rw [e] at h1 h2 h3 h4
    unfold aritI at h1 h2
    by_cases c1 : op = 1
    · subst c1
      rw [if_pos (.inl rfl)] at h2
      rw [if_neg (by decide)] at h4
      exact .inl ⟨rfl, List.length_eq_zero_iff.1 (by omega), nm_empty h4⟩
    · by_cases c2 : op = 2
      · subst c2
        rw [if_pos (.inr rfl)] at h2
        rw [if_pos rfl] at h4
        exact .inr (.inl ⟨.inl rfl, List.length_eq_zero_iff.1 (by omega), by rcases h3 with h | h; exact h; exact absurd h (by decide), h4⟩)
      · rw [if_neg (by omega)] at h1 h2
        rw [if_neg c2] at h4
        refine .inr (.inr ⟨by rcases h3 with h | h; exact h; exact absurd h c1, nm_empty h4, ?_⟩)
        by_cases c3 : op = 3 ∨ op = 4
        · rw [if_pos c3] at h2
          exact .inl ⟨c3, List.length_eq_one_iff.1 (by omega)⟩
        · rw [if_neg c3] at h1 h2
          by_cases c4 : 5 ≤ op ∧ op ≤ 16
          · rw [if_pos c4] at h2
            exact .inr (.inl ⟨c4, len2 (by omega)⟩)
          · rw [if_neg c4] at h1 h2
            by_cases c5 : op = 17
            · rw [if_pos c5] at h2
              exact .inr (.inr ⟨c5, len3 (by omega)⟩)
            · rw [if_neg c5] at h1; omega

end Go.Proofs.YtdcfffcimikfeaaDoor

set_option linter.unusedSimpArgs false
set_option linter.unusedVariables false
namespace Go.Proofs.YtdcfffcimikfeaaDoor
open Go.Lib

/-- Are there names of holes? Just if there are holes. -/
theorem hls_zero (l : List Nd) : (hlsL l).length = 0 ↔ ∀ x ∈ l, x.op ≠ 18 := by
  constructor
  · intro h x hx h18
    have mono : ∀ (m : List Nd) (acc : List ByteArray), acc.length ≤ (m.foldl addNm acc).length := by
      intro m
      induction m with
      | nil => intro acc; exact Nat.le_refl _
      | cons y m ih =>
        intro acc
        have h1 := ih (addNm acc y)
        have h2 : acc.length ≤ (addNm acc y).length := by
          unfold addNm
          split
          · split <;> simp
          · omega
        simp only [List.foldl_cons]
        omega
    obtain ⟨a, b, rfl⟩ := List.append_of_mem hx
    unfold hlsL at h
    rw [List.foldl_append, List.foldl_cons] at h
    have h1 := mono b (addNm (a.foldl addNm []) x)
    have h2 : ∀ acc : List ByteArray, 0 < (addNm acc x).length := by
      intro acc
      unfold addNm
      rw [if_pos h18]
      split
      · rename_i hany
        cases acc with
        | nil => simp at hany
        | cons z r => simp
      · simp
    have := h2 (a.foldl addNm [])
    omega
  · intro h
    rw [noH_hls h]; rfl
end Go.Proofs.YtdcfffcimikfeaaDoor

set_option linter.unusedSimpArgs false
set_option linter.unusedVariables false
namespace Go.Proofs.YtdcfffcimikfeaaDoor
open Go.RowKit Go.Lib

theorem wrd_cells (k : Nat) (hk : k < 19) : (#[.string ⟨#[]⟩, .string ⟨#[]⟩, .string ⟨#[]⟩, .string ⟨#[110, 101, 103]⟩, .string ⟨#[110, 111, 116]⟩, .string ⟨#[97, 100, 100]⟩, .string ⟨#[115, 117, 98]⟩, .string ⟨#[109, 117, 108]⟩, .string ⟨#[100, 105, 118]⟩, .string ⟨#[114, 101, 109]⟩, .string ⟨#[97, 110, 100]⟩, .string ⟨#[111, 114]⟩, .string ⟨#[120, 111, 114]⟩, .string ⟨#[115, 104, 108]⟩, .string ⟨#[115, 104, 114]⟩, .string ⟨#[101, 113]⟩, .string ⟨#[108, 116]⟩, .string ⟨#[105, 102]⟩, .string ⟨#[]⟩] : Array Value)[k]? = some (.string (wdT k)) := by
  match k, hk with
  | 0, _ | 1, _ | 2, _ | 3, _ | 4, _ | 5, _ | 6, _ | 7, _ | 8, _ | 9, _ | 10, _ | 11, _ | 12, _ | 13, _ | 14, _ | 15, _ | 16, _ | 17, _ | 18, _ => rfl
  | k + 19, h => exact absurd h (by omega)
set_option maxRecDepth 20000 in
set_option maxHeartbeats 2000000 in
theorem refWord_any (k : Nat) (hk : k < 19) (w : World) :
    Calls Tryd.prog 107 #[.int .i64 k] w fun e w' => e = .returned (.string (wdT k)) ∧ Below w.heap.size w w' := by
  have hb : Below w.heap.size w (w.alloc (.cells #[.string ⟨#[]⟩, .string ⟨#[]⟩, .string ⟨#[]⟩, .string ⟨#[110, 101, 103]⟩, .string ⟨#[110, 111, 116]⟩, .string ⟨#[97, 100, 100]⟩, .string ⟨#[115, 117, 98]⟩, .string ⟨#[109, 117, 108]⟩, .string ⟨#[100, 105, 118]⟩, .string ⟨#[114, 101, 109]⟩, .string ⟨#[97, 110, 100]⟩, .string ⟨#[111, 114]⟩, .string ⟨#[120, 111, 114]⟩, .string ⟨#[115, 104, 108]⟩, .string ⟨#[115, 104, 114]⟩, .string ⟨#[101, 113]⟩, .string ⟨#[108, 116]⟩, .string ⟨#[105, 102]⟩, .string ⟨#[]⟩] 9)) := (Below.refl _ _).alloc (Nat.le_refl _) _
  have HB : Hid (_) := hb
  have hc : (w.alloc (.cells #[.string ⟨#[]⟩, .string ⟨#[]⟩, .string ⟨#[]⟩, .string ⟨#[110, 101, 103]⟩, .string ⟨#[110, 111, 116]⟩, .string ⟨#[97, 100, 100]⟩, .string ⟨#[115, 117, 98]⟩, .string ⟨#[109, 117, 108]⟩, .string ⟨#[100, 105, 118]⟩, .string ⟨#[114, 101, 109]⟩, .string ⟨#[97, 110, 100]⟩, .string ⟨#[111, 114]⟩, .string ⟨#[120, 111, 114]⟩, .string ⟨#[115, 104, 108]⟩, .string ⟨#[115, 104, 114]⟩, .string ⟨#[101, 113]⟩, .string ⟨#[108, 116]⟩, .string ⟨#[105, 102]⟩, .string ⟨#[]⟩] 9)).cell? ⟨w.heap.size, k, none⟩ = some (.string (wdT k)) := by
    rw [World.cell?_alloc_at _ _ _ _ rfl]; exact wrd_cells k hk
  clear hb
  go_enter Tryd.func107, Tryd.ntmps107
  go_wp2_with fail
  go_ret
  exact ⟨rfl, HB.out⟩
end Go.Proofs.YtdcfffcimikfeaaDoor

namespace Go.Proofs.YtdcfffcimikfeaaDoor
open Go.RowKit Go.Lib

end Go.Proofs.YtdcfffcimikfeaaDoor

namespace Go.Proofs.YtdcfffcimikfeaaDoor
open Go.RowKit Go.Lib

end Go.Proofs.YtdcfffcimikfeaaDoor

set_option linter.unusedSimpArgs false
set_option linter.unusedVariables false
namespace Go.Proofs.YtdcfffcimikfeaaDoor
open Go.RowKit Go.Lib Go.Sort

/-- While the parts are gathered. -/
structure RsMid (w : World) (cs : Array Value) (v : Value) (k : Nat) (ts : List ByteArray) (wr : World) : Prop where
  row : wr.ownsRow (w.heap.size + 1) 9 1 v k (ts.map Value.string)
  blk : wr.heap[w.heap.size]? = some (.cells cs 62 (0, 0))
  below : Below w.heap.size w wr
theorem RsMid.up {w : World} {cs : Array Value} {v : Value} {k : Nat} {ts : List ByteArray} {wr w2 : World} (h : RsMid w cs v k ts wr) (hb : Below wr.heap.size wr w2) : RsMid w cs v k ts w2 :=
  ⟨ownsRow_below h.row hb, (hb.block _ (lt_of_block h.blk)).trans h.blk, h.below.trans (hb.mono h.below.size)⟩
theorem RsMid.app {w : World} {cs : Array Value} {v : Value} {k : Nat} {ts : List ByteArray} {w2 w6 : World} {o : Obj} {g cap : Nat} {s : ByteArray} (h : RsMid w cs v k ts w2)
    (hown : w6.ownsRow (w.heap.size + 1) 9 1 (.slice (some ⟨g, 0, none⟩) (k + 1) cap) (k + 1) (ts.map Value.string ++ [.string s])) (hg : (w2.alloc o).grownBy w6 v.ownBlock) : RsMid w cs (.slice (some ⟨g, 0, none⟩) (k + 1) cap) (k + 1) (ts ++ [s]) w6 := by
  have hs := lt_of_block h.blk
  have hz : (w2.alloc o).heap.size = w2.heap.size + 1 := by simp
  have hne : some w.heap.size ≠ v.ownBlock := fun e => by have := (own_block' h.row _ e.symm).1; omega
  refine ⟨by rw [List.map_append]; exact hown, ?_, (h.below.alloc (by omega) _).grown hg (by omega) (fun j hj => by have := (own_block' h.row j hj).1; omega)⟩
  exact ((hg.block _ (by omega) hne).trans (alloc_old w2 o _ (by omega))).trans h.blk

end Go.Proofs.YtdcfffcimikfeaaDoor

set_option linter.unusedSimpArgs false
set_option linter.unusedVariables false
namespace Go.Proofs.YtdcfffcimikfeaaDoor
open Go.RowKit Go.Lib

structure RlMid (w : World) (cs : Array Value) (wr : World) : Prop where
  blk : wr.heap[w.heap.size]? = some (.cells cs 62 (0, 0))
  below : Below w.heap.size w wr
theorem RlMid.up {w : World} {cs : Array Value} {wr w2 : World} (h : RlMid w cs wr) (hb : Below wr.heap.size wr w2) : RlMid w cs w2 :=
  ⟨(hb.block _ (lt_of_block h.blk)).trans h.blk, h.below.trans (hb.mono h.below.size)⟩
end Go.Proofs.YtdcfffcimikfeaaDoor

set_option linter.unusedSimpArgs false
set_option linter.unusedVariables false

namespace Go.Proofs.YtdcfffcimikfeaaDoor
open Go.RowKit Go.Lib

/-- Between two nodes of the copy. -/
structure RdMid (w : World) (l : List Nd) (v : Value) (k : Nat) (wr : World) : Prop where
  p : ∃ p, p.map (·.1) = (l.take k).map fillN ++ l.drop k ∧ OwnP wr w.heap.size v p
  below : Below w.heap.size w wr
theorem RdMid.at_ {w : World} {l : List Nd} {v : Value} {k : Nat} {wr : World} (h : RdMid w l v k wr) (hk : k < l.length) : ∃ g cap, v = .slice (some ⟨g, 0, none⟩) l.length cap ∧ w.heap.size ≤ g ∧ g < wr.heap.size ∧ l.length ≤ cap ∧ cap ≤ maxLen ∧ wr.cell? ⟨g, k * 4, none⟩ = some (.int .i64 (l.getD k nd0).op) ∧ wr.frozen? ⟨g, k * 4, none⟩ = false := by
  obtain ⟨⟨p, hp, hc⟩, hb⟩ := h
  have hpl : p.length = l.length := by have := congrArg List.length hp; simp at this; omega
  rcases hc.row.2 with ⟨rfl, h0⟩ | ⟨g, cap, cur, rfl, hg0, hg, h1, h2, h3, h4⟩
  · omega
  · refine ⟨g, cap, by rw [hpl], hg0, lt_of_block hg, by omega, h2, ?_, frozen_of_heap hg _⟩
    have hp2 : p[k]? = some (p[k].1, p[k].2) := by simp [hpl, hk]
    have := (ndCells_at p k _ _ hp2).1
    have hx : ((l.take k).map fillN ++ l.drop k)[k]? = some l[k] := by
      rw [List.getElem?_append_right (by simp; omega)]
      have : k - ((l.take k).map fillN).length = 0 := by simp; omega
      rw [this]; simp [hk]
    have hkp : k < p.length := by omega
    have e : p[k].1 = l.getD k nd0 := by
      have h5 : (p.map (·.1))[k]? = some l[k] := by rw [hp]; exact hx
      simp [hkp] at h5
      simp [hk, h5]
    rw [cell_of_heap hg, ← Array.getElem?_toList, ← e, ← this, ← h4, List.getElem?_take, if_pos (by omega)]
theorem RdMid.skip {w : World} {l : List Nd} {v : Value} {k : Nat} {wr : World} (h : RdMid w l v k wr) (hk : k < l.length) (hop : (l.getD k nd0).op ≠ 18) : RdMid w l v (k + 1) wr := by
  obtain ⟨⟨p, hp, hc⟩, hb⟩ := h
  exact ⟨⟨p, by rw [fill_step hk hop]; exact hp, hc⟩, hb⟩
theorem RdMid.fill {w : World} {l : List Nd} {g cap k : Nat} {wr : World} (h : RdMid w l (.slice (some ⟨g, 0, none⟩) l.length cap) k wr) (hk : k < l.length) (hop : (l.getD k nd0).op = 18) : RdMid w l (.slice (some ⟨g, 0, none⟩) l.length cap) (k + 1) (wr.setCell ⟨g, k * 4, none⟩ (.int .i64 2)) := by
  obtain ⟨g', cap', e1, hg0, _⟩ := h.at_ hk
  cases e1
  obtain ⟨⟨p, hp, hc⟩, hb⟩ := h
  have hpl : p.length = l.length := by have := congrArg List.length hp; simp at this; omega
  have e : l.getD k nd0 = l[k] := by simp [hk]
  have hx : ((l.take k).map fillN ++ l.drop k)[k]? = some l[k] := by
    rw [List.getElem?_append_right (by simp; omega)]
    have : k - ((l.take k).map fillN).length = 0 := by simp; omega
    rw [this]; simp [hk]
  have hpk : p[k]? = some (l[k], (p.getD k (nd0, .slice none 0 0)).2) := by
    have hkp : k < p.length := by omega
    have : (p.map (·.1))[k]? = some l[k] := by rw [hp]; exact hx
    simp [hkp] at this
    simp [hkp, ← this]
  have hfl : fillN l[k] = { l[k] with op := 2 } := by rw [e] at hop; simp [fillN, hop]
  have hrow : wr.ownsRow w.heap.size 62 4 (.slice (some ⟨g, 0, none⟩) l.length cap) l.length (ndCells p) := by have := hc.row; rwa [hpl] at this
  refine ⟨⟨p.set k ({ l[k] with op := 2 }, (p.getD k (nd0, .slice none 0 0)).2), ?_, ?_, ?_⟩, hb.setCell (p := ⟨g, k * 4, none⟩) hg0 _⟩
  · rw [List.map_set, hp, ← hfl]
    rw [List.take_succ_eq_append_getElem hk, List.map_append, List.set_append_right _ _ (by simp; omega)]
    have : k - ((l.take k).map fillN).length = 0 := by simp; omega
    rw [this, List.drop_eq_getElem_cons hk, List.set_cons_zero, List.append_assoc]
    rfl
  · rw [ndCells_op p k _ _ 2 hpk, List.length_set, hpl]
    exact own_put hrow (by rw [ndCells_length]; omega)
  · intro q hq
    have hin : ∀ q ∈ p, OwnI (wr.setCell ⟨g, k * 4, none⟩ (.int .i64 2)) w.heap.size q.2 q.1.kids := fun q hq => row_set (hc.kids q hq) (fun j hj e => by
      subst e
      rcases ownBlock_ne (hc.kids q hq) hc.row (by decide) with h | h
      · rw [h] at hj; cases hj
      · exact h hj) _ _
    rcases List.mem_or_eq_of_mem_set hq with hq | rfl
    · exact hin q hq
    · exact hin (l[k], _) (List.mem_of_getElem? hpk)

set_option maxRecDepth 20000 in
set_option maxHeartbeats 4000000 in
theorem refSound_any {w : World} {ao : Option Addr} {cap : Nat} {l : List Nd} (hN : Rd w ao cap l) (hF : Fit l) :
    Calls Tryd.prog 51 #[.slice ao l.length cap] w fun e w' => e = .returned (.bool (okSh l)) ∧ Below w.heap.size w w' := by
  obtain ⟨hb1, hb2⟩ := hN.bound
  unfold maxLen at hb2
  have cC := copy_any _ l w _ (Nat.le_refl _) hN hF.len hF.kids
  have HN : Hid (Rd w ao cap l) := hN
  have HF : Hid (Fit l) := hF
  obtain ⟨R, hR⟩ : ∃ R, okSh l = R := ⟨_, rfl⟩
  have HR : Hid (R = (sndB (l.map fillN) && (decide ((hlsL l).length = 0) || (decide ((hlsL l).length ≤ 6) && decide (l.length ≤ 16))))) := by show R = _; rw [← hR]; exact ok_ref l
  rw [hR]
  have hhl := hlsL_len l
  clear hN hF hR
  go_enter Tryd.func51, Tryd.ntmps51
  go_wp2_with (go_at_call 11; refine cC.mono ?_; rintro e w1 ⟨v, rfl, ⟨p, hp, hO⟩, hb1'⟩)
  have cH := refHoles_any (HN.out.below hb1' hb1'.size) HF.out.len
  have B1 : Hid (Below w.heap.size w w1) := hb1'
  clear cC hb1'
  go_wp2_with (go_at_call 27; refine cH.mono ?_; rintro e w2 ⟨ha, hc, rfl, hb2'⟩)
  have HM0 : Hid (RdMid w l v 0 w2) := ⟨⟨p, by simpa using hp, hO.below hb2'⟩, B1.out.trans (hb2'.mono B1.out.size)⟩
  obtain ⟨va, vc, hv⟩ := row_form' hO.row
  have hpl : p.length = l.length := by rw [← hp]; simp
  rw [hpl] at hv
  subst hv
  have hvc : l.length ≤ vc ∧ vc ≤ maxLen := by
    rcases hO.row.2 with ⟨e, h0⟩ | ⟨g, c, cur, e, _, _, hn, hm, _⟩
    · simp only [Value.slice.injEq] at e; exact ⟨by omega, by rw [e.2.2]; exact Nat.zero_le _⟩
    · simp only [Value.slice.injEq] at e; exact ⟨by omega, by rw [e.2.2]; exact hm⟩
  obtain ⟨hv1, hv2⟩ := hvc
  unfold maxLen at hv2
  clear cH hb2' hp hO hpl
  go_loopw [5] (fun q wr => ∃ k : Nat, k ≤ l.length ∧ q = .int .i64 k ∧ RdMid w l (.slice va l.length vc) k wr) (fun q _ => l.length - (RowKit.intOf q).toNat)
  case atStart => exact ⟨0, by omega, rfl, HM0.out⟩
  case round =>
    obtain ⟨k, hk, rfl, hM⟩ := hrel
    by_cases hlt : k < l.length
    · obtain ⟨g, cp, e, hg0, hgl, hg1, hg2, hcl, hfz⟩ := hM.at_ hlt
      cases e
      by_cases hop : (l.getD k nd0).op = 18
      · have HFI : Hid (RdMid w l (.slice (some ⟨g, 0, none⟩) l.length vc) (k + 1) (wr.setCell ⟨g, k * 4, none⟩ (.int .i64 2))) := hM.fill hlt hop
        rw [hop] at hcl
        clear hM hop
        go_wp2_with fail
        exact ⟨⟨k + 1, by omega, by go_num, HFI.out⟩, by simp [RowKit.intOf]; omega⟩
      · have HFI : Hid (RdMid w l (.slice (some ⟨g, 0, none⟩) l.length vc) (k + 1) wr) := hM.skip hlt hop
        have g18 : ((l.getD k nd0).op == 18) = false := by rw [beq_eq_false_iff_ne]; exact hop
        generalize (l.getD k nd0).op = oo at *
        clear hM hop
        go_wp2_with fail
        exact ⟨⟨k + 1, by omega, by go_num, HFI.out⟩, by simp [RowKit.intOf]; omega⟩
    · have hke : k = l.length := by omega
      subst hke
      obtain ⟨⟨p, hp, hO⟩, hbw⟩ := hM
      rw [List.take_length, List.drop_length, List.append_nil] at hp
      have hNd := Nodes_of_ownP hO (Nat.le_refl _)
      rw [hp] at hNd
      have cK := refCheck_any (.slice va l.length vc) (l.map fillN) wr wr.heap.size (Nat.le_refl _) hNd (fun x hx => by
        obtain ⟨y, hy, rfl⟩ := List.mem_map.1 hx
        rw [fillN_name]; exact HF.out.name y hy)
      have HBW : Hid (Below w.heap.size w wr) := hbw
      unfold chkE at cK
      clear hp hO hNd hbw
      generalize (hlsL l).length = nh at *
      generalize sndB (l.map fillN) = sb at *
      cases sb
      · rw [if_neg (by decide)] at cK
        have HR2 : Hid (R = false) := by show R = _; rw [HR.out]; rfl
        clear HR
        go_wp2_with (go_at_call 12; refine cK.mono ?_; rintro e w6 ⟨rfl, hb6⟩)
        go_ret
        exact ⟨by rw [HR2.out] <;> rfl, HBW.out.trans (hb6.mono HBW.out.size)⟩
      · rw [if_pos rfl] at cK
        by_cases h0 : nh = 0
        · have HR2 : Hid (R = true) := by show R = _; rw [HR.out]; simp [h0]
          have g0 : ((nh : Int) == 0) = true := by rw [beq_iff_eq]; omega
          clear HR h0
          go_wp2_with (go_at_call 12; refine cK.mono ?_; rintro e w6 ⟨rfl, hb6⟩)
          go_ret
          exact ⟨by rw [HR2.out] <;> rfl, HBW.out.trans (hb6.mono HBW.out.size)⟩
        · have g0 : ((nh : Int) == 0) = false := by rw [beq_eq_false_iff_ne]; omega
          by_cases h6 : nh ≤ 6
          · have g6 : (nh : Int) ≤ 6 := by omega
            by_cases h16 : l.length ≤ 16
            · have g16 : (l.length : Int) ≤ 16 := by omega
              have HR2 : Hid (R = true) := by show R = _; rw [HR.out]; simp [h0, h6, h16]
              clear HR h0 h6 h16
              go_wp2_with (go_at_call 12; refine cK.mono ?_; rintro e w6 ⟨rfl, hb6⟩)
              go_ret
              exact ⟨by rw [HR2.out] <;> rfl, HBW.out.trans (hb6.mono HBW.out.size)⟩
            · have g16 : ¬ (l.length : Int) ≤ 16 := by omega
              have HR2 : Hid (R = decide ((l.length : Int) ≤ 16)) := by show R = _; rw [HR.out, decide_eq_false g16]; simp [h0, h6, h16]
              clear HR h0 h6 h16
              go_wp2_with (go_at_call 12; refine cK.mono ?_; rintro e w6 ⟨rfl, hb6⟩)
              go_ret
              exact ⟨by rw [HR2.out] <;> rfl, HBW.out.trans (hb6.mono HBW.out.size)⟩
          · have g6 : ¬ (nh : Int) ≤ 6 := by omega
            have HR2 : Hid (R = false) := by show R = _; rw [HR.out]; simp [h0, h6]
            clear HR h0 h6
            go_wp2_with (go_at_call 12; refine cK.mono ?_; rintro e w6 ⟨rfl, hb6⟩)
            go_ret
            exact ⟨by rw [HR2.out] <;> rfl, HBW.out.trans (hb6.mono HBW.out.size)⟩
end Go.Proofs.YtdcfffcimikfeaaDoor

set_option linter.unusedSimpArgs false
set_option linter.unusedVariables false
namespace Go.Proofs.YtdcfffcimikfeaaDoor
open Go.RowKit Go.Lib

structure SldW (p : Prop) : Prop where
  out : p
theorem FitX.fit5W {l : List Nd} (h : FitX l) : Fit5 l := ⟨h.name, fun x hx => bounds_i64 (h.num x hx)⟩
end Go.Proofs.YtdcfffcimikfeaaDoor

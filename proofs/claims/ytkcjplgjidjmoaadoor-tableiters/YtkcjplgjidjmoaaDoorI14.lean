/-
  TbE3, NmPure, TbL2, RgM, TbJ.
-/
import Derived.Test.YtkcjplgjidjmoaaDoorChecked
import GoSem.PinnedTables
import GoSem.Claim
import GoSem.ClaimJoined
import GoSem.ClaimMapViews
import Derived.JoinedTies
import Derived.KernelRfl
import Derived.Shelf.Unicode.DecodeSlow
import Derived.Laws.RangeAny
import Derived.Shelf.Small.Bits
import Derived.Shelf.Strconv.Itoa0
import Derived.Shelf.LaysM
import Derived.Shelf.Strconv.Clone
import Derived.Shelf.Unicode.DecodeAny
import Derived.Shelf.Slices.CompactS
import Derived.Ground.SlsfProg
import Derived.Shelf.SlSortCmp.Insertion
import Derived.Shelf.SlSortCmp.SiftDown1
import Derived.Shelf.SlSortCmp.HeapSort1
import Derived.Shelf.SlSortCmp.Insertion1
import Derived.Shelf.SlSortCmp.Median1
import Derived.Shelf.SlSortCmp.Pivot1
import Derived.Shelf.SlSortCmp.ReverseRange1
import Derived.Shelf.SlSortCmp.PartialInsertion1
import Derived.Shelf.SlSortCmp.PartitionEqual1
import Derived.Shelf.SlSortCmp.Partition1
import Derived.Shelf.SlSortCmp.Pdq1
import Derived.Shelf.SlSortCmp.Whole1
import Derived.Test.YtkcjplgjidjmoaaDoorProg
import Derived.WalkKit
import Derived.Deep.DeepFit
import Derived.Lib.OthersKept
import Derived.Lib.RuneCountTail
import Derived.Lib.LaidU8
import Derived.MakeChecks
import Derived.ProofKit
import Derived.OpenShut
import Derived.Deep.DeepHandedRow
import Derived.Deep.AppendLies
import Derived.Deep.OwnRows
import Derived.Laws.AppendOwnNone
import Derived.Deep.QuietTactic
import Derived.BigQuiet
import Derived.Deep.RegionWith
import Derived.Laws.DeepStrings4
import Derived.Deep.Slices
import Derived.SizedLaws
import Derived.Below
import Derived.Maps.OwnSet
import Derived.Maps.Keyed
import Derived.DeepKeys4
import Derived.Lib.QuietBelow
import Derived.StillTail
import Derived.Deep.RegionHeld3
import Derived.Laws.ResultCell
import Derived.Laws.CopyOwn
import Derived.RangeFuncNested
import Derived.RangeFuncBound
import Derived.RangeFuncCalls
import Derived.RangeFuncLeaves
import Derived.RangeFuncBox
import Derived.Shelf.Abstract
import Derived.Shelf.RegionOpen
import Derived.OwnWalkIn
import Derived.TacticsInMore
import Derived.LoopNIn
import Derived.LoopIn
import Derived.Laws.OwnMore
import Derived.Lib.MapLaws
import Derived.Sort.Walk0
import Derived.Test.YtkcjplgjidjmoaaDoorRows
import Derived.Test.YtkcjplgjidjmoaaDoorI01
import Derived.Test.YtkcjplgjidjmoaaDoorI02
import Derived.Test.YtkcjplgjidjmoaaDoorI03
import Derived.Test.YtkcjplgjidjmoaaDoorI04
import Derived.Test.YtkcjplgjidjmoaaDoorI05
import Derived.Test.YtkcjplgjidjmoaaDoorI06
import Derived.Test.YtkcjplgjidjmoaaDoorI07
import Derived.Test.YtkcjplgjidjmoaaDoorI08
import Derived.Test.YtkcjplgjidjmoaaDoorI09
import Derived.Test.YtkcjplgjidjmoaaDoorI10
import Derived.Test.YtkcjplgjidjmoaaDoorI11
import Derived.Test.YtkcjplgjidjmoaaDoorI12
import Derived.Test.YtkcjplgjidjmoaaDoorI13
set_option linter.unusedSimpArgs false
set_option linter.unusedVariables false
namespace Go.Proofs.YtkcjplgjidjmoaaDoor
open Go.RowKit Go.Lib Go.Sort Go.Maps

/-- What is written behind a list: in wr, since w; kids in rows from z on. -/
def WEx (w : World) (z base : Nat) (v : Value) (q : List (Nd × Value)) (ms : List Nd) (x : Value) (wr : World) : Prop :=
  ∃ p' : List (Nd × Value), OwnP wr base x (q ++ p') ∧ p'.map (·.1) = ms ∧ (∀ y ∈ p', OwnI wr z y.2 y.1.kids) ∧ w.grownBy wr v.ownBlock ∧ (x.ownBlock = v.ownBlock ∨ ∀ g, x.ownBlock = some g → z ≤ g) ∧ Below base w wr ∧ KdAp p'
theorem WEx.start {w w1 : World} {base : Nat} {v : Value} {q : List (Nd × Value)} (h : OwnP w base v q) (hb : Below w.heap.size w w1) (hs : base ≤ w.heap.size) : WEx w w1.heap.size base v q [] v w1 :=
  ⟨[], by simpa using h.below hb, rfl, by simp, grown_of_below hb _, .inl rfl, hb.mono hs, List.Pairwise.nil⟩
theorem WEx.call {w wr w2 : World} {z base : Nat} {v x x2 : Value} {q p' : List (Nd × Value)} {ms ms2 : List Nd} (h0 : OwnP wr base x (q ++ p')) (h1 : p'.map (·.1) = ms) (h2 : ∀ y ∈ p', OwnI wr z y.2 y.1.kids) (h3 : w.grownBy wr v.ownBlock) (h4 : x.ownBlock = v.ownBlock ∨ ∀ g, x.ownBlock = some g → z ≤ g) (h5 : Below base w wr) (h6 : KdAp p')
    (hz : w.heap.size ≤ z) (hzr : z ≤ wr.heap.size) (hc : WEx wr wr.heap.size base x (q ++ p') ms2 x2 w2) : WEx w z base v q (ms ++ ms2) x2 w2 := by
  obtain ⟨p2, g0, g1, g2, g3, g4, g5, g6⟩ := hc
  have hkeep : ∀ y ∈ p', OwnI w2 z y.2 y.1.kids := fun y hy => World.ownsRow.kept (h2 y hy) g3 (ownBlock_ne (h2 y hy) h0.row (by decide))
  refine ⟨p' ++ p2, by rw [← List.append_assoc]; exact g0, by rw [List.map_append, h1, g1], fun y hy => ?_, ⟨g3.os.trans h3.os, g3.tape.trans h3.tape, g3.output.trans h3.output, Nat.le_trans h3.size g3.size, fun k hk1 hk2 => ?_⟩, ?_, h5.trans g5, ?_⟩
  · rcases List.mem_append.1 hy with hy | hy
    · exact hkeep y hy
    · exact ownsRow_mono (g2 y hy) hzr
  · rw [g3.block k (Nat.lt_of_lt_of_le hk1 h3.size) (fun e => by
      rcases h4 with h4 | h4
      · rw [h4] at e; exact hk2 e
      · have := h4 k e.symm; omega)]
    exact h3.block k hk1 hk2
  · rcases g4 with g4 | g4
    · rw [g4]; exact h4
    · exact .inr fun g hg => by have := g4 g hg; omega
  · unfold KdAp
    rw [List.pairwise_append]
    refine ⟨h6, g6, fun a ha b hb g hg hg2 => ?_⟩
    have e1 := (rw_block (h2 a ha) hg).2.1
    have e2 := (rw_block (g2 b hb) hg2).1
    omega
/-- A cell of a row of numbers is set that is none of these. -/
theorem WEx.set {w wr : World} {z base kb o : Nat} {v x u : Value} {q : List (Nd × Value)} {ms : List Nd} (h : WEx w z base v q ms x wr) (hq : ∀ y ∈ q, ∀ g, y.2.ownBlock = some g → g < w.heap.size) (hk1 : w.heap.size ≤ kb) (hk2 : kb < z) (hb : base ≤ kb) {cur : Array Value} {f : Nat × Nat} (hkb : wr.heap[kb]? = some (.cells cur 3 f)) : WEx w z base v q ms x (wr.setCell ⟨kb, o, none⟩ u) := by
  obtain ⟨p', g0, g1, g2, g3, g4, g5, g6⟩ := h
  have hoth : ∀ k, k ≠ kb → (wr.setCell ⟨kb, o, none⟩ u).heap[k]? = wr.heap[k]? := fun k hk => Deep.blk_setCell_other _ _ _ _ hk
  have hb1 := g5.setCell (p := ⟨kb, o, none⟩) hb u
  refine ⟨p', ⟨rw_same g0.row (fun b hb' => hoth b (fun e => ?_)), fun y hy => ?_⟩, g1, fun y hy => rw_same (g2 y hy) (fun b hb' => hoth b (fun e => by have := (rw_block (g2 y hy) hb').1; omega)), ⟨hb1.os, hb1.tape, hb1.output, hb1.size, fun k h1 h2 => (hoth k (by omega)).trans (g3.block k h1 h2)⟩, g4, hb1, g6⟩
  · subst e
    obtain ⟨_, _, c, cu, _, h3, _⟩ := rw_block g0.row hb'
    rw [h3] at hkb
    simp at hkb
  · refine rw_same (g0.kids y hy) (fun b hb' => hoth b (fun e => ?_))
    subst e
    rcases List.mem_append.1 hy with hy | hy
    · have := hq y hy b hb'; omega
    · have := (rw_block (g2 y hy) hb').1; omega
/-- A table stays through what is written. -/
theorem TbM.grown {w w' : World} {p : Nat} {ev mv : Value} {L : List Nd} (h : TbM w p ev mv L) {base : Nat} {v : Value} {q : List (Nd × Value)} (ho : OwnP w base v q) (hg : w.grownBy w' v.ownBlock) : TbM w' p ev mv L := h.same fun b hb hs => hg.block b hb (fun e => by
  obtain ⟨_, _, c, cu, _, h3, _⟩ := rw_block ho.row e.symm
  exact h.typed h3 (by decide) (by decide) hs)
end Go.Proofs.YtkcjplgjidjmoaaDoor

namespace Go.Proofs.YtkcjplgjidjmoaaDoor
open Go.RowKit Go.Lib Go.Sort Go.Maps

end Go.Proofs.YtkcjplgjidjmoaaDoor

namespace Go.Proofs.YtkcjplgjidjmoaaDoor
open Go.RowKit Go.Lib Go.Sort Go.Maps

theorem ExO.of {w w' : World} {v : Value} {l : List Nd} (h : WEx w w.heap.size w.heap.size (.slice none 0 0) [] (l.map (mvN 0 ((([] : List (Nd × Value)).length : Nat) : Int))) v w') : ExO w v l w' := by
  obtain ⟨p', g0, g1, g2, g3, g4, g5, g6⟩ := h
  refine ⟨⟨p', ?_, by simpa using g0, g6⟩, g5⟩
  rw [g1]
  exact map_mvN_zero 0 l
end Go.Proofs.YtkcjplgjidjmoaaDoor

set_option linter.unusedSimpArgs false
set_option linter.unusedVariables false
namespace Go.Proofs.YtkcjplgjidjmoaaDoor
open Go.Lib

/-! ### names -/
theorem nmF_chk (s : ByteArray) : ∀ (f pos n : Nat), nmF s f pos n = true → (chkF s f pos).2 = 0
  | 0, pos, n, h => rfl
  | f + 1, pos, n, h => by
    by_cases hp : pos < s.size
    · rw [nmF_step s f pos n hp] at h
      unfold nmS at h
      split at h
      · simp at h
      · rename_i hk
        have ho : onB (Utf8.decode s pos).1 = true := by
          cases hq : onB (Utf8.decode s pos).1 with
          | true => rfl
          | false => simp [hq] at hk
        rw [chkF_good s f pos hp (good_of_on s pos ho)]
        exact nmF_chk s f _ _ h
    · rw [chkF_end s _ pos hp]
theorem name_chk (s : ByteArray) (h : nameB s = true) : (chk s).2 = 0 := nmF_chk s _ _ _ h
theorem empty_chk (s : ByteArray) (h : s.toList.isEmpty = true) : (chk s).2 = 0 := by
  rw [toList_data] at h
  have hz : s.size = 0 := by
    have : s.data.toList = [] := by simpa using h
    show s.data.size = 0
    rw [← Array.length_toList, this]; rfl
  unfold chk
  rw [chkF_end s _ 0 (by omega)]

theorem nmF_size (s : ByteArray) : ∀ (f pos n : Nat), s.size ≤ pos + f → nmF s f pos n = true → s.size ≤ pos + 4 * (16 - n)
  | 0, pos, n, hf, h => by omega
  | f + 1, pos, n, hf, h => by
    by_cases hp : pos < s.size
    · have hw := width_pos s pos hp
      have hw4 : (Utf8.decode s pos).2 ≤ 4 := by
        rw [decode_at s pos]; exact (decodeN_width _ _ _ _ _).2
      have hn : n < 16 := by
        by_cases hn : 16 ≤ n
        · exfalso
          rw [nmF_step s f pos n hp] at h
          unfold nmS at h
          split at h
          · simp at h
          · rw [nmF_long s f _ (n + 1) (by omega)] at h; simp at h
        · omega
      rw [nmF_step s f pos n hp] at h
      unfold nmS at h
      split at h
      · simp at h
      · have := nmF_size s f _ _ (by omega) h
        omega
    · omega
theorem name_size (s : ByteArray) (h : nameB s = true) : s.size ≤ 64 := by
  have := nmF_size s s.size 0 0 (by omega) h
  omega

theorem form_name {x : Nd} (h : formB x = true) : (chk x.name).2 = 0 ∧ x.name.size ≤ 64 := by
  unfold formB fitB at h
  simp only [Bool.and_eq_true] at h
  obtain ⟨_, h⟩ := h
  split at h
  · exact ⟨name_chk _ h, name_size _ h⟩
  · refine ⟨empty_chk _ h, ?_⟩
    rw [toList_data] at h
    have : x.name.data.toList = [] := by simpa using h
    show x.name.data.size ≤ 64
    rw [← Array.length_toList, this]; simp
end Go.Proofs.YtkcjplgjidjmoaaDoor

set_option linter.unusedSimpArgs false
set_option linter.unusedVariables false
namespace Go.Proofs.YtkcjplgjidjmoaaDoor
open Go.RowKit Go.Lib Go.Sort Go.Maps

def aw1 : Nd := ⟨1, 1, ⟨#[]⟩, []⟩
def aw2 : Nd := ⟨3, 0, ⟨#[]⟩, [0]⟩
theorem aw_beg : begL [aw1, aw2] = some [0, 0] := by
  have e : (ByteArray.mk #[]).toList = [] := by unfold ByteArray.toList ByteArray.toList.loop; rfl
  simp [begL, begR, stp, formB, fitB, aritI, chainL, aw1, aw2, e]
theorem aw_add : addR ([], []) [aw1, aw2] = some ([aw1, aw2], [0, 1]) := by
  have h1 : stA ([], []) aw1 = some ([aw1], [0]) := by
    unfold stA
    have e : adN [] aw1 = aw1 := rfl
    simp only [e, ixL_nil]
    simp
  have h2 : stA ([aw1], [0]) aw2 = some ([aw1, aw2], [0, 1]) := by
    unfold stA
    have e : adN [0] aw2 = aw2 := rfl
    have hn : ixL [aw1] aw2 = none := ixL_none.2 (by simp [aw1, aw2])
    simp only [e, hn]
    simp
  show (stA ([], []) aw1).bind (fun s => (stA s aw2).bind fun s => some s) = _
  rw [h1]
  show ((stA ([aw1], [0]) aw2).bind fun s => some s) = _
  rw [h2]
  rfl
theorem aw_own {w w3 : World} {b1 b2 : Nat} (h1 : w3.heap[b1]? = some (.cells #[.int .i64 0] 3 (0, 0))) (h2 : w3.heap[b2]? = some (.cells #[.int .i64 1, .int .i64 1, .string ⟨#[]⟩, .slice none 0 0, .int .i64 3, .int .i64 0, .string ⟨#[]⟩, .slice (some ⟨b1, 0, none⟩) 1 1] 47 (0, 0))) :
    OwnN w3 0 (.slice (some ⟨b2, 0, none⟩) 2 2) [aw1, aw2] := by
  refine ⟨[(aw1, .slice none 0 0), (aw2, .slice (some ⟨b1, 0, none⟩) 1 1)], rfl, ⟨rfl, .inr ⟨b2, 2, _, rfl, Nat.zero_le _, h2, Nat.le_refl 2, by unfold maxLen; omega, rfl, rfl⟩⟩, fun q hq => ?_⟩
  simp at hq
  rcases hq with rfl | rfl
  · exact World.ownsRow_nil _ _ _ _
  · exact ⟨rfl, .inr ⟨b1, 1, _, rfl, Nat.zero_le _, h1, Nat.le_refl 1, by unfold maxLen; omega, rfl, rfl⟩⟩

set_option maxRecDepth 20000 in
set_option maxHeartbeats 4000000 in
theorem awake10_any (w : World) (hT : SpanCells w) : Calls Tryd.prog 22 #[] w fun e w' => e = .returned (.bool true) ∧ Below w.heap.size w w' := by
  obtain ⟨w1, hw1⟩ : ∃ w1, w.alloc (.cells #[.slice none 0 0, .map none] 78) = w1 := ⟨_, rfl⟩
  have HB1 : Sld (Below w.heap.size w w1) := ⟨by rw [← hw1]; exact (Below.refl _ _).alloc (Nat.le_refl _) _⟩
  have hM1 : TbM w1 w.heap.size (.slice none 0 0) (.map none) [] := by rw [← hw1]; exact TbM.fresh w
  obtain ⟨w3, hw3⟩ : ∃ w3, (w1.alloc (.cells #[.int .i64 0] 3)).alloc (.cells #[.int .i64 1, .int .i64 1, .string ⟨#[]⟩, .slice none 0 0, .int .i64 3, .int .i64 0, .string ⟨#[]⟩, .slice (some ⟨w1.heap.size, 0, none⟩) 1 1] 47) = w3 := ⟨_, rfl⟩
  have hB3 : Below w1.heap.size w1 w3 := by rw [← hw3]; exact ((Below.refl _ _).alloc (Nat.le_refl _) _).alloc (by simp) _
  have hb1 : w3.heap[w1.heap.size]? = some (.cells #[.int .i64 0] 3 (0, 0)) := by rw [← hw3, Deep.blk_alloc_lt _ _ _ (by simp), Deep.blk_alloc_new]
  have hb2 : w3.heap[w1.heap.size + 1]? = some (.cells #[.int .i64 1, .int .i64 1, .string ⟨#[]⟩, .slice none 0 0, .int .i64 3, .int .i64 0, .string ⟨#[]⟩, .slice (some ⟨w1.heap.size, 0, none⟩) 1 1] 47 (0, 0)) := by
    rw [← hw3]
    have := Deep.blk_alloc_new (w1.alloc (.cells #[.int .i64 0] 3)) (.cells #[.int .i64 1, .int .i64 1, .string ⟨#[]⟩, .slice none 0 0, .int .i64 3, .int .i64 0, .string ⟨#[]⟩, .slice (some ⟨w1.heap.size, 0, none⟩) 1 1] 47)
    simpa using this
  have HB3 : Sld (Below w.heap.size w w3) := ⟨HB1.out.trans (hB3.mono HB1.out.size)⟩
  have CA : Sld (Calls Tryd.prog 31 #[.pointer (some ⟨w.heap.size, 0, none⟩), .slice (some ⟨w1.heap.size + 1, 0, none⟩) 2 2] w3 fun e w' => e = .returned (.tuple #[.int .i64 1, .int .i64 0]) ∧ ∃ ev' mv', TbT w3 w.heap.size (.slice none 0 0) (.map none) ev' mv' [aw1, aw2] w') := ⟨tAdd_ok w3 w.heap.size _ _ [] [aw1, aw2] [0, 0] 0 _ (hM1.below hB3) (hT.below HB3.out) (aw_own (w := w) hb1 hb2) aw_beg (by
    intro x hx
    simp at hx
    rcases hx with rfl | rfl
    · exact ⟨⟨by show (-9223372036854775808 : Int) ≤ 1; omega, by show (1 : Int) ≤ 9223372036854775807; omega⟩, by unfold aw1; decide⟩
    · exact ⟨⟨by show (-9223372036854775808 : Int) ≤ 0; omega, by show (0 : Int) ≤ 9223372036854775807; omega⟩, by unfold aw2; decide⟩) [aw1, aw2] [0, 1] aw_add⟩
  have HM3 : Sld (TbM w3 w.heap.size (.slice none 0 0) (.map none) []) := ⟨hM1.below hB3⟩
  clear hB3 hb1 hb2 hM1
  go_enter Tryd.func22, Tryd.ntmps22
  go_wp2_with fail
  refine (tnew_any w).mono ?_
  rintro e w2 ⟨rfl, hw2⟩
  rw [hw1] at hw2
  subst hw2
  go_wp2_with fail
  refine CA.out.mono ?_
  rintro e w4 ⟨rfl, ev4, mv4, hT4⟩
  have HL4 : Sld (Calls Tryd.prog 24 #[.pointer (some ⟨w.heap.size, 0, none⟩)] w4 fun e w' => e = .returned (.int .i64 2) ∧ w' = w4) := ⟨tlen_any w4 _ _ _ _ hT4.tb⟩
  have HB4 : Sld (Below w.heap.size w w4) := ⟨HB3.out.trans (hT4.below HM3.out)⟩
  clear hT4
  go_wp2_with (go_at_call 24; refine HL4.out.mono ?_; rintro e w5 ⟨rfl, hw5⟩; subst hw5)
  go_ret
  exact ⟨rfl, HB4.out⟩

end Go.Proofs.YtkcjplgjidjmoaaDoor

namespace Go.Proofs.YtkcjplgjidjmoaaDoor
open Go.RowKit Go.Lib Go.Sort Go.Maps

/-- What Add answers. -/
def adP (L l : List Nd) : Nat × Int × List Nd :=
  match begL l with
  | none => (0, 1, L)
  | some _ => match addR (L, []) l with
    | some s => (s.2.getD (l.length - 1) 0, 0, s.1)
    | none => (0, 10, L)
theorem stA_room {L : List Nd} {ids : List Nat} (x : Nd) (h : L.length < 1048576) : ∃ L' ids', stA (L, ids) x = some (L', ids') ∧ L'.length ≤ L.length + 1 := by
  unfold stA
  simp only
  cases ixL L (adN ids x) with
  | some i => exact ⟨_, _, rfl, by omega⟩
  | none => simp only [h, if_true]; exact ⟨_, _, rfl, by simp⟩
theorem addR_room : ∀ (l : List Nd) (L : List Nd) (ids : List Nat), L.length + l.length ≤ 1048576 → ∃ s, addR (L, ids) l = some s
  | [], L, ids, _ => ⟨_, rfl⟩
  | x :: r, L, ids, h => by
    simp only [List.length_cons] at h
    obtain ⟨L', ids', h1, h2⟩ := stA_room (ids := ids) x (show L.length < 1048576 by omega)
    obtain ⟨s, hs⟩ := addR_room r L' ids' (by omega)
    exact ⟨s, by simp only [addR, h1, Option.bind_some]; exact hs⟩
/-- Of an expression that is sound. -/
structure AdOk (L l : List Nd) (ids : List Nat) (L' : List Nd) : Prop where
  run : addR (L, []) l = some (L', ids)
  inv : TbI L'
  pre : ∃ M, L' = L ++ M ∧ M.length ≤ l.length
  fnd : Fnd L' l ids
theorem adP_snd {L l : List Nd} {fr : List Nat} (hI : TbI L) (hb : begL l = some fr) (hr : L.length + 64 ≤ 1048576) : ∃ ids L', AdOk L l ids L' ∧ adP L l = (ids.getD (l.length - 1) 0, 0, L') := by
  obtain ⟨h0, h64, hbr, _⟩ := begL_some hb
  have hok := begOk_of hbr
  obtain ⟨⟨L', ids⟩, hs⟩ := addR_room l L [] (by omega)
  have h1 := addR_ok (kidsLo_ok hok) (fun j hj => (hok.at_ j hj).1) hI l.length (Nat.le_refl _) L' ids (by rw [List.take_length]; exact hs)
  rw [List.take_length] at h1
  refine ⟨ids, L', ⟨hs, h1.1, h1.2.1, h1.2.2⟩, ?_⟩
  unfold adP
  rw [hb, hs]
theorem AdOk.whole {L l L' : List Nd} {ids : List Nat} {fr : List Nat} (h : AdOk L l ids L') (hb : begL l = some fr) : exA L' (ids.getD (l.length - 1) 0) = l := h.fnd.whole h.inv hb
theorem AdOk.lt {L l L' : List Nd} {ids : List Nat} (h : AdOk L l ids L') (h0 : 0 < l.length) : ids.getD (l.length - 1) 0 < L'.length := (h.fnd.at_ (l.length - 1) (by omega)).1
theorem adP_bad {L l : List Nd} (hb : begL l = none) : adP L l = (0, 1, L) := by unfold adP; rw [hb]
theorem adP_len {L l : List Nd} (hI : TbI L) (hr : L.length + 64 ≤ 1048576) : (adP L l).2.2.length ≤ L.length + 64 ∧ TbI (adP L l).2.2 := by
  cases hb : begL l with
  | none => rw [adP_bad hb]; exact ⟨by simp, hI⟩
  | some fr =>
    obtain ⟨ids, L', h1, h2⟩ := adP_snd hI hb hr
    rw [h2]
    obtain ⟨M, hM, hMl⟩ := h1.pre
    obtain ⟨_, h64, _, _⟩ := begL_some hb
    refine ⟨?_, h1.inv⟩
    simp only
    rw [hM, List.length_append]
    omega
/-- Where its nodes are entries already. -/
theorem adP_fnd {L l : List Nd} {ids : List Nat} {fr : List Nat} (hI : TbI L) (hb : begL l = some fr) (h : Fnd L l ids) : adP L l = (ids.getD (l.length - 1) 0, 0, L) := by
  obtain ⟨_, _, hbr, _⟩ := begL_some hb
  unfold adP
  rw [hb, fnd_run (kidsLo_ok (begOk_of hbr)) hI.nodup h]
theorem tAdd_room (w : World) (p : Nat) (ev mv : Value) (L l : List Nd) (base : Nat) (vs : Value) (h : TbM w p ev mv L) (hT : SpanCells w) (ho : OwnN w base vs l) (hx : ∀ x ∈ l, (Lit.int .i64 x.n).wf = true) (hr : L.length + 64 ≤ 1048576) :
    Calls Tryd.prog 31 #[.pointer (some ⟨p, 0, none⟩), vs] w fun e w' => e = .returned (.tuple #[.int .i64 ((adP L l).1 : Nat), .int .i64 (adP L l).2.1]) ∧ ∃ ev' mv', TbT w p ev mv ev' mv' (adP L l).2.2 w' := by
  cases hb : begL l with
  | none =>
    rw [adP_bad hb]
    exact (tAdd_bad w p l vs hT (Nodes_of_own ho (Nat.le_refl _)) hb).mono fun e w' ⟨h1, h2⟩ => ⟨h1, ev, mv, TbT.of_below h h2⟩
  | some fr =>
    obtain ⟨ids, L', h1, h2⟩ := adP_snd h.inv hb hr
    rw [h2]
    obtain ⟨_, _, hbr, _⟩ := begL_some hb
    have hok := begOk_of hbr
    refine tAdd_ok w p ev mv L l fr base vs h hT ho hb (fun x hx' => ?_) L' ids h1.run
    have e1 : IntKind.min .i64 = -9223372036854775808 := by decide
    have e2 : IntKind.max .i64 = 9223372036854775807 := by decide
    have hw := hx x hx'
    simp only [Lit.wf, e1, e2, Bool.and_eq_true, decide_eq_true_eq] at hw
    refine ⟨hw, ?_⟩
    obtain ⟨j, hj, rfl⟩ := List.mem_iff_getElem.1 hx'
    have := (hok.at_ j hj).1
    have := (form_name this).2
    simp [hj] at this
    omega
theorem TbT.b {w w0 w' : World} {p B : Nat} {ev mv ev' mv' : Value} {L L' : List Nd} (h : TbT w p ev mv ev' mv' L' w') (hm : TbM w p ev mv L) (hb : Below B w0 w) (hB : B ≤ p) : Below B w0 w' := hb.trans ((h.below hm).mono hB)
end Go.Proofs.YtkcjplgjidjmoaaDoor

set_option linter.unusedSimpArgs false
set_option linter.unusedVariables false
namespace Go.Proofs.YtkcjplgjidjmoaaDoor
open Go.RowKit Go.Shelf
attribute [local go_sem] Oper.semAt_some

def mkDT (D : Nat) : Deferred := { target := .collected D, args := #[] }
/-- At a return all marks are taken, and nothing else turns. -/
theorem leaves_marksT {F : Fence} {n : Nat} {P : Program} {fn : Func} {tmps : Array Value} {R : Ending → World → Prop} : ∀ (ds : List Nat) (w : World), ds.Nodup → (∀ D ∈ ds, w.heap[D]? = some (.deferred (some []))) →
    (∀ w' : World, w'.os = w.os → w'.tape = w.tape → w'.output = w.output → w'.heap.size = w.heap.size → (∀ b, b ∉ ds → w'.heap[b]? = w.heap[b]?) → LeavesIn F n P fn tmps R [] .returning w') → LeavesInM F n P fn tmps R (ds.map mkDT) .returning w := by
  intro ds
  induction ds with
  | nil => intro w _ _ h; exact h w rfl rfl rfl rfl (fun _ _ => rfl)
  | cons D ds ih =>
    intro w hn hd h
    obtain ⟨hn1, hn2⟩ := List.nodup_cons.1 hn
    have hD := hd D (by simp)
    refine ⟨by simp, .inl ⟨D, w.putObj D (.deferred none), rfl, run_takeDeferred hD, ih _ hn2 (fun E hE => ?_) (fun w' h1 h2 h3 h4 h5 => ?_)⟩⟩
    · rw [World.putObj_heap_other (fun e => hn1 (by subst e; exact hE))]
      exact hd E (by simp [hE])
    · refine h w' h1 h2 h3 (h4.trans (by simp)) (fun b hb => ?_)
      rw [h5 b (fun e => hb (by simp [e])), World.putObj_heap_other (fun e => hb (by simp [e]))]
/-- The marks: each once, each with its block. -/
structure MksT (w0 W : World) (ds : List Nat) : Prop where
  nd : ds.Nodup
  at_ : ∀ D ∈ ds, w0.heap.size + 3 ≤ D ∧ D < W.heap.size ∧ W.heap[D]? = some (.deferred (some []))
theorem MksT.keep {w0 W W' : World} {ds : List Nat} (h : MksT w0 W ds) (hk : ∀ D, D < W.heap.size → W.heap[D]? = some (.deferred (some [])) → W'.heap[D]? = some (.deferred (some []))) (hs : W.heap.size ≤ W'.heap.size) : MksT w0 W' ds :=
  ⟨h.nd, fun D hD => by have := h.at_ D hD; exact ⟨this.1, by omega, hk D this.2.1 this.2.2⟩⟩
theorem MksT.cons {w0 W W' : World} {ds : List Nat} (h : MksT w0 W ds) (hb : Below W.heap.size W W') {D : Nat} (hD : W.heap.size ≤ D) (hw : w0.heap.size + 3 ≤ W.heap.size) (hd : W'.heap[D]? = some (.deferred (some []))) : MksT w0 W' (D :: ds) := by
  have h' : MksT w0 W' ds := h.keep (fun E h1 h2 => (hb.block E h1).trans h2) hb.size
  refine ⟨List.nodup_cons.2 ⟨fun hm => by have := (h.at_ D hm).2.1; omega, h.nd⟩, fun E hE => ?_⟩
  rcases List.mem_cons.1 hE with rfl | hE
  · exact ⟨by omega, lt_of_block hd, hd⟩
  · exact h'.at_ E hE
theorem blk_ownT {W W' : World} {row : Option Nat} {b : Nat} {c : Array Value} {T : TypeId} {f : Nat × Nat} (h : W.heap[b]? = some (.cells c T f)) (hg : W.grownBy W' row) (hr : ∀ r, row = some r → ∃ o : Obj, W.heap[r]? = some o ∧ o.isCells = false) : W'.heap[b]? = some (.cells c T f) := by
  refine (hg.block b (lt_of_block h) (fun e => ?_)).trans h
  obtain ⟨o, ho, hc⟩ := hr b e.symm
  rw [h] at ho; cases ho; cases hc
theorem in_roundT {l n : Nat} {P : Program} {f : FuncId} {args : Array Value} {w : World} {R : Ending → World → Prop} (h : Calls P f args w R) : CallsIn (Fence.wide.inRound l) n P f args w R := (callsIn_wide (n := n)).2 h
theorem ko_belowT {w w' : World} (hb : Below w.heap.size w w') : KeepsOthers w w' := ⟨hb.size, fun k o hk _ => (hb.block k (lt_of_block hk)).trans hk⟩
end Go.Proofs.YtkcjplgjidjmoaaDoor

set_option linter.unusedSimpArgs false
set_option linter.unusedVariables false
namespace Go.Proofs.YtkcjplgjidjmoaaDoor
open Go.RowKit Go.Lib Go.Sort Go.Maps Go.Shelf
attribute [local go_sem] Oper.semAt_some

/-- Added twice is added once. -/
theorem adP_pre {L l : List Nd} (hI : TbI L) (hr : L.length + 64 ≤ 1048576) : (∃ M, (adP L l).2.2 = L ++ M) ∧ TbI (adP L l).2.2 ∧ (adP L l).2.2.length ≤ L.length + 64 ∧ (adP (adP L l).2.2 l).2.2 = (adP L l).2.2 := by
  have h64 := adP_len (l := l) hI hr
  cases hb : begL l with
  | none =>
    rw [adP_bad hb]
    refine ⟨⟨[], by simp⟩, hI, by simp, ?_⟩
    simp only
    rw [adP_bad hb]
  | some fr =>
    obtain ⟨ids, L', h1, h2⟩ := adP_snd hI hb hr
    rw [h2] at h64 ⊢
    obtain ⟨M, h3, _⟩ := h1.pre
    refine ⟨⟨M, h3⟩, h1.inv, h64.1, ?_⟩
    simp only
    rw [adP_fnd h1.inv hb h1.fnd]
theorem TbM.lenV {w : World} {p : Nat} {ev mv : Value} {L : List Nd} (h : TbM w p ev mv L) : lenV ev = L.length := by
  obtain ⟨ao, cap, rfl⟩ := h.form
  rfl
/-- A block of cells of another type is none of the table's. -/
theorem TbM.apart {w : World} {p b : Nat} {ev mv : Value} {L : List Nd} {c : Array Value} {T : TypeId} {f : Nat × Nat} (h : TbM w p ev mv L) (hb : w.heap[b]? = some (.cells c T f)) (h1 : T ≠ 78) (h2 : T ≠ 90) : ¬ TbS p ev mv b := by
  rintro (rfl | e | e)
  · rw [h.blk] at hb; cases hb; exact h1 rfl
  · obtain ⟨_, _, cap, cur, _, h3, _⟩ := rw_block h.on e
    rw [h3] at hb; cases hb; exact h2 rfl
  · rcases h.ids with ⟨h3, _⟩ | ⟨B, h3, _, h4⟩
    · rw [h3] at e; cases e
    · rw [h3] at e; cases e
      obtain ⟨es, cc, h5⟩ := h4.obj
      rw [h5] at hb; cases hb
theorem TbM.setFar {w : World} {p b o : Nat} {ev mv u : Value} {L : List Nd} {c : Array Value} {T : TypeId} {f : Nat × Nat} (h : TbM w p ev mv L) (hb : w.heap[b]? = some (.cells c T f)) (h1 : T ≠ 78) (h2 : T ≠ 90) : TbM (w.setCell ⟨b, o, none⟩ u) p ev mv L :=
  h.same fun k _ hk => Deep.blk_setCell_other _ _ _ _ (fun e => h.apart hb h1 h2 (by rw [← show k = b from e]; exact hk))
/-- What a call on the table leaves of what the function holds. -/
theorem TbT.kpl {W W' : World} {p B : Nat} {ev mv ev' mv' ev0 : Value} {L L' L0 : List Nd} (h : TbT W p ev mv ev' mv' L' W') (hM : TbM W p ev mv L) (hA : AlAt W B ev0 L0) (hg : ∀ g, ev0.ownBlock = some g → p < g) (hl : L0.length ≤ L.length) : KpL B ev0 L0.length W W' := by
  refine ⟨h.tk.size, fun o ho => ?_, fun g e j u hj hu => ?_⟩
  · rw [hA.blk] at ho
    cases ho
    exact (h.tk.same B (lt_of_block hA.blk) (hM.apart hA.blk (by decide) (by decide))).trans hA.blk
  · by_cases he : ev.ownBlock = some g
    · exact h.st g he (hg g e) j u (by rw [hM.lenV]; exact Nat.lt_of_lt_of_le hj (Nat.mul_le_mul_right 7 hl)) hu
    · have hne : ¬ TbS p ev mv g := by
        rintro (e1 | e1 | e1)
        · have := hg g e; omega
        · exact he e1
        · rcases hM.ids with ⟨h3, _⟩ | ⟨B', h3, _, h4⟩
          · rw [h3] at e1; cases e1
          · rw [h3] at e1; cases e1
            obtain ⟨es, cc, h5⟩ := h4.obj
            simp [World.cell?, h5] at hu
      have h2 := h.tk.same g (cell_lt hu) hne
      simp only [World.cell?] at hu ⊢
      rw [h2]
      exact hu
theorem KpL.set {W : World} {B b o n : Nat} {ev u : Value} (hB : B ≠ b) (hg : ∀ g, ev.ownBlock = some g → g ≠ b) : KpL B ev n W (W.setCell ⟨b, o, none⟩ u) :=
  ⟨by simp, fun o' h => (Deep.blk_setCell_other _ _ _ _ (by show B ≠ b; exact hB)).trans h, fun g e j u' _ h => by
    have h1 := Deep.blk_setCell_other W ⟨b, o, none⟩ u g (by show g ≠ b; exact hg g e)
    simp only [World.cell?] at h ⊢
    rw [h1]
    exact h⟩

/-- What stays. -/
structure ItI (w : World) (q p B : Nat) (oa : Option Addr) (oc : Nat) (ol : List Nd) (cut : Int) (ev0 : Value) (L0 L1 : List Nd) (mv0 : Value) (V : World) : Prop where
  b4 : V.heap[w.heap.size]? = some (.cells #[.slice oa ol.length oc] 22 (0, 0))
  b5 : V.heap[w.heap.size + 1]? = some (.cells #[.int .i64 cut] 3 (0, 0))
  b6 : V.heap[w.heap.size + 1 + 1]? = some (.cells #[.bool false] 4 (0, 0))
  b7 : V.heap[q]? = some (.cells #[.pointer (some ⟨p, 0, none⟩)] 39 (0, 0))
  al : AlAt V B ev0 L0
  tb : ∃ ev L', TbM V p ev mv0 L' ∧ (L' = L0 ∨ L' = L1)
  be : Below w.heap.size w V
theorem ItI.below {w V V' : World} {q p B : Nat} {oa : Option Addr} {oc : Nat} {ol : List Nd} {cut : Int} {ev0 : Value} {L0 L1 : List Nd} {mv0 : Value} (h : ItI w q p B oa oc ol cut ev0 L0 L1 mv0 V) (hb : Below V.heap.size V V') : ItI w q p B oa oc ol cut ev0 L0 L1 mv0 V' := by
  obtain ⟨ev, L', h1, h2⟩ := h.tb
  exact ⟨(hb.block _ (lt_of_block h.b4)).trans h.b4, (hb.block _ (lt_of_block h.b5)).trans h.b5, (hb.block _ (lt_of_block h.b6)).trans h.b6, (hb.block _ (lt_of_block h.b7)).trans h.b7, h.al.below hb, ⟨ev, L', h1.below hb, h2⟩, h.be.trans (hb.mono h.be.size)⟩
theorem ItI.set {w V : World} {q p B b o : Nat} {u : Value} {oa : Option Addr} {oc : Nat} {ol : List Nd} {cut : Int} {ev0 : Value} {L0 L1 : List Nd} {mv0 : Value} {c : Array Value} {T : TypeId} {f : Nat × Nat} (h : ItI w q p B oa oc ol cut ev0 L0 L1 mv0 V) (hb : V.heap[b]? = some (.cells c T f)) (h1 : T ≠ 78) (h2 : T ≠ 90) (hw : w.heap.size + 3 ≤ b) (hq : q < b) (hB : B < b) (hg : ∀ g, ev0.ownBlock = some g → g < b) : ItI w q p B oa oc ol cut ev0 L0 L1 mv0 (V.setCell ⟨b, o, none⟩ u) := by
  obtain ⟨ev, L', h3, h4⟩ := h.tb
  have k : ∀ k, k < b → (V.setCell ⟨b, o, none⟩ u).heap[k]? = V.heap[k]? := fun k hk => Deep.blk_setCell_other _ _ _ _ (by show k ≠ b; omega)
  exact ⟨(k _ (by omega)).trans h.b4, (k _ (by omega)).trans h.b5, (k _ (by omega)).trans h.b6, (k _ hq).trans h.b7, h.al.kp (KpL.set (by omega) (fun g e => by have := hg g e; omega)), ⟨ev, L', h3.setFar hb h1 h2, h4⟩, h.be.setCell (p := ⟨b, o, none⟩) (by show w.heap.size ≤ b; omega) _⟩
/-- A further Add. -/
theorem ItI.add {w V V' : World} {q p B : Nat} {oa : Option Addr} {oc : Nat} {ol : List Nd} {cut : Int} {ev0 ev ev' mv' : Value} {L0 L' : List Nd} {mv0 : Value} (h : ItI w q p B oa oc ol cut ev0 L0 (adP L0 ol).2.2 mv0 V) (hM : TbM V p ev mv0 L') (hL : L' = L0 ∨ L' = (adP L0 ol).2.2) (hm : ∃ Bm, mv0 = .map (some Bm)) (ht : TbT V p ev mv0 ev' mv' (adP L' ol).2.2 V') (hI : TbI L0) (hr : L0.length + 128 ≤ 1048576) (hp : w.heap.size + 3 ≤ p) (hg : ∀ g, ev0.ownBlock = some g → p < g) :
    ItI w q p B oa oc ol cut ev0 L0 (adP L0 ol).2.2 mv0 V' ∧ KpL B ev0 L0.length V V' := by
  obtain ⟨⟨M, hp1⟩, _, _, hp2⟩ := adP_pre (l := ol) hI (by omega)
  have hl : L0.length ≤ L'.length := by
    rcases hL with rfl | e
    · exact Nat.le_refl _
    · rw [e, hp1]; simp
  have hk := ht.kpl hM h.al hg hl
  have hT' : TbM V' p ev' mv0 (adP L' ol).2.2 := by
    obtain ⟨Bm, rfl⟩ := hm
    have := ht.tb
    rw [ht.mp Bm rfl] at this
    exact this
  have k : ∀ (b : Nat) (c : Array Value) (T : TypeId) (f : Nat × Nat), V.heap[b]? = some (.cells c T f) → T ≠ 78 → T ≠ 90 → V'.heap[b]? = some (.cells c T f) := fun b c T f hb h1 h2 => (ht.tk.same b (lt_of_block hb) (hM.apart hb h1 h2)).trans hb
  refine ⟨⟨k _ _ _ _ h.b4 (by decide) (by decide), k _ _ _ _ h.b5 (by decide) (by decide), k _ _ _ _ h.b6 (by decide) (by decide), k _ _ _ _ h.b7 (by decide) (by decide), h.al.kp hk, ⟨ev', _, hT', .inr ?_⟩, h.be.trans ((ht.below hM).mono (by omega))⟩, hk⟩
  rcases hL with rfl | e
  · rfl
  · rw [e]; exact hp2
/-- What the range's own blocks turn is not ours. -/
theorem ItI.own {w W W' : World} {q p B S : Nat} {oa : Option Addr} {oc : Nat} {ol : List Nd} {cut : Int} {ev0 mv0 : Value} {L0 L1 : List Nd} {row : Option Nat} (h : ItI w q p B oa oc ol cut ev0 L0 L1 mv0 W) (hw : w.heap.size ≤ S) (hBm : ∀ Bm, mv0 = .map (some Bm) → Bm < S) (hg : W.grownBy W' row) (hr : ∀ r, row = some r → S ≤ r ∧ ∃ o : Obj, W.heap[r]? = some o ∧ o.isCells = false) : ItI w q p B oa oc ol cut ev0 L0 L1 mv0 W' := by
  have hr' : ∀ r, row = some r → ∃ o : Obj, W.heap[r]? = some o ∧ o.isCells = false := fun r e => (hr r e).2
  obtain ⟨ev, L', h1, h2⟩ := h.tb
  refine ⟨blk_ownT h.b4 hg hr', blk_ownT h.b5 hg hr', blk_ownT h.b6 hg hr', blk_ownT h.b7 hg hr', h.al.kp ⟨hg.size, fun o ho => ?_, fun g e j u hj hu => ?_⟩, ⟨ev, L', h1.same fun b hb hs => hg.block b hb (fun e => ?_), h2⟩, h.be.grown hg h.be.size (fun r e => by have := (hr r e).1; omega)⟩
  · rw [h.al.blk] at ho
    cases ho
    exact blk_ownT h.al.blk hg hr'
  · have hb := hg.block g (cell_lt hu) (fun e' => by
      obtain ⟨o, ho, hc⟩ := hr' g e'.symm
      cases o <;> first | (simp [World.cell?, ho] at hu; done) | (cases hc; done))
    simp only [World.cell?] at hu ⊢
    rw [hb]
    exact hu
  · obtain ⟨h3, o, ho, hc⟩ := hr b e.symm
    rcases hs with rfl | e1 | e1
    · rw [h1.blk] at ho; cases ho; cases hc
    · obtain ⟨_, _, cap, cur, _, h4, _⟩ := rw_block h1.on e1
      rw [h4] at ho; cases ho; cases hc
    · have := hBm b e1; omega
end Go.Proofs.YtkcjplgjidjmoaaDoor

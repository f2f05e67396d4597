/-
  TbIt.
-/
import Derived.Test.YtkcjplgjidjmoaaDoorChecked
import GoSem.PinnedTables
import GoSem.Claim
import GoSem.ClaimJoined
import GoSem.ClaimMapViews
import Derived.JoinedTies
import Derived.KernelRfl
import Derived.Shelf.Unicode.DecodeSlow
import Derived.Laws.RangeAny
import Derived.Shelf.Small.Bits
import Derived.Shelf.Strconv.Itoa0
import Derived.Shelf.LaysM
import Derived.Shelf.Strconv.Clone
import Derived.Shelf.Unicode.DecodeAny
import Derived.Shelf.Slices.CompactS
import Derived.Ground.SlsfProg
import Derived.Shelf.SlSortCmp.Insertion
import Derived.Shelf.SlSortCmp.SiftDown1
import Derived.Shelf.SlSortCmp.HeapSort1
import Derived.Shelf.SlSortCmp.Insertion1
import Derived.Shelf.SlSortCmp.Median1
import Derived.Shelf.SlSortCmp.Pivot1
import Derived.Shelf.SlSortCmp.ReverseRange1
import Derived.Shelf.SlSortCmp.PartialInsertion1
import Derived.Shelf.SlSortCmp.PartitionEqual1
import Derived.Shelf.SlSortCmp.Partition1
import Derived.Shelf.SlSortCmp.Pdq1
import Derived.Shelf.SlSortCmp.Whole1
import Derived.Test.YtkcjplgjidjmoaaDoorProg
import Derived.WalkKit
import Derived.Deep.DeepFit
import Derived.Lib.OthersKept
import Derived.Lib.RuneCountTail
import Derived.Lib.LaidU8
import Derived.MakeChecks
import Derived.ProofKit
import Derived.OpenShut
import Derived.Deep.DeepHandedRow
import Derived.Deep.AppendLies
import Derived.Deep.OwnRows
import Derived.Laws.AppendOwnNone
import Derived.Deep.QuietTactic
import Derived.BigQuiet
import Derived.Deep.RegionWith
import Derived.Laws.DeepStrings4
import Derived.Deep.Slices
import Derived.SizedLaws
import Derived.Below
import Derived.Maps.OwnSet
import Derived.Maps.Keyed
import Derived.DeepKeys4
import Derived.Lib.QuietBelow
import Derived.StillTail
import Derived.Deep.RegionHeld3
import Derived.Laws.ResultCell
import Derived.Laws.CopyOwn
import Derived.RangeFuncNested
import Derived.RangeFuncBound
import Derived.RangeFuncCalls
import Derived.RangeFuncLeaves
import Derived.RangeFuncBox
import Derived.Shelf.Abstract
import Derived.Shelf.RegionOpen
import Derived.OwnWalkIn
import Derived.TacticsInMore
import Derived.LoopNIn
import Derived.LoopIn
import Derived.Laws.OwnMore
import Derived.Lib.MapLaws
import Derived.Sort.Walk0
import Derived.Test.YtkcjplgjidjmoaaDoorRows
import Derived.Test.YtkcjplgjidjmoaaDoorI01
import Derived.Test.YtkcjplgjidjmoaaDoorI02
import Derived.Test.YtkcjplgjidjmoaaDoorI03
import Derived.Test.YtkcjplgjidjmoaaDoorI04
import Derived.Test.YtkcjplgjidjmoaaDoorI05
import Derived.Test.YtkcjplgjidjmoaaDoorI06
import Derived.Test.YtkcjplgjidjmoaaDoorI07
import Derived.Test.YtkcjplgjidjmoaaDoorI08
import Derived.Test.YtkcjplgjidjmoaaDoorI09
import Derived.Test.YtkcjplgjidjmoaaDoorI10
import Derived.Test.YtkcjplgjidjmoaaDoorI11
import Derived.Test.YtkcjplgjidjmoaaDoorI12
import Derived.Test.YtkcjplgjidjmoaaDoorI13
import Derived.Test.YtkcjplgjidjmoaaDoorI14
import Derived.Test.YtkcjplgjidjmoaaDoorI15
set_option linter.unusedSimpArgs false
set_option linter.unusedVariables false
namespace Go.Proofs.YtkcjplgjidjmoaaDoor
open Go.RowKit Go.Lib Go.Sort Go.Maps Go.Shelf
attribute [local go_sem] Oper.semAt_some

theorem eqI_nil (B : Nat) (w : World) : (binOp .eql 52 (.func (.func 54) #[] #[.pointer (some ⟨B, 0, none⟩)]) .nilFunc).run Tryd.prog w = .ok (.bool false) w := by kernel_rfl

theorem cell1 {w : World} {b : Nat} {v : Value} {T : TypeId} (h : w.heap[b]? = some (.cells #[v] T (0, 0))) : w.cell? ⟨b, 0, none⟩ = some v := by simp [World.cell?, h]
set_option maxRecDepth 100000 in
set_option maxHeartbeats 8000000 in
theorem tableIters_in (w : World) (ao oo : Option Addr) (ac oc : Nat) (a ol : List Nd) (cut : Int) (hT : SpanCells w) (hRa : Rd w ao ac a) (hRo : Rd w oo oc ol) (hFa : FitX a) (hFo : FitX ol) :
    CallsIn Fence.wide 4 Tryd.prog 6 #[.slice ao a.length ac, .slice oo ol.length oc, .int .i64 cut] w fun e w' => e = .returned (.bool true) ∧ Below w.heap.size w w' := by
  have hro : Fence.wide.round = none := rfl
  obtain ⟨⟨R0, E0, L0⟩, hA0⟩ : ∃ t, adP [] a = t := ⟨_, rfl⟩
  have hlen0 := adP_len (l := a) TbI.nil (by simp)
  rw [hA0] at hlen0
  obtain ⟨hl0, hI0⟩ := hlen0
  simp only [List.length_nil, Nat.zero_add] at hl0 hI0
  have HRa : Sld (∀ W, Below w.heap.size w W → Rd W ao ac a) := ⟨fun W hW => hRa.below hW hW.size⟩
  have HRo : Sld (∀ W, Below w.heap.size w W → Rd W oo oc ol) := ⟨fun W hW => hRo.below hW hW.size⟩
  have HT : Sld (∀ W, Below w.heap.size w W → SpanCells W) := ⟨fun W hW => hT.below hW⟩
  have HFa : Sld (FitX a) := ⟨hFa⟩
  have HFo : Sld (FitX ol) := ⟨hFo⟩
  have HI0 : Sld (TbI L0) := ⟨hI0⟩
  have C0 : Sld (∀ W p ev mv base vs, TbM W p ev mv [] → Below w.heap.size w W → OwnN W base vs a → Calls Tryd.prog 31 #[.pointer (some ⟨p, 0, none⟩), vs] W fun e w' => e = .returned (.tuple #[.int .i64 (R0 : Nat), .int .i64 E0]) ∧ ∃ ev' mv', TbT W p ev mv ev' mv' L0 w') := ⟨fun W p ev mv base vs h1 h2 h3 => by
    have := tAdd_room W p ev mv [] a base vs h1 (hT.below h2) h3 hFa.num (by simp)
    rw [hA0] at this
    exact this⟩
  clear hRa hRo hFa hFo hI0 hA0 hT
  have hb3 : Below w.heap.size w (((w.alloc (.cells #[.slice oo ol.length oc] 22)).alloc (.cells #[.int .i64 cut] 3)).alloc (.cells #[.bool false] 4)) := (((Below.refl _ w).alloc (Nat.le_refl _) _).alloc (by simp) _).alloc (by simp; omega) _
  have hs3 : (((w.alloc (.cells #[.slice oo ol.length oc] 22)).alloc (.cells #[.int .i64 cut] 3)).alloc (.cells #[.bool false] 4)).heap.size = w.heap.size + 3 := by simp
  have b0 : (((w.alloc (.cells #[.slice oo ol.length oc] 22)).alloc (.cells #[.int .i64 cut] 3)).alloc (.cells #[.bool false] 4)).heap[w.heap.size]? = some (.cells #[.slice oo ol.length oc] 22 (0, 0)) := (Deep.blk_alloc_lt _ _ _ (by simp; omega)).trans ((Deep.blk_alloc_lt _ _ _ (by simp)).trans (Deep.blk_alloc_new _ _))
  have b1 : (((w.alloc (.cells #[.slice oo ol.length oc] 22)).alloc (.cells #[.int .i64 cut] 3)).alloc (.cells #[.bool false] 4)).heap[w.heap.size + 1]? = some (.cells #[.int .i64 cut] 3 (0, 0)) := by
    refine (Deep.blk_alloc_lt _ _ _ (by simp)).trans ?_
    have := Deep.blk_alloc_new (w.alloc (.cells #[.slice oo ol.length oc] 22)) (.cells #[.int .i64 cut] 3)
    rw [World.size_alloc] at this
    exact this
  have b2 : (((w.alloc (.cells #[.slice oo ol.length oc] 22)).alloc (.cells #[.int .i64 cut] 3)).alloc (.cells #[.bool false] 4)).heap[w.heap.size + 1 + 1]? = some (.cells #[.bool false] 4 (0, 0)) := by
    have := Deep.blk_alloc_new ((w.alloc (.cells #[.slice oo ol.length oc] 22)).alloc (.cells #[.int .i64 cut] 3)) (.cells #[.bool false] 4)
    rw [World.size_alloc, World.size_alloc] at this
    exact this
  refine callsIn_of_wp_marks Tryd.func6 rfl trivial ?_ hro
  simp only [Tryd.ntmps6, List.size_toArray, List.length_cons, List.length_nil, Nat.reduceAdd, Nat.reduceSub, Array.replicate_succ, Array.replicate_zero, List.push_toArray, List.append_toArray, List.nil_append, List.cons_append]
  gi_wp2
  generalize (((w.alloc (.cells #[.slice oo ol.length oc] 22)).alloc (.cells #[.int .i64 cut] 3)).alloc (.cells #[.bool false] 4)) = Wb at *
  refine ⟨trivial, ((callsIn_wide (n := 3)).2 (tnew_any Wb)).mono ?_⟩
  rintro e w1 ⟨rfl, hw1⟩
  have hB1 : Below Wb.heap.size Wb w1 := by rw [hw1]; exact (Below.refl _ _).alloc (Nat.le_refl _) _
  have hs1 : w1.heap.size = w.heap.size + 4 := by rw [hw1]; simp [hs3]
  have HM1 : Sld (TbM w1 (w.heap.size + 3) (.slice none 0 0) (.map none) []) := ⟨by rw [hw1, ← hs3]; exact TbM.fresh Wb⟩
  have BL1 : Below w.heap.size w w1 := hb3.trans (hB1.mono hb3.size)
  have d0 : w1.heap[w.heap.size]? = _ := (hB1.block _ (by omega)).trans b0
  have d1 : w1.heap[w.heap.size + 1]? = _ := (hB1.block _ (by omega)).trans b1
  have d2 : w1.heap[w.heap.size + 1 + 1]? = _ := (hB1.block _ (by omega)).trans b2
  clear hw1 hB1 b0 b1 b2 hb3
  rw [hs3]
  clear hs3
  gi_wp2
  obtain ⟨w2, hw2⟩ : ∃ w2, w1.alloc (.cells #[.pointer (some ⟨w.heap.size + 3, 0, none⟩)] 39) = w2 := ⟨_, rfl⟩
  rw [hw2]
  have hB2 : Below w1.heap.size w1 w2 := by rw [← hw2]; exact (Below.refl _ _).alloc (Nat.le_refl _) _
  have hs2 : w2.heap.size = w.heap.size + 5 := by rw [← hw2]; simp [hs1]
  have HM2 : Sld (TbM w2 (w.heap.size + 3) (.slice none 0 0) (.map none) []) := ⟨HM1.out.below hB2⟩
  have BL2 : Below w.heap.size w w2 := BL1.trans (hB2.mono BL1.size)
  have f0 : w2.heap[w.heap.size]? = _ := (hB2.block _ (by omega)).trans d0
  have f1 : w2.heap[w.heap.size + 1]? = _ := (hB2.block _ (by omega)).trans d1
  have f2 : w2.heap[w.heap.size + 1 + 1]? = _ := (hB2.block _ (by omega)).trans d2
  have f3 : w2.heap[w.heap.size + 4]? = some (.cells #[.pointer (some ⟨w.heap.size + 3, 0, none⟩)] 39 (0, 0)) := by rw [← hw2, ← hs1]; exact Deep.blk_alloc_new _ _
  clear hw2 hB2 d0 d1 d2 HM1 hs1 BL1
  refine ⟨trivial, ((callsIn_wide (n := 3)).2 (awake10_any w2 (HT.out w2 BL2))).mono ?_⟩
  rintro e w3 ⟨rfl, hB3⟩
  have HM3 : Sld (TbM w3 (w.heap.size + 3) (.slice none 0 0) (.map none) []) := ⟨HM2.out.below hB3⟩
  have HF3 : Sld (w3.heap[w.heap.size]? = some (.cells #[.slice oo ol.length oc] 22 (0, 0)) ∧ w3.heap[w.heap.size + 1]? = some (.cells #[.int .i64 cut] 3 (0, 0)) ∧ w3.heap[w.heap.size + 1 + 1]? = some (.cells #[.bool false] 4 (0, 0)) ∧ w3.heap[w.heap.size + 4]? = some (.cells #[.pointer (some ⟨w.heap.size + 3, 0, none⟩)] 39 (0, 0)) ∧ w.heap.size + 5 ≤ w3.heap.size) := ⟨(hB3.block _ (by omega)).trans f0, (hB3.block _ (by omega)).trans f1, (hB3.block _ (by omega)).trans f2, (hB3.block _ (by omega)).trans f3, by have := hB3.size; omega⟩
  have HBL3 : Sld (Below w.heap.size w w3) := ⟨BL2.trans (hB3.mono BL2.size)⟩
  have c7 : w3.cell? ⟨w.heap.size + 4, 0, none⟩ = some (.pointer (some ⟨w.heap.size + 3, 0, none⟩)) := by simp [World.cell?, HF3.out.2.2.2.1]
  have HKF : Sld (∀ W, Below w3.heap.size w3 W → Sld (W.heap[w.heap.size]? = some (.cells #[.slice oo ol.length oc] 22 (0, 0)) ∧ W.heap[w.heap.size + 1]? = some (.cells #[.int .i64 cut] 3 (0, 0)) ∧ W.heap[w.heap.size + 1 + 1]? = some (.cells #[.bool false] 4 (0, 0)) ∧ W.heap[w.heap.size + 4]? = some (.cells #[.pointer (some ⟨w.heap.size + 3, 0, none⟩)] 39 (0, 0)) ∧ w.heap.size + 5 ≤ W.heap.size)) := ⟨fun W hW => by
    obtain ⟨g0, g1, g2, g3, g4⟩ := HF3.out
    exact ⟨(hW.block _ (by omega)).trans g0, (hW.block _ (by omega)).trans g1, (hW.block _ (by omega)).trans g2, (hW.block _ (by omega)).trans g3, by have := hW.size; omega⟩⟩
  clear hB3 f0 f1 f2 f3 HM2 hs2 BL2
  have hmo : Tryd.prog.follows .mixedOrders = true := by kernel_rfl
  gi_wp2
  refine wpIn_mono (Q := fun e a' W => e = .normal ∧ ∃ v4 w4 ev mv, a' = { tmps := #[.slice ao a.length ac, .slice oo ol.length oc, .int .i64 cut, undef, .pointer (some ⟨w.heap.size, 0, none⟩), .pointer (some ⟨w.heap.size + 1, 0, none⟩), .pointer (some ⟨w.heap.size + 1 + 1, 0, none⟩), .pointer (some ⟨w.heap.size + 4, 0, none⟩), undef, undef, undef, undef, undef, undef, undef, undef, undef, .pointer (some ⟨w.heap.size + 3, 0, none⟩), .bool true, .bool false, .bool false, .pointer (some ⟨w.heap.size + 3, 0, none⟩), .bool false, .bool false, .pointer (some ⟨w.heap.size + 3, 0, none⟩), .slice ao a.length ac, v4, .tuple #[.int .i64 (R0 : Nat), .int .i64 E0], undef, undef, undef, undef, undef, undef, undef, undef, undef, undef, undef, undef, undef, undef, undef, undef, undef, undef, undef, undef, undef, undef, undef, undef, undef, undef, undef, undef, undef, undef, undef, undef, undef, undef, undef, undef, undef, undef, undef, undef, undef, undef, undef, undef, undef, undef, undef, undef, undef, undef, undef, undef, undef, undef, undef, undef, undef, undef, undef, undef], defers := [] } ∧ TbM w4 (w.heap.size + 3) (.slice none 0 0) (.map none) [] ∧ Sld (w4.heap[w.heap.size]? = some (.cells #[.slice oo ol.length oc] 22 (0, 0)) ∧ w4.heap[w.heap.size + 1]? = some (.cells #[.int .i64 cut] 3 (0, 0)) ∧ w4.heap[w.heap.size + 1 + 1]? = some (.cells #[.bool false] 4 (0, 0)) ∧ w4.heap[w.heap.size + 4]? = some (.cells #[.pointer (some ⟨w.heap.size + 3, 0, none⟩)] 39 (0, 0)) ∧ w.heap.size + 5 ≤ w4.heap.size) ∧ Below w.heap.size w w4 ∧ TbT w4 (w.heap.size + 3) (.slice none 0 0) (.map none) ev mv L0 W) ?reg ?rest
  case reg =>
    refine wpIn_region_any hmo ?_
    try (change wpAnyIn _ _ _ _ _ _ _ _ _ (World.drew _))
    refine wpAnyIn_ready (rs := [0, 1]) (by kernel_rfl) (by simp) ?_
    refine AllReadyIn.cons rfl (fun K hK => ?_) (AllReadyIn.cons rfl (fun K hK => ?_) AllReadyIn.nil)
    · go_simp
      refine hK _ _ ?_
      clear hK K
      refine wpAnyIn_ready (rs := [1]) (by kernel_rfl) (by simp) ?_
      refine AllReadyIn.cons rfl (fun K hK => ?_) AllReadyIn.nil
      go_simp
      refine hK _ _ ?_
      clear hK K
      refine wpAnyIn_ready (rs := [2]) (by kernel_rfl) (by simp) ?_
      refine AllReadyIn.cons rfl (fun K hK => ?_) AllReadyIn.nil
      go_simp
      refine ⟨trivial, ((callsIn_wide (n := 3)).2 (copy_ownB _ ao ac a (HRa.out _ HBL3.out.drew) HFa.out)).mono ?_⟩
      rintro e w4 ⟨v4, rfl, hO4, hb4'⟩
      have hb4 : Below w3.heap.size w3 w4 := (Below.refl _ _).drew.trans hb4'
      have hBL4 : Below w.heap.size w w4 := HBL3.out.trans (hb4.mono HBL3.out.size)
      have hM4 := HM3.out.below hb4
      have HF4 := HKF.out w4 hb4
      have c74 : w4.cell? ⟨w.heap.size + 4, 0, none⟩ = some (.pointer (some ⟨w.heap.size + 3, 0, none⟩)) := cell1 HF4.out.2.2.2.1
      have HD4 : Sld _ := ⟨C0.out w4 (w.heap.size + 3) _ _ _ v4 hM4 hBL4 hO4⟩
      have HM4 : Sld (TbM w4 (w.heap.size + 3) (.slice none 0 0) (.map none) []) := ⟨hM4⟩
      have HBL4 : Sld (Below w.heap.size w w4) := ⟨hBL4⟩
      clear hb4 hb4' hO4 hM4 hBL4
      refine hK _ _ ?_
      clear hK K
      refine wpAnyIn_ready (rs := [3]) (by kernel_rfl) (by simp) ?_
      refine AllReadyIn.cons rfl (fun K hK => ?_) AllReadyIn.nil
      go_simp
      refine ⟨trivial, ((callsIn_wide (n := 3)).2 HD4.out).mono ?_⟩
      rintro e w5 ⟨rfl, ev, mv, hT5⟩
      refine hK _ _ ?_
      clear hK K
      refine wpAnyIn_done (by kernel_rfl) ?_ _
      exact ⟨rfl, v4, w4, ev, mv, rfl, HM4.out, HF4, HBL4.out, hT5⟩
    · go_simp
      refine hK _ _ ?_
      clear hK K
      refine wpAnyIn_ready (rs := [0, 2]) (by kernel_rfl) (by simp) ?_
      refine AllReadyIn.cons rfl (fun K hK => ?_) (AllReadyIn.cons rfl (fun K hK => ?_) AllReadyIn.nil)
      · go_simp
        refine hK _ _ ?_
        clear hK K
        refine wpAnyIn_ready (rs := [2]) (by kernel_rfl) (by simp) ?_
        refine AllReadyIn.cons rfl (fun K hK => ?_) AllReadyIn.nil
        go_simp
        refine ⟨trivial, ((callsIn_wide (n := 3)).2 (copy_ownB _ ao ac a (HRa.out _ HBL3.out.drew) HFa.out)).mono ?_⟩
        rintro e w4 ⟨v4, rfl, hO4, hb4'⟩
        have hb4 : Below w3.heap.size w3 w4 := (Below.refl _ _).drew.trans hb4'
        have hBL4 : Below w.heap.size w w4 := HBL3.out.trans (hb4.mono HBL3.out.size)
        have hM4 := HM3.out.below hb4
        have HF4 := HKF.out w4 hb4
        have c74 : w4.cell? ⟨w.heap.size + 4, 0, none⟩ = some (.pointer (some ⟨w.heap.size + 3, 0, none⟩)) := cell1 HF4.out.2.2.2.1
        have HD4 : Sld _ := ⟨C0.out w4 (w.heap.size + 3) _ _ _ v4 hM4 hBL4 hO4⟩
        have HM4 : Sld (TbM w4 (w.heap.size + 3) (.slice none 0 0) (.map none) []) := ⟨hM4⟩
        have HBL4 : Sld (Below w.heap.size w w4) := ⟨hBL4⟩
        clear hb4 hb4' hO4 hM4 hBL4
        refine hK _ _ ?_
        clear hK K
        refine wpAnyIn_ready (rs := [3]) (by kernel_rfl) (by simp) ?_
        refine AllReadyIn.cons rfl (fun K hK => ?_) AllReadyIn.nil
        go_simp
        refine ⟨trivial, ((callsIn_wide (n := 3)).2 HD4.out).mono ?_⟩
        rintro e w5 ⟨rfl, ev, mv, hT5⟩
        refine hK _ _ ?_
        clear hK K
        refine wpAnyIn_done (by kernel_rfl) ?_ _
        exact ⟨rfl, v4, w4, ev, mv, rfl, HM4.out, HF4, HBL4.out, hT5⟩
      · go_simp
        refine ⟨trivial, ((callsIn_wide (n := 3)).2 (copy_ownB _ ao ac a (HRa.out _ HBL3.out.drew) HFa.out)).mono ?_⟩
        rintro e w4 ⟨v4, rfl, hO4, hb4'⟩
        have hb4 : Below w3.heap.size w3 w4 := (Below.refl _ _).drew.trans hb4'
        have hBL4 : Below w.heap.size w w4 := HBL3.out.trans (hb4.mono HBL3.out.size)
        have hM4 := HM3.out.below hb4
        have HF4 := HKF.out w4 hb4
        have c74 : w4.cell? ⟨w.heap.size + 4, 0, none⟩ = some (.pointer (some ⟨w.heap.size + 3, 0, none⟩)) := cell1 HF4.out.2.2.2.1
        have HD4 : Sld _ := ⟨C0.out w4 (w.heap.size + 3) _ _ _ v4 hM4 hBL4 hO4⟩
        have HM4 : Sld (TbM w4 (w.heap.size + 3) (.slice none 0 0) (.map none) []) := ⟨hM4⟩
        have HBL4 : Sld (Below w.heap.size w w4) := ⟨hBL4⟩
        clear hb4 hb4' hO4 hM4 hBL4
        refine hK _ _ ?_
        clear hK K
        refine wpAnyIn_ready (rs := [0]) (by kernel_rfl) (by simp) ?_
        refine AllReadyIn.cons rfl (fun K hK => ?_) AllReadyIn.nil
        go_simp
        refine hK _ _ ?_
        clear hK K
        refine wpAnyIn_ready (rs := [3]) (by kernel_rfl) (by simp) ?_
        refine AllReadyIn.cons rfl (fun K hK => ?_) AllReadyIn.nil
        go_simp
        refine ⟨trivial, ((callsIn_wide (n := 3)).2 HD4.out).mono ?_⟩
        rintro e w5 ⟨rfl, ev, mv, hT5⟩
        refine hK _ _ ?_
        clear hK K
        refine wpAnyIn_done (by kernel_rfl) ?_ _
        exact ⟨rfl, v4, w4, ev, mv, rfl, HM4.out, HF4, HBL4.out, hT5⟩
  rintro e a' w5 ⟨rfl, v4, w4, ev, mv, rfl, hM4, HF4, hBL4, hT5⟩
  have HM4 : Sld (TbM w4 (w.heap.size + 3) (.slice none 0 0) (.map none) []) := ⟨hM4⟩
  have HBL4 : Sld (Below w.heap.size w w4) := ⟨hBL4⟩
  clear hM4 hBL4 C0 c7 HKF HF3 HM3 HBL3
  have hk5 : ∀ (b : Nat) (c : Array Value) (T : TypeId) (f : Nat × Nat), w4.heap[b]? = some (.cells c T f) → T ≠ 78 → T ≠ 90 → w5.heap[b]? = some (.cells c T f) := fun b c T f hb h1 h2 => (hT5.tk.same b (lt_of_block hb) (HM4.out.apart hb h1 h2)).trans hb
  have HF5 : Sld (w5.heap[w.heap.size]? = some (.cells #[.slice oo ol.length oc] 22 (0, 0)) ∧ w5.heap[w.heap.size + 1]? = some (.cells #[.int .i64 cut] 3 (0, 0)) ∧ w5.heap[w.heap.size + 1 + 1]? = some (.cells #[.bool false] 4 (0, 0)) ∧ w5.heap[w.heap.size + 4]? = some (.cells #[.pointer (some ⟨w.heap.size + 3, 0, none⟩)] 39 (0, 0)) ∧ w.heap.size + 5 ≤ w5.heap.size) := by
    obtain ⟨g0, g1, g2, g3, g4⟩ := HF4.out
    exact ⟨hk5 _ _ _ _ g0 (by decide) (by decide), hk5 _ _ _ _ g1 (by decide) (by decide), hk5 _ _ _ _ g2 (by decide) (by decide), hk5 _ _ _ _ g3 (by decide) (by decide), by have := hT5.tk.size; omega⟩
  have HBL5 : Sld (Below w.heap.size w w5) := ⟨HBL4.out.trans ((hT5.below HM4.out).mono (by omega))⟩
  have HM5 : Sld (TbM w5 (w.heap.size + 3) ev mv L0) := ⟨hT5.tb⟩
  have c7 : w5.cell? ⟨w.heap.size + 4, 0, none⟩ = some (.pointer (some ⟨w.heap.size + 3, 0, none⟩)) := by simp [World.cell?, HF5.out.2.2.2.1]
  clear hk5 hT5 HF4 HBL4 HM4
  gi_wp2
  refine ⟨trivial, ((callsIn_wide (n := 3)).2 (tlen_any w5 _ ev mv L0 HM5.out)).mono ?_⟩
  rintro e w6 ⟨rfl, hw6⟩
  subst hw6
  gi_wp2
  refine ⟨trivial, ((callsIn_wide (n := 3)).2 (tAll_any w6 _ ev mv L0 HM5.out (by omega))).mono ?_⟩
  rintro e w7 ⟨B, rfl, hBB, hAl, hB7⟩
  have hq := eqI_nil B
  have HI7 : Sld (ItI w (w.heap.size + 4) (w.heap.size + 3) B oo oc ol cut ev L0 (adP L0 ol).2.2 mv w7) := by
    obtain ⟨g0, g1, g2, g3, g4⟩ := HF5.out
    exact ⟨⟨(hB7.block _ (by omega)).trans g0, (hB7.block _ (by omega)).trans g1, (hB7.block _ (by omega)).trans g2, (hB7.block _ (by omega)).trans g3, hAl, ⟨ev, L0, HM5.out.below hB7, .inl rfl⟩, HBL5.out.trans (hB7.mono HBL5.out.size)⟩⟩
  have HG0 : Sld (∀ g, ev.ownBlock = some g → w.heap.size + 3 < g ∧ g < w7.heap.size) := ⟨fun g e => by obtain ⟨h1, h2, _⟩ := rw_block HM5.out.on e; have := hB7.size; exact ⟨by omega, by omega⟩⟩
  have HMV : Sld ((∀ Bm, mv = .map (some Bm) → Bm < w7.heap.size) ∧ (L0 ≠ [] → ∃ Bm, mv = .map (some Bm))) := ⟨⟨fun Bm e => by
    rcases HM5.out.ids with ⟨h1, _⟩ | ⟨B', h1, _, h3⟩
    · rw [h1] at e; cases e
    · rw [h1] at e; cases e; have := h3.lt; have := hB7.size; omega, fun hn => by
    rcases HM5.out.ids with ⟨_, h1⟩ | ⟨B', h1, _, h3⟩
    · exact absurd h1 hn
    · exact ⟨B', h1⟩⟩⟩
  have hBlt : B < w7.heap.size := lt_of_block hAl.blk
  have hs7 : w.heap.size + 5 ≤ B := by have := HF5.out.2.2.2.2; omega
  clear hAl hB7 hBB HF5 HBL5 HM5 c7
  have hpre := adP_pre (l := ol) HI0.out (by omega)
  obtain ⟨L1, hL1⟩ : ∃ L1, (adP L0 ol).2.2 = L1 := ⟨_, rfl⟩
  rw [hL1] at HI7
  have HADD : Sld (∀ W base vs, ItI w (w.heap.size + 4) (w.heap.size + 3) B oo oc ol cut ev L0 L1 mv W → L0 ≠ [] → OwnN W base vs ol → Calls Tryd.prog 31 #[.pointer (some ⟨w.heap.size + 3, 0, none⟩), vs] W fun e w' => (∃ r er : Int, e = .returned (.tuple #[.int .i64 r, .int .i64 er])) ∧ ItI w (w.heap.size + 4) (w.heap.size + 3) B oo oc ol cut ev L0 L1 mv w' ∧ KpL B ev L0.length W w' ∧ KeepsFrom w7.heap.size W w' ∧ ∀ (b : Nat) (c : Array Value) (T : TypeId) (f : Nat × Nat), W.heap[b]? = some (.cells c T f) → T ≠ 78 → T ≠ 90 → w'.heap[b]? = some (.cells c T f)) := ⟨fun W base vs hI hne hO => by
    obtain ⟨ev1, L', h1, h2⟩ := hI.tb
    have hr : L'.length + 64 ≤ 1048576 := by rcases h2 with h2 | h2 <;> (rw [h2]; try rw [← hL1]; try have := hpre.2.2.1); all_goals omega
    refine (tAdd_room W _ ev1 mv L' ol base vs h1 (HT.out W hI.be) hO HFo.out.num hr).mono ?_
    rintro e w' ⟨rfl, ev2, mv2, hT⟩
    rw [← hL1] at hI h2 ⊢
    obtain ⟨h3, h4⟩ := ItI.add hI h1 h2 (HMV.out.2 hne) hT HI0.out (by omega) (by omega) (fun g e => (HG0.out g e).1)
    exact ⟨⟨_, _, rfl⟩, h3, h4, hT.keeps h1 HMV.out.1, fun b c T f hb t1 t2 => (hT.tk.same b (lt_of_block hb) (h1.apart hb t1 t2)).trans hb⟩⟩
  have HNODE : Sld (∀ W k, ItI w (w.heap.size + 4) (w.heap.size + 3) B oo oc ol cut ev L0 L1 mv W → k < L0.length → Calls Tryd.prog 32 #[.pointer (some ⟨w.heap.size + 3, 0, none⟩), .int .i64 k] W fun e w' => ∃ ao cap, e = .returned (.tuple #[.agg #[.int .i64 (edA L0 k).op, .int .i64 (edA L0 k).n, .string (edA L0 k).name, .slice ao (edA L0 k).kids.length cap], .int .i64 0]) ∧ OwnI w' W.heap.size (.slice ao (edA L0 k).kids.length cap) (edA L0 k).kids ∧ Below W.heap.size W w') := ⟨fun W k hI hk => by
    obtain ⟨ev1, L', h1, h2⟩ := hI.tb
    have he : edA L' k = edA L0 k ∧ k < L'.length := by
      rcases h2 with rfl | h2
      · exact ⟨rfl, hk⟩
      · obtain ⟨M, hM⟩ := hpre.1
        rw [h2, ← hL1, hM]
        exact ⟨edA_app hk, by simp; omega⟩
    have := tNode_ok W _ ev1 mv L' k h1 he.2
    rw [he.1] at this
    exact this⟩
  clear hpre hL1
  gi_wp2
  refine wpIn_loop (fun a V => ∃ (j : Nat) (ds : List Nat) (u : Nat → Value), a = { tmps := List.toArray (u 0 :: u 1 :: u 2 :: u 3 :: Value.pointer (some ⟨w.heap.size, 0, none⟩) :: Value.pointer (some ⟨w.heap.size + 1, 0, none⟩) :: Value.pointer (some ⟨w.heap.size + 1 + 1, 0, none⟩) :: Value.pointer (some ⟨w.heap.size + 4, 0, none⟩) :: Value.int .i64 (L0.length : Int) :: Value.func (.func 54) #[] #[.pointer (some ⟨B, 0, none⟩)] :: Value.int .i64 (j : Int) :: u 11 :: u 12 :: u 13 :: u 14 :: u 15 :: u 16 :: u 17 :: u 18 :: u 19 :: u 20 :: u 21 :: u 22 :: u 23 :: u 24 :: u 25 :: u 26 :: u 27 :: u 28 :: u 29 :: u 30 :: u 31 :: u 32 :: u 33 :: u 34 :: u 35 :: u 36 :: u 37 :: u 38 :: u 39 :: u 40 :: u 41 :: u 42 :: u 43 :: u 44 :: u 45 :: u 46 :: u 47 :: u 48 :: u 49 :: u 50 :: u 51 :: u 52 :: u 53 :: u 54 :: u 55 :: u 56 :: u 57 :: u 58 :: u 59 :: u 60 :: u 61 :: u 62 :: u 63 :: u 64 :: u 65 :: u 66 :: u 67 :: u 68 :: u 69 :: u 70 :: u 71 :: u 72 :: u 73 :: u 74 :: u 75 :: u 76 :: u 77 :: u 78 :: u 79 :: u 80 :: u 81 :: u 82 :: u 83 :: u 84 :: u 85 :: u 86 :: u 87 :: []), defers := ds.map mkDT } ∧ j ≤ 2 ∧ MksT w V ds ∧ (∀ D ∈ ds, w7.heap.size ≤ D) ∧ w7.heap.size ≤ V.heap.size ∧ ItI w (w.heap.size + 4) (w.heap.size + 3) B oo oc ol cut ev L0 L1 mv V) (fun a _ => 2 - (RowKit.intOf (a.tmps.getD 10 undef)).toNat) ?_ ?_
  · exact ⟨0, [], fun n => (_ :: _ :: _ :: _ :: undef :: undef :: undef :: undef :: undef :: undef :: undef :: _ :: _ :: _ :: _ :: _ :: _ :: _ :: _ :: _ :: _ :: _ :: _ :: _ :: _ :: _ :: _ :: _ :: _ :: _ :: _ :: _ :: _ :: _ :: _ :: _ :: _ :: _ :: _ :: _ :: _ :: _ :: _ :: _ :: _ :: _ :: _ :: _ :: _ :: _ :: _ :: _ :: _ :: _ :: _ :: _ :: _ :: _ :: _ :: _ :: _ :: _ :: _ :: _ :: _ :: _ :: _ :: _ :: _ :: _ :: _ :: _ :: _ :: _ :: _ :: _ :: _ :: _ :: _ :: _ :: _ :: _ :: _ :: _ :: _ :: _ :: _ :: _ :: []).getD n undef, rfl, by omega, ⟨List.nodup_nil, fun D hD => by simp at hD⟩, (fun D hD => by simp at hD), Nat.le_refl _, HI7.out⟩
  rintro a' V ⟨j, ds, u, rfl, hj2, hMk, hds, hV7, hIV⟩
  have HIV : Sld (ItI w (w.heap.size + 4) (w.heap.size + 3) B oo oc ol cut ev L0 L1 mv V) := ⟨hIV⟩
  have HMK : Sld (MksT w V ds ∧ ∀ D ∈ ds, w7.heap.size ≤ D) := ⟨hMk, hds⟩
  clear hIV hMk hds
  by_cases hlt : j < 2
  · have hbA : Below V.heap.size V (V.alloc (.cells #[.int .i64 0] 3)) := (Below.refl _ _).alloc (Nat.le_refl _) _
    have hszA : (V.alloc (.cells #[.int .i64 0] 3)).heap.size = V.heap.size + 1 := by simp
    have nA : (V.alloc (.cells #[.int .i64 0] 3)).heap[V.heap.size]? = some (.cells #[.int .i64 0] 3 (0, 0)) := Deep.blk_alloc_new _ _
    have hjI : (j : Int) < 2 := by omega
    gi_wp2
    generalize V.alloc (.cells #[.int .i64 0] 3) = wz at *
    have hi0 : ItR w V wz w7.heap.size (w.heap.size + 4) (w.heap.size + 3) B oo oc ol cut ev L0 L1 mv 0 wz := ⟨nA, HIV.out.below hbA, (ko_belowT hbA).from _, Nat.le_refl _⟩
    have hwz : w.heap.size ≤ wz.heap.size := by omega
    have hBmz : ∀ Bm, mv = .map (some Bm) → Bm < wz.heap.size := fun Bm e => by have := HMV.out.1 Bm e; omega
    refine range_seqV (gf := 54) (lb := #[.pointer (some ⟨B, 0, none⟩)]) hro (by omega) rfl trivial (enters_of Tryd.func54 (by kernel_rfl) rfl) L0.length (YdL L0 wz.heap.size) (fun k args W h => by obtain ⟨_, _, rfl, _⟩ := h; rfl) (fun k args W l o o' hl ho hc h => h.put ho hc) (KpL B ev L0.length) KpL.trans
      (fun W l o o' hl ho hc => ⟨by simp, fun o1 h1 => (World.putObj_heap_other (by omega)).trans h1, fun g e j u hj hu => by
        have hne : (W.putObj l o').heap[g]? = W.heap[g]? := World.putObj_heap_other (by have := (HG0.out g e).2; omega)
        simp only [World.cell?] at hu ⊢
        rw [hne]
        exact hu⟩)
      (fun l J Jx W hW hJb hY h0 => tall1_in 3 (by omega) wz.heap.size l B ev L0 J Jx W (hi0.it.al.below hW) hW.size hJb hY h0)
      (ItR w V wz w7.heap.size (w.heap.size + 4) (w.heap.size + 3) B oo oc ol cut ev L0 L1 mv) (ItX w V w7.heap.size (w.heap.size + 4) (w.heap.size + 3) B oo oc ol cut ev L0 L1 mv) (ItR.own hwz (by omega) hBmz) (ItX.own hwz (by omega) hBmz) hi0 (fun k args W => { tmps := List.toArray (u 0 :: u 1 :: u 2 :: u 3 :: Value.pointer (some ⟨w.heap.size, 0, none⟩) :: Value.pointer (some ⟨w.heap.size + 1, 0, none⟩) :: Value.pointer (some ⟨w.heap.size + 1 + 1, 0, none⟩) :: Value.pointer (some ⟨w.heap.size + 4, 0, none⟩) :: Value.int .i64 (L0.length : Int) :: Value.func (.func 54) #[] #[.pointer (some ⟨B, 0, none⟩)] :: Value.int .i64 (j : Int) :: Value.pointer (some ⟨V.heap.size, 0, none⟩) :: args.getD 0 undef :: Value.pointer (some ⟨W.heap.size, 0, none⟩) :: u 14 :: u 15 :: u 16 :: u 17 :: u 18 :: u 19 :: u 20 :: u 21 :: u 22 :: u 23 :: u 24 :: u 25 :: u 26 :: u 27 :: u 28 :: u 29 :: u 30 :: u 31 :: u 32 :: u 33 :: Value.int .i64 (j : Int) :: Value.bool true :: u 36 :: u 37 :: Value.func (.func 54) #[] #[.pointer (some ⟨B, 0, none⟩)] :: args.getD 0 undef :: args.getD 1 undef :: u 41 :: u 42 :: u 43 :: u 44 :: u 45 :: u 46 :: u 47 :: u 48 :: u 49 :: u 50 :: u 51 :: u 52 :: u 53 :: u 54 :: u 55 :: u 56 :: u 57 :: u 58 :: u 59 :: u 60 :: u 61 :: u 62 :: u 63 :: u 64 :: u 65 :: u 66 :: u 67 :: u 68 :: u 69 :: u 70 :: u 71 :: u 72 :: u 73 :: u 74 :: u 75 :: u 76 :: u 77 :: u 78 :: u 79 :: u 80 :: u 81 :: u 82 :: u 83 :: u 84 :: u 85 :: u 86 :: u 87 :: []), defers := [] }) (fun k args W => W.alloc (.cells (match args.getD 1 undef with | .agg cs => cs | _ => #[]) 47)) (fun k args W => (Below.refl _ _).alloc (Nat.le_refl _) _) (fun X Y h => KpL.below h) (fun k args X Y h hb => h.below hb) ?assign ?body ?done ?stop
    case assign =>
      intro l k W args K hV hK
      obtain ⟨xo, xc, rfl, _⟩ := hV
      gi_wp2
      exact hK
    case body =>
      intro lp k W0 W args hl hk hI hYd hW0 hUU
      obtain ⟨xo, xc, rfl, hOx⟩ := hYd
      have hxne : W0.heap.size ≠ lp := by omega
      have hxb : W.heap[W0.heap.size]? = some (.cells #[.int .i64 (edA L0 k).op, .int .i64 (edA L0 k).n, .string (edA L0 k).name, .slice xo (edA L0 k).kids.length xc] 47 (0, 0)) := (hUU.2 _ hxne).trans (Deep.blk_alloc_new _ _)
      have cND := in_roundT (l := lp) (n := 1) (HNODE.out W k hI.it hk)
      have c7 : W.cell? ⟨w.heap.size + 4, 0, none⟩ = some (.pointer (some ⟨w.heap.size + 3, 0, none⟩)) := cell1 hI.it.b7
      have hkI : (k : Int) < 64 := by omega
      have hne0 : L0 ≠ [] := fun e => by rw [e] at hk; simp at hk
      obtain ⟨x, hx⟩ : ∃ x, edA L0 k = x := ⟨_, rfl⟩
      rw [hx] at hxb cND hOx ⊢
      clear hUU
      generalize W0.heap.size = xb at *
      obtain ⟨op, n, nm, kids⟩ := x
      simp only at hxb cND hOx
      have HM0 : Sld (ItM w V wz W w7.heap.size (w.heap.size + 4) (w.heap.size + 3) B xb oo oc ol cut ev L0 L1 mv k ⟨op, n, nm, kids⟩ xo xc W) := ⟨⟨hI.n, hI.it, KeepsFrom.refl _ _, KpL.below (Below.refl _ _), hxb, kids, rfl, hOx⟩⟩
      have HKV : Sld (KeepsFrom w7.heap.size V W ∧ wz.heap.size ≤ W.heap.size) := ⟨hI.kf, hI.sz⟩
      have hkm := hOx.2
      have HOX : Sld (OwnI W wz.heap.size (.slice xo kids.length xc) kids) := ⟨hOx⟩
      have hkl : kids.length ≤ xc ∧ xc ≤ maxLen ∨ kids.length = 0 ∧ xo = none := by
        rcases hkm with ⟨h1, h2⟩ | ⟨g, cap, cur, h1, _, _, h2, h3, _⟩
        · injection h1 with h1a h1b h1c; exact .inr ⟨h1b, h1a⟩
        · injection h1 with h1a h1b h1c; subst h1c; exact .inl ⟨h2, h3⟩
      have hlen : (kids.length : Int) ≤ 9223372036854775807 := by rcases hkl with ⟨h1, h2⟩ | ⟨h1, _⟩ <;> (unfold maxLen at *; omega)
      clear hI hOx hx hkm hkl
      show Code.wpIn _ _ _ _ _ { tmps := _, defers := [] } W
      gi_wp2
      refine ⟨trivial, cND.mono ?_⟩
      rintro e W1 ⟨yo, yc, rfl, hOy, hb1⟩
      obtain ⟨W2, hW2⟩ : ∃ W2, W1.alloc (.cells #[.int .i64 op, .int .i64 n, .string nm, .slice yo kids.length yc] 47) = W2 := ⟨_, rfl⟩
      have hb12 : Below W1.heap.size W1 W2 := by rw [← hW2]; exact (Below.refl _ _).alloc (Nat.le_refl _) _
      have hb2 : Below W.heap.size W W2 := hb1.trans (hb12.mono hb1.size)
      have y2 : W2.heap[W1.heap.size]? = some (.cells #[.int .i64 op, .int .i64 n, .string nm, .slice yo kids.length yc] 47 (0, 0)) := by rw [← hW2]; exact Deep.blk_alloc_new _ _
      have HM2 : Sld (ItM w V wz W w7.heap.size (w.heap.size + 4) (w.heap.size + 3) B xb oo oc ol cut ev L0 L1 mv k ⟨op, n, nm, kids⟩ xo xc W2) := ⟨HM0.out.below hb2⟩
      have cn2 : W2.cell? ⟨V.heap.size, 0, none⟩ = some (.int .i64 (k : Int)) := cell1 HM2.out.n
      obtain ⟨x0, x1, x2, x3, _⟩ := blk4 HM2.out.xat
      obtain ⟨y0, y1, y2', y3, _⟩ := blk4 y2
      have CSN : Sld (Calls Tryd.prog 26 #[.agg #[.int .i64 op, .int .i64 n, .string nm, .slice xo kids.length xc], .agg #[.int .i64 op, .int .i64 n, .string nm, .slice yo kids.length yc]] W2 fun e w' => e = .returned (.bool true) ∧ Below W2.heap.size W2 w') := ⟨by
        have := sameNode_any ⟨op, n, nm, kids⟩ ⟨op, n, nm, kids⟩ (.slice xo kids.length xc) (.slice yo kids.length yc) W2 W2.heap.size (Nat.le_refl _) (Ints_of_own (HOX.out.below hb2) (Nat.le_refl _)) (Ints_of_own (hOy.below hb12) (Nat.le_refl _))
        rw [ndEq_self] at this
        exact this⟩
      clear hb1 hb12 hb2 hOy y2 cND HM0 HOX
      gi_wp2
      refine ⟨trivial, (in_roundT (l := lp) (n := 1) CSN.out).mono ?_⟩
      rintro e W3 ⟨rfl, hb3⟩
      have HM3 : Sld (ItM w V wz W w7.heap.size (w.heap.size + 4) (w.heap.size + 3) B xb oo oc ol cut ev L0 L1 mv k ⟨op, n, nm, kids⟩ xo xc W3) := ⟨HM2.out.below hb3⟩
      clear hb3 CSN HM2 cn2 x0 x1 x2 x3 y0 y1 y2' y3 hW2
      gi_wp2
      gi_loopw [16] (fun i wr => ∃ q : Nat, q ≤ kids.length ∧ i = .int .i64 q ∧ Sld (ItM w V wz W w7.heap.size (w.heap.size + 4) (w.heap.size + 3) B xb oo oc ol cut ev L0 L1 mv k ⟨op, n, nm, kids⟩ xo xc wr)) (fun i _ => kids.length - (RowKit.intOf i).toNat)
      case atStart => exact ⟨0, Nat.zero_le _, rfl, HM3⟩
      case round =>
        obtain ⟨q, hq, rfl, HMr⟩ := hrel
        have hxr := HMr.out.xat
        obtain ⟨x0, x1, x2, x3, _⟩ := blk4 hxr
        clear hxr x0 x1 x2
        by_cases hql : q < kids.length
        · obtain ⟨g, hxo, hgc, hgf⟩ : ∃ g, xo = some ⟨g, 0, none⟩ ∧ (kids.length ≤ xc ∧ xc ≤ maxLen) ∧ ∀ i, i < kids.length → (∃ v, wr.cell? ⟨g, i, none⟩ = some (.int .i64 v)) ∧ wr.frozen? ⟨g, i, none⟩ = false := by
            obtain ⟨ks, h1, h2⟩ := HMr.out.row
            have h2' := h2
            rcases h2'.2 with ⟨h3, h4⟩ | ⟨g, cap, cur, h3, _, _, h4, h5, _⟩
            · injection h3 with _ h3b _
              have h3c : kids.length = 0 := h3b
              omega
            · injection h3 with h3a _ h3c
              subst h3c
              rw [h3a] at h2
              refine ⟨g, h3a, ⟨by rw [h1] at h4; exact h4, h5⟩, fun i hi => ⟨⟨_, OwnI.cellT h2 h1 hi⟩, OwnI.frT h2 h1 i⟩⟩
          subst hxo
          obtain ⟨⟨v, cv⟩, cf⟩ := hgf q hql
          unfold maxLen at hgc
          obtain ⟨hgc1, hgc2⟩ := hgc
          have hqI : (q : Int) < (kids.length : Int) := by omega
          have HMn : Sld (ItM w V wz W w7.heap.size (w.heap.size + 4) (w.heap.size + 3) B xb oo oc ol cut ev L0 L1 mv k ⟨op, n, nm, kids⟩ (some ⟨g, 0, none⟩) xc (wr.setCell ⟨g, q, none⟩ (.int .i64 (-9)))) := ⟨HMr.out.put (by omega) (by omega) (by omega) (by omega) (fun g' e => by have := (HG0.out g' e).2; omega)⟩
          clear hgf HMr
          gi_wp2
          exact ⟨⟨q + 1, by omega, by go_num, HMn⟩, by simp [RowKit.intOf]; omega⟩
        · have hqI : ¬ ((q : Int) < (kids.length : Int)) := by omega
          clear hql
          gi_wp2
          have HBr : Sld (Below w.heap.size w wr) := ⟨HMr.out.it.be⟩
          have c7r : wr.cell? ⟨w.heap.size + 4, 0, none⟩ = some (.pointer (some ⟨w.heap.size + 3, 0, none⟩)) := cell1 HMr.out.it.b7
          have c4r : wr.cell? ⟨w.heap.size, 0, none⟩ = some (.slice oo ol.length oc) := cell1 HMr.out.it.b4
          refine wpIn_region_any hmo ?_
          try (change wpAnyIn _ _ _ _ _ _ _ _ _ (World.drew _))
          refine wpAnyIn_ready (rs := [0, 1]) (by kernel_rfl) (by simp) ?_
          refine AllReadyIn.cons rfl (fun K hK => ?_) (AllReadyIn.cons rfl (fun K hK => ?_) AllReadyIn.nil)
          · go_simp
            refine hK _ _ ?_
            clear hK K
            refine wpAnyIn_ready (rs := [1]) (by kernel_rfl) (by simp) ?_
            refine AllReadyIn.cons rfl (fun K hK => ?_) AllReadyIn.nil
            go_simp
            refine hK _ _ ?_
            clear hK K
            refine wpAnyIn_ready (rs := [2]) (by kernel_rfl) (by simp) ?_
            refine AllReadyIn.cons rfl (fun K hK => ?_) AllReadyIn.nil
            go_simp
            refine ⟨trivial, (in_roundT (l := lp) (n := 1) (copy_ownB _ oo oc ol (HRo.out _ HBr.out.drew) HFo.out)).mono ?_⟩
            rintro e w4 ⟨v4, rfl, hO4, hb4'⟩
            have hb4 : Below wr.heap.size wr w4 := (Below.refl _ _).drew.trans hb4'
            have HM4 : Sld (ItM w V wz W w7.heap.size (w.heap.size + 4) (w.heap.size + 3) B xb oo oc ol cut ev L0 L1 mv k ⟨op, n, nm, kids⟩ xo xc w4) := ⟨HMr.out.below hb4⟩
            have c74 : w4.cell? ⟨w.heap.size + 4, 0, none⟩ = some (.pointer (some ⟨w.heap.size + 3, 0, none⟩)) := cell1 HM4.out.it.b7
            have HD4 : Sld _ := ⟨HADD.out w4 _ v4 HM4.out.it hne0 hO4⟩
            clear hb4 hb4' hO4
            refine hK _ _ ?_
            clear hK K
            refine wpAnyIn_ready (rs := [3]) (by kernel_rfl) (by simp) ?_
            refine AllReadyIn.cons rfl (fun K hK => ?_) AllReadyIn.nil
            go_simp
            refine ⟨trivial, (in_roundT (l := lp) (n := 1) HD4.out).mono ?_⟩
            rintro e w5 ⟨⟨rr, er, rfl⟩, hI5, hK5, hF5, hB5⟩
            refine hK _ _ ?_
            clear hK K
            refine wpAnyIn_done (by kernel_rfl) ?_ _
            have n5 : w5.heap[V.heap.size]? = some (.cells #[.int .i64 (k : Int)] 3 (0, 0)) := hB5 _ _ _ _ HM4.out.n (by decide) (by decide)
            have cn5 : w5.cell? ⟨V.heap.size, 0, none⟩ = some (.int .i64 (k : Int)) := cell1 n5
            have fn5 : w5.frozen? ⟨V.heap.size, 0, none⟩ = false := by simp [World.frozen?, n5]
            have n6 : (w5.setCell ⟨V.heap.size, 0, none⟩ (.int .i64 ((k : Int) + 1))).heap[V.heap.size]? = some (.cells #[.int .i64 ((k : Int) + 1)] 3 (0, 0)) := by simpa using heap_setCell_same w5 V.heap.size 0 #[.int .i64 (k : Int)] 3 (.int .i64 ((k : Int) + 1)) n5
            have it6 : ItI w (w.heap.size + 4) (w.heap.size + 3) B oo oc ol cut ev L0 L1 mv (w5.setCell ⟨V.heap.size, 0, none⟩ (.int .i64 ((k : Int) + 1))) := hI5.set n5 (by decide) (by decide) (by omega) (by omega) (by omega) (fun g e => by have := (HG0.out g e).2; omega)
            have cn6 : (w5.setCell ⟨V.heap.size, 0, none⟩ (.int .i64 ((k : Int) + 1))).cell? ⟨V.heap.size, 0, none⟩ = some (.int .i64 ((k : Int) + 1)) := cell1 n6
            have cc6 : (w5.setCell ⟨V.heap.size, 0, none⟩ (.int .i64 ((k : Int) + 1))).cell? ⟨w.heap.size + 1, 0, none⟩ = some (.int .i64 cut) := cell1 it6.b5
            have kp6 : KpL B ev L0.length W (w5.setCell ⟨V.heap.size, 0, none⟩ (.int .i64 ((k : Int) + 1))) := (HM4.out.kp.trans hK5).trans (KpL.set (by omega) (fun g e => by have := (HG0.out g e).2; omega))
            have kf6 : KeepsFrom w7.heap.size W (w5.setCell ⟨V.heap.size, 0, none⟩ (.int .i64 ((k : Int) + 1))) := (HM4.out.kf.trans hF5).trans ((KeepsOthers.setCell _ _ _).from _)
            have sz6 : wz.heap.size ≤ (w5.setCell ⟨V.heap.size, 0, none⟩ (.int .i64 ((k : Int) + 1))).heap.size := Nat.le_trans HKV.out.2 kf6.size
            have HF6 : Sld (_ ∧ _ ∧ _ ∧ _ ∧ _) := ⟨n6, it6, kp6, kf6, sz6⟩
            clear n5 n6 it6 kp6 kf6 sz6 hI5 hK5 hF5 hB5 HD4 HM4 c74
            by_cases hcut : ((k : Int) + 1) = cut
            · have hce : ((k : Int) + 1 == cut) = true := by simp [hcut]
              have HCUT : Sld ((k : Int) + 1 = cut) := ⟨hcut⟩
              clear hcut
              gi_wp2
              obtain ⟨n6, it6, kp6, kf6, sz6⟩ := HF6.out
              exact ⟨keepsFrom_up kf6 (by omega), ⟨rfl, by rw [← HCUT.out]; exact n6, it6, HKV.out.1.trans kf6⟩⟩
            · have hce : ((k : Int) + 1 == cut) = false := by simp [hcut]
              clear hcut
              gi_wp2
              obtain ⟨n6, it6, kp6, kf6, sz6⟩ := HF6.out
              exact ⟨keepsFrom_up kf6 (by omega), kp6, ⟨by exact_mod_cast n6, it6, HKV.out.1.trans kf6, sz6⟩⟩
          · go_simp
            refine hK _ _ ?_
            clear hK K
            refine wpAnyIn_ready (rs := [0, 2]) (by kernel_rfl) (by simp) ?_
            refine AllReadyIn.cons rfl (fun K hK => ?_) (AllReadyIn.cons rfl (fun K hK => ?_) AllReadyIn.nil)
            · go_simp
              refine hK _ _ ?_
              clear hK K
              refine wpAnyIn_ready (rs := [2]) (by kernel_rfl) (by simp) ?_
              refine AllReadyIn.cons rfl (fun K hK => ?_) AllReadyIn.nil
              go_simp
              refine ⟨trivial, (in_roundT (l := lp) (n := 1) (copy_ownB _ oo oc ol (HRo.out _ HBr.out.drew) HFo.out)).mono ?_⟩
              rintro e w4 ⟨v4, rfl, hO4, hb4'⟩
              have hb4 : Below wr.heap.size wr w4 := (Below.refl _ _).drew.trans hb4'
              have HM4 : Sld (ItM w V wz W w7.heap.size (w.heap.size + 4) (w.heap.size + 3) B xb oo oc ol cut ev L0 L1 mv k ⟨op, n, nm, kids⟩ xo xc w4) := ⟨HMr.out.below hb4⟩
              have c74 : w4.cell? ⟨w.heap.size + 4, 0, none⟩ = some (.pointer (some ⟨w.heap.size + 3, 0, none⟩)) := cell1 HM4.out.it.b7
              have HD4 : Sld _ := ⟨HADD.out w4 _ v4 HM4.out.it hne0 hO4⟩
              clear hb4 hb4' hO4
              refine hK _ _ ?_
              clear hK K
              refine wpAnyIn_ready (rs := [3]) (by kernel_rfl) (by simp) ?_
              refine AllReadyIn.cons rfl (fun K hK => ?_) AllReadyIn.nil
              go_simp
              refine ⟨trivial, (in_roundT (l := lp) (n := 1) HD4.out).mono ?_⟩
              rintro e w5 ⟨⟨rr, er, rfl⟩, hI5, hK5, hF5, hB5⟩
              refine hK _ _ ?_
              clear hK K
              refine wpAnyIn_done (by kernel_rfl) ?_ _
              have n5 : w5.heap[V.heap.size]? = some (.cells #[.int .i64 (k : Int)] 3 (0, 0)) := hB5 _ _ _ _ HM4.out.n (by decide) (by decide)
              have cn5 : w5.cell? ⟨V.heap.size, 0, none⟩ = some (.int .i64 (k : Int)) := cell1 n5
              have fn5 : w5.frozen? ⟨V.heap.size, 0, none⟩ = false := by simp [World.frozen?, n5]
              have n6 : (w5.setCell ⟨V.heap.size, 0, none⟩ (.int .i64 ((k : Int) + 1))).heap[V.heap.size]? = some (.cells #[.int .i64 ((k : Int) + 1)] 3 (0, 0)) := by simpa using heap_setCell_same w5 V.heap.size 0 #[.int .i64 (k : Int)] 3 (.int .i64 ((k : Int) + 1)) n5
              have it6 : ItI w (w.heap.size + 4) (w.heap.size + 3) B oo oc ol cut ev L0 L1 mv (w5.setCell ⟨V.heap.size, 0, none⟩ (.int .i64 ((k : Int) + 1))) := hI5.set n5 (by decide) (by decide) (by omega) (by omega) (by omega) (fun g e => by have := (HG0.out g e).2; omega)
              have cn6 : (w5.setCell ⟨V.heap.size, 0, none⟩ (.int .i64 ((k : Int) + 1))).cell? ⟨V.heap.size, 0, none⟩ = some (.int .i64 ((k : Int) + 1)) := cell1 n6
              have cc6 : (w5.setCell ⟨V.heap.size, 0, none⟩ (.int .i64 ((k : Int) + 1))).cell? ⟨w.heap.size + 1, 0, none⟩ = some (.int .i64 cut) := cell1 it6.b5
              have kp6 : KpL B ev L0.length W (w5.setCell ⟨V.heap.size, 0, none⟩ (.int .i64 ((k : Int) + 1))) := (HM4.out.kp.trans hK5).trans (KpL.set (by omega) (fun g e => by have := (HG0.out g e).2; omega))
              have kf6 : KeepsFrom w7.heap.size W (w5.setCell ⟨V.heap.size, 0, none⟩ (.int .i64 ((k : Int) + 1))) := (HM4.out.kf.trans hF5).trans ((KeepsOthers.setCell _ _ _).from _)
              have sz6 : wz.heap.size ≤ (w5.setCell ⟨V.heap.size, 0, none⟩ (.int .i64 ((k : Int) + 1))).heap.size := Nat.le_trans HKV.out.2 kf6.size
              have HF6 : Sld (_ ∧ _ ∧ _ ∧ _ ∧ _) := ⟨n6, it6, kp6, kf6, sz6⟩
              clear n5 n6 it6 kp6 kf6 sz6 hI5 hK5 hF5 hB5 HD4 HM4 c74
              by_cases hcut : ((k : Int) + 1) = cut
              · have hce : ((k : Int) + 1 == cut) = true := by simp [hcut]
                have HCUT : Sld ((k : Int) + 1 = cut) := ⟨hcut⟩
                clear hcut
                gi_wp2
                obtain ⟨n6, it6, kp6, kf6, sz6⟩ := HF6.out
                exact ⟨keepsFrom_up kf6 (by omega), ⟨rfl, by rw [← HCUT.out]; exact n6, it6, HKV.out.1.trans kf6⟩⟩
              · have hce : ((k : Int) + 1 == cut) = false := by simp [hcut]
                clear hcut
                gi_wp2
                obtain ⟨n6, it6, kp6, kf6, sz6⟩ := HF6.out
                exact ⟨keepsFrom_up kf6 (by omega), kp6, ⟨by exact_mod_cast n6, it6, HKV.out.1.trans kf6, sz6⟩⟩
            · go_simp
              refine ⟨trivial, (in_roundT (l := lp) (n := 1) (copy_ownB _ oo oc ol (HRo.out _ HBr.out.drew) HFo.out)).mono ?_⟩
              rintro e w4 ⟨v4, rfl, hO4, hb4'⟩
              have hb4 : Below wr.heap.size wr w4 := (Below.refl _ _).drew.trans hb4'
              have HM4 : Sld (ItM w V wz W w7.heap.size (w.heap.size + 4) (w.heap.size + 3) B xb oo oc ol cut ev L0 L1 mv k ⟨op, n, nm, kids⟩ xo xc w4) := ⟨HMr.out.below hb4⟩
              have c74 : w4.cell? ⟨w.heap.size + 4, 0, none⟩ = some (.pointer (some ⟨w.heap.size + 3, 0, none⟩)) := cell1 HM4.out.it.b7
              have HD4 : Sld _ := ⟨HADD.out w4 _ v4 HM4.out.it hne0 hO4⟩
              clear hb4 hb4' hO4
              refine hK _ _ ?_
              clear hK K
              refine wpAnyIn_ready (rs := [0]) (by kernel_rfl) (by simp) ?_
              refine AllReadyIn.cons rfl (fun K hK => ?_) AllReadyIn.nil
              go_simp
              refine hK _ _ ?_
              clear hK K
              refine wpAnyIn_ready (rs := [3]) (by kernel_rfl) (by simp) ?_
              refine AllReadyIn.cons rfl (fun K hK => ?_) AllReadyIn.nil
              go_simp
              refine ⟨trivial, (in_roundT (l := lp) (n := 1) HD4.out).mono ?_⟩
              rintro e w5 ⟨⟨rr, er, rfl⟩, hI5, hK5, hF5, hB5⟩
              refine hK _ _ ?_
              clear hK K
              refine wpAnyIn_done (by kernel_rfl) ?_ _
              have n5 : w5.heap[V.heap.size]? = some (.cells #[.int .i64 (k : Int)] 3 (0, 0)) := hB5 _ _ _ _ HM4.out.n (by decide) (by decide)
              have cn5 : w5.cell? ⟨V.heap.size, 0, none⟩ = some (.int .i64 (k : Int)) := cell1 n5
              have fn5 : w5.frozen? ⟨V.heap.size, 0, none⟩ = false := by simp [World.frozen?, n5]
              have n6 : (w5.setCell ⟨V.heap.size, 0, none⟩ (.int .i64 ((k : Int) + 1))).heap[V.heap.size]? = some (.cells #[.int .i64 ((k : Int) + 1)] 3 (0, 0)) := by simpa using heap_setCell_same w5 V.heap.size 0 #[.int .i64 (k : Int)] 3 (.int .i64 ((k : Int) + 1)) n5
              have it6 : ItI w (w.heap.size + 4) (w.heap.size + 3) B oo oc ol cut ev L0 L1 mv (w5.setCell ⟨V.heap.size, 0, none⟩ (.int .i64 ((k : Int) + 1))) := hI5.set n5 (by decide) (by decide) (by omega) (by omega) (by omega) (fun g e => by have := (HG0.out g e).2; omega)
              have cn6 : (w5.setCell ⟨V.heap.size, 0, none⟩ (.int .i64 ((k : Int) + 1))).cell? ⟨V.heap.size, 0, none⟩ = some (.int .i64 ((k : Int) + 1)) := cell1 n6
              have cc6 : (w5.setCell ⟨V.heap.size, 0, none⟩ (.int .i64 ((k : Int) + 1))).cell? ⟨w.heap.size + 1, 0, none⟩ = some (.int .i64 cut) := cell1 it6.b5
              have kp6 : KpL B ev L0.length W (w5.setCell ⟨V.heap.size, 0, none⟩ (.int .i64 ((k : Int) + 1))) := (HM4.out.kp.trans hK5).trans (KpL.set (by omega) (fun g e => by have := (HG0.out g e).2; omega))
              have kf6 : KeepsFrom w7.heap.size W (w5.setCell ⟨V.heap.size, 0, none⟩ (.int .i64 ((k : Int) + 1))) := (HM4.out.kf.trans hF5).trans ((KeepsOthers.setCell _ _ _).from _)
              have sz6 : wz.heap.size ≤ (w5.setCell ⟨V.heap.size, 0, none⟩ (.int .i64 ((k : Int) + 1))).heap.size := Nat.le_trans HKV.out.2 kf6.size
              have HF6 : Sld (_ ∧ _ ∧ _ ∧ _ ∧ _) := ⟨n6, it6, kp6, kf6, sz6⟩
              clear n5 n6 it6 kp6 kf6 sz6 hI5 hK5 hF5 hB5 HD4 HM4 c74
              by_cases hcut : ((k : Int) + 1) = cut
              · have hce : ((k : Int) + 1 == cut) = true := by simp [hcut]
                have HCUT : Sld ((k : Int) + 1 = cut) := ⟨hcut⟩
                clear hcut
                gi_wp2
                obtain ⟨n6, it6, kp6, kf6, sz6⟩ := HF6.out
                exact ⟨keepsFrom_up kf6 (by omega), ⟨rfl, by rw [← HCUT.out]; exact n6, it6, HKV.out.1.trans kf6⟩⟩
              · have hce : ((k : Int) + 1 == cut) = false := by simp [hcut]
                clear hcut
                gi_wp2
                obtain ⟨n6, it6, kp6, kf6, sz6⟩ := HF6.out
                exact ⟨keepsFrom_up kf6 (by omega), kp6, ⟨by exact_mod_cast n6, it6, HKV.out.1.trans kf6, sz6⟩⟩
    case done =>
      intro D W hD hI hK
      have cn : W.cell? ⟨V.heap.size, 0, none⟩ = some (.int .i64 (L0.length : Int)) := cell1 hI.n
      have MW : MksT w W (D :: ds) := HMK.out.1.add hI.kf HMK.out.2 (by omega) (by omega) hK
      have hsz := hI.sz
      have HIW : Sld (ItI w (w.heap.size + 4) (w.heap.size + 3) B oo oc ol cut ev L0 L1 mv W) := ⟨hI.it⟩
      clear hI
      gi_wp2
      exact ⟨⟨j + 1, D :: ds, fun n => (_ :: _ :: _ :: _ :: undef :: undef :: undef :: undef :: undef :: undef :: undef :: _ :: _ :: _ :: _ :: _ :: _ :: _ :: _ :: _ :: _ :: _ :: _ :: _ :: _ :: _ :: _ :: _ :: _ :: _ :: _ :: _ :: _ :: _ :: _ :: _ :: _ :: _ :: _ :: _ :: _ :: _ :: _ :: _ :: _ :: _ :: _ :: _ :: _ :: _ :: _ :: _ :: _ :: _ :: _ :: _ :: _ :: _ :: _ :: _ :: _ :: _ :: _ :: _ :: _ :: _ :: _ :: _ :: _ :: _ :: _ :: _ :: _ :: _ :: _ :: _ :: _ :: _ :: _ :: _ :: _ :: _ :: _ :: _ :: _ :: _ :: _ :: _ :: []).getD n undef, rfl, by omega, MW, (fun E hE => (List.mem_cons.1 hE).elim (fun e => by omega) (fun h => HMK.out.2 E h)), by omega, HIW.out⟩, by show 2 - ((j : Int) + 1).toNat < 2 - ((j : Int)).toNat; omega⟩
    case stop =>
      intro D c k W hD hk hX hK
      have hc := hX.ex
      subst hc
      have cn : W.cell? ⟨V.heap.size, 0, none⟩ = some (.int .i64 cut) := cell1 hX.n
      have cc : W.cell? ⟨w.heap.size + 1, 0, none⟩ = some (.int .i64 cut) := cell1 hX.it.b5
      have MW : MksT w W (D :: ds) := HMK.out.1.add hX.kf HMK.out.2 (by omega) (by omega) hK
      have hsz : V.heap.size ≤ W.heap.size := hX.kf.size
      have HIW : Sld (ItI w (w.heap.size + 4) (w.heap.size + 3) B oo oc ol cut ev L0 L1 mv W) := ⟨hX.it⟩
      clear hX
      by_cases hcl : cut = (L0.length : Int)
      · have hce : (cut != (L0.length : Int)) = false := by simp [hcl]
        have hce' : (cut == (L0.length : Int)) = true := by simp [hcl]
        clear hcl
        gi_wp2
        exact ⟨⟨j + 1, D :: ds, fun n => (_ :: _ :: _ :: _ :: undef :: undef :: undef :: undef :: undef :: undef :: undef :: _ :: _ :: _ :: _ :: _ :: _ :: _ :: _ :: _ :: _ :: _ :: _ :: _ :: _ :: _ :: _ :: _ :: _ :: _ :: _ :: _ :: _ :: _ :: _ :: _ :: _ :: _ :: _ :: _ :: _ :: _ :: _ :: _ :: _ :: _ :: _ :: _ :: _ :: _ :: _ :: _ :: _ :: _ :: _ :: _ :: _ :: _ :: _ :: _ :: _ :: _ :: _ :: _ :: _ :: _ :: _ :: _ :: _ :: _ :: _ :: _ :: _ :: _ :: _ :: _ :: _ :: _ :: _ :: _ :: _ :: _ :: _ :: _ :: _ :: _ :: _ :: _ :: []).getD n undef, rfl, by omega, MW, (fun E hE => (List.mem_cons.1 hE).elim (fun e => by omega) (fun h => HMK.out.2 E h)), by omega, HIW.out⟩, by show 2 - ((j : Int) + 1).toNat < 2 - ((j : Int)).toNat; omega⟩
      · have hce : (cut != (L0.length : Int)) = true := by simp [hcl]
        have hce' : (cut == (L0.length : Int)) = false := by simp [hcl]
        clear hcl
        gi_wp2
        exact ⟨⟨j + 1, D :: ds, fun n => (_ :: _ :: _ :: _ :: undef :: undef :: undef :: undef :: undef :: undef :: undef :: _ :: _ :: _ :: _ :: _ :: _ :: _ :: _ :: _ :: _ :: _ :: _ :: _ :: _ :: _ :: _ :: _ :: _ :: _ :: _ :: _ :: _ :: _ :: _ :: _ :: _ :: _ :: _ :: _ :: _ :: _ :: _ :: _ :: _ :: _ :: _ :: _ :: _ :: _ :: _ :: _ :: _ :: _ :: _ :: _ :: _ :: _ :: _ :: _ :: _ :: _ :: _ :: _ :: _ :: _ :: _ :: _ :: _ :: _ :: _ :: _ :: _ :: _ :: _ :: _ :: _ :: _ :: _ :: _ :: _ :: _ :: _ :: _ :: _ :: _ :: _ :: _ :: []).getD n undef, rfl, by omega, MW, (fun E hE => (List.mem_cons.1 hE).elim (fun e => by omega) (fun h => HMK.out.2 E h)), by omega, HIW.out⟩, by show 2 - ((j : Int) + 1).toNat < 2 - ((j : Int)).toNat; omega⟩
  · obtain rfl : j = 2 := by omega
    have rV := HIV.out.b6
    have cr : V.cell? ⟨w.heap.size + 1 + 1, 0, none⟩ = some (.bool false) := cell1 rV
    have fr' : V.frozen? ⟨w.heap.size + 1 + 1, 0, none⟩ = false := by simp [World.frozen?, rV]
    have hbF : Below w.heap.size w (V.setCell ⟨w.heap.size + 1 + 1, 0, none⟩ (.bool true)) := HIV.out.be.setCell (p := ⟨w.heap.size + 1 + 1, 0, none⟩) (by show w.heap.size ≤ w.heap.size + 1 + 1; omega) _
    have rF := heap_setCell_same V (w.heap.size + 1 + 1) 0 #[.bool false] 4 (.bool true) rV
    have MF : MksT w (V.setCell ⟨w.heap.size + 1 + 1, 0, none⟩ (.bool true)) ds := HMK.out.1.keep (fun E h1 h2 => (KeepsOthers.setCell V ⟨w.heap.size + 1 + 1, 0, none⟩ (.bool true)).same E _ h2 rfl) (by simp)
    clear rV
    gi_wp2
    generalize V.setCell ⟨w.heap.size + 1 + 1, 0, none⟩ (.bool true) = Z at *
    refine leaves_marksT ds Z MF.nd (fun D hD => (MF.at_ D hD).2.2) (fun w' h1 h2 h3 h4 h5 => ?_)
    have rZ : w'.heap[w.heap.size + 1 + 1]? = _ := (h5 _ (fun hm => by have := (MF.at_ _ hm).1; omega)).trans rF
    have cZ : w'.cell? ⟨w.heap.size + 1 + 1, 0, none⟩ = some (.bool true) := by simp [World.cell?, rZ]
    refine ⟨.bool true, ?_, rfl, ⟨h1.trans hbF.os, h2.trans hbF.tape, h3.trans hbF.output, by have := hbF.size; omega, fun b hb => (h5 b (fun hm => by have := (MF.at_ b hm).1; omega)).trans (hbF.block b hb)⟩⟩
    simp [results, Tryd.f6, go_sem, cZ]
theorem tableIters_walk (w : World) (ao oo : Option Addr) (ac oc : Nat) (a ol : List Nd) (cut : Int) (hT : SpanCells w) (hRa : Rd w ao ac a) (hRo : Rd w oo oc ol) (hFa : FitX a) (hFo : FitX ol) :
    Calls Tryd.prog 6 #[.slice ao a.length ac, .slice oo ol.length oc, .int .i64 cut] w fun e w' => e = .returned (.bool true) ∧ Below w.heap.size w w' :=
  (callsIn_wide (n := 4)).1 (tableIters_in w ao oo ac oc a ol cut hT hRa hRo hFa hFo)
end Go.Proofs.YtkcjplgjidjmoaaDoor

/-
  TbPl, TableplaysK.
-/
import Derived.Test.YtpacjofepiojdaaDoorChecked
import GoSem.PinnedTables
import GoSem.Claim
import GoSem.ClaimJoined
import GoSem.ClaimMapViews
import Derived.JoinedTies
import Derived.KernelRfl
import GoSem.ClaimSeven
import Derived.LaidByTextLater
import Derived.SevenTiedAt
import Derived.LaidSub
import Derived.LaidOnce
import Derived.Shelf.Unicode.DecodeSlow
import Derived.Laws.RangeAny
import Derived.Shelf.Small.Bits
import Derived.Shelf.Strconv.Itoa0
import Derived.Shelf.LaysM
import Derived.Shelf.Strconv.Clone
import Derived.Shelf.Unicode.DecodeAny
import Derived.Shelf.Slices.CompactS
import Derived.Ground.SlsfProg
import Derived.Shelf.SlSortCmp.Insertion
import Derived.Shelf.SlSortCmp.SiftDown1
import Derived.Shelf.SlSortCmp.HeapSort1
import Derived.Shelf.SlSortCmp.Insertion1
import Derived.Shelf.SlSortCmp.Median1
import Derived.Shelf.SlSortCmp.Pivot1
import Derived.Shelf.SlSortCmp.ReverseRange1
import Derived.Shelf.SlSortCmp.PartialInsertion1
import Derived.Shelf.SlSortCmp.PartitionEqual1
import Derived.Shelf.SlSortCmp.Partition1
import Derived.Shelf.SlSortCmp.Pdq1
import Derived.Shelf.SlSortCmp.Whole1
import Derived.Test.YtpacjofepiojdaaDoorProg
import Derived.WalkKit
import Derived.Deep.DeepFit
import Derived.Lib.OthersKept
import Derived.Lib.RuneCountTail
import Derived.Lib.LaidU8
import Derived.MakeChecks
import Derived.ProofKit
import Derived.OpenShut
import Derived.Deep.DeepHandedRow
import Derived.Deep.AppendLies
import Derived.Deep.OwnRows
import Derived.Laws.AppendOwnNone
import Derived.Deep.QuietTactic
import Derived.BigQuiet
import Derived.Deep.RegionWith
import Derived.Laws.DeepStrings4
import Derived.Below
import Derived.Maps.OwnSet
import Derived.Maps.Keyed
import Derived.DeepKeys4
import Derived.Lib.QuietBelow
import Derived.StillTail
import Derived.Deep.RegionHeld3
import Derived.Laws.ResultCell
import Derived.Laws.CopyOwn
import Derived.Deep.RegionLaw
import Derived.Laws.OwnMore
import Derived.Lib.MapLaws
import Derived.Sort.Walk0
import Derived.Deep.Slices
import Derived.SizedLaws
import Derived.Lib.SliceRun
import Derived.RangeFuncNested
import Derived.RangeFuncBound
import Derived.RangeFuncCalls
import Derived.RangeFuncLeaves
import Derived.RangeFuncBox
import Derived.Shelf.Abstract
import Derived.Shelf.RegionOpen
import Derived.OwnWalkIn
import Derived.TacticsInMore
import Derived.LoopNIn
import Derived.LoopIn
import Derived.OrdersIn
import Derived.WideKeyArgs
import Derived.Test.YtpacjofepiojdaaDoorRows
import Derived.Test.YtpacjofepiojdaaDoorCards
import Derived.Test.YtpacjofepiojdaaDoorTie
import Derived.Test.YtpacjofepiojdaaDoorP01
import Derived.Test.YtpacjofepiojdaaDoorP02
import Derived.Test.YtpacjofepiojdaaDoorP03
import Derived.Test.YtpacjofepiojdaaDoorP04
import Derived.Test.YtpacjofepiojdaaDoorP05
import Derived.Test.YtpacjofepiojdaaDoorP06
import Derived.Test.YtpacjofepiojdaaDoorP07
import Derived.Test.YtpacjofepiojdaaDoorP08
import Derived.Test.YtpacjofepiojdaaDoorP09
import Derived.Test.YtpacjofepiojdaaDoorP10
import Derived.Test.YtpacjofepiojdaaDoorP11
import Derived.Test.YtpacjofepiojdaaDoorP12
import Derived.Test.YtpacjofepiojdaaDoorP13
import Derived.Test.YtpacjofepiojdaaDoorP14
import Derived.Test.YtpacjofepiojdaaDoorP15
import Derived.Test.YtpacjofepiojdaaDoorP16
import Derived.Test.YtpacjofepiojdaaDoorP17
import Derived.Test.YtpacjofepiojdaaDoorP18
import Derived.Test.YtpacjofepiojdaaDoorP19
import Derived.Test.YtpacjofepiojdaaDoorP20
import Derived.Test.YtpacjofepiojdaaDoorP21
import Derived.Test.YtpacjofepiojdaaDoorP22
import Derived.Test.YtpacjofepiojdaaDoorP23
import Derived.Test.YtpacjofepiojdaaDoorP24
import Derived.Test.YtpacjofepiojdaaDoorP25
import Derived.Test.YtpacjofepiojdaaDoorP26
import Derived.Test.YtpacjofepiojdaaDoorP27
import Derived.Test.YtpacjofepiojdaaDoorP28
import Derived.Test.YtpacjofepiojdaaDoorP29
import Derived.Test.YtpacjofepiojdaaDoorP30
set_option linter.unusedSimpArgs false
set_option linter.unusedVariables false
namespace Go.Proofs.YtpacjofepiojdaaDoor
open Go.RowKit Go.Lib Go.Sort Go.Maps Go.Shelf
attribute [local go_sem] Oper.semAt_some

set_option maxRecDepth 100000 in
set_option maxHeartbeats 8000000 in
theorem tablePlays_in (w : World) (ao : Option Addr) (cap : Nat) (l : List OpT) (hT : SpanCells w) (hS : Scr w ao cap l) :
    CallsIn Fence.wide 4 Tryd.prog 5 #[.slice ao l.length cap] w fun e w' => e = .returned (.bool true) ∧ Below w.heap.size w w' := by
  have hro : Fence.wide.round = none := rfl
  obtain ⟨Wb, hWb⟩ : ∃ Wb, w.alloc (.cells #[.bool false] 4) = Wb := ⟨_, rfl⟩
  have hbb : Below w.heap.size w Wb := by rw [← hWb]; exact (Below.refl _ _).alloc (Nat.le_refl _) _
  have hrb : Wb.heap[w.heap.size]? = some (.cells #[.bool false] 4 (0, 0)) := by rw [← hWb, Deep.blk_alloc_new]
  have hsb : Wb.heap.size = w.heap.size + 1 := by rw [← hWb]; simp
  have HS : Sld (Scr w ao cap l) := ⟨hS⟩
  have HTb : Sld (SpanCells Wb) := ⟨hT.below hbb⟩
  have HBB := Sld.mk hbb
  have HRB := Sld.mk hrb
  have HSB := Sld.mk hsb
  have hlc := hS.1
  have hcm := hS.2.1
  unfold maxLen at hcm
  have hlcI : (l.length : Int) ≤ (cap : Int) := by omega
  have hcmI : (cap : Int) ≤ 9223372036854775807 := by omega
  have CNw := Sld.mk (tnew_any Wb)
  have HWb := Sld.mk hWb
  clear hS hT hbb hrb hsb hWb
  refine callsIn_of_wp_marks Tryd.func5 rfl trivial ?_ hro
  refine wpIn_wide.2 ?_
  simp only [Tryd.ntmps5, List.size_toArray, List.length_cons, List.length_nil, Nat.reduceAdd, Nat.reduceSub, Array.replicate_succ, Array.replicate_zero, List.push_toArray, List.append_toArray, List.nil_append, List.cons_append]
  go_wp2_with fail
  rw [HWb.out]
  refine CNw.out.mono ?_
  rintro e w1 ⟨rfl, hw1⟩
  have hB1 : Below Wb.heap.size Wb w1 := by rw [hw1]; exact (Below.refl _ _).alloc (Nat.le_refl _) _
  have HM1 : Sld (TbM w1 Wb.heap.size (.slice none 0 0) (.map none) []) := ⟨by rw [hw1]; exact TbM.fresh Wb⟩
  have HB1 := Sld.mk hB1
  have CA := Sld.mk (awake10_any w1 (HTb.out.below hB1))
  clear hw1 hB1 CNw
  go_wp2_with fail
  refine CA.out.mono ?_
  rintro e w2 ⟨rfl, hb2⟩
  have HM2 := Sld.mk (HM1.out.below hb2)
  have HB2 := Sld.mk (HB1.out.trans (hb2.mono HB1.out.size))
  obtain ⟨w4, hw4⟩ : ∃ w4, (w2.alloc (.cells #[.slice none 0 0] 59)).alloc (.cells #[.pointer (some ⟨w2.heap.size, 0, none⟩)] 57) = w4 := ⟨_, rfl⟩
  have hb4 : Below w2.heap.size w2 w4 := by rw [← hw4]; exact ((Below.refl _ _).alloc (Nat.le_refl _) _).alloc (by simp) _
  have hq4 : w4.heap[w2.heap.size]? = some (.cells #[.slice none 0 0] 59 (0, 0)) := by
    rw [← hw4, Deep.blk_alloc_lt _ _ _ (by simp), Deep.blk_alloc_new]
  have ht4 : w4.heap[w2.heap.size + 1]? = some (.cells #[.pointer (some ⟨w2.heap.size, 0, none⟩)] 57 (0, 0)) := by
    have := Deep.blk_alloc_new (w2.alloc (.cells #[.slice none 0 0] 59)) (.cells #[.pointer (some ⟨w2.heap.size, 0, none⟩)] 57)
    rw [World.size_alloc] at this
    rw [← hw4]; exact this
  have HPL : Sld (PlM Wb Wb.heap.size w2.heap.size (w2.heap.size + 1) (.slice none 0 0) (.map none) (.slice none 0 0) [] [] w4) := ⟨⟨⟨HM2.out.below hb4, hq4, ⟨World.ownsRow_nil _ _ _ _, fun y hy => by cases hy⟩, rfl⟩, ht4, HB2.out.trans (hb4.mono HB2.out.size)⟩⟩
  have hq2 : Wb.heap.size ≤ w2.heap.size := HB2.out.size
  have HW4 := Sld.mk hw4
  clear hb2 hw4 hb4 hq4 ht4 CA
  go_wp2_with fail
  rw [HW4.out]
  go_loopw [5] (fun ii wr => ∃ k : Nat, k ≤ l.length ∧ ii = .int .i64 k ∧ ∃ ev mv lv pl L, PlM Wb Wb.heap.size w2.heap.size (w2.heap.size + 1) ev mv lv pl L wr) (fun ii _ => l.length - (RowKit.intOf ii).toNat)
  case atStart => exact ⟨0, by omega, rfl, _, _, _, _, _, HPL.out⟩
  case round =>
    obtain ⟨k, hk, rfl, ev, mv, lv, pl, L, hM⟩ := hrel
    have HM := Sld.mk hM
    have c4 := (cellP1 hM.tvb).1
    clear hM HPL HM1 HM2 HB1 HB2 HW4
    by_cases hlt : k < l.length
    · have hltI : (k : Int) < (l.length : Int) := by omega
      obtain ⟨b, o, hao, hbl, hc⟩ := HS.out.2.2.resolve_left (fun e => by subst e; simp at hlt)
      subst hao
      obtain ⟨ka, kc, ea, ec, hce, hA⟩ := hc k hlt
      generalize l.getD k op0 = x at *
      obtain ⟨kd, xi, ⟨xop, xn, xnm, xks⟩, xe⟩ := x
      simp only at hce
      have hbe : Below w.heap.size w wr := HBB.out.trans (HM.out.be.mono HBB.out.size)
      obtain ⟨e0, e1, e2, e3, e4, e5, e6⟩ := hce
      have c0 := (hbe.cell (p := ⟨b, o + k * 7, none⟩) hbl).trans e0
      have c1 := (hbe.cell (p := ⟨b, o + k * 7 + 1, none⟩) hbl).trans e1
      have c2 := (hbe.cell (p := ⟨b, o + k * 7 + 2, none⟩) hbl).trans e2
      have c3 := (hbe.cell (p := ⟨b, o + k * 7 + 3, none⟩) hbl).trans e3
      have c40 := (hbe.cell (p := ⟨b, o + k * 7 + 4, none⟩) hbl).trans e4
      have c5 := (hbe.cell (p := ⟨b, o + k * 7 + 5, none⟩) hbl).trans e5
      have c6 := (hbe.cell (p := ⟨b, o + k * 7 + 6, none⟩) hbl).trans e6
      have CST : Sld (∀ W, Below wr.heap.size wr W → Calls Tryd.prog 32 #[.pointer (some ⟨Wb.heap.size, 0, none⟩), .pointer (some ⟨w2.heap.size, 0, none⟩), .agg #[.int .i64 kd, .int .i64 xi, .int .i64 xop, .int .i64 xn, .string xnm, .slice ka xks.length kc, .slice ea xe.length ec]] W fun e w' => e = .returned (.bool true) ∧ StE Wb Wb.heap.size w2.heap.size W w') := ⟨fun W hW => tstep_any (o := ⟨kd, xi, ⟨xop, xn, xnm, xks⟩, xe⟩) ⟨HTb.out, HM.out.be.trans (hW.mono HM.out.be.size), HM.out.bt.below hW, Nat.le_refl _, hq2, hA.below HBB.out⟩⟩
      have HTV := Sld.mk HM.out.tvb
      clear hc hA hbe e0 e1 e2 e3 e4 e5 e6
      go_wp2_with fail
      refine wp_region_noPanic ?_
      go_region_with (first | (go_at_call 32; refine (CST.out _ (Below.refl _ _).drew).mono ?_; rintro e w5 ⟨rfl, ⟨ev5, mv5, lv5, pl5, L5, hB5⟩, hb5, hk5⟩; obtain ⟨la5, lc5, hlv5⟩ := hB5.r.form; subst hlv5; have t5 := hk5 _ _ _ HTV.out; have tv5 := (cellP1 t5).1; have q5 := (cellP1 hB5.r.blk).1; have HN5 := Sld.mk (PlM.mk hB5 t5 hb5); have hmm : ((L5.length : Int) == (L5.length : Int)) = true := (by simp); clear hB5 hb5 hk5 t5) | (go_at_call 33; refine (tlen_any _ Wb.heap.size ev5 mv5 L5 HN5.out.bt.t).mono ?_; rintro e w6 ⟨rfl, hw6⟩; obtain rfl := hw6.symm))
      all_goals
        refine NoPanic.normal ?_
        go_wp2_with fail
        exact ⟨⟨k + 1, by omega, by go_num, _, _, _, _, _, HN5.out⟩, by simp [RowKit.intOf]; omega⟩
    · have hke : k = l.length := by omega
      subst hke
      obtain ⟨la, lc, hlv⟩ := HM.out.bt.r.form
      subst hlv
      have hle := HM.out.bt.t.inv.le
      have CAL := Sld.mk (tAll_any wr Wb.heap.size ev mv L HM.out.bt.t hle)
      go_wp2_with fail
      refine CAL.out.mono ?_
      rintro e wa ⟨B, rfl, hBl, hAl, hba⟩
      have HBA := Sld.mk hba
      have HAL := Sld.mk hAl
      have hnil2 := eqP_nil B
      obtain ⟨wz, HWZ⟩ : ∃ wz, Sld (wa.alloc (.cells #[.int .i64 0] 3) = wz) := ⟨_, ⟨rfl⟩⟩
      have HBZ : Sld (Below wa.heap.size wa wz) := ⟨by rw [← HWZ.out]; exact (Below.refl _ _).alloc (Nat.le_refl _) _⟩
      have hsz : wz.heap.size = wa.heap.size + 1 := by rw [← HWZ.out]; simp
      have HRZ : Sld (PlR w wz wa.heap.size w2.heap.size (w2.heap.size + 1) (.slice la L.length lc) pl L 0 wz) := ⟨by
        have hM := HM.out
        have hb1 : Below wr.heap.size wr wz := HBA.out.trans (HBZ.out.mono HBA.out.size)
        have hb2 : Below Wb.heap.size Wb wz := hM.be.trans (hb1.mono hM.be.size)
        refine ⟨by rw [← HWZ.out]; exact Deep.blk_alloc_new _ _, hM.bt.r.below hb1, (hb1.block _ (lt_of_block hM.tvb)).trans hM.tvb, (hb2.block _ (lt_of_block HRB.out)).trans HRB.out, HBB.out.trans (hb2.mono HBB.out.size), Nat.le_refl _⟩⟩
      have HO : Sld (RtO wa.heap.size w2.heap.size (.slice la L.length lc) pl) := ⟨HM.out.bt.r.old HBA.out.size⟩
      have htv : w2.heap.size + 1 < wa.heap.size := Nat.lt_of_lt_of_le (lt_of_block HM.out.tvb) HBA.out.size
      have hwn : w.heap.size < wa.heap.size := by have := HBB.out.size; have := HSB.out; omega
      have hBa : B < wa.heap.size := lt_of_block HAL.out.blk
      have HG0 : Sld (∀ g, ev.ownBlock = some g → g < wa.heap.size) := ⟨fun g e => Nat.lt_of_lt_of_le (rw_block HM.out.bt.t.on e).2.1 HBA.out.size⟩
      have hmo : Tryd.prog.follows .mixedOrders = true := by kernel_rfl
      have hLm : (L.length : Int) ≤ 1048576 := by omega
      clear CAL hba hAl c4
      go_wp2_with fail
      rw [HWZ.out]
      refine (wpIn_wide (n := 4)).1 ?_
      refine range_seqV (gf := 71) (lb := #[.pointer (some ⟨B, 0, none⟩)]) hro (by omega) rfl trivial (enters_of Tryd.func71 (by kernel_rfl) rfl) L.length (YdL L wz.heap.size) (fun k args W h => by obtain ⟨_, _, rfl, _⟩ := h; rfl) (fun k args W l o o' hl ho hc h => h.put ho hc) (KpL B ev L.length) KpL.trans
        (fun W l o o' hl ho hc => ⟨by simp, fun o1 h1 => (World.putObj_heap_other (by omega)).trans h1, fun g e j u hj hu => by
          have hne : (W.putObj l o').heap[g]? = W.heap[g]? := World.putObj_heap_other (by have := HG0.out g e; omega)
          simp only [World.cell?] at hu ⊢
          rw [hne]
          exact hu⟩)
        (fun l J Jx W hW hJb hY h0 => tall1_in 3 (by omega) wz.heap.size l B ev L J Jx W ((HAL.out.below HBZ.out).below hW) hW.size hJb hY h0)
        (PlR w wz wa.heap.size w2.heap.size (w2.heap.size + 1) (.slice la L.length lc) pl L) (fun _ _ _ => False) (PlR.own (by omega)) (fun c k W W' row h _ _ => h.elim) HRZ.out (fun k args W => { tmps := List.toArray (Value.slice ao l.length cap :: undef :: Value.pointer (some ⟨w.heap.size, 0, none⟩) :: Value.pointer (some ⟨Wb.heap.size, 0, none⟩) :: Value.pointer (some ⟨w2.heap.size + 1, 0, none⟩) :: Value.int .i64 (l.length : Int) :: Value.func (.func 71) #[] #[.pointer (some ⟨B, 0, none⟩)] :: Value.pointer (some ⟨wa.heap.size, 0, none⟩) :: args.getD 0 undef :: Value.pointer (some ⟨W.heap.size, 0, none⟩) :: Value.pointer (some ⟨Wb.heap.size, 0, none⟩) :: Value.bool true :: Value.bool false :: Value.bool false :: Value.pointer (some ⟨Wb.heap.size, 0, none⟩) :: Value.bool false :: Value.bool false :: Value.agg #[Value.slice none 0 0] :: Value.pointer (some ⟨w2.heap.size, 0, none⟩) :: Value.int .i64 (l.length : Int) :: Value.slice ao l.length cap :: Value.int .i64 (l.length : Int) :: Value.bool false :: u23 :: u24 :: u25 :: u26 :: u27 :: u28 :: u29 :: u30 :: u31 :: u32 :: u33 :: u34 :: u35 :: u36 :: u37 :: u38 :: u39 :: u40 :: u41 :: u42 :: Value.pointer (some ⟨Wb.heap.size, 0, none⟩) :: Value.func (.func 71) #[] #[.pointer (some ⟨B, 0, none⟩)] :: Value.func (.func 71) #[] #[.pointer (some ⟨B, 0, none⟩)] :: Value.bool false :: Value.func (.func 71) #[] #[.pointer (some ⟨B, 0, none⟩)] :: args.getD 0 undef :: args.getD 1 undef :: undef :: undef :: undef :: undef :: undef :: undef :: undef :: undef :: undef :: undef :: undef :: undef :: undef :: undef :: undef :: undef :: undef :: undef :: undef :: undef :: undef :: undef :: undef :: undef :: undef :: undef :: undef :: undef :: undef :: undef :: undef :: undef :: undef :: []), defers := [] }) (fun k args W => W.alloc (.cells (match args.getD 1 undef with | .agg cs => cs | _ => #[]) 63)) (fun k args W => (Below.refl _ _).alloc (Nat.le_refl _) _) (fun X Y h => KpL.below h) (fun k args X Y h hb => h.below hb) ?assign ?body ?done ?stop
      case assign =>
        intro l k W args K hV hK
        obtain ⟨xo, xc, rfl, _⟩ := hV
        gi_wp2
        exact hK
      case body =>
        intro lp k W0 W args hl hk hI hYd hW0 hUU
        obtain ⟨xo, xc, rfl, hOx⟩ := hYd
        have hxne : W0.heap.size ≠ lp := by omega
        have hxb : W.heap[W0.heap.size]? = some (.cells #[.int .i64 (edA L k).op, .int .i64 (edA L k).n, .string (edA L k).name, .slice xo (edA L k).kids.length xc] 63 (0, 0)) := (hUU.2 _ hxne).trans (Deep.blk_alloc_new _ _)
        obtain ⟨g, cap', ka, kc, hlv, hcl, hcm2, c0, c1, c2, c3, hOk⟩ := hI.r.at_ hk
        injection hlv with hla _ hlc2
        subst hla hlc2
        have hkI : (k : Int) < (L.length : Int) := by omega
        have hkD : ((k : Int) != (k : Int)) = false := by simp
        have hkG : ¬ ((L.length : Int) ≤ (k : Int)) := by omega
        unfold maxLen at hcm2
        generalize edA L k = x at *
        obtain ⟨op, n, nm, kids⟩ := x
        simp only at hxb c0 c1 c2 c3 hOk hOx
        have CSN : Sld (∀ d os, Calls Tryd.prog 35 #[.agg #[.int .i64 op, .int .i64 n, .string nm, .slice xo kids.length xc], .agg #[.int .i64 op, .int .i64 n, .string nm, .slice ka kids.length kc]] (grow (redrawn W d) os) fun e w'' => e = .returned (.bool true) ∧ ∃ p : Regrown, w'' = grow (redrawn W p.d) p.os) := ⟨fun d os => by
          have hb := below_regrown W d os
          have := sameNode_any ⟨op, n, nm, kids⟩ ⟨op, n, nm, kids⟩ (.slice xo kids.length xc) (.slice ka kids.length kc) (grow (redrawn W d) os) _ (Nat.le_refl _) (Ints_of_own (hOx.below hb) (Nat.le_refl _)) (Ints_of_own (hOk.below hb) (Nat.le_refl _))
          rw [(ndEq_iff ⟨op, n, nm, kids⟩ ⟨op, n, nm, kids⟩).2 rfl] at this
          exact Calls.regrown_of this⟩
        obtain ⟨x0, x1, x2, x3, _⟩ := blk4 hxb
        have cn := (cellP1 hI.n).1
        have ct := (cellP1 hI.tv).1
        have cq := (cellP1 hI.r.blk).1
        have g0 := cell_regrown x0
        have g1 := cell_regrown x1
        have g2 := cell_regrown x2
        have g3 := cell_regrown x3
        have g4 := cell_regrown cn
        have g5 := cell_regrown ct
        have g6 := cell_regrown cq
        have g7 := cell_regrown c0
        have g8 := cell_regrown c1
        have g9 := cell_regrown c2
        have g10 := cell_regrown c3
        have HI := Sld.mk hI
        clear hUU hOx hOk hI hxb x0 x1 x2 x3 cn ct cq c0 c1 c2 c3
        show Code.wpIn _ _ _ _ _ { tmps := _, defers := [] } W
        refine wpIn_block ?_
        refine wpIn_seq_k (fun K1 hK1 => ?_)
        refine wpIn_seq_k (fun K2 hK2 => ?_)
        refine wpIn_region_quiet_then 23 hmo (by kernel_rfl) (by kernel_rfl) (fun ⟨_, _, h⟩ => h) ?_
        simp only [List.take_succ_cons, List.take_zero]
        iterate 23 (go_big_quiet_step ((go_at_call 35; exact CSN.out _ _)))
        refine wpQuiet_nil ?_
        intro w' hw'
        obtain ⟨⟨dq, osq⟩, hw''⟩ := hw'
        subst hw''
        simp only [List.drop_succ_cons, List.drop_zero]
        obtain ⟨w5, hw5⟩ : ∃ w5, grow (redrawn W dq) osq = w5 := ⟨_, rfl⟩
        rw [hw5]
        have hb5 : Below W.heap.size W w5 := by rw [← hw5]; exact below_regrown W dq osq
        clear g0 g1 g2 g3 g4 g5 g6 g7 g8 g9 g10 hw5 CSN
        have hI5 := HI.out.below hb5
        have n5 := cellP1 hI5.n
        have m5 := n5.1
        have f5 := n5.2
        have HB5 := Sld.mk hb5
        have HI6 := Sld.mk (hI5.step HO.out htv hwn)
        clear n5 hI5 hb5
        go_wp2_with fail
        gi_wp2
        exact ⟨((ko_belowT HB5.out).from _).trans ((KeepsOthers.setCell _ _ _).from _), (KpL.below HB5.out).trans (KpL.set (by omega) (fun g e => by have := HG0.out g e; omega)), HI6.out⟩
      case done =>
        intro D W hD hI hK
        have g0 := cell_regrown (cellP1 hI.n).1
        have g1 := cell_regrown (cellP1 hI.tv).1
        have g2 := cell_regrown (cellP1 hI.r.blk).1
        have hee : ((L.length : Int) == (L.length : Int)) = true := by simp
        have HI := Sld.mk hI
        have HD := Sld.mk hK
        clear hI hK
        go_wp2_with fail
        refine wp_region_quiet_then 7 (by kernel_rfl) (by kernel_rfl) ?_
        simp only [List.take_succ_cons, List.take_zero]
        iterate 7 (go_big_quiet_step (fail))
        refine wpQuiet_nil ?_
        intro w' hw'
        obtain ⟨⟨dq, osq⟩, hw''⟩ := hw'
        subst hw''
        simp only [List.drop_succ_cons, List.drop_zero]
        obtain ⟨w5, hw5⟩ : ∃ w5, grow (redrawn W dq) osq = w5 := ⟨_, rfl⟩
        rw [hw5]
        have hb5 : Below W.heap.size W w5 := by rw [← hw5]; exact below_regrown W dq osq
        clear g0 g1 g2 hw5
        have hI5 := HI.out.below hb5
        have n5 := cellP1 hI5.rb
        have m5 := n5.1
        have f5 := n5.2
        have hDl : D < W.heap.size := lt_of_block HD.out
        obtain ⟨Z, HZ⟩ : ∃ Z, Sld (w5.setCell ⟨w.heap.size, 0, none⟩ (.bool true) = Z) := ⟨_, ⟨rfl⟩⟩
        have HDZ : Sld (Z.heap[D]? = some (.deferred (some []))) := ⟨by rw [← HZ.out]; exact (KeepsOthers.setCell w5 ⟨w.heap.size, 0, none⟩ (.bool true)).same D _ ((hb5.block D hDl).trans HD.out) rfl⟩
        have HRF : Sld (Z.heap[w.heap.size]? = some (.cells #[.bool true] 4 (0, 0))) := ⟨by rw [← HZ.out]; simpa using heap_setCell_same w5 w.heap.size 0 #[.bool false] 4 (.bool true) hI5.rb⟩
        have HBF : Sld (Below w.heap.size w Z) := ⟨by rw [← HZ.out]; exact hI5.be.setCell (p := ⟨w.heap.size, 0, none⟩) (Nat.le_refl _) _⟩
        clear n5 hI5 hb5
        go_wp2_with fail
        rw [HZ.out]
        refine leaves_marksT [D] Z (by simp) (fun E hE => by simp at hE; subst hE; exact HDZ.out) (fun w' h1 h2 h3 h4 h5 => ?_)
        have hDw : D ≠ w.heap.size := by omega
        have rZ : w'.heap[w.heap.size]? = _ := (h5 _ (fun hm => hDw (List.mem_singleton.1 hm).symm)).trans HRF.out
        have cZ : w'.cell? ⟨w.heap.size, 0, none⟩ = some (.bool true) := by simp [World.cell?, rZ]
        have hbF := HBF.out
        refine ⟨.bool true, ?_, rfl, ⟨h1.trans hbF.os, h2.trans hbF.tape, h3.trans hbF.output, by have := hbF.size; omega, fun b hb => (h5 b (fun hm => by have := List.mem_singleton.1 hm; omega)).trans (hbF.block b hb)⟩⟩
        simp [results, Tryd.f5, go_sem, cZ]
      case stop =>
        intro D c k W hD hk hX hK
        exact hX.elim
theorem tablePlays_walk (w : World) (ao : Option Addr) (cap : Nat) (l : List OpT) (hT : SpanCells w) (hS : Scr w ao cap l) :
    Calls Tryd.prog 5 #[.slice ao l.length cap] w fun e w' => e = .returned (.bool true) ∧ Below w.heap.size w w' :=
  (callsIn_wide (n := 4)).1 (tablePlays_in w ao cap l hT hS)
end Go.Proofs.YtpacjofepiojdaaDoor

set_option linter.unusedVariables false
namespace Go.Proofs.YtpacjofepiojdaaDoor.tableplays
open Go.ChangeShapes Go.WideShapes Go.ChangeAt Go.RowKit Go.WideMaps Go.WideElems
open Go.ChangeMaps (open_string shut_string)

set_option maxRecDepth 100000 in
set_option maxHeartbeats 1000000 in
theorem contract (H : Type) (enc : TypeId × Value → H) (W : World) (base : Nat) (args : Array Value) (ds gs : List (DataW H)) (before : List MemPlace)
    (hval : ∀ (j : Nat) t v, Tryd.f5.params[j]? = some t → args[j]? = some v → Value.okWide Tryd.prog W .any base t v)
    (hW : DataW.Whole enc Tryd.prog Tryd.f5.params.toList Rows.tablePlaysSpec.vars false W args.toList ds gs before)
    (hsz : (DataW.weightsEach Tryd.prog (Tryd.f5.params.toList ++ (OpenSpec.ofChange Rows.tablePlaysSpec).bare.plain.varTypes Tryd.prog) (ds ++ gs)).all (· ≤ reachBytes) = true)
    (hL : laidMetH Tryd.prog Rows.tablePlaysRow.laid W) :
    Calls Tryd.prog 5 args W fun e W' => ∃ v, e = .returned v ∧ Rows.tablePlaysSpec.post enc Tryd.prog Tryd.f5 false true false false W args v W' := by
  have hW' := hW
  have hlt : ∀ x ∈ before, x.block < W.heap.size := fun x hx => by simpa using hW'.lt x hx
  obtain ⟨p, q, hA0, hV, rfl, hfz, hnd⟩ := hW
  have hA : DataW.TrodAll enc Tryd.prog W 0 (fun _ => true) true Tryd.f5.params.toList args.toList ds p := hA0
  rw [Tryd.params5 ] at hA hval
  obtain ⟨v0, vs0, d0, ds0, p0, q0, hargs0, rfl, rfl, h0, r0⟩ := trodAll_cons hA
  obtain ⟨rfl, rfl, rfl⟩ := trodAll_nil r0
  obtain rfl : args = #[v0] := by cases args; simp_all
  obtain ⟨rfl, rfl⟩ := trodVars_none hV
  clear hA0
  simp only [List.append_nil] at hW' hsz
  have h0k := h0
  have ok0 : Value.okWide Tryd.prog W .any base 54 v0 := hval 0 54 v0 (by rfl) (by rfl)
  obtain ⟨a0, n0, c0, rfl⟩ := okWide_slice Tryd.underlying54 ok0
  obtain ⟨fu0, hf0⟩ := h0
  obtain ⟨ao0, cap0, l0, he0, hF0⟩ := open_tops (v := .slice a0 n0 c0) hf0
  cases he0
  have R0 := hF0 fun n hn => of_decide_eq_true (List.all_eq_true.1 hsz n (DataW.weights_mem_each (j := 0) (t := 54) (by kernel_rfl) rfl n hn))
  refine (tablePlays_walk W a0 c0 l0 (spans_of_laid hL)  R0  ).mono fun e W' ⟨he, hg⟩ => ?_
  subst he
  exact ⟨_, rfl, post_below (pv := []) hW' (fun _ _ _ => trodAll_cons_mk (shut_bool Tryd.underlying4 _) trodAll_mk0) (fun sp hsp => trodAll_cons_mk (Trod_stays Tryd.laidOut (by kernel_rfl) (of_decide_eq_true (by kernel_rfl)) h0k (fun x hx => hg.same (hlt x (by simp [hx]))) (fun x hx => hsp x (by simp [hx]))) trodAll_mk0) (fun _ _ => rfl) (by simp) (hg.frame _)⟩

end Go.Proofs.YtpacjofepiojdaaDoor.tableplays

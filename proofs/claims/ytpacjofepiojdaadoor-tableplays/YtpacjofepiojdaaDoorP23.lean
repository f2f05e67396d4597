/-
  TbR3.
-/
import Derived.Test.YtpacjofepiojdaaDoorChecked
import GoSem.PinnedTables
import GoSem.Claim
import GoSem.ClaimJoined
import GoSem.ClaimMapViews
import Derived.JoinedTies
import Derived.KernelRfl
import Derived.Shelf.Unicode.DecodeSlow
import Derived.Laws.RangeAny
import Derived.Shelf.Small.Bits
import Derived.Shelf.Strconv.Itoa0
import Derived.Shelf.LaysM
import Derived.Shelf.Strconv.Clone
import Derived.Shelf.Unicode.DecodeAny
import Derived.Shelf.Slices.CompactS
import Derived.Ground.SlsfProg
import Derived.Shelf.SlSortCmp.Insertion
import Derived.Shelf.SlSortCmp.SiftDown1
import Derived.Shelf.SlSortCmp.HeapSort1
import Derived.Shelf.SlSortCmp.Insertion1
import Derived.Shelf.SlSortCmp.Median1
import Derived.Shelf.SlSortCmp.Pivot1
import Derived.Shelf.SlSortCmp.ReverseRange1
import Derived.Shelf.SlSortCmp.PartialInsertion1
import Derived.Shelf.SlSortCmp.PartitionEqual1
import Derived.Shelf.SlSortCmp.Partition1
import Derived.Shelf.SlSortCmp.Pdq1
import Derived.Shelf.SlSortCmp.Whole1
import Derived.Test.YtpacjofepiojdaaDoorProg
import Derived.WalkKit
import Derived.Deep.DeepFit
import Derived.Lib.OthersKept
import Derived.Lib.RuneCountTail
import Derived.Lib.LaidU8
import Derived.MakeChecks
import Derived.ProofKit
import Derived.OpenShut
import Derived.Deep.DeepHandedRow
import Derived.Deep.AppendLies
import Derived.Deep.OwnRows
import Derived.Laws.AppendOwnNone
import Derived.Deep.QuietTactic
import Derived.BigQuiet
import Derived.Deep.RegionWith
import Derived.Laws.DeepStrings4
import Derived.Below
import Derived.Maps.OwnSet
import Derived.Maps.Keyed
import Derived.DeepKeys4
import Derived.Lib.QuietBelow
import Derived.StillTail
import Derived.Deep.RegionHeld3
import Derived.Laws.ResultCell
import Derived.Laws.CopyOwn
import Derived.Deep.RegionLaw
import Derived.Laws.OwnMore
import Derived.Lib.MapLaws
import Derived.Sort.Walk0
import Derived.Deep.Slices
import Derived.SizedLaws
import Derived.Test.YtpacjofepiojdaaDoorRows
import Derived.Test.YtpacjofepiojdaaDoorP01
import Derived.Test.YtpacjofepiojdaaDoorP02
import Derived.Test.YtpacjofepiojdaaDoorP03
import Derived.Test.YtpacjofepiojdaaDoorP04
import Derived.Test.YtpacjofepiojdaaDoorP05
import Derived.Test.YtpacjofepiojdaaDoorP06
import Derived.Test.YtpacjofepiojdaaDoorP07
import Derived.Test.YtpacjofepiojdaaDoorP08
import Derived.Test.YtpacjofepiojdaaDoorP09
import Derived.Test.YtpacjofepiojdaaDoorP10
import Derived.Test.YtpacjofepiojdaaDoorP11
import Derived.Test.YtpacjofepiojdaaDoorP12
import Derived.Test.YtpacjofepiojdaaDoorP13
import Derived.Test.YtpacjofepiojdaaDoorP14
import Derived.Test.YtpacjofepiojdaaDoorP15
import Derived.Test.YtpacjofepiojdaaDoorP16
import Derived.Test.YtpacjofepiojdaaDoorP17
import Derived.Test.YtpacjofepiojdaaDoorP18
import Derived.Test.YtpacjofepiojdaaDoorP19
import Derived.Test.YtpacjofepiojdaaDoorP20
import Derived.Test.YtpacjofepiojdaaDoorP21
import Derived.Test.YtpacjofepiojdaaDoorP22
set_option linter.unusedSimpArgs false
set_option linter.unusedVariables false
namespace Go.Proofs.YtpacjofepiojdaaDoor
open Go.RowKit Go.Lib Go.Sort Go.Maps

theorem RtT.wz {z z' : Nat} {w w' : World} {q : Nat} {lv lv' : Value} {pl pl' : List (Nd × Value)} {L' : List Nd} (h : RtT z w q lv pl lv' pl' L' w') (hz : z' ≤ z) : RtT z' w q lv pl lv' pl' L' w' :=
  ⟨h.rt, h.kp, h.below, h.yo, fun y hy => (h.ky y hy).imp id fun h1 b hb => by have := h1 b hb; omega⟩
/-- Add between two rounds. -/
structure RaMid (w : World) (q : Nat) (lv : Value) (pl : List (Nd × Value)) (L l : List Nd) (G : Nat) (k : Nat) (wr : World) (Lk : List Nd) (ids : List Nat) (lv1 : Value) (pl1 : List (Nd × Value)) : Prop where
  run : addR (L, []) (l.take k) = some (Lk, ids)
  len : ids.length = k
  rt : RtT w.heap.size w q lv pl lv1 pl1 Lk wr
  row : OwnI wr w.heap.size (.slice (some ⟨G, 0, none⟩) l.length l.length) (ids.map (fun i => ((i : Nat) : Int)) ++ List.replicate (l.length - k) 0)
  ng : ∀ y ∈ pl1, y.2.ownBlock ≠ some G
theorem own_typI {w : World} {base g : Nat} {e : TypeId} {s n : Nat} {v : Value} {xs : List Value} {cur : Array Value} {fr : Nat × Nat} (h : w.ownsRow base e s v n xs) (hg : w.heap[g]? = some (.cells cur 3 fr)) (he : e ≠ 3) : v.ownBlock ≠ some g := fun hv => by
  obtain ⟨_, _, _, cu, _, h3, _⟩ := rw_block h hv
  rw [h3] at hg
  injection hg with hg
  injection hg with _ hg
  exact he hg
/-- A round that put its node in. -/
theorem RaMid.next {w wr W5 w6 : World} {q : Nat} {lv : Value} {pl : List (Nd × Value)} {L l : List Nd} {G k : Nat} {Lk : List Nd} {ids : List Nat} {lv1 lv6 : Value} {pl1 pl6 : List (Nd × Value)} {L2 : List Nd} {i : Nat} (h : RaMid w q lv pl L l G k wr Lk ids lv1 pl1) (hq : q < w.heap.size) (hk : k < l.length) (hb : Below wr.heap.size wr W5) (hp : RtT W5.heap.size W5 q lv1 pl1 lv6 pl6 L2 w6) (hs : stA (Lk, ids) (l.getD k nd0) = some (L2, ids ++ [i])) :
    RaMid w q lv pl L l G (k + 1) (w6.setCell ⟨G, k, none⟩ (.int .i64 (i : Nat))) L2 (ids ++ [i]) lv6 pl6 ∧ (∃ u, w6.cell? ⟨G, k, none⟩ = some u) ∧ w6.frozen? ⟨G, k, none⟩ = false := by
  have hsz := h.rt.below.size
  have hsz5 := hb.size
  have hrow5 := h.row.below hb
  obtain ⟨hG1, hG2, capG, curG, _, hG3, _⟩ := rw_block hrow5 (b := G) rfl
  have hrt5 := h.rt.rt.below hb
  have hrow6 : OwnI w6 w.heap.size (.slice (some ⟨G, 0, none⟩) l.length l.length) (ids.map (fun i => ((i : Nat) : Int)) ++ List.replicate (l.length - k) 0) := rw_same hrow5 fun b hbb => by
    have e : b = G := by injection hbb with hbb; exact hbb.symm
    subst e
    exact hp.kp b hG2 (by omega) (own_typI hrt5.own.row hG3 (by decide))
  obtain ⟨_, hG62, capG6, curG6, _, hG63, _⟩ := rw_block hrow6 (b := G) rfl
  have hng : ∀ y ∈ pl6, y.2.ownBlock ≠ some G := fun y hy => by
    rcases hp.ky y hy with h1 | h1
    · exact h.ng y h1
    · intro e; have := h1 G e; omega
  have T1 : RtT w.heap.size w q lv pl lv6 pl6 L2 w6 := (h.rt.trans ((RtT.of_below h.rt.rt hb).trans (hp.wz (by omega)) (by omega)) (by omega))
  refine ⟨⟨by rw [addR_snoc _ _ hk, h.run]; exact hs, by simp [h.len], ⟨⟨?_, ⟨?_, fun y hy => ?_⟩, T1.rt.nodes⟩, fun b hb' hne hno => ?_, ?_, T1.yo, T1.ky⟩, ?_, hng⟩, ⟨_, hrow6.cellT (adm_len h.len (by omega)) hk⟩, hrow6.frT (adm_len h.len (by omega)) k⟩
  · rw [Deep.blk_setCell_other _ _ _ _ (by show q ≠ G; omega)]; exact T1.rt.blk
  · exact rw_same T1.rt.own.row fun b hbb => Deep.blk_setCell_other _ _ _ _ (fun e => by
      have e2 : b = G := e
      subst e2
      exact own_typI T1.rt.own.row hG63 (by decide) hbb)
  · exact rw_same (T1.rt.own.kids y hy) fun b hbb => Deep.blk_setCell_other _ _ _ _ (fun e => by
      have e2 : b = G := e
      subst e2
      exact hng y hy hbb)
  · rw [Deep.blk_setCell_other _ _ _ _ (by show b ≠ G; omega)]
    exact T1.kp b hb' hne hno
  · exact T1.below.setCell (p := ⟨G, k, none⟩) (by show q ≤ G; omega) _
  · have := hrow6.putT (adm_len h.len (by omega)) k ((i : Nat) : Int)
    rw [adm_set i h.len hk] at this
    exact this
/-- The new entries are taken out again. -/
theorem RtT.cut {z : Nat} {w w6 : World} {q : Nat} {lv : Value} {pl pl6 : List (Nd × Value)} {L M : List Nd} {g cap : Nat} (h : RtT z w q lv pl (.slice (some ⟨g, 0, none⟩) (L ++ M).length cap) pl6 (L ++ M) w6) :
    RtT z w q lv pl (.slice (some ⟨g, 0, none⟩) L.length cap) (pl6.take L.length) L (w6.setCell ⟨q, 0, none⟩ (.slice (some ⟨g, 0, none⟩) L.length cap)) := by
  have hb := heap_setCell_same w6 q 0 _ _ (.slice (some ⟨g, 0, none⟩) L.length cap) h.rt.blk
  have hl : pl6.length = (L ++ M).length := h.rt.len
  have oth : ∀ b, b ≠ q → (w6.setCell ⟨q, 0, none⟩ (.slice (some ⟨g, 0, none⟩) L.length cap)).heap[b]? = w6.heap[b]? := fun b hb => Deep.blk_setCell_other _ _ _ _ hb
  have hrow := h.rt.own.row
  rw [hl] at hrow
  have hpre := own_pre hrow (n' := L.length) (by simp)
  rw [ndCells_take] at hpre
  have htl : (pl6.take L.length).length = L.length := by rw [List.length_take, hl]; simp
  refine ⟨⟨by simpa using hb, ⟨?_, fun y hy => ?_⟩, ?_⟩, fun b hb' hne hno => (oth b hne).trans (h.kp b hb' hne hno), h.below.setCell (p := ⟨q, 0, none⟩) (Nat.le_refl _) _, ?_, fun y hy => h.ky y (List.mem_of_mem_take hy)⟩
  · rw [htl]
    exact rw_same hpre fun b hbb => oth b (by have := (rw_block hpre hbb).1; omega)
  · have hk := h.rt.own.kids y (List.mem_of_mem_take hy)
    exact rw_same hk fun b hbb => oth b (by have := (rw_block hk hbb).1; omega)
  · rw [List.map_take, h.rt.nodes, List.take_left]
  · exact h.yo

theorem ptR_put {L : List Nd} {x : Nd} (hf : formB x = true) (hk : ∀ k ∈ x.kids, 0 ≤ k ∧ k < (L.length : Int)) : ptR L x = putS L x := by
  have ha : x.kids.all (hasT L) = true := List.all_eq_true.2 fun k h => by
    have := hk k h
    unfold hasT; simp; omega
  unfold ptR shE
  rw [hf, ha]
  simp
/-- The numbers of a node's parts, so far. -/
def idK (ids : List Nat) (ks : List Int) (j : Nat) : List Nat := (ks.take j).map fun k => ids.getD k.toNat 0
theorem idK_len {ids : List Nat} {ks : List Int} {j : Nat} (h : j ≤ ks.length) : (idK ids ks j).length = j := by simp [idK]; omega
theorem idK_next {ids : List Nat} {ks : List Int} {j : Nat} (h : j < ks.length) : idK ids ks (j + 1) = idK ids ks j ++ [ids.getD (ks.getD j 0).toNat 0] := by
  unfold idK
  rw [List.take_succ_eq_append_getElem h, List.map_append]; simp [h]
theorem idK_all (ids : List Nat) (x : Nd) : (idK ids x.kids x.kids.length).map (fun i => ((i : Nat) : Int)) ++ List.replicate (x.kids.length - x.kids.length) 0 = (adN ids x).kids := by
  unfold idK adN
  simp

set_option maxRecDepth 20000 in
set_option maxHeartbeats 16000000 in
theorem rAdd_some (w : World) (q : Nat) (lv : Value) (pl : List (Nd × Value)) (L l : List Nd) (ao : Option Addr) (cap : Nat) (fr : List Nat) (h : RtM w q lv pl L) (hI : TbI L) (hN : Nodes w q (.slice ao l.length cap) l) (hn6 : ∀ x ∈ l, N6 x.n ∧ x.name.size ≤ 281474976710656) (hb : begL l = some fr)
    (r : Nat) (er : Int) (L' : List Nd) (hres : (∃ ids, addR (L, []) l = some (L', ids) ∧ r = ids.getD (l.length - 1) 0 ∧ er = 0) ∨ (addR (L, []) l = none ∧ r = 0 ∧ er = 10 ∧ L' = L)) :
    Calls Tryd.prog 68 #[.pointer (some ⟨q, 0, none⟩), .slice ao l.length cap] w fun e w' => e = .returned (.tuple #[.int .i64 (r : Nat), .int .i64 er]) ∧ ∃ lv' pl', RtT w.heap.size w q lv pl lv' pl' L' w' := by
  obtain ⟨i0, hi, hz0, hz1, hz2⟩ := info_parts Tryd.info3
  obtain ⟨hl0, hl64, hbr, _⟩ := begL_some hb
  have hok := begOk_of hbr
  have HKL : Sld (KidsLo l) := ⟨kidsLo_ok hok⟩
  have HFM : Sld (∀ j, j < l.length → formB (l.getD j nd0) = true) := ⟨fun j hj => (hok.at_ j hj).1⟩
  have HN6 : Sld (∀ x ∈ l, N6 x.n ∧ x.name.size ≤ 281474976710656) := ⟨hn6⟩
  have HRES : Sld ((∃ ids, addR (L, []) l = some (L', ids) ∧ r = ids.getD (l.length - 1) 0 ∧ er = 0) ∨ (addR (L, []) l = none ∧ r = 0 ∧ er = 10 ∧ L' = L)) := ⟨hres⟩
  have HM : Sld (RtM w q lv pl L) := ⟨h⟩
  have HI : Sld (TbI L) := ⟨hI⟩
  have hql := h.lt
  have HNN : Sld (∀ W, Below q w W → Nodes W q (.slice ao l.length cap) l) := ⟨fun W hW => hN.below hW (Nat.le_refl _)⟩
  have hC : Sld (Calls Tryd.prog 10 #[.slice ao l.length cap] w fun e w' => e = .returned (.int .i64 0) ∧ Below w.heap.size w w') := ⟨by
    have := refCheck_any (.slice ao l.length cap) l w w.heap.size (Nat.le_refl _) (hN.below (Below.refl _ _) (by omega)) (fun x hx => by have := (hn6 x hx).2; unfold maxLen; omega)
    rw [chkE_yes (by unfold sndB; rw [hb]; rfl)] at this
    exact this⟩
  have hlI : (l.length : Int) ≤ 64 := by omega
  obtain ⟨_, _, hv9, hc1, hc2, _⟩ := id hN
  simp only [Value.slice.injEq, true_and] at hv9
  obtain ⟨rfl, rfl⟩ := hv9
  unfold maxLen at hc2
  have hcI : (l.length : Int) ≤ (cap : Int) := by omega
  have hcM : (cap : Int) ≤ 9223372036854775807 := by omega
  clear h hb hn6 hres hok hbr hN hI
  go_enter Tryd.func68, Tryd.ntmps68
  go_wp2_with fail
  refine hC.out.mono ?_
  rintro e w1 ⟨rfl, hb1⟩
  have HB1 : Sld (Below w.heap.size w w1) := ⟨hb1⟩
  obtain ⟨la, lc, hev⟩ := HM.out.form
  have c0 : w1.cell? ⟨q, 0, none⟩ = some (.slice la L.length lc) := by rw [← hev]; exact (HM.out.below hb1).c0
  obtain ⟨w2, hmk, hown2, hg2⟩ := run_make_full (P := Tryd.prog) w1 w.heap.size 61 3 i0 (.int .i64 0) 1 Tryd.underlying61 hi hz0 hz1 .i64 .i64 l.length (by rw [hz2]; omega) (by unfold maxLen; omega) hb1.size
  rw [made_zerosT] at hown2
  have hO2 : OwnI w2 w.heap.size (.slice (some ⟨w1.heap.size, 0, none⟩) l.length l.length) (List.replicate l.length 0) := by
    unfold OwnI; rw [List.length_replicate]; exact hown2
  have hB2 : Below w.heap.size w w2 := hb1.grown hg2 hb1.size (fun j hj => by cases hj)
  have HA2 : Sld (RaMid w q lv pl L l w1.heap.size 0 w2 L [] lv pl) := ⟨⟨rfl, rfl, RtT.of_below HM.out hB2, by simpa using hO2, fun y hy e => by
    have := (rw_block (HM.out.own.kids y hy) e).2.1
    have := hb1.size
    omega⟩⟩
  clear hb1 hown2 hg2 hO2 hB2 hev
  go_wp2_with fail
  generalize w1.heap.size = G at *
  clear hmk c0 HB1 hC
  go_loopw [8] (fun i wr => ∃ (k : Nat) (Lk : List Nd) (ids : List Nat) (lv1 : Value) (pl1 : List (Nd × Value)), k ≤ l.length ∧ i = .int .i64 k ∧ RaMid w q lv pl L l G k wr Lk ids lv1 pl1) (fun i _ => l.length - (RowKit.intOf i).toNat)
  case atStart => exact ⟨0, L, [], lv, pl, by omega, rfl, HA2.out⟩
  case round =>
    obtain ⟨k, Lk, ids, lv1, pl1, hk, rfl, hmid⟩ := hrel
    have HMID : Sld (RaMid w q lv pl L l G k wr Lk ids lv1 pl1) := ⟨hmid⟩
    clear hmid HA2
    have hszw := HMID.out.rt.below.size
    by_cases hlt : k < l.length
    · have hltI : (k : Int) < (l.length : Int) := by omega
      obtain ⟨ao', cap', hv, hl1, hm1, hc⟩ := HNN.out wr HMID.out.rt.below
      simp only [Value.slice.injEq, true_and] at hv
      obtain ⟨rfl, rfl⟩ := hv
      obtain ⟨b, o, rfl, hbl, hc⟩ : ∃ b o, ao = some ⟨b, o, none⟩ ∧ b < q ∧ ∀ i, i < l.length → ∃ kv, NodeAt wr q b (o + i * 4) (l.getD i nd0) kv := by
        rcases hc with h | h
        · subst h; simp at hlt
        · exact h
      obtain ⟨kv, hNA⟩ := hc k hlt
      obtain ⟨d0, d1, d2, d3, hki⟩ := hNA
      obtain ⟨ka, kc, hkv, hkl, hkm, hkc⟩ := id hki
      subst hkv
      have hxn := HN6.out (l.getD k nd0) (by simp [hlt])
      have hfm := HFM.out k hlt
      have hk3 := formB_kids hfm
      obtain ⟨hIk, ⟨M, hM, _⟩, hFk⟩ := addR_ok HKL.out HFM.out HI.out k hk Lk ids HMID.out.run
      have hkids := adN_kids HKL.out hlt hFk
      have hkl2 := HKL.out k hlt
      have HNX : Sld (∀ {W5 w6 : World} {lv6 : Value} {pl6 : List (Nd × Value)} {L2 : List Nd} {i : Nat}, Below wr.heap.size wr W5 → RtT W5.heap.size W5 q lv1 pl1 lv6 pl6 L2 w6 → stA (Lk, ids) (l.getD k nd0) = some (L2, ids ++ [i]) → RaMid w q lv pl L l G (k + 1) (w6.setCell ⟨G, k, none⟩ (.int .i64 (i : Nat))) L2 (ids ++ [i]) lv6 pl6 ∧ (∃ u, w6.cell? ⟨G, k, none⟩ = some u) ∧ w6.frozen? ⟨G, k, none⟩ = false) := ⟨fun h1 h2 h3 => HMID.out.next hql hlt h1 h2 h3⟩
      have HST := stA_putS Lk ids (l.getD k nd0)
      have CP : Sld (∀ W K, Below wr.heap.size wr W → Ints W W.heap.size (.slice (some ⟨K, 0, none⟩) (l.getD k nd0).kids.length (l.getD k nd0).kids.length) (adN ids (l.getD k nd0)).kids → Calls Tryd.prog 63 #[.pointer (some ⟨q, 0, none⟩), .agg #[.int .i64 (l.getD k nd0).op, .int .i64 (l.getD k nd0).n, .string (l.getD k nd0).name, .slice (some ⟨K, 0, none⟩) (l.getD k nd0).kids.length (l.getD k nd0).kids.length]] W fun e w' => e = .returned (.tuple #[.int .i64 ((putS Lk (adN ids (l.getD k nd0))).1 : Nat), .int .i64 (putS Lk (adN ids (l.getD k nd0))).2.1]) ∧ ∃ lv' pl', RtT W.heap.size W q lv1 pl1 lv' pl' (putS Lk (adN ids (l.getD k nd0))).2.2 w') := ⟨fun W K hW hKI => by
        have hkln : (adN ids (l.getD k nd0)).kids.length = (l.getD k nd0).kids.length := by unfold adN; simp
        have := rPut_any W q lv1 pl1 Lk (adN ids (l.getD k nd0)) (some ⟨K, 0, none⟩) (l.getD k nd0).kids.length (HMID.out.rt.rt.below hW) ⟨by rw [hkln]; exact hKI, hxn.1, hxn.2⟩ hIk (by rw [hkln]; omega)
        rw [ptR_put (by rw [adN_form]; exact hfm) hkids, hkln] at this
        exact this⟩
      have HER := putS_err Lk (adN ids (l.getD k nd0))
      have HNONE : Sld (stA (Lk, ids) (l.getD k nd0) = none → addR (L, []) l = none) := ⟨fun hs => addR_none _ _ (j := k + 1) (by rw [addR_snoc _ _ hlt, HMID.out.run]; exact hs)⟩
      have HIC : Sld (∀ j, j < k → wr.cell? ⟨G, j, none⟩ = some (.int .i64 ((ids.getD j 0 : Nat) : Int))) := ⟨fun j hj => by
        have := HMID.out.row.cellT (adm_len HMID.out.len (by omega)) (i := j) (by omega)
        rw [adm_ids HMID.out.len hj] at this
        exact this⟩
      have HALLK := idK_all ids (l.getD k nd0)
      have hGl : G < wr.heap.size := (rw_block HMID.out.row (b := G) rfl).2.1
      obtain ⟨E2, hE2⟩ : ∃ E2, (putS Lk (adN ids (l.getD k nd0))).2.1 = E2 := ⟨_, rfl⟩
      obtain ⟨R2, hR2⟩ : ∃ R2, (putS Lk (adN ids (l.getD k nd0))).1 = R2 := ⟨_, rfl⟩
      obtain ⟨L2, hL2⟩ : ∃ L2, (putS Lk (adN ids (l.getD k nd0))).2.2 = L2 := ⟨_, rfl⟩
      rw [hE2, hR2, hL2] at CP HST
      rw [hE2, hL2] at HER
      rw [← HALLK] at CP
      have HST' : Sld (stA (Lk, ids) (l.getD k nd0) = if E2 = 0 then some (L2, ids ++ [R2]) else none) := ⟨HST⟩
      have HER' : Sld (E2 = 0 ∨ E2 = 10 ∧ L2 = Lk ∧ 1048576 ≤ Lk.length) := ⟨HER⟩
      have HLM : Sld (Lk = L ++ M) := ⟨hM⟩
      clear HST HER hE2 hR2 hL2 hFk hIk hc hkids hxn hM HALLK
      generalize l.getD k nd0 = x at *
      obtain ⟨op, n, nm, ks⟩ := x
      simp only at d0 d1 d2 d3 hki hkl hkm hkc hk3 hkl2 CP
      have HKI : Sld (Ints wr q (.slice ka ks.length kc) ks) := ⟨hki⟩
      have HK2 : Sld (∀ q ∈ ks, 0 ≤ q ∧ q < (k : Int)) := ⟨hkl2⟩
      have hkm1 := hkm.1
      unfold maxLen at hkm1
      obtain ⟨wa, hwa⟩ : ∃ wa, wr.alloc (.cells #[.int .i64 op, .int .i64 n, .string nm, .slice ka ks.length kc] 63) = wa := ⟨_, rfl⟩
      have HBa : Sld (Below wr.heap.size wr wa) := ⟨by rw [← hwa]; exact (Below.refl _ _).alloc (Nat.le_refl _) _⟩
      have hba : wa.heap[wr.heap.size]? = some (.cells #[.int .i64 op, .int .i64 n, .string nm, .slice ka ks.length kc] 63 (0, 0)) := by rw [← hwa, Deep.blk_alloc_new]
      have HBA : Sld (wa.heap[wr.heap.size]? = some (.cells #[.int .i64 op, .int .i64 n, .string nm, .slice ka ks.length kc] 63 (0, 0))) := ⟨hba⟩
      obtain ⟨a0, a1, a2, a3, _⟩ := blk4 hba
      have hasz : wa.heap.size = wr.heap.size + 1 := by rw [← hwa]; simp
      obtain ⟨wb, hmk, hownb, hgb⟩ := run_make_full (P := Tryd.prog) wa wa.heap.size 61 3 i0 (.int .i64 0) 1 Tryd.underlying61 hi hz0 hz1 .i64 .i64 ks.length (by rw [hz2]; omega) (by unfold maxLen; omega) (Nat.le_refl _)
      rw [made_zerosT] at hownb
      have hOb : OwnI wb wa.heap.size (.slice (some ⟨wa.heap.size, 0, none⟩) ks.length ks.length) (List.replicate ks.length 0) := by
        unfold OwnI; rw [List.length_replicate]; exact hownb
      have HOb : Sld (OwnI wb wa.heap.size (.slice (some ⟨wa.heap.size, 0, none⟩) ks.length ks.length) ((idK ids ks 0).map (fun i => ((i : Nat) : Int)) ++ List.replicate (ks.length - 0) 0)) := ⟨by simpa [idK] using hOb⟩
      have HBb : Sld (Below wa.heap.size wa wb) := ⟨(Below.refl _ _).grown hgb (Nat.le_refl _) (fun j hj => by cases hj)⟩
      have HWA : Sld (wr.alloc (.cells #[.int .i64 op, .int .i64 n, .string nm, .slice ka ks.length kc] 63) = wa) := ⟨hwa⟩
      have HASZ := Sld.mk hasz
      clear hba hki hkc hkm hkl2 hownb hgb hOb hasz
      go_wp2_with fail
      clear hmk a0 a1 a2 a3 hwa
      obtain ⟨wo, hwo⟩ : ∃ wo, wo = wr := ⟨_, rfl⟩
      subst hwo
      go_loopw [11] (fun i wk => ∃ j : Nat, j ≤ ks.length ∧ i = .int .i64 j ∧ OwnI wk wa.heap.size (.slice (some ⟨wa.heap.size, 0, none⟩) ks.length ks.length) ((idK ids ks j).map (fun i => ((i : Nat) : Int)) ++ List.replicate (ks.length - j) 0) ∧ Below wa.heap.size wa wk) (fun i _ => ks.length - (RowKit.intOf i).toNat)
      case atStart => exact ⟨0, by omega, rfl, HOb.out, HBb.out⟩
      case round =>
        obtain ⟨j, hj, rfl, hO, hBk⟩ := hrel
        have HO := Sld.mk hO
        have HBK := Sld.mk hBk
        have hB5 : Below wo.heap.size wo wr := HBa.out.trans (hBk.mono (by have := HASZ.out; omega))
        have HB5 := Sld.mk hB5
        have hnd : wr.heap[wo.heap.size]? = some (.cells #[.int .i64 op, .int .i64 n, .string nm, .slice ka ks.length kc] 63 (0, 0)) := (hBk.block _ (lt_of_block HBA.out)).trans HBA.out
        have HND := Sld.mk hnd
        obtain ⟨n0, n1, n2, n3, nf⟩ := blk4 hnd
        by_cases hjl : j < ks.length
        · have hjlI : (j : Int) < (ks.length : Int) := by omega
          obtain ⟨ao', cap', hv, _, _, hc⟩ := HKI.out
          simp only [Value.slice.injEq, true_and] at hv
          obtain ⟨rfl, rfl⟩ := hv
          obtain ⟨kb, ko, rfl, hkb, hc⟩ : ∃ b o, ka = some ⟨b, o, none⟩ ∧ b < q ∧ ∀ j, j < ks.length → wo.cell? ⟨b, o + j, none⟩ = some (.int .i64 (ks.getD j 0)) := by
            rcases hc with h | h
            · subst h; simp at hjl
            · exact h
          have kc1 := (hB5.cell (p := ⟨kb, ko + j, none⟩) (by show kb < wo.heap.size; omega)).trans (hc j hjl)
          obtain ⟨hq1, hq2⟩ := HK2.out (ks.getD j 0) (by simp [hjl])
          have hlk : ((idK ids ks j).map (fun i => ((i : Nat) : Int)) ++ List.replicate (ks.length - j) 0).length = ks.length := adm_len (idK_len hj) hj
          have u0 := hO.cellT hlk hjl
          have f0 := hO.frT hlk j
          have hnx := idK_next (ids := ids) hjl
          obtain ⟨q9, hq⟩ : ∃ q9 : Nat, ks.getD j 0 = q9 := ⟨(ks.getD j 0).toNat, by omega⟩
          have kc2 := (hB5.cell (p := ⟨G, q9, none⟩) hGl).trans (HIC.out q9 (by omega))
          have hstep := hO.putT hlk j ((ids.getD q9 0 : Nat) : Int)
          rw [adm_set _ (idK_len hj) hjl] at hstep
          rw [hq, Int.toNat_natCast] at hnx
          rw [← hnx] at hstep
          rw [hq] at kc1 hq2
          have HSTEP : Sld (OwnI (wr.setCell ⟨wa.heap.size, j, none⟩ (.int .i64 ((ids.getD q9 0 : Nat) : Int))) wa.heap.size (.slice (some ⟨wa.heap.size, 0, none⟩) ks.length ks.length) ((idK ids ks (j + 1)).map (fun i => ((i : Nat) : Int)) ++ List.replicate (ks.length - (j + 1)) 0) ∧ Below wa.heap.size wa (wr.setCell ⟨wa.heap.size, j, none⟩ (.int .i64 ((ids.getD q9 0 : Nat) : Int)))) := ⟨hstep, hBk.setCell (p := ⟨wa.heap.size, j, none⟩) (Nat.le_refl _) _⟩
          have hqI : (q9 : Int) < (l.length : Int) := by omega
          generalize ((idK ids ks j).map (fun i => ((i : Nat) : Int)) ++ List.replicate (ks.length - j) 0).getD j 0 = u9 at *
          clear hc hB5 hstep hq hq1 hO hBk hnx hnd hlk
          generalize ids.getD q9 0 = z at *
          go_wp2_with fail
          exact ⟨⟨j + 1, by omega, by go_num, HSTEP.out.1, HSTEP.out.2⟩, by simp [RowKit.intOf]; omega⟩
        · have hje : j = ks.length := by omega
          subst hje
          obtain ⟨W5, hW5⟩ : ∃ W5, wr.setCell ⟨wo.heap.size, 3, none⟩ (.slice (some ⟨wa.heap.size, 0, none⟩) ks.length ks.length) = W5 := ⟨_, rfl⟩
          have hB6 : Below wo.heap.size wo W5 := by rw [← hW5]; exact hB5.setCell (p := ⟨wo.heap.size, 3, none⟩) (Nat.le_refl _) _
          have hO5 : OwnI W5 wa.heap.size (.slice (some ⟨wa.heap.size, 0, none⟩) ks.length ks.length) ((idK ids ks ks.length).map (fun i => ((i : Nat) : Int)) ++ List.replicate (ks.length - ks.length) 0) := by
            rw [← hW5]
            exact rw_same hO fun b hbb => Deep.blk_setCell_other _ _ _ _ (by have := (rw_block hO hbb).1; have := HASZ.out; show b ≠ wo.heap.size; omega)
          have hb5 := heap_setCell_same wr wo.heap.size 3 _ _ (.slice (some ⟨wa.heap.size, 0, none⟩) ks.length ks.length) hnd
          rw [hW5] at hb5
          simp at hb5
          obtain ⟨m0, m1, m2, m3, mf⟩ := blk4 hb5
          have hlk : ((idK ids ks ks.length).map (fun i => ((i : Nat) : Int)) ++ List.replicate (ks.length - ks.length) 0).length = ks.length := adm_len (idK_len hj) hj
          have hIn := Ints_of_own hO5 (Nat.le_refl W5.heap.size)
          have CP5 := Sld.mk (CP.out W5 wa.heap.size hB6 hIn)
          have HB6 := Sld.mk hB6
          clear hO hBk hB5 hnd hO5 hB6 hb5 hIn hlk CP
          go_wp2_with fail
          refine CP5.out.mono ?_
          rintro e w6 ⟨rfl, lv6, pl6, hT6⟩
          have HT6 := Sld.mk hT6
          clear hT6 CP5 m0 m1 m2 m3 mf n0 n1 n2 n3 nf hW5
          rcases HER'.out with hE | ⟨hE, hLL, hfull⟩
          · have hst := HST'.out
            rw [if_pos hE] at hst
            obtain ⟨hN2, ⟨u6, hu6⟩, hf6⟩ := HNX.out HB6.out HT6.out hst
            have HN2 := Sld.mk hN2
            subst hE
            clear hst hN2
            go_wp2_with fail
            exact ⟨⟨k + 1, L2, ids ++ [R2], lv6, pl6, by omega, by go_num, HN2.out⟩, by simp [RowKit.intOf]; omega⟩
          · have hst := HST'.out
            rw [if_neg (by omega)] at hst
            have hnone := HNONE.out hst
            have hT7 : RtT w.heap.size w q lv pl lv6 pl6 (L ++ M) w6 := by
              have h1 := HT6.out.wz (z' := w.heap.size) (by have := HB6.out.size; omega)
              have := HMID.out.rt.trans ((RtT.of_below HMID.out.rt.rt HB6.out).trans h1 HB6.out.size) (by omega)
              rw [hLL, HLM.out] at this
              exact this
            have hpos : 0 < (L ++ M).length := by rw [← HLM.out]; omega
            obtain ⟨g, cp, _, _, hlv, hgc1, hgc2, _⟩ := hT7.rt.at_ hpos
            have hq6 := hT7.rt.c0
            have hqf : w6.frozen? ⟨q, 0, none⟩ = false := by simp [World.frozen?, hT7.rt.blk]
            rw [hlv] at hT7 hq6
            have HCUT := Sld.mk hT7.cut
            have HEND : Sld (r = 0 ∧ er = 10 ∧ L' = L) := ⟨by
              rcases HRES.out with ⟨ids', h1, _⟩ | ⟨_, h2⟩
              · rw [hnone] at h1; cases h1
              · exact h2⟩
            have hLl : (L.length : Int) ≤ ((L ++ M).length : Int) := by simp; omega
            obtain ⟨LM, hLM⟩ : ∃ LM, (L ++ M).length = LM := ⟨_, rfl⟩
            rw [hLM] at hq6 hgc1 hLl
            unfold maxLen at hgc2
            have hLcI : (LM : Int) ≤ (cp : Int) := by omega
            have hLcM : (cp : Int) ≤ 9223372036854775807 := by omega
            subst hE
            clear hst hnone hT7 hfull hlv hpos hLL hLM
            go_wp2_with fail
            go_ret2
            exact ⟨by rw [HEND.out.1, HEND.out.2.1]; rfl, _, _, by rw [HEND.out.2.2]; exact HCUT.out⟩
    · have hke : k = l.length := by omega
      subst hke
      have hrun := HMID.out.run
      rw [List.take_length] at hrun
      obtain ⟨hr1, her1, hL1⟩ : r = ids.getD (l.length - 1) 0 ∧ er = 0 ∧ L' = Lk := by
        rcases HRES.out with ⟨ids', h1, h2, h3⟩ | ⟨h1, _⟩
        · rw [hrun] at h1
          simp only [Option.some.injEq, Prod.mk.injEq] at h1
          obtain ⟨rfl, rfl⟩ := h1
          exact ⟨h2, h3, rfl⟩
        · rw [hrun] at h1; cases h1
      have kc2 := HMID.out.row.cellT (adm_len HMID.out.len (by omega)) (i := l.length - 1) (by omega)
      rw [adm_ids HMID.out.len (by omega)] at kc2
      have HEND : Sld (r = ids.getD (l.length - 1) 0 ∧ er = 0 ∧ L' = Lk) := ⟨hr1, her1, hL1⟩
      have hGl : G < wr.heap.size := (rw_block HMID.out.row (b := G) rfl).2.1
      obtain ⟨N1, hN1⟩ : ∃ N1 : Nat, l.length = N1 + 1 := ⟨l.length - 1, by omega⟩
      have e1 : l.length - 1 = N1 := by omega
      rw [e1] at kc2 HEND
      have HN1 : Sld (l.length = N1 + 1) := ⟨hN1⟩
      rw [hN1] at hlI ⊢
      generalize ids.getD N1 0 = z at *
      clear hrun hr1 her1 hL1 e1
      go_wp2_with fail
      go_ret2
      exact ⟨by rw [HEND.out.1, HEND.out.2.1]; rfl, lv1, pl1, by rw [HEND.out.2.2]; exact HMID.out.rt⟩
end Go.Proofs.YtpacjofepiojdaaDoor

/-
  TbSt, TbSu, RgSeq.
-/
import Derived.Test.YtpacjofepiojdaaDoorChecked
import GoSem.PinnedTables
import GoSem.Claim
import GoSem.ClaimJoined
import GoSem.ClaimMapViews
import Derived.JoinedTies
import Derived.KernelRfl
import Derived.Shelf.Unicode.DecodeSlow
import Derived.Laws.RangeAny
import Derived.Shelf.Small.Bits
import Derived.Shelf.Strconv.Itoa0
import Derived.Shelf.LaysM
import Derived.Shelf.Strconv.Clone
import Derived.Shelf.Unicode.DecodeAny
import Derived.Shelf.Slices.CompactS
import Derived.Ground.SlsfProg
import Derived.Shelf.SlSortCmp.Insertion
import Derived.Shelf.SlSortCmp.SiftDown1
import Derived.Shelf.SlSortCmp.HeapSort1
import Derived.Shelf.SlSortCmp.Insertion1
import Derived.Shelf.SlSortCmp.Median1
import Derived.Shelf.SlSortCmp.Pivot1
import Derived.Shelf.SlSortCmp.ReverseRange1
import Derived.Shelf.SlSortCmp.PartialInsertion1
import Derived.Shelf.SlSortCmp.PartitionEqual1
import Derived.Shelf.SlSortCmp.Partition1
import Derived.Shelf.SlSortCmp.Pdq1
import Derived.Shelf.SlSortCmp.Whole1
import Derived.Test.YtpacjofepiojdaaDoorProg
import Derived.WalkKit
import Derived.Deep.DeepFit
import Derived.Lib.OthersKept
import Derived.Lib.RuneCountTail
import Derived.Lib.LaidU8
import Derived.MakeChecks
import Derived.ProofKit
import Derived.OpenShut
import Derived.Deep.DeepHandedRow
import Derived.Deep.AppendLies
import Derived.Deep.OwnRows
import Derived.Laws.AppendOwnNone
import Derived.Deep.QuietTactic
import Derived.BigQuiet
import Derived.Deep.RegionWith
import Derived.Laws.DeepStrings4
import Derived.Below
import Derived.Maps.OwnSet
import Derived.Maps.Keyed
import Derived.DeepKeys4
import Derived.Lib.QuietBelow
import Derived.StillTail
import Derived.Deep.RegionHeld3
import Derived.Laws.ResultCell
import Derived.Laws.CopyOwn
import Derived.Deep.RegionLaw
import Derived.Laws.OwnMore
import Derived.Lib.MapLaws
import Derived.Sort.Walk0
import Derived.Deep.Slices
import Derived.SizedLaws
import Derived.Lib.SliceRun
import Derived.RangeFuncNested
import Derived.RangeFuncBound
import Derived.RangeFuncCalls
import Derived.RangeFuncLeaves
import Derived.RangeFuncBox
import Derived.Shelf.Abstract
import Derived.Shelf.RegionOpen
import Derived.OwnWalkIn
import Derived.TacticsInMore
import Derived.LoopNIn
import Derived.LoopIn
import Derived.Test.YtpacjofepiojdaaDoorRows
import Derived.Test.YtpacjofepiojdaaDoorP01
import Derived.Test.YtpacjofepiojdaaDoorP02
import Derived.Test.YtpacjofepiojdaaDoorP03
import Derived.Test.YtpacjofepiojdaaDoorP04
import Derived.Test.YtpacjofepiojdaaDoorP05
import Derived.Test.YtpacjofepiojdaaDoorP06
import Derived.Test.YtpacjofepiojdaaDoorP07
import Derived.Test.YtpacjofepiojdaaDoorP08
import Derived.Test.YtpacjofepiojdaaDoorP09
import Derived.Test.YtpacjofepiojdaaDoorP10
import Derived.Test.YtpacjofepiojdaaDoorP11
import Derived.Test.YtpacjofepiojdaaDoorP12
import Derived.Test.YtpacjofepiojdaaDoorP13
import Derived.Test.YtpacjofepiojdaaDoorP14
import Derived.Test.YtpacjofepiojdaaDoorP15
import Derived.Test.YtpacjofepiojdaaDoorP16
import Derived.Test.YtpacjofepiojdaaDoorP17
import Derived.Test.YtpacjofepiojdaaDoorP18
import Derived.Test.YtpacjofepiojdaaDoorP19
import Derived.Test.YtpacjofepiojdaaDoorP20
import Derived.Test.YtpacjofepiojdaaDoorP21
import Derived.Test.YtpacjofepiojdaaDoorP22
import Derived.Test.YtpacjofepiojdaaDoorP23
import Derived.Test.YtpacjofepiojdaaDoorP24
import Derived.Test.YtpacjofepiojdaaDoorP25
import Derived.Test.YtpacjofepiojdaaDoorP26
import Derived.Test.YtpacjofepiojdaaDoorP27
set_option linter.unusedSimpArgs false
set_option linter.unusedVariables false
namespace Go.Proofs.YtpacjofepiojdaaDoor
open Go.RowKit Go.Lib Go.Sort Go.Maps

/-- Both tables hold the same. -/
structure Bt (W : World) (p q : Nat) (ev mv lv : Value) (pl : List (Nd × Value)) (L : List Nd) : Prop where
  t : TbM W p ev mv L
  r : RtM W q lv pl L
theorem Bt.below {W W' : World} {p q : Nat} {ev mv lv : Value} {pl : List (Nd × Value)} {L : List Nd} (h : Bt W p q ev mv lv pl L) (hb : Below W.heap.size W W') : Bt W' p q ev mv lv pl L := ⟨h.t.below hb, h.r.below hb⟩
theorem RtM.tb {w w' : World} {p q : Nat} {ev mv lv : Value} {pl : List (Nd × Value)} {L L0 : List Nd} (h : RtM w q lv pl L) (ht : TbM w p ev mv L0) (hk : Tk (TbS p ev mv) w w') : RtM w' q lv pl L :=
  ⟨(hk.same q h.lt (ht.typed h.blk (by decide) (by decide))).trans h.blk, h.own.tb ht hk, h.nodes⟩
theorem TbM.rt {w w' : World} {p q : Nat} {ev mv lv : Value} {pl : List (Nd × Value)} {L L0 : List Nd} (h : TbM w p ev mv L) (hr : RtM w q lv pl L0) (hk : ∀ b, b < w.heap.size → b ≠ q → lv.ownBlock ≠ some b → w'.heap[b]? = w.heap[b]?) : TbM w' p ev mv L := by
  have key : ∀ b (cur : Array Value) (e : TypeId) (fr : Nat × Nat), w.heap[b]? = some (.cells cur e fr) → e ≠ 59 → e ≠ 63 → b ≠ q ∧ lv.ownBlock ≠ some b := fun b cur e fr hb h1 h2 => by
    refine ⟨?_, ?_⟩
    · rintro rfl
      rw [hr.blk] at hb
      injection hb with hb
      injection hb with _ hb
      exact h1 hb.symm
    · intro e2
      obtain ⟨_, _, _, cu, _, h3, _⟩ := rw_block hr.own.row e2
      rw [h3] at hb
      injection hb with hb
      injection hb with _ hb
      exact h2 hb.symm
  refine h.same fun b hb hs => ?_
  rcases hs with rfl | hs | hs
  · obtain ⟨h1, h2⟩ := key _ _ _ _ h.blk (by decide) (by decide)
    exact hk _ hb h1 h2
  · obtain ⟨_, _, _, cu, _, h3, _⟩ := rw_block h.on hs
    obtain ⟨h1, h2⟩ := key _ _ _ _ h3 (by decide) (by decide)
    exact hk _ hb h1 h2
  · rcases h.ids with ⟨h3, _⟩ | ⟨B, h3, _, h4⟩
    · rw [h3] at hs; cases hs
    · rw [h3] at hs
      cases hs
      obtain ⟨es, c, h5⟩ := h4.obj
      refine hk _ hb ?_ ?_
      · rintro rfl; rw [hr.blk] at h5; cases h5
      · intro e2
        obtain ⟨_, _, _, cu, _, h6, _⟩ := rw_block hr.own.row e2
        rw [h6] at h5; cases h5

/-- A call, plainly. -/
structure OpT where
  kind : Int
  id : Int
  x : Nd
  e : List Nd
def opV (o : OpT) (ka : Option Addr) (kc : Nat) (ea : Option Addr) (ec : Nat) : Value := .agg #[.int .i64 o.kind, .int .i64 o.id, .int .i64 o.x.op, .int .i64 o.x.n, .string o.x.name, .slice ka o.x.kids.length kc, .slice ea o.e.length ec]
def opB (o : OpT) (ka : Option Addr) (kc : Nat) (ea : Option Addr) (ec : Nat) : Obj := .cells #[.int .i64 o.kind, .int .i64 o.id, .int .i64 o.x.op, .int .i64 o.x.n, .string o.x.name, .slice ka o.x.kids.length kc, .slice ea o.e.length ec] 65 (0, 0)
/-- What it is handed, in old memory. -/
structure OpA (w0 : World) (o : OpT) (ka : Option Addr) (kc : Nat) (ea : Option Addr) (ec : Nat) : Prop where
  ki : Ints w0 w0.heap.size (.slice ka o.x.kids.length kc) o.x.kids
  en : Nodes w0 w0.heap.size (.slice ea o.e.length ec) o.e
  n6 : N6 o.x.n
  nm : o.x.name.size ≤ 281474976710656
  kl : o.x.kids.length * 8 ≤ 140737488351232
  ft : FitX o.e
/-- The cells that hold a pointer to the document's table stay. -/
def KpT (W W' : World) : Prop := ∀ (b : Nat) (cur : Array Value) (fr : Nat × Nat), W.heap[b]? = some (Obj.cells cur 57 fr) → W'.heap[b]? = some (Obj.cells cur 57 fr)
theorem KpT.below {W W' : World} (hb : Below W.heap.size W W') : KpT W W' := fun b cur fr h => (hb.block b (lt_of_block h)).trans h
theorem KpT.trans {W W' W'' : World} (h : KpT W W') (k : KpT W' W'') : KpT W W'' := fun b cur fr hb => k b cur fr (h b cur fr hb)
theorem TbT.kpT {w w' : World} {p : Nat} {ev mv ev' mv' : Value} {L L' : List Nd} (h : TbT w p ev mv ev' mv' L' w') (hm : TbM w p ev mv L) : KpT w w' := fun b cur fr hb => (h.tk.same b (lt_of_block hb) (hm.typed hb (by decide) (by decide))).trans hb
theorem RtT.kpT {z : Nat} {w w' : World} {q : Nat} {lv lv' : Value} {pl pl' : List (Nd × Value)} {L L' : List Nd} (h : RtT z w q lv pl lv' pl' L' w') (hr : RtM w q lv pl L) : KpT w w' := fun b cur fr hb => by
  refine (h.kp b (lt_of_block hb) ?_ ?_).trans hb
  · rintro rfl
    rw [hr.blk] at hb
    injection hb with hb
    injection hb with _ hb
    exact absurd hb (by decide)
  · intro e2
    obtain ⟨_, _, _, cu, _, h3, _⟩ := rw_block hr.own.row e2
    rw [h3] at hb
    injection hb with hb
    injection hb with _ hb
    exact absurd hb (by decide)
/-- Behind a call. -/
def StE (w0 : World) (p q : Nat) (W w' : World) : Prop := (∃ ev mv lv pl L, Bt w' p q ev mv lv pl L) ∧ Below w0.heap.size w0 w' ∧ KpT W w'
/-- Ahead of one. -/
structure StI (w0 : World) (p q : Nat) (ev mv lv : Value) (pl : List (Nd × Value)) (L : List Nd) (o : OpT) (ka : Option Addr) (kc : Nat) (ea : Option Addr) (ec : Nat) (W : World) : Prop where
  T : SpanCells w0
  b0 : Below w0.heap.size w0 W
  bt : Bt W p q ev mv lv pl L
  hp : w0.heap.size ≤ p
  hq : w0.heap.size ≤ q
  A : OpA w0 o ka kc ea ec
theorem blk7 {w : World} {b : Nat} {a0 a1 a2 a3 a4 a5 a6 : Value} {t : TypeId} (h : w.heap[b]? = some (.cells #[a0, a1, a2, a3, a4, a5, a6] t (0, 0))) : w.cell? ⟨b, 0, none⟩ = some a0 ∧ w.cell? ⟨b, 1, none⟩ = some a1 ∧ w.cell? ⟨b, 2, none⟩ = some a2 ∧ w.cell? ⟨b, 3, none⟩ = some a3 ∧ w.cell? ⟨b, 4, none⟩ = some a4 ∧ w.cell? ⟨b, 5, none⟩ = some a5 ∧ w.cell? ⟨b, 6, none⟩ = some a6 := by
  simp [World.cell?, h]
/-- What holds of the arguments wherever the walk stands. -/
theorem OpA.at_ {w0 V : World} {o : OpT} {ka : Option Addr} {kc : Nat} {ea : Option Addr} {ec : Nat} (h : OpA w0 o ka kc ea ec) (hb : Below w0.heap.size w0 V) {B : Nat} (hB : w0.heap.size ≤ B) : Ints V B (.slice ka o.x.kids.length kc) o.x.kids ∧ Nodes V B (.slice ea o.e.length ec) o.e := ⟨h.ki.below hb hB, h.en.below hb hB⟩
theorem OpA.ndv {w0 V : World} {o : OpT} {ka : Option Addr} {kc : Nat} {ea : Option Addr} {ec : Nat} (h : OpA w0 o ka kc ea ec) (hb : Below w0.heap.size w0 V) : NdV V o.x ka kc := ⟨(h.at_ hb hb.size).1, h.n6, h.nm⟩
theorem TbT.b0 {w0 w w' : World} {p : Nat} {ev mv ev' mv' : Value} {L L' : List Nd} (h : TbT w p ev mv ev' mv' L' w') (hm : TbM w p ev mv L) (hb : Below w0.heap.size w0 w) (hp : w0.heap.size ≤ p) : Below w0.heap.size w0 w' := hb.trans ((h.below hm).mono hp)
theorem RtT.b0 {w0 w w' : World} {z q : Nat} {lv lv' : Value} {pl pl' : List (Nd × Value)} {L' : List Nd} (h : RtT z w q lv pl lv' pl' L' w') (hb : Below w0.heap.size w0 w) (hq : w0.heap.size ≤ q) : Below w0.heap.size w0 w' := hb.trans (h.below.mono hq)

set_option maxRecDepth 20000 in
set_option maxHeartbeats 4000000 in
theorem tstep_put {w0 W : World} {p q : Nat} {ev mv lv : Value} {pl : List (Nd × Value)} {L : List Nd} {o : OpT} {ka : Option Addr} {kc : Nat} {ea : Option Addr} {ec : Nat} (h : StI w0 p q ev mv lv pl L o ka kc ea ec W) (hk : o.kind = 1) :
    Calls Tryd.prog 32 #[.pointer (some ⟨p, 0, none⟩), .pointer (some ⟨q, 0, none⟩), opV o ka kc ea ec] W fun e w' => e = .returned (.bool true) ∧ StE w0 p q W w' := by
  obtain ⟨W1, hW1⟩ : ∃ W1, W.alloc (opB o ka kc ea ec) = W1 := ⟨_, rfl⟩
  have hb1 : Below W.heap.size W W1 := by rw [← hW1]; exact (Below.refl _ _).alloc (Nat.le_refl _) _
  have hk1 : W1.heap[W.heap.size]? = some (opB o ka kc ea ec) := by rw [← hW1, Deep.blk_alloc_new]
  have HW1 := Sld.mk hW1
  have H := Sld.mk h
  have B1 := Sld.mk (h.b0.trans (hb1.mono h.b0.size))
  have BT1 := Sld.mk (h.bt.below hb1)
  have HK1 := Sld.mk hk1
  have K1 := Sld.mk (KpT.below hb1)
  obtain ⟨okd, oid, ox, oe⟩ := o
  simp only at hk
  subst hk
  unfold opV
  unfold opB at hk1 HW1 HK1
  simp only at hk1 HW1 HK1 ⊢
  obtain ⟨y0, y1, y2, y3, y4, y5, y6⟩ := blk7 hk1
  have CO := Sld.mk (own10_any ox ka kc W1 ((H.out.A.at_ B1.out B1.out.size).1) (by have := H.out.A.kl; simp only at this; omega))
  clear h hb1 hk1 hW1
  go_enter Tryd.func32, Tryd.ntmps32
  go_wp2_with fail
  rw [HW1.out]
  refine CO.out.mono ?_
  rintro e W2 ⟨ao2, cap2, rfl, hO2, hb2⟩
  have B2 := Sld.mk (B1.out.trans (hb2.mono B1.out.size))
  have BT2 := Sld.mk (BT1.out.below hb2)
  have K2 := Sld.mk (K1.out.trans (KpT.below hb2))
  have hk2 := (hb2.block _ (lt_of_block HK1.out)).trans HK1.out
  have HK2 := Sld.mk hk2
  have CP := Sld.mk (tPut_any W2 p ev mv L ox ao2 cap2 BT2.out.t (H.out.T.below B2.out) ⟨Ints_of_own hO2 (Nat.le_refl _), H.out.A.n6, H.out.A.nm⟩)
  clear hb2 hO2 hk2 CO y0 y1 y2 y3 y4 y5 y6
  go_wp2_with fail
  refine CP.out.mono ?_
  rintro e W3 ⟨rfl, ev3, mv3, hT3⟩
  have B3 := Sld.mk (hT3.b0 BT2.out.t B2.out H.out.hp)
  have K3 := Sld.mk (K2.out.trans (hT3.kpT BT2.out.t))
  have hk3 := (hT3.tk.same _ (lt_of_block HK2.out) (BT2.out.t.typed HK2.out (by decide) (by decide))).trans HK2.out
  obtain ⟨y0, y1, y2, y3, y4, y5, y6⟩ := blk7 hk3
  have HT3 := Sld.mk hT3
  have HR3 := Sld.mk (BT2.out.r.tb BT2.out.t hT3.tk)
  have CR := Sld.mk (rPut_any W3 q lv pl L ox ka kc HR3.out (H.out.A.ndv B3.out) BT2.out.t.inv H.out.A.kl)
  clear hT3 hk3 CP
  generalize hPE : ptR L ox = P at *
  have HPE := Sld.mk hPE
  clear hPE
  obtain ⟨P1, P2, P3⟩ := P
  simp only at CR HT3
  go_wp2_with fail
  refine CR.out.mono ?_
  rintro e W4 ⟨rfl, lv4, pl4, hR4⟩
  have HEND : Sld (StE w0 p q W W4) := ⟨⟨ev3, mv3, lv4, pl4, P3, HT3.out.tb.rt HR3.out hR4.kp, hR4.rt⟩, hR4.b0 B3.out H.out.hq, K3.out.trans (hR4.kpT HR3.out)⟩
  clear hR4 CR
  go_wp2_with fail
  go_ret
  exact ⟨rfl, HEND.out⟩
end Go.Proofs.YtpacjofepiojdaaDoor

set_option linter.unusedSimpArgs false
set_option linter.unusedVariables false
namespace Go.Proofs.YtpacjofepiojdaaDoor
open Go.RowKit Go.Lib Go.Sort Go.Maps

theorem size_both (p q : Nat) (ev mv lv : Value) (pl : List (Nd × Value)) (L : List Nd) (a : Int) (W : World) (h : Bt W p q ev mv lv pl L) : ∃ r er : Int, (∀ V, Below W.heap.size W V → Calls Tryd.prog 38 #[.pointer (some ⟨p, 0, none⟩), .int .i64 a] V fun e w' => e = .returned (.tuple #[.int .i64 r, .int .i64 er]) ∧ w' = V) ∧
    (∀ V, Below W.heap.size W V → Calls Tryd.prog 70 #[.pointer (some ⟨q, 0, none⟩), .int .i64 a] V fun e w' => e = .returned (.tuple #[.int .i64 r, .int .i64 er]) ∧ Below V.heap.size V w') := by
  cases ha : hasT L a with
  | false => exact ⟨0, 2, fun V hV => tSize_bad V p ev mv L a (h.below hV).t ha, fun V hV => rSize_bad V q lv pl L a (h.below hV).r ha⟩
  | true =>
    obtain ⟨k, rfl, hk⟩ := hasT_iff.1 ha
    exact ⟨_, 0, fun V hV => tSize_ok V p ev mv L k (h.below hV).t hk, fun V hV => rSize_ok V q lv pl L k (h.below hV).r h.t.inv hk⟩
/-- A node that is answered. -/
def AnsN (x : Nd) (er : Int) (V : World) (e : Ending) (w' : World) : Prop := ∃ ao cap, e = .returned (.tuple #[.agg #[.int .i64 x.op, .int .i64 x.n, .string x.name, .slice ao x.kids.length cap], .int .i64 er]) ∧ Ints w' w'.heap.size (.slice ao x.kids.length cap) x.kids ∧ Below V.heap.size V w'
theorem node_both (p q : Nat) (ev mv lv : Value) (pl : List (Nd × Value)) (L : List Nd) (a : Int) (W : World) (h : Bt W p q ev mv lv pl L) : ∃ (x : Nd) (er : Int), (∀ V, Below W.heap.size W V → Calls Tryd.prog 66 #[.pointer (some ⟨p, 0, none⟩), .int .i64 a] V (AnsN x er V)) ∧
    (∀ V, Below W.heap.size W V → Calls Tryd.prog 67 #[.pointer (some ⟨q, 0, none⟩), .int .i64 a] V (AnsN x er V)) := by
  cases ha : hasT L a with
  | false =>
    have hz : ∀ w' : World, Ints w' w'.heap.size (.slice none 0 0) ([] : List Int) := fun w' => ⟨none, 0, rfl, by simp, ⟨by simp, fun _ => rfl⟩, .inl rfl⟩
    exact ⟨⟨0, 0, ⟨#[]⟩, []⟩, 2, fun V hV => (tNode_bad V p ev mv L a (h.below hV).t ha).mono fun e w' ⟨h1, h2⟩ => ⟨none, 0, h1, hz w', h2⟩, fun V hV => (rNode_bad V q lv pl L a (h.below hV).r ha).mono fun e w' ⟨h1, h2⟩ => ⟨none, 0, h1, hz w', h2⟩⟩
  | true =>
    obtain ⟨k, rfl, hk⟩ := hasT_iff.1 ha
    exact ⟨edA L k, 0, fun V hV => (tNode_ok V p ev mv L k (h.below hV).t hk).mono fun e w' ⟨ao, cap, h1, h2, h3⟩ => ⟨ao, cap, h1, Ints_of_own h2 (Nat.le_refl _), h3⟩, fun V hV => (rNode_ok V q lv pl L k (h.below hV).r hk).mono fun e w' ⟨ao, cap, h1, h2, h3⟩ => ⟨ao, cap, h1, (Ints_of_own h2 (Nat.le_refl _)).below h3 h3.size, h3⟩⟩
/-- An expression that is answered. -/
def AnsE (l : List Nd) (er : Int) (V : World) (e : Ending) (w' : World) : Prop := ∃ ao cap, e = .returned (.tuple #[.slice ao l.length cap, .int .i64 er]) ∧ Nodes w' w'.heap.size (.slice ao l.length cap) l ∧ Below V.heap.size V w'
theorem expr_both (p q : Nat) (ev mv lv : Value) (pl : List (Nd × Value)) (L : List Nd) (a : Int) (W : World) (h : Bt W p q ev mv lv pl L) : ∃ (l : List Nd) (er : Int), (∀ V, Below W.heap.size W V → Calls Tryd.prog 39 #[.pointer (some ⟨p, 0, none⟩), .int .i64 a] V (AnsE l er V)) ∧
    (∀ V, Below W.heap.size W V → Calls Tryd.prog 69 #[.pointer (some ⟨q, 0, none⟩), .int .i64 a] V (AnsE l er V)) := by
  have hz : ∀ w' : World, Nodes w' w'.heap.size (.slice none 0 0) ([] : List Nd) := fun w' => ⟨none, 0, rfl, by simp, by simp, .inl rfl⟩
  cases ha : hasT L a with
  | false =>
    exact ⟨[], 2, fun V hV => (tExpr_bad V p ev mv L a (h.below hV).t ha).mono fun e w' ⟨h1, h2⟩ => ⟨none, 0, h1, hz w', by rw [h2]; exact Below.refl _ _⟩, fun V hV => (rExpr_bad V q lv pl L a (h.below hV).r ha).mono fun e w' ⟨h1, h2⟩ => ⟨none, 0, h1, hz w', h2⟩⟩
  | true =>
    obtain ⟨k, rfl, hk⟩ := hasT_iff.1 ha
    by_cases hs : 64 < (szL L).getD k 0
    · exact ⟨[], 10, fun V hV => (tExpr_large V p ev mv L k (h.below hV).t hk hs).mono fun e w' ⟨h1, h2⟩ => ⟨none, 0, h1, hz w', by rw [h2]; exact Below.refl _ _⟩, fun V hV => (rExpr_large V q lv pl L k (h.below hV).r h.t.inv hk hs).mono fun e w' ⟨h1, h2⟩ => ⟨none, 0, h1, hz w', h2⟩⟩
    · have hs2 : (exA L k).length ≤ 64 := by rw [szA_ex h.t.inv k hk] at hs; omega
      refine ⟨exA L k, 0, fun V hV => (tExpr_ok V p ev mv L k (h.below hV).t hk hs2).mono fun e w' ⟨ao, cap, h1, h2⟩ => ⟨ao, cap, h1, Nodes_of_own h2.own (Nat.le_refl _), h2.below⟩, fun V hV => (rExpr_ok V q lv pl L k (h.below hV).r h.t.inv hk hs2).mono fun e w' ⟨v', h1, h2, h3⟩ => ?_⟩
      have hn := Nodes_of_own h2 (Nat.le_refl w'.heap.size)
      obtain ⟨ao, cap, rfl, _⟩ := id hn
      exact ⟨ao, cap, h1, hn, h3⟩

set_option maxRecDepth 20000 in
set_option maxHeartbeats 4000000 in
theorem tstep_find {w0 W : World} {p q : Nat} {ev mv lv : Value} {pl : List (Nd × Value)} {L : List Nd} {o : OpT} {ka : Option Addr} {kc : Nat} {ea : Option Addr} {ec : Nat} (h : StI w0 p q ev mv lv pl L o ka kc ea ec W) (hk : o.kind = 2) :
    Calls Tryd.prog 32 #[.pointer (some ⟨p, 0, none⟩), .pointer (some ⟨q, 0, none⟩), opV o ka kc ea ec] W fun e w' => e = .returned (.bool true) ∧ StE w0 p q W w' := by
  obtain ⟨W1, hW1⟩ : ∃ W1, W.alloc (opB o ka kc ea ec) = W1 := ⟨_, rfl⟩
  have hb1 : Below W.heap.size W W1 := by rw [← hW1]; exact (Below.refl _ _).alloc (Nat.le_refl _) _
  have hk1 : W1.heap[W.heap.size]? = some (opB o ka kc ea ec) := by rw [← hW1, Deep.blk_alloc_new]
  have HW1 := Sld.mk hW1
  have H := Sld.mk h
  have B1 := Sld.mk (h.b0.trans (hb1.mono h.b0.size))
  have BT1 := Sld.mk (h.bt.below hb1)
  have HK1 := Sld.mk hk1
  have K1 := Sld.mk (KpT.below hb1)
  obtain ⟨okd, oid, ox, oe⟩ := o
  simp only at hk
  subst hk
  unfold opV
  unfold opB at hk1 HW1 HK1
  simp only at hk1 HW1 HK1 ⊢
  obtain ⟨y0, y1, y2, y3, y4, y5, y6⟩ := blk7 hk1
  have CO := Sld.mk (own10_any ox ka kc W1 ((H.out.A.at_ B1.out B1.out.size).1) (by have := H.out.A.kl; simp only at this; omega))
  clear h hb1 hk1 hW1
  go_enter Tryd.func32, Tryd.ntmps32
  go_wp2_with fail
  rw [HW1.out]
  refine CO.out.mono ?_
  rintro e W2 ⟨ao2, cap2, rfl, hO2, hb2⟩
  have B2 := Sld.mk (B1.out.trans (hb2.mono B1.out.size))
  have BT2 := Sld.mk (BT1.out.below hb2)
  have K2 := Sld.mk (K1.out.trans (KpT.below hb2))
  have hk2 := (hb2.block _ (lt_of_block HK1.out)).trans HK1.out
  have HK2 := Sld.mk hk2
  have CP := Sld.mk (tFind_any W2 p ev mv L ox ao2 cap2 BT2.out.t (H.out.T.below B2.out) ⟨Ints_of_own hO2 (Nat.le_refl _), H.out.A.n6, H.out.A.nm⟩)
  clear hb2 hO2 hk2 CO y0 y1 y2 y3 y4 y5 y6
  go_wp2_with fail
  refine CP.out.mono ?_
  rintro e W3 ⟨rfl, hb3⟩
  have B3 := Sld.mk (B2.out.trans (hb3.mono B2.out.size))
  have BT3 := Sld.mk (BT2.out.below hb3)
  have K3 := Sld.mk (K2.out.trans (KpT.below hb3))
  obtain ⟨y0, y1, y2, y3, y4, y5, y6⟩ := blk7 ((hb3.block _ (lt_of_block HK2.out)).trans HK2.out)
  have CR := Sld.mk (rFind_any W3 q lv pl L ox ka kc BT3.out.r (H.out.A.ndv B3.out) BT3.out.t.inv)
  clear hb3 CP
  generalize fdR L ox = P at *
  obtain ⟨P1, P2⟩ := P
  simp only at CR
  go_wp2_with fail
  refine CR.out.mono ?_
  rintro e W4 ⟨rfl, hb4⟩
  have HEND : Sld (StE w0 p q W W4) := ⟨⟨ev, mv, lv, pl, L, BT3.out.below hb4⟩, B3.out.trans (hb4.mono B3.out.size), K3.out.trans (KpT.below hb4)⟩
  clear hb4 CR
  go_wp2_with fail
  go_ret
  exact ⟨rfl, HEND.out⟩

set_option maxRecDepth 20000 in
set_option maxHeartbeats 4000000 in
theorem tstep_size {w0 W : World} {p q : Nat} {ev mv lv : Value} {pl : List (Nd × Value)} {L : List Nd} {o : OpT} {ka : Option Addr} {kc : Nat} {ea : Option Addr} {ec : Nat} (h : StI w0 p q ev mv lv pl L o ka kc ea ec W) (hk : o.kind ≠ 1 ∧ o.kind ≠ 2 ∧ o.kind ≠ 3 ∧ o.kind ≠ 4 ∧ o.kind ≠ 5) :
    Calls Tryd.prog 32 #[.pointer (some ⟨p, 0, none⟩), .pointer (some ⟨q, 0, none⟩), opV o ka kc ea ec] W fun e w' => e = .returned (.bool true) ∧ StE w0 p q W w' := by
  obtain ⟨W1, hW1⟩ : ∃ W1, W.alloc (opB o ka kc ea ec) = W1 := ⟨_, rfl⟩
  have hb1 : Below W.heap.size W W1 := by rw [← hW1]; exact (Below.refl _ _).alloc (Nat.le_refl _) _
  have hk1 : W1.heap[W.heap.size]? = some (opB o ka kc ea ec) := by rw [← hW1, Deep.blk_alloc_new]
  have HW1 := Sld.mk hW1
  have H := Sld.mk h
  have B1 := Sld.mk (h.b0.trans (hb1.mono h.b0.size))
  have BT1 := Sld.mk (h.bt.below hb1)
  have HK1 := Sld.mk hk1
  have K1 := Sld.mk (KpT.below hb1)
  obtain ⟨okd, oid, ox, oe⟩ := o
  simp only at hk
  obtain ⟨z1, z2, z3, z4, z5⟩ := hk
  have g1 : (okd == 1) = false := by simp [z1]
  have g2 : (okd == 2) = false := by simp [z2]
  have g3 : (okd == 3) = false := by simp [z3]
  have g4 : (okd == 4) = false := by simp [z4]
  have g5 : (okd == 5) = false := by simp [z5]
  clear z1 z2 z3 z4 z5
  unfold opV
  unfold opB at hk1 HW1 HK1
  simp only at hk1 HW1 HK1 ⊢
  obtain ⟨y0, y1, y2, y3, y4, y5, y6⟩ := blk7 hk1
  obtain ⟨r, er, cT, cR⟩ := size_both p q ev mv lv pl L oid W1 BT1.out
  have CT := Sld.mk (cT W1 (Below.refl _ _))
  have CR := Sld.mk (cR W1 (Below.refl _ _))
  clear cT cR
  clear h hb1 hk1 hW1
  go_enter Tryd.func32, Tryd.ntmps32
  go_wp2_with fail
  rw [HW1.out]
  refine CT.out.mono ?_
  rintro e W2 ⟨rfl, rfl⟩
  clear CT
  go_wp2_with fail
  refine CR.out.mono ?_
  rintro e W4 ⟨rfl, hb4⟩
  have HEND : Sld (StE w0 p q W W4) := ⟨⟨ev, mv, lv, pl, L, BT1.out.below hb4⟩, B1.out.trans (hb4.mono B1.out.size), K1.out.trans (KpT.below hb4)⟩
  clear hb4 CR
  go_wp2_with fail
  go_ret
  exact ⟨rfl, HEND.out⟩

set_option maxRecDepth 20000 in
set_option maxHeartbeats 4000000 in
theorem tstep_node {w0 W : World} {p q : Nat} {ev mv lv : Value} {pl : List (Nd × Value)} {L : List Nd} {o : OpT} {ka : Option Addr} {kc : Nat} {ea : Option Addr} {ec : Nat} (h : StI w0 p q ev mv lv pl L o ka kc ea ec W) (hk : o.kind = 3) :
    Calls Tryd.prog 32 #[.pointer (some ⟨p, 0, none⟩), .pointer (some ⟨q, 0, none⟩), opV o ka kc ea ec] W fun e w' => e = .returned (.bool true) ∧ StE w0 p q W w' := by
  obtain ⟨W1, hW1⟩ : ∃ W1, W.alloc (opB o ka kc ea ec) = W1 := ⟨_, rfl⟩
  have hb1 : Below W.heap.size W W1 := by rw [← hW1]; exact (Below.refl _ _).alloc (Nat.le_refl _) _
  have hk1 : W1.heap[W.heap.size]? = some (opB o ka kc ea ec) := by rw [← hW1, Deep.blk_alloc_new]
  have HW1 := Sld.mk hW1
  have H := Sld.mk h
  have B1 := Sld.mk (h.b0.trans (hb1.mono h.b0.size))
  have BT1 := Sld.mk (h.bt.below hb1)
  have HK1 := Sld.mk hk1
  have K1 := Sld.mk (KpT.below hb1)
  obtain ⟨okd, oid, ox, oe⟩ := o
  simp only at hk
  subst hk
  unfold opV
  unfold opB at hk1 HW1 HK1
  simp only at hk1 HW1 HK1 ⊢
  obtain ⟨y0, y1, y2, y3, y4, y5, y6⟩ := blk7 hk1
  obtain ⟨x, er, cT, cR⟩ := node_both p q ev mv lv pl L oid W1 BT1.out
  have CT := Sld.mk (cT W1 (Below.refl _ _))
  have CR := Sld.mk cR
  clear cT cR
  clear h hb1 hk1 hW1
  go_enter Tryd.func32, Tryd.ntmps32
  go_wp2_with fail
  rw [HW1.out]
  refine CT.out.mono ?_
  rintro e W2 ⟨ao2, cap2, rfl, hI2, hb2⟩
  obtain ⟨W3, hW3⟩ : ∃ W3, W2.alloc (.cells #[.int .i64 x.op, .int .i64 x.n, .string x.name, .slice ao2 x.kids.length cap2] 63) = W3 := ⟨_, rfl⟩
  have hb3 : Below W1.heap.size W1 W3 := by rw [← hW3]; exact hb2.alloc hb2.size _
  have hb23 : Below W2.heap.size W2 W3 := by rw [← hW3]; exact (Below.refl _ _).alloc (Nat.le_refl _) _
  have hn3 : W3.heap[W2.heap.size]? = some (.cells #[.int .i64 x.op, .int .i64 x.n, .string x.name, .slice ao2 x.kids.length cap2] 63 (0, 0)) := by rw [← hW3, Deep.blk_alloc_new]
  have HB3 := Sld.mk hb3
  have HI3 := Sld.mk (hI2.below hb23 hb23.size)
  have HN3 := Sld.mk hn3
  obtain ⟨y0, y1, y2, y3, y4, y5, y6⟩ := blk7 ((hb3.block _ (lt_of_block HK1.out)).trans HK1.out)
  clear hb2 hI2 hb3 hb23 hn3 CT
  go_wp2_with fail
  refine (CR.out W3 HB3.out).mono ?_
  rintro e W4 ⟨ao4, cap4, rfl, hI4, hb4⟩
  obtain ⟨W5, hW5⟩ : ∃ W5, W4.alloc (.cells #[.int .i64 x.op, .int .i64 x.n, .string x.name, .slice ao4 x.kids.length cap4] 63) = W5 := ⟨_, rfl⟩
  have hb45 : Below W4.heap.size W4 W5 := by rw [← hW5]; exact (Below.refl _ _).alloc (Nat.le_refl _) _
  have hb35 : Below W3.heap.size W3 W5 := hb4.trans (hb45.mono hb4.size)
  have hn5 : W5.heap[W4.heap.size]? = some (.cells #[.int .i64 x.op, .int .i64 x.n, .string x.name, .slice ao4 x.kids.length cap4] 63 (0, 0)) := by rw [← hW5, Deep.blk_alloc_new]
  have hn35 := (hb35.block _ (lt_of_block HN3.out)).trans HN3.out
  have CS := sameNode_any x x (.slice ao2 x.kids.length cap2) (.slice ao4 x.kids.length cap4) W5 W5.heap.size (Nat.le_refl _) (HI3.out.below hb35 hb35.size) (hI4.below hb45 hb45.size)
  rw [(ndEq_iff x x).2 rfl] at CS
  have CS5 := Sld.mk CS
  have HB5 := Sld.mk (HB3.out.trans (hb35.mono HB3.out.size))
  obtain ⟨u0, u1, u2, u3, _⟩ := blk4 hn35
  obtain ⟨v0, v1, v2, v3, _⟩ := blk4 hn5
  clear hb4 hI4 hb45 hb35 hn5 hn35 CS y0 y1 y2 y3 y4 y5 y6
  go_wp2_with fail
  refine CS5.out.mono ?_
  rintro e W6 ⟨rfl, hb6⟩
  have HEND : Sld (StE w0 p q W W6) := ⟨⟨ev, mv, lv, pl, L, BT1.out.below (HB5.out.trans (hb6.mono HB5.out.size))⟩, B1.out.trans ((HB5.out.trans (hb6.mono HB5.out.size)).mono B1.out.size), K1.out.trans (KpT.below (HB5.out.trans (hb6.mono HB5.out.size)))⟩
  clear hb6 CS5
  go_wp2_with fail
  go_ret
  exact ⟨rfl, HEND.out⟩

set_option maxRecDepth 20000 in
set_option maxHeartbeats 4000000 in
theorem tstep_expr {w0 W : World} {p q : Nat} {ev mv lv : Value} {pl : List (Nd × Value)} {L : List Nd} {o : OpT} {ka : Option Addr} {kc : Nat} {ea : Option Addr} {ec : Nat} (h : StI w0 p q ev mv lv pl L o ka kc ea ec W) (hk : o.kind = 5) :
    Calls Tryd.prog 32 #[.pointer (some ⟨p, 0, none⟩), .pointer (some ⟨q, 0, none⟩), opV o ka kc ea ec] W fun e w' => e = .returned (.bool true) ∧ StE w0 p q W w' := by
  obtain ⟨W1, hW1⟩ : ∃ W1, W.alloc (opB o ka kc ea ec) = W1 := ⟨_, rfl⟩
  have hb1 : Below W.heap.size W W1 := by rw [← hW1]; exact (Below.refl _ _).alloc (Nat.le_refl _) _
  have hk1 : W1.heap[W.heap.size]? = some (opB o ka kc ea ec) := by rw [← hW1, Deep.blk_alloc_new]
  have HW1 := Sld.mk hW1
  have H := Sld.mk h
  have B1 := Sld.mk (h.b0.trans (hb1.mono h.b0.size))
  have BT1 := Sld.mk (h.bt.below hb1)
  have HK1 := Sld.mk hk1
  have K1 := Sld.mk (KpT.below hb1)
  obtain ⟨okd, oid, ox, oe⟩ := o
  simp only at hk
  subst hk
  unfold opV
  unfold opB at hk1 HW1 HK1
  simp only at hk1 HW1 HK1 ⊢
  obtain ⟨y0, y1, y2, y3, y4, y5, y6⟩ := blk7 hk1
  obtain ⟨l, er, cT, cR⟩ := expr_both p q ev mv lv pl L oid W1 BT1.out
  have CT := Sld.mk (cT W1 (Below.refl _ _))
  have CR := Sld.mk cR
  clear cT cR
  clear h hb1 hk1 hW1
  go_enter Tryd.func32, Tryd.ntmps32
  go_wp2_with fail
  rw [HW1.out]
  refine CT.out.mono ?_
  rintro e W2 ⟨ao2, cap2, rfl, hN2, hb2⟩
  have HB2 := Sld.mk hb2
  have HN2 := Sld.mk hN2
  obtain ⟨y0, y1, y2, y3, y4, y5, y6⟩ := blk7 ((hb2.block _ (lt_of_block HK1.out)).trans HK1.out)
  clear hb2 hN2 CT
  go_wp2_with fail
  refine (CR.out W2 HB2.out).mono ?_
  rintro e W4 ⟨ao4, cap4, rfl, hN4, hb4⟩
  have CS := same_any (.slice ao2 l.length cap2) (.slice ao4 l.length cap4) l l W4 W4.heap.size (Nat.le_refl _) (HN2.out.below hb4 hb4.size) hN4
  rw [decide_eq_true rfl] at CS
  have CS5 := Sld.mk CS
  have HB4 := Sld.mk (HB2.out.trans (hb4.mono HB2.out.size))
  clear hb4 hN4 CS y0 y1 y2 y3 y4 y5 y6
  go_wp2_with fail
  refine CS5.out.mono ?_
  rintro e W6 ⟨rfl, hb6⟩
  have HEND : Sld (StE w0 p q W W6) := ⟨⟨ev, mv, lv, pl, L, BT1.out.below (HB4.out.trans (hb6.mono HB4.out.size))⟩, B1.out.trans ((HB4.out.trans (hb6.mono HB4.out.size)).mono B1.out.size), K1.out.trans (KpT.below (HB4.out.trans (hb6.mono HB4.out.size)))⟩
  clear hb6 CS5
  go_wp2_with fail
  go_ret
  exact ⟨rfl, HEND.out⟩

set_option maxRecDepth 20000 in
set_option maxHeartbeats 4000000 in
theorem tstep_add {w0 W : World} {p q : Nat} {ev mv lv : Value} {pl : List (Nd × Value)} {L : List Nd} {o : OpT} {ka : Option Addr} {kc : Nat} {ea : Option Addr} {ec : Nat} (h : StI w0 p q ev mv lv pl L o ka kc ea ec W) (hk : o.kind = 4) :
    Calls Tryd.prog 32 #[.pointer (some ⟨p, 0, none⟩), .pointer (some ⟨q, 0, none⟩), opV o ka kc ea ec] W fun e w' => e = .returned (.bool true) ∧ StE w0 p q W w' := by
  obtain ⟨W1, hW1⟩ : ∃ W1, W.alloc (opB o ka kc ea ec) = W1 := ⟨_, rfl⟩
  have hb1 : Below W.heap.size W W1 := by rw [← hW1]; exact (Below.refl _ _).alloc (Nat.le_refl _) _
  have hk1 : W1.heap[W.heap.size]? = some (opB o ka kc ea ec) := by rw [← hW1, Deep.blk_alloc_new]
  have HW1 := Sld.mk hW1
  have H := Sld.mk h
  have B1 := Sld.mk (h.b0.trans (hb1.mono h.b0.size))
  have BT1 := Sld.mk (h.bt.below hb1)
  have HK1 := Sld.mk hk1
  have K1 := Sld.mk (KpT.below hb1)
  obtain ⟨okd, oid, ox, oe⟩ := o
  simp only at hk
  subst hk
  unfold opV
  unfold opB at hk1 HW1 HK1
  simp only at hk1 HW1 HK1 ⊢
  obtain ⟨y0, y1, y2, y3, y4, y5, y6⟩ := blk7 hk1
  have CO := Sld.mk (copy_any (.slice ea oe.length ec) oe W1 W1.heap.size (Nat.le_refl _) ((H.out.A.at_ B1.out B1.out.size).2) H.out.A.ft.fit.len H.out.A.ft.fit.kids)
  clear h hb1 hk1 hW1
  go_enter Tryd.func32, Tryd.ntmps32
  go_wp2_with fail
  rw [HW1.out]
  refine CO.out.mono ?_
  rintro e W2 ⟨v2, rfl, hO2, hb2⟩
  have B2 := Sld.mk (B1.out.trans (hb2.mono B1.out.size))
  have BT2 := Sld.mk (BT1.out.below hb2)
  have K2 := Sld.mk (K1.out.trans (KpT.below hb2))
  have hk2 := (hb2.block _ (lt_of_block HK1.out)).trans HK1.out
  have HK2 := Sld.mk hk2
  have CP := Sld.mk (tAdd_all W2 p ev mv L oe W1.heap.size v2 BT2.out.t (H.out.T.below B2.out) hO2 H.out.A.ft.num)
  clear hb2 hO2 hk2 CO y0 y1 y2 y3 y4 y5 y6
  go_wp2_with fail
  refine CP.out.mono ?_
  rintro e W3 ⟨rfl, ev3, mv3, hT3⟩
  have B3 := Sld.mk (hT3.b0 BT2.out.t B2.out H.out.hp)
  have K3 := Sld.mk (K2.out.trans (hT3.kpT BT2.out.t))
  have hk3 := (hT3.tk.same _ (lt_of_block HK2.out) (BT2.out.t.typed HK2.out (by decide) (by decide))).trans HK2.out
  obtain ⟨y0, y1, y2, y3, y4, y5, y6⟩ := blk7 hk3
  have HT3 := Sld.mk hT3
  have HR3 := Sld.mk (BT2.out.r.tb BT2.out.t hT3.tk)
  have CR := Sld.mk (rAdd_any W3 q lv pl L oe ea ec HR3.out BT2.out.t.inv ((H.out.A.at_ B3.out H.out.hq).2) H.out.A.ft.name H.out.A.ft.num)
  clear hT3 hk3 CP
  generalize hPE : adP L oe = P at *
  clear hPE
  obtain ⟨P1, P2, P3⟩ := P
  simp only at CR HT3
  go_wp2_with fail
  refine CR.out.mono ?_
  rintro e W4 ⟨rfl, lv4, pl4, hR4⟩
  have HEND : Sld (StE w0 p q W W4) := ⟨⟨ev3, mv3, lv4, pl4, P3, HT3.out.tb.rt HR3.out hR4.kp, hR4.rt⟩, hR4.b0 B3.out H.out.hq, K3.out.trans (hR4.kpT HR3.out)⟩
  clear hR4 CR
  go_wp2_with fail
  go_ret
  exact ⟨rfl, HEND.out⟩

theorem tstep_any {w0 W : World} {p q : Nat} {ev mv lv : Value} {pl : List (Nd × Value)} {L : List Nd} {o : OpT} {ka : Option Addr} {kc : Nat} {ea : Option Addr} {ec : Nat} (h : StI w0 p q ev mv lv pl L o ka kc ea ec W) :
    Calls Tryd.prog 32 #[.pointer (some ⟨p, 0, none⟩), .pointer (some ⟨q, 0, none⟩), opV o ka kc ea ec] W fun e w' => e = .returned (.bool true) ∧ StE w0 p q W w' := by
  by_cases h1 : o.kind = 1
  · exact tstep_put h h1
  by_cases h2 : o.kind = 2
  · exact tstep_find h h2
  by_cases h3 : o.kind = 3
  · exact tstep_node h h3
  by_cases h4 : o.kind = 4
  · exact tstep_add h h4
  by_cases h5 : o.kind = 5
  · exact tstep_expr h h5
  exact tstep_size h ⟨h1, h2, h3, h4, h5⟩
end Go.Proofs.YtpacjofepiojdaaDoor

set_option linter.unusedSimpArgs false
set_option linter.unusedVariables false
namespace Go.Proofs.YtpacjofepiojdaaDoor
open Go.RowKit Go.Shelf
attribute [local go_sem] Oper.semAt_some

/-- How a round's body may be left: round number k. -/
def postQ (B : Nat) (Kp : World → World → Prop) (I : Nat → World → Prop) (Ix : Code → Nat → World → Prop) (k : Nat) (W : World) : Exit → Act → World → Prop
  | .normal, _, W' => KeepsFrom B W W' ∧ Kp W W' ∧ I (k + 1) W'
  | .ret, _, W' => KeepsFrom B W W' ∧ Ix .ret k W'
  | .exit id, _, W' => KeepsFrom B W W' ∧ Ix (.exit id) k W'
  | _, _, _ => False

end Go.Proofs.YtpacjofepiojdaaDoor

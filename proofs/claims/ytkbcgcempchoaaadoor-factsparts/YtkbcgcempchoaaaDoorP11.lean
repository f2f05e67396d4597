/-
  FaPw.
-/
import Derived.Shelf.Unicode.DecodeSlow
import Derived.Laws.RangeAny
import Derived.Shelf.Small.Bits
import Derived.Shelf.Strconv.Itoa0
import Derived.Shelf.LaysM
import Derived.Shelf.Strconv.Clone
import Derived.Shelf.Unicode.DecodeAny
import Derived.Ground.SlsfProg
import Derived.Shelf.SlSortCmp.Insertion
import Derived.Shelf.SlSortCmp.SiftDown1
import Derived.Shelf.SlSortCmp.HeapSort1
import Derived.Shelf.SlSortCmp.Insertion1
import Derived.Shelf.SlSortCmp.Median1
import Derived.Shelf.SlSortCmp.Pivot1
import Derived.Shelf.SlSortCmp.ReverseRange1
import Derived.Shelf.SlSortCmp.PartitionEqual1
import Derived.Test.YtkbcgcempchoaaaDoorProg
import Derived.WalkKit
import Derived.Deep.DeepFit
import Derived.Lib.OthersKept
import Derived.Lib.RuneCountTail
import Derived.RowKit
import Derived.Laws.Entries
import Derived.Below
import Derived.Deep.AppendLies
import Derived.Deep.OwnRows
import Derived.Laws.AppendOwnNone
import Derived.Deep.QuietTactic
import Derived.BigQuiet
import Derived.Deep.RegionWith
import Derived.Laws.DeepStrings4
import Derived.RangeFuncNested
import Derived.RangeFuncBound
import Derived.RangeFuncCalls
import Derived.RangeFuncLeaves
import Derived.RangeFuncBox
import Derived.Shelf.Abstract
import Derived.Shelf.RegionOpen
import Derived.OwnWalkIn
import Derived.TacticsInMore
import Derived.LoopNIn
import Derived.LoopIn
import Derived.Lib.Strings
import Derived.Lib.QuietBelow
import Derived.StillTail
import Derived.Deep.RegionLaw
import Derived.RangeFuncOwn
import Derived.Laws.StructEq
import Derived.Deep.RegionHeld3
import Derived.Test.YtkbcgcempchoaaaDoorP01
import Derived.Test.YtkbcgcempchoaaaDoorP02
import Derived.Test.YtkbcgcempchoaaaDoorP03
import Derived.Test.YtkbcgcempchoaaaDoorP04
import Derived.Test.YtkbcgcempchoaaaDoorP05
import Derived.Test.YtkbcgcempchoaaaDoorP06
import Derived.Test.YtkbcgcempchoaaaDoorP07
import Derived.Test.YtkbcgcempchoaaaDoorP08
import Derived.Test.YtkbcgcempchoaaaDoorP09
import Derived.Test.YtkbcgcempchoaaaDoorP10
set_option linter.unusedSimpArgs false
set_option linter.unusedVariables false
namespace Go.Proofs.YtkbcgcempchoaaaDoor
open Go.RowKit Go.Lib Go.Sort

/-- What FactsParts finds. -/
structure FaIn (w : World) (ao : Option Addr) (cap : Nat) (l : List Nd) : Prop where
  T : SpanCells w
  G : GrpCells w
  R : Rd w ao cap l
theorem FaIn.below {w w' : World} {ao : Option Addr} {cap : Nat} {l : List Nd} (h : FaIn w ao cap l) (hb : Below w.heap.size w w') : FaIn w' ao cap l :=
  ⟨h.T.below hb, h.G.below hb, h.R.below hb hb.size⟩

set_option maxRecDepth 20000 in
set_option maxHeartbeats 2000000 in
theorem factsParts.bad (w : World) (ao : Option Addr) (cap : Nat) (l : List Nd) (h : FaIn w ao cap l) (hF : Fit l) (hbg : begL l = none) :
    Calls Tryd.prog 6 #[.slice ao l.length cap] w fun e w' => e = .returned (.bool true) ∧ Below w.heap.size w w' := by
  have HH : Hid (FaIn w ao cap l) := h
  have HBG : Hid (begL l = none) := hbg
  clear h hbg
  go_enter Tryd.func6, Tryd.ntmps6
  go_wp2_with fail
  refine (awake13_any w HH.out.T HH.out.G).mono ?_
  rintro e w1 ⟨rfl, hb1⟩
  have B1 : Hid (Below w.heap.size w w1) := hb1
  clear hb1
  go_wp2_with fail
  refine (copyR (HH.out.below B1.out).R hF).mono ?_
  rintro e w2 ⟨a2, c2, rfl, hRx, hbx⟩
  have B2 : Hid (Below w.heap.size w w2) := B1.out.trans (hbx.mono B1.out.size)
  have R2 : Hid (Rd w2 a2 c2 l) := hRx
  clear hRx hbx B1
  go_wp2_with fail
  refine (check_none _ l _ _ (Nat.le_refl _) (HH.out.below B2.out).T R2.out HBG.out).mono ?_
  rintro e w3 ⟨rfl, hbx⟩
  have B3 : Hid (Below w.heap.size w w3) := B2.out.trans (hbx.mono B2.out.size)
  clear hbx B2 R2
  go_wp2_with fail
  refine (awake13_any w3 (HH.out.below B3.out).T (HH.out.below B3.out).G).mono ?_
  rintro e w4 ⟨rfl, hbx⟩
  have B4 : Hid (Below w.heap.size w w4) := B3.out.trans (hbx.mono B3.out.size)
  clear hbx B3
  go_wp2_with fail
  go_ret
  exact ⟨rfl, B4.out⟩

theorem all_snocB {ks : List Int} {j : Nat} (hj : j < ks.length) (p : Int → Bool) : (ks.take (j + 1)).all p = ((ks.take j).all p && p (ks.getD j 0)) := by
  rw [List.take_succ_eq_append_getElem hj, List.all_append]
  simp [hj]

/-- The fact of the kid that was looked at last. -/
def lastF (l : List Nd) (ks : List Int) (j : Nat) : Fc := if j = 0 then fc0 else fAt (ft l) (ks.getD (j - 1) 0)
theorem lastF_succ (l : List Nd) (ks : List Int) (j : Nat) : lastF l ks (j + 1) = fAt (ft l) (ks.getD j 0) := rfl

set_option maxRecDepth 20000 in
set_option maxHeartbeats 8000000 in
theorem factsParts.good (w : World) (ao : Option Addr) (cap : Nat) (l : List Nd) (h : FaIn w ao cap l) (hF : Fit l) (fr : List Nat) (hbg : begL l = some fr) :
    Calls Tryd.prog 6 #[.slice ao l.length cap] w fun e w' => e = .returned (.bool true) ∧ Below w.heap.size w w' := by
  obtain ⟨i0, hi0, hz0, hz1, hz2⟩ := info_parts Tryd.infoL2'
  have HH : Hid (FaIn w ao cap l) := h
  have HBG : Hid (begL l = some fr) := hbg
  have h64 := (begL_some hbg).2.1
  have hl0 := (begL_some hbg).1
  have hbo := begOk_of (begL_some hbg).2.2.1
  have hform := (hbo.at_ (l.length - 1) (by omega)).1
  have hk3 := formB_kids hform
  have hva : ofR l = tdF (ft l) (l.getD (l.length - 1) nd0) := fA_at hbo (by omega)
  have hkl := kid_last hbg
  have cO : Hid (∀ V a c, Below w.heap.size w V → Rd V a c l → Calls Tryd.prog 29 #[.slice a l.length c] V fun e w' => e = .returned (.tuple #[.agg #[.bool (ofR l).t, .bool (ofR l).c, .int .i64 (ofR l).n], .int .i64 0]) ∧ Below V.heap.size V w') := fun V a c hV hR => ofF_some (h.below hV).T (h.below hV).G hR hbg
  have cP : Hid (∀ V a c (y : Nat), y < l.length → Below w.heap.size w V → Rd V a c l → Calls Tryd.prog 12 #[.slice a l.length c, .int .i64 y] V fun e w' => ∃ ao' cap', e = .returned (.tuple #[.slice ao' (partL l (fr.getD y 0) y).length cap', .int .i64 0]) ∧ Rd w' ao' cap' (partL l (fr.getD y 0) y) ∧ Below V.heap.size V w') := fun V a c y hy hV hR => partR (h.below hV).T hR hbg y y rfl hy rfl
  have cQ : Hid (∀ (y : Nat), y < l.length → ∀ V a c, Below w.heap.size w V → Rd V a c (partL l (fr.getD y 0) y) → Calls Tryd.prog 29 #[.slice a (partL l (fr.getD y 0) y).length c] V fun e w' => e = .returned (.tuple #[.agg #[.bool (fA l y).t, .bool (fA l y).c, .int .i64 (fA l y).n], .int .i64 0]) ∧ Below V.heap.size V w') := fun y hy V a c hV hR => by
    obtain ⟨fo, hfo⟩ := part_snd hbg y hy
    have := ofF_some (h.below hV).T (h.below hV).G hR hfo
    rw [fA_part hbg y hy] at this
    exact this
  obtain ⟨ao', cap', h1, hl, hm, hc⟩ := h.R
  cases h1
  unfold maxLen at hm
  obtain ⟨b, o, rfl, hbl, hc⟩ : ∃ b o, ao = some ⟨b, o, none⟩ ∧ b < w.heap.size ∧ ∀ i, i < l.length → ∃ kv, NodeAt w w.heap.size b (o + i * 4) (l.getD i nd0) kv := by
    rcases hc with h | h
    · subst h; simp at hl0
    · exact h
  obtain ⟨kv, c0, c1, c2, c3, hki⟩ := hc (l.length - 1) (by omega)
  clear hc
  obtain ⟨ka, kc, rfl, hkl1, ⟨hkm, _⟩, hkc⟩ := id hki
  unfold maxLen at hkm
  generalize hX : l.getD (l.length - 1) nd0 = x at *
  clear hX
  obtain ⟨op, n, nm, ks⟩ := x
  simp only at c0 c1 c2 c3 hki hk3 hkl hkl1 hkc hform
  have HKC : Hid (ks = [] ∨ ∃ b o, ka = some ⟨b, o, none⟩ ∧ b < w.heap.size ∧ ∀ j, j < ks.length → w.cell? ⟨b, o + j, none⟩ = some (.int .i64 (ks.getD j 0))) := hkc
  have HKU : Hid (∀ k ∈ ks, 0 ≤ k ∧ k < (l.length : Int) - 1) := hkl
  have HVA : Sld (ofR l = tdF (ft l) ⟨op, n, nm, ks⟩) := ⟨hva⟩
  have HFM : Hid (formB ⟨op, n, nm, ks⟩ = true) := hform
  have HC : Hid (∀ W, Below w.heap.size w W → W.cell? ⟨b, o + (l.length - 1) * 4, none⟩ = some (.int .i64 op) ∧ W.cell? ⟨b, o + (l.length - 1) * 4 + 1, none⟩ = some (.int .i64 n) ∧ W.cell? ⟨b, o + (l.length - 1) * 4 + 2, none⟩ = some (.string nm) ∧ W.cell? ⟨b, o + (l.length - 1) * 4 + 3, none⟩ = some (.slice ka ks.length kc)) := fun W hW => ⟨(hW.cell (p := ⟨b, _, none⟩) hbl).trans c0, (hW.cell (p := ⟨b, _, none⟩) hbl).trans c1, (hW.cell (p := ⟨b, _, none⟩) hbl).trans c2, (hW.cell (p := ⟨b, _, none⟩) hbl).trans c3⟩
  clear hva hkc hkl hki hform c0 c1 c2 c3 h hbo hbg
  obtain ⟨OF, hOF⟩ : ∃ OF, ofR l = OF := ⟨_, rfl⟩
  rw [hOF] at cO HVA
  clear hOF
  obtain ⟨ot, oc, on⟩ := OF
  simp only at cO
  generalize hla : l.length - 1 = la at *
  have HLA : Hid (l.length - 1 = la) := hla
  clear hla
  go_enter Tryd.func6, Tryd.ntmps6
  go_wp2_with fail
  refine (awake13_any w HH.out.T HH.out.G).mono ?_
  rintro e w1 ⟨rfl, hb1⟩
  have B1 : Hid (Below w.heap.size w w1) := hb1
  clear hb1
  go_wp2_with fail
  refine (copyR (HH.out.below B1.out).R hF).mono ?_
  rintro e w2 ⟨a2, c2, rfl, hRx, hbx⟩
  have B2 : Hid (Below w.heap.size w w2) := B1.out.trans (hbx.mono B1.out.size)
  have R2 : Hid (Rd w2 a2 c2 l) := hRx
  clear hRx hbx B1
  go_wp2_with fail
  refine (check_some _ l fr _ _ (Nat.le_refl _) (HH.out.below B2.out).T R2.out HBG.out).mono ?_
  rintro e w3 ⟨rfl, hbx⟩
  have B3 : Hid (Below w.heap.size w w3) := B2.out.trans (hbx.mono B2.out.size)
  clear hbx B2 R2
  obtain ⟨c0, c1, c2, c3⟩ := HC.out w3 B3.out
  have hla2 : (l.length : Int) - 1 = (la : Int) := by have := HLA.out; omega
  have hla3 : la < l.length := by have := HLA.out; omega
  have hla4 : (la : Int) < (l.length : Int) := by omega
  obtain ⟨WT, hWT⟩ : ∃ WT, w3.alloc (.cells #[.int .i64 op, .int .i64 n, .string nm, .slice ka ks.length kc] 50) = WT := ⟨_, rfl⟩
  have hn1 : WT.heap[w3.heap.size]? = some (.cells #[.int .i64 op, .int .i64 n, .string nm, .slice ka ks.length kc] 50 (0, 0)) := by rw [← hWT, Deep.blk_alloc_new]
  have HN1 : Sld (WT.heap[w3.heap.size]? = some (.cells #[.int .i64 op, .int .i64 n, .string nm, .slice ka ks.length kc] 50 (0, 0))) := ⟨hn1⟩
  have BT : Hid (Below w.heap.size w WT) := by rw [Hid, ← hWT]; exact B3.out.alloc B3.out.size _
  have hsT : WT.heap.size = w3.heap.size + 1 := by rw [← hWT]; simp
  have hs3 : w.heap.size ≤ w3.heap.size := B3.out.size
  have HWT : Sld (w3.alloc (.cells #[.int .i64 op, .int .i64 n, .string nm, .slice ka ks.length kc] 50) = WT) := ⟨hWT⟩
  clear hWT hn1
  go_wp2_with fail
  rw [HWT.out]
  refine (copyR (HH.out.below BT.out).R hF).mono ?_
  rintro e w4 ⟨a4, c4, rfl, hRx, hbx⟩
  have B4 : Hid (Below WT.heap.size WT w4) := hbx
  have BW4 : Hid (Below w.heap.size w w4) := BT.out.trans (hbx.mono BT.out.size)
  have R4 : Hid (Rd w4 a4 c4 l) := hRx
  clear hRx hbx c0 c1 c2 c3
  go_wp2_with fail
  refine (cO.out w4 a4 c4 BW4.out R4.out).mono ?_
  rintro e w5 ⟨rfl, hbx⟩
  have B5 : Hid (Below WT.heap.size WT w5) := B4.out.trans (hbx.mono B4.out.size)
  clear hbx B4 BW4 R4 cO
  obtain ⟨w6, hw6⟩ : ∃ w6, w5.alloc (.cells #[.bool ot, .bool oc, .int .i64 on] 45) = w6 := ⟨_, rfl⟩
  have hn6 : w6.heap[w5.heap.size]? = some (.cells #[.bool ot, .bool oc, .int .i64 on] 45 (0, 0)) := by rw [← hw6, Deep.blk_alloc_new]
  have B6 : Hid (Below WT.heap.size WT w6) := by rw [Hid, ← hw6]; exact B5.out.alloc B5.out.size _
  have hnn6 := (B6.out.block _ (lt_of_block HN1.out)).trans HN1.out
  obtain ⟨y0, y1, y2, y3, _⟩ := blk4' hnn6
  have hs6 : w6.heap.size = w5.heap.size + 1 := by rw [← hw6]; simp
  obtain ⟨w7, hw7⟩ : ∃ w7, w6.alloc (.cells #[.bool false, .bool false, .int .i64 0] 45) = w7 := ⟨_, rfl⟩
  have hb67 : Below w6.heap.size w6 w7 := by rw [← hw7]; exact (Below.refl _ _).alloc (Nat.le_refl _) _
  have hn7 : w7.heap[w6.heap.size]? = some (.cells #[.bool (lastF l ks 0).t, .bool (lastF l ks 0).c, .int .i64 (lastF l ks 0).n] 45 (0, 0)) := by rw [← hw7, Deep.blk_alloc_new]; rfl
  have HN7 : Sld (w7.heap[w6.heap.size]? = some (.cells #[.bool (lastF l ks 0).t, .bool (lastF l ks 0).c, .int .i64 (lastF l ks 0).n] 45 (0, 0))) := ⟨hn7⟩
  have HN6 : Sld (∀ W, Below w6.heap.size w6 W → W.heap[w5.heap.size]? = some (.cells #[.bool ot, .bool oc, .int .i64 on] 45 (0, 0)) ∧ W.heap[w3.heap.size]? = some (.cells #[.int .i64 op, .int .i64 n, .string nm, .slice ka ks.length kc] 50 (0, 0)) ∧ Below w.heap.size w W) := ⟨fun W hW => ⟨(hW.block _ (lt_of_block hn6)).trans hn6, (hW.block _ (lt_of_block hnn6)).trans hnn6, BT.out.trans ((B6.out.trans (hW.mono B6.out.size)).mono BT.out.size)⟩⟩
  have B7 : Hid (Below w6.heap.size w6 w7) := hb67
  have hs7 : w7.heap.size = w6.heap.size + 1 := by rw [← hw7]; simp
  have hsT5 : WT.heap.size ≤ w5.heap.size := B5.out.size
  clear hn6 hnn6 hb67 hn7
  go_wp2_with fail
  try rw [hw7]
  clear hw6 hw7 y0 y1 y2 y3
  go_loopw [6, 7, 8, 10] (fun vt vc v q wr => ∃ j : Nat, j ≤ ks.length ∧ q = .int .i64 j ∧ vt = .bool ((ks.take j).all fun k => (fAt (ft l) k).t) ∧ vc = .bool ((op != 2) && (ks.take j).all fun k => (fAt (ft l) k).c) ∧ wr.ownsRow w7.heap.size 2 1 v j (((ks.take j).map fun k => (fAt (ft l) k).n).map (Value.int .i64)) ∧ wr.heap[w6.heap.size]? = some (.cells #[.bool (lastF l ks j).t, .bool (lastF l ks j).c, .int .i64 (lastF l ks j).n] 45 (0, 0)) ∧ Below w6.heap.size w6 wr ∧ w7.heap.size ≤ wr.heap.size) (fun _ _ _ q _ => ks.length - (RowKit.intOf q).toNat)
  case atStart => exact ⟨0, by omega, rfl, rfl, by simp, World.ownsRow_nil _ _ _ _, HN7.out, B7.out, Nat.le_refl _⟩
  case round =>
    obtain ⟨j, hj, rfl, rfl, rfl, hown, hlast, hBr, hs7r⟩ := hrel
    obtain ⟨gf, gn, gB⟩ := HN6.out wr hBr
    obtain ⟨e0r, e1r, e2r, e3r, _⟩ := blk4' gn
    have BW : Hid (Below w.heap.size w wr) := gB
    have HBR : Hid (Below w6.heap.size w6 wr) := hBr
    have HLAST : Sld (wr.heap[w6.heap.size]? = some (.cells #[.bool (lastF l ks j).t, .bool (lastF l ks j).c, .int .i64 (lastF l ks j).n] 45 (0, 0))) := ⟨hlast⟩
    obtain ⟨va, vc, rfl⟩ := row_form' hown
    have HOWN : Sld (wr.ownsRow w7.heap.size 2 1 (.slice va j vc) j (((ks.take j).map fun k => (fAt (ft l) k).n).map (Value.int .i64))) := ⟨hown⟩
    have hszr : w3.heap.size < wr.heap.size := lt_of_block gn
    have HGF : Sld (wr.heap[w5.heap.size]? = some (.cells #[.bool ot, .bool oc, .int .i64 on] 45 (0, 0))) := ⟨gf⟩
    have hg6l : w6.heap.size < wr.heap.size := lt_of_block hlast
    clear hBr hown hlast gf gB gn
    by_cases hjl : j < ks.length
    · obtain ⟨kb, ko, rfl, hkb, hkc⟩ : ∃ b o, ka = some ⟨b, o, none⟩ ∧ b < w.heap.size ∧ ∀ j, j < ks.length → w.cell? ⟨b, o + j, none⟩ = some (.int .i64 (ks.getD j 0)) := by
        rcases HKC.out with h | h
        · subst h; simp at hjl
        · exact h
      have hcj := (BW.out.cell (p := ⟨kb, ko + j, none⟩) hkb).trans (hkc j hjl)
      obtain ⟨hy0, hy1⟩ := HKU.out (ks.getD j 0) (by simp [hjl])
      have HTK : Sld (ks.take (j + 1) = ks.take j ++ [ks.getD j 0]) := ⟨by
        rw [List.take_succ_eq_append_getElem hjl]; simp [hjl]⟩
      have HAT := all_snocB hjl fun k => (fAt (ft l) k).t
      have HAC := all_snocB hjl fun k => (fAt (ft l) k).c
      have HLS := lastF_succ l ks j
      have hjI : (j : Int) < (ks.length : Int) := by omega
      clear hkc
      generalize ks.getD j 0 = y at *
      obtain ⟨y, rfl⟩ : ∃ z : Nat, y = (z : Int) := ⟨y.toNat, by omega⟩
      have hyl : y < l.length := by omega
      have hfa : fAt (ft l) (y : Int) = fA l y := by unfold fAt fA; rw [Int.toNat_natCast]
      have cQy := cQ.out y hyl
      have cPy := fun V a c => cP.out V a c y hyl
      have CP2 : Hid (∀ V a c, Below w.heap.size w V → Rd V a c l → Calls Tryd.prog 12 #[.slice a l.length c, .int .i64 y] V fun e w' => ∃ ao' cap', e = .returned (.tuple #[.slice ao' (partL l (fr.getD y 0) y).length cap', .int .i64 0]) ∧ Rd w' ao' cap' (partL l (fr.getD y 0) y) ∧ Below V.heap.size V w') := cPy
      clear cPy
      generalize partL l (fr.getD y 0) y = P at *
      rw [hfa] at HAT HAC HLS
      obtain ⟨G, hGE⟩ : ∃ G, fA l y = G := ⟨_, rfl⟩
      have HFA : Sld (fAt (ft l) (y : Int) = G) := ⟨hfa.trans hGE⟩
      rw [hGE] at cQy HAT HAC HLS
      have HLS2 : Sld (lastF l ks (j + 1) = G) := ⟨HLS⟩
      have HAT2 : Sld (((ks.take (j + 1)).all fun k => (fAt (ft l) k).t) = (((ks.take j).all fun k => (fAt (ft l) k).t) && G.t)) := ⟨HAT⟩
      have HAC2 : Sld (((ks.take (j + 1)).all fun k => (fAt (ft l) k).c) = (((ks.take j).all fun k => (fAt (ft l) k).c) && G.c)) := ⟨HAC⟩
      clear hGE hfa HAT HAC HLS
      obtain ⟨gt, gc, gn⟩ := G
      simp only at cQy HAT2 HAC2
      have HCE : Hid (∀ w', Below wr.heap.size wr w' → w'.cell? ⟨w3.heap.size, 3, none⟩ = some (.slice (some ⟨kb, ko, none⟩) ks.length kc) ∧ w'.cell? ⟨kb, ko + j, none⟩ = some (.int .i64 (y : Int))) := fun w' hb =>
        ⟨(hb.cell (p := ⟨w3.heap.size, 3, none⟩) hszr).trans e3r, (hb.cell (p := ⟨kb, ko + j, none⟩) (by show kb < wr.heap.size; omega)).trans hcj⟩
      have Ar := (HH.out.below BW.out).R
      have HCQ : Hid (∀ V a c, Below w.heap.size w V → Rd V a c P → Calls Tryd.prog 29 #[.slice a P.length c] V fun e w' => e = .returned (.tuple #[.agg #[.bool gt, .bool gc, .int .i64 gn], .int .i64 0]) ∧ Below V.heap.size V w') := cQy
      clear cQy
      obtain ⟨T0, hT0⟩ : ∃ T0, ((ks.take j).all fun k => (fAt (ft l) k).t) = T0 := ⟨_, rfl⟩
      obtain ⟨C0, hC0⟩ : ∃ C0, ((op != 2) && (ks.take j).all fun k => (fAt (ft l) k).c) = C0 := ⟨_, rfl⟩
      have HT0 : Sld (((ks.take j).all fun k => (fAt (ft l) k).t) = T0) := ⟨hT0⟩
      have HC0 : Sld (((op != 2) && (ks.take j).all fun k => (fAt (ft l) k).c) = C0) := ⟨hC0⟩
      rw [hT0, hC0]
      clear hT0 hC0
      go_wp2_with fail
      go_region_held3 (fun W => W.cell? ⟨w3.heap.size, 3, none⟩ = some (.slice (some ⟨kb, ko, none⟩) ks.length kc) ∧ W.cell? ⟨kb, ko + j, none⟩ = some (.int .i64 (y : Int))) (go_keep) (first | (go_at_call 10; refine (copyR (Ar.below (Below.refl _ _).drew (Nat.le_refl _)) hF).mono ?_; rintro e w4' ⟨ao4, cap4, rfl, D4, hb4'⟩; have hb4 : Below wr.heap.size wr w4' := (Below.refl wr.heap.size wr).drew.trans hb4'; obtain ⟨k0, k1⟩ := HCE.out w4' hb4) | (go_at_call 12; refine (CP2.out w4' ao4 cap4 (BW.out.trans (Below.mono hb4 BW.out.size)) D4).mono ?_; rintro e w5' ⟨a5', c5', rfl, hO5, hb5⟩; obtain ⟨k0, k1⟩ := HCE.out w5' (Below.trans hb4 (Below.mono hb5 hb4.size))))
      have b5 : Below wr.heap.size wr w5' := hb4.trans (hb5.mono hb4.size)
      have HB5 : Hid (Below wr.heap.size wr w5') := b5
      have BW5 : Hid (Below w.heap.size w w5') := BW.out.trans (b5.mono BW.out.size)
      have R5 : Hid (Rd w5' a5' c5' P) := hO5
      clear D4 hb4 hb4' hb5 hO5 k0 k1 b5 Ar HCE e0r e1r e2r e3r hcj CP2
      have HI2 : Hid (Calls Tryd.prog 29 #[.slice a5' P.length c5'] w5' fun e w' => e = .returned (.tuple #[.agg #[.bool gt, .bool gc, .int .i64 gn], .int .i64 0]) ∧ Below w5'.heap.size w5' w') := HCQ.out w5' a5' c5' BW5.out R5.out
      go_wp2_with fail
      refine HI2.out.mono ?_
      rintro e w6' ⟨rfl, hbx⟩
      obtain ⟨w8, hw8⟩ : ∃ w8, w6'.alloc (.cells #[.bool gt, .bool gc, .int .i64 gn] 45) = w8 := ⟨_, rfl⟩
      have hb8 : Below wr.heap.size wr w8 := by rw [← hw8]; exact (HB5.out.trans (hbx.mono HB5.out.size)).alloc (by have := HB5.out.size; have := hbx.size; omega) _
      have hn8 : w8.heap[w6'.heap.size]? = some (.cells #[.bool gt, .bool gc, .int .i64 gn] 45 (0, 0)) := by rw [← hw8, Deep.blk_alloc_new]
      have hl8 := (hb8.block _ hg6l).trans HLAST.out
      have hown2 := ownsRow_below HOWN.out hb8
      have hsz8 : w8.heap.size = w6'.heap.size + 1 := by rw [← hw8]; simp
      have hsz6 : wr.heap.size ≤ w6'.heap.size := by have := HB5.out.size; have := hbx.size; omega
      obtain ⟨p0, p1, p2, pf⟩ := blk3 hn8
      have HN8 : Sld (w8.heap[w6'.heap.size]? = some (.cells #[.bool gt, .bool gc, .int .i64 gn] 45 (0, 0))) := ⟨hn8⟩
      have HL8 : Sld (w8.heap[w6.heap.size]? = some (.cells #[.bool (lastF l ks j).t, .bool (lastF l ks j).c, .int .i64 (lastF l ks j).n] 45 (0, 0))) := ⟨hl8⟩
      have HB8 : Sld (Below wr.heap.size wr w8) := ⟨hb8⟩
      have HW8 : Sld (w6'.alloc (.cells #[.bool gt, .bool gc, .int .i64 gn] 45) = w8) := ⟨hw8⟩
      have HEND : Sld (∀ (g6 cap6 : Nat) (w9 : World), w9.ownsRow w7.heap.size 2 1 (.slice (some ⟨g6, 0, none⟩) (j + 1) cap6) (j + 1) (((ks.take j).map fun k => (fAt (ft l) k).n).map (Value.int .i64) ++ [.int .i64 gn]) → (w8.alloc (.cells #[.int .i64 gn] 2)).grownBy w9 (Value.slice va j vc).ownBlock → w9.heap[w6'.heap.size]? = some (.cells #[.bool gt, .bool gc, .int .i64 gn] 45 (0, 0)) ∧ w9.heap[w6.heap.size]? = some (.cells #[.bool (lastF l ks j).t, .bool (lastF l ks j).c, .int .i64 (lastF l ks j).n] 45 (0, 0)) ∧ Below w6.heap.size w6 w9 ∧ w7.heap.size ≤ w9.heap.size) := ⟨fun g6 cap6 w9 ho hg => by
        have hs9 := hg.size
        rw [World.size_alloc] at hs9
        have hk9 : ∀ b, b < w7.heap.size ∨ b = w6'.heap.size → b < w8.heap.size → w9.heap[b]? = w8.heap[b]? := fun b hb hbl => by
          rw [hg.block b (by rw [World.size_alloc]; omega) (fun e => by
            have h1 := own_block' HOWN.out b e.symm
            have h2 := hs7r
            omega)]
          exact Deep.blk_alloc_lt _ _ _ hbl
        refine ⟨(hk9 _ (.inr rfl) (by omega)).trans hn8, (hk9 _ (.inl (by omega)) (by omega)).trans hl8, ?_, by omega⟩
        have b1 := (HBR.out.trans (HB8.out.mono (by omega))).alloc (show w6.heap.size ≤ w8.heap.size by omega) (.cells #[.int .i64 gn] 2)
        exact b1.grown hg (by rw [World.size_alloc]; omega) (fun q hq => by have := (own_block' HOWN.out q hq).1; omega)⟩
      clear hbx HI2 HCQ hb8 hn8 hl8
      cases T0
      all_goals
        cases C0
        all_goals
          go_wp2_with (at_builtin; refine wpList_append_lies _ rfl (.tmp 77) (.tmp 80) 51 rfl w7.heap.size 2 i0 (.int .i64 0) 1 8 Tryd.underlying51 hi0 hz0 hz1 hz2 rfl (by decide) _ _ _ (by simp [Act.eval, Act.put]) (hown2.alloc _) ⟨w8.heap.size, 0, none⟩ 1 1 [.int .i64 gn] (by simp [Act.eval, Act.put]) rfl (cell_news_one w8 _ _) (by simp [Value.oneCell']) (by omega) (by unfold maxLen; omega) (by omega) (by simp; omega) _ rfl ?_; intro g6 cap6 w9 hown6 hg6 hat6 hl6; obtain ⟨r1, r2, r3, r4⟩ := HEND.out g6 cap6 w9 hown6 hg6; have HR2 := Sld.mk r2; have HR3 := Sld.mk r3; have HR4 := Sld.mk r4; rw [hs6] at r2; obtain ⟨s0, s1, s2, sf⟩ := blk3 r1; obtain ⟨z0, z1, z2, zf⟩ := blk3 r2; clear r1 r2 r3 r4)
          have hS := set3 HR2.out (.bool gt) (.bool gc) (.int .i64 gn)
          have HBE := below_set3 HR3.out (Nat.le_refl w6.heap.size) (.bool gt) (.bool gc) (.int .i64 gn)
          have hO9 : (((w9.setCell ⟨w6.heap.size, 0, none⟩ (.bool gt)).setCell ⟨w6.heap.size, 1, none⟩ (.bool gc)).setCell ⟨w6.heap.size, 2, none⟩ (.int .i64 gn)).ownsRow w7.heap.size 2 1 (.slice (some ⟨g6, 0, none⟩) (j + 1) cap6) (j + 1) (((ks.take j).map fun k => (fAt (ft l) k).n).map (Value.int .i64) ++ [.int .i64 gn]) := rw_same hown6 fun q hq => by
            have h1 := (own_block' hown6 q hq).1
            have h2 : q ≠ w6.heap.size := by omega
            rw [Deep.blk_setCell_other _ _ _ _ h2, Deep.blk_setCell_other _ _ _ _ h2, Deep.blk_setCell_other _ _ _ _ h2]
          have hs9 : w7.heap.size ≤ (((w9.setCell ⟨w6.heap.size, 0, none⟩ (.bool gt)).setCell ⟨w6.heap.size, 1, none⟩ (.bool gc)).setCell ⟨w6.heap.size, 2, none⟩ (.int .i64 gn)).heap.size := by have := HR4.out; simpa using this
          rw [hs6] at hS HBE hO9 hs9
          refine ⟨⟨j + 1, by omega, by go_num, ?_, ?_, ?_, ?_, ?_, hs9⟩, by simp [RowKit.intOf]; omega⟩
          · rw [HAT2.out, HT0.out]; first | rfl | simp
          · rw [HAC2.out, ← Bool.and_assoc, HC0.out]; first | rfl | simp
          · rw [HTK.out, List.map_append, List.map_append]
            simp only [List.map_cons, List.map_nil, HFA.out]
            exact hO9
          · rw [HLS2.out, hs6]; exact hS
          · rw [hs6]; exact HBE
    · have hje : j = ks.length := by omega
      subst hje
      have hta : ks.take ks.length = ks := List.take_length
      have how := HOWN.out
      have hlst := HLAST.out
      rw [hta] at how
      rw [hs6] at hlst
      obtain ⟨T0, hT0⟩ : ∃ T0, ((ks.take ks.length).all fun k => (fAt (ft l) k).t) = T0 := ⟨_, rfl⟩
      obtain ⟨C0, hC0⟩ : ∃ C0, ((op != 2) && (ks.take ks.length).all fun k => (fAt (ft l) k).c) = C0 := ⟨_, rfl⟩
      rw [hT0, hC0]
      rw [hta] at hT0 hC0
      have hP := HVA.out
      unfold tdF at hP
      simp only at hP
      obtain ⟨f0, f1, f2, _⟩ := blk3 HGF.out
      obtain ⟨l0, l1, l2, _⟩ := blk3 hlst
      have hw5l : w5.heap.size < wr.heap.size := lt_of_block HGF.out
      have z0 : ∀ o, (wr.alloc o).cell? ⟨w5.heap.size, 0, none⟩ = some (.bool ot) := fun o => (World.cell?_alloc_past _ _ _ hw5l).trans f0
      have z1 : ∀ o, (wr.alloc o).cell? ⟨w5.heap.size, 1, none⟩ = some (.bool oc) := fun o => (World.cell?_alloc_past _ _ _ hw5l).trans f1
      have z2 : ∀ o, (wr.alloc o).cell? ⟨w5.heap.size, 2, none⟩ = some (.int .i64 on) := fun o => (World.cell?_alloc_past _ _ _ hw5l).trans f2
      have n0 : ∀ o, (wr.alloc o).cell? ⟨w3.heap.size, 0, none⟩ = some (.int .i64 op) := fun o => (World.cell?_alloc_past _ _ _ hszr).trans e0r
      have n1 : ∀ o, (wr.alloc o).cell? ⟨w3.heap.size, 1, none⟩ = some (.int .i64 n) := fun o => (World.cell?_alloc_past _ _ _ hszr).trans e1r
      have HBA : Sld (∀ o, Below w.heap.size w (wr.alloc o)) := ⟨fun o => BW.out.alloc BW.out.size o⟩
      have hfm : (ks.length : Int) = aritI op := by
        have := HFM.out
        unfold formB fitB at this
        simp only [Bool.and_eq_true, decide_eq_true_eq] at this
        exact this.1.1.2
      have hAg : Ags wr (.slice va ks.length vc) (ks.map fun k => (fAt (ft l) k).n) := by
        refine ⟨va, vc, by rw [List.length_map], ?_⟩
        rcases how.2 with ⟨h0, h1⟩ | ⟨g, cp, cur, hve, _⟩
        · left; simp [List.length_eq_zero_iff.1 h1]
        · right
          have hva : va = some ⟨g, 0, none⟩ := by cases hve; rfl
          refine ⟨g, 0, hva, fun q x hq => ?_⟩
          have := how.cells (g := g) (by rw [hva]; rfl) q (.int .i64 x) (by rw [List.getElem?_map, hq]; rfl)
          have e0 : (⟨g, 0, none⟩ : Addr).add q = ⟨g, 0 + q, none⟩ := by rw [Go.WideShapes.add_plain]
          rw [e0] at this
          exact this
      have hAg2 : ∀ o, Ags (wr.alloc o) (.slice va ks.length vc) (ks.map fun k => (fAt (ft l) k).n) := fun o => by
        obtain ⟨a, c, h1, h2⟩ := hAg
        refine ⟨a, c, h1, ?_⟩
        rcases h2 with h2 | ⟨b', o', h3, h4⟩
        · exact .inl h2
        · exact .inr ⟨b', o', h3, fun i x hx => (World.cell?_alloc_past _ _ _ (World.block_lt_of_cell? wr _ (h4 i x hx))).trans (h4 i x hx)⟩
      have cA : Sld (∀ o, Calls Tryd.prog 30 #[.int .i64 op, .slice va ks.length vc] (wr.alloc o) fun e w' => e = .returned (.tuple #[.int .i64 (apR op (ks.map fun k => (fAt (ft l) k).n)).1, .int .i64 (apR op (ks.map fun k => (fAt (ft l) k).n)).2]) ∧ ∃ m, w' = (wr.alloc o).drewN m) := ⟨fun o => apply_any op _ _ _ (HH.out.below (HBA.out o)).G (hAg2 o)⟩
      clear hAg hAg2 how hlst HOWN HLAST HVA hta
      by_cases o1 : op = 1
      · subst o1
        rw [if_pos rfl] at hP
        injection hP with h1 h2 h3
        subst h1 h2 h3
        have hq := eql_fact1 true true on
        clear cA hT0 hC0
        go_wp2_with fail
        go_ret
        exact ⟨rfl, HBA.out _⟩
      · rw [if_neg o1] at hP
        by_cases o2 : op = 2
        · subst o2
          rw [if_pos rfl] at hP
          injection hP with h1 h2 h3
          subst h1 h2 h3
          have hk0 : ks = [] := by
            simp [aritI] at hfm; exact hfm
          have hT1 : T0 = true := by rw [← hT0, hk0]; rfl
          have hC1 : C0 = false := by rw [← hC0]; rfl
          subst hT1 hC1
          have hq := eql_fact1 true false 0
          clear cA hT0 hC0
          go_wp2_with fail
          go_ret
          exact ⟨rfl, HBA.out _⟩
        · rw [if_neg o2] at hP
          have g1 : (op == 1) = false := by simp [o1]
          have g2 : (op != 2) = true := by simp [o2]
          rw [g2, Bool.true_and] at hC0
          injection hP with h1 h2 h3
          have hcn : (C0 = false → oc = false ∧ on = 0) ∧ (C0 = true → oc = decide ((apR op (ks.map fun k => (fAt (ft l) k).n)).2 = 0) ∧ on = (apR op (ks.map fun k => (fAt (ft l) k).n)).1) := by
            unfold cnsF at h2 h3
            rw [hC0] at h2 h3
            refine ⟨fun e => ?_, fun e => ?_⟩
            · rw [e, if_neg (by simp)] at h2 h3; exact ⟨h2, h3⟩
            · rw [e, if_pos rfl] at h2 h3; exact ⟨h2, h3⟩
          have hto : ot = (T0 && ((op != 8 && op != 9) || ((fAt (ft l) (ks.getD 1 0)).c && (fAt (ft l) (ks.getD 1 0)).n != 0))) := by
            rw [h1]; unfold totF; rw [hT0]
          clear h1 h2 h3 hT0 hC0 o1 o2
          generalize apR op (ks.map fun k => (fAt (ft l) k).n) = R at *
          obtain ⟨r, er⟩ := R
          simp only at hcn cA
          have HCN : Sld ((C0 = false → oc = false ∧ on = 0) ∧ (C0 = true → oc = decide (er = 0) ∧ on = r)) := ⟨hcn⟩
          clear hcn
          by_cases ho : op = 8 ∨ op = 9
          · have hl2 : ks.length = 2 := arity_two HFM.out ho
            have hls : lastF l ks ks.length = fAt (ft l) (ks.getD 1 0) := by rw [hl2]; rfl
            rw [hls] at l0 l1 l2
            have g89 : (op != 8 && op != 9) = false := by rw [Bool.and_eq_false_iff]; simp; omega
            rw [g89, Bool.false_or] at hto
            generalize fAt (ft l) (ks.getD 1 0) = LF at *
            obtain ⟨lt, lc, ln⟩ := LF
            simp only at l0 l1 l2 hto
            clear hls g89 hfm hl2
            have HTO := Sld.mk hto
            clear hto
            obtain ⟨TT, hTT⟩ : ∃ TT, (T0 && (lc && ln != 0)) = TT := ⟨_, rfl⟩
            have hot : ot = TT := HTO.out.trans hTT
            subst hot
            clear HTO
            have HTT := Sld.mk hTT
            clear hTT
            rcases ho with rfl | rfl
            all_goals
              cases C0
              · obtain ⟨rfl, rfl⟩ := HCN.out.1 rfl
                have hq := eql_fact1 ot false 0
                clear HCN cA
                cases T0
                · obtain rfl : false = ot := HTT.out
                  go_wp2_with fail
                  go_ret
                  exact ⟨rfl, HBA.out _⟩
                · cases lc
                  · obtain rfl : false = ot := HTT.out
                    go_wp2_with fail
                    go_ret
                    exact ⟨rfl, HBA.out _⟩
                  · have hln : (ln != 0) = ot := by have := HTT.out; simpa using this
                    go_wp2_with fail
                    go_ret
                    exact ⟨rfl, HBA.out _⟩
              · obtain ⟨hoc, rfl⟩ := HCN.out.2 rfl
                have hoc' : oc = (er == 0) := by rw [hoc]; cases h : decide (er = 0) <;> simp_all
                subst hoc'
                have hq := eql_fact1 ot (er == 0) on
                obtain ⟨W8, hW8⟩ : ∃ W8, wr.alloc (.cells #[.bool ot, .bool false, .int .i64 0] 45) = W8 := ⟨_, rfl⟩
                have CA := cA.out (.cells #[.bool ot, .bool false, .int .i64 0] 45)
                have HB8 := HBA.out (.cells #[.bool ot, .bool false, .int .i64 0] 45)
                have x0 := z0 (.cells #[.bool ot, .bool false, .int .i64 0] 45)
                have x1 := z1 (.cells #[.bool ot, .bool false, .int .i64 0] 45)
                have x2 := z2 (.cells #[.bool ot, .bool false, .int .i64 0] 45)
                have m0 := n0 (.cells #[.bool ot, .bool false, .int .i64 0] 45)
                rw [hW8] at CA HB8 x0 x1 x2 m0
                have hn8 : W8.heap[wr.heap.size]? = some (.cells #[.bool ot, .bool false, .int .i64 0] 45 (0, 0)) := by rw [← hW8, Deep.blk_alloc_new]
                have CA' := Sld.mk CA
                have HB8' := Sld.mk HB8
                have HN8 := Sld.mk hn8
                have HW8 := Sld.mk hW8
                clear HCN cA z0 z1 z2 n1 CA HB8 hoc hn8 hW8 x0 x1 x2
                have hcs : (T0 = false ∧ ot = false) ∨ (T0 = true ∧ lc = false ∧ ot = false) ∨ (T0 = true ∧ lc = true ∧ (ln != 0) = ot) := by
                  have := HTT.out
                  cases T0
                  · left; exact ⟨rfl, by simpa using this.symm⟩
                  · right
                    cases lc
                    · left; exact ⟨rfl, rfl, by simpa using this.symm⟩
                    · right; exact ⟨rfl, rfl, by simpa using this⟩
                rcases hcs with ⟨rfl, rfl⟩ | ⟨rfl, rfl, rfl⟩ | ⟨rfl, rfl, hln⟩
                all_goals
                  go_wp2_with fail
                  rw [HW8.out]
                  refine CA'.out.mono ?_
                  rintro e w' ⟨rfl, m, rfl⟩
                  have hn9 := show (W8.drewN m).heap[wr.heap.size]? = _ from HN8.out
                  obtain ⟨W9, hW9⟩ : ∃ W9, ((W8.drewN m).setCell ⟨wr.heap.size, 1, none⟩ (.bool (er == 0))).setCell ⟨wr.heap.size, 2, none⟩ (.int .i64 on) = W9 := ⟨_, rfl⟩
                  have h91 := heap_setCell_same _ wr.heap.size 1 _ _ (.bool (er == 0)) hn9
                  have h92 := heap_setCell_same _ wr.heap.size 2 _ _ (.int .i64 on) h91
                  rw [hW9] at h92
                  have hB9 : Below w.heap.size w W9 := by
                    rw [← hW9]
                    exact ((show Below w.heap.size w (W8.drewN m) from HB8'.out.trans ⟨rfl, rfl, rfl, Nat.le_refl _, fun _ _ => rfl⟩).setCell (p := ⟨wr.heap.size, 1, none⟩) BW.out.size _).setCell (p := ⟨wr.heap.size, 2, none⟩) BW.out.size _
                  have hf9 : W9.heap[w5.heap.size]? = wr.heap[w5.heap.size]? := by
                    rw [← hW9, Deep.blk_setCell_other _ _ _ _ (by show w5.heap.size ≠ wr.heap.size; omega), Deep.blk_setCell_other _ _ _ _ (by show w5.heap.size ≠ wr.heap.size; omega)]
                    show W8.heap[w5.heap.size]? = _
                    rw [← HW8.out, Deep.blk_alloc_lt _ _ _ hw5l]
                  rw [HGF.out] at hf9
                  simp at h92
                  obtain ⟨p0, p1, p2, pf⟩ := blk3 hn9
                  obtain ⟨q0, q1, q2, _⟩ := blk3 h92
                  obtain ⟨t0, t1, t2, _⟩ := blk3 hf9
                  have HB9 := Sld.mk hB9
                  clear hB9 hf9 h91 h92 hn9 CA' HB8' HN8 HW8
                  go_wp2_with fail
                  go_ret
                  exact ⟨rfl, HB9.out⟩
          · have g8 : (op == 8) = false := by simp; omega
            have g9 : (op == 9) = false := by simp; omega
            have g89 : (op != 8 && op != 9) = true := by rw [Bool.and_eq_true, bne_iff_ne, bne_iff_ne]; omega
            rw [g89, Bool.true_or, Bool.and_true] at hto
            subst hto
            clear g89 hfm ho
            cases C0 with
            | false =>
              obtain ⟨rfl, rfl⟩ := HCN.out.1 rfl
              have hq := eql_fact1 ot false 0
              clear HCN cA
              go_wp2_with fail
              go_ret
              exact ⟨rfl, HBA.out _⟩
            | true =>
              obtain ⟨hoc, rfl⟩ := HCN.out.2 rfl
              have hoc' : oc = (er == 0) := by rw [hoc]; cases h : decide (er = 0) <;> simp_all
              subst hoc'
              have hq := eql_fact1 ot (er == 0) on
              obtain ⟨W8, hW8⟩ : ∃ W8, wr.alloc (.cells #[.bool ot, .bool false, .int .i64 0] 45) = W8 := ⟨_, rfl⟩
              have CA := cA.out (.cells #[.bool ot, .bool false, .int .i64 0] 45)
              have HB8 := HBA.out (.cells #[.bool ot, .bool false, .int .i64 0] 45)
              have x0 := z0 (.cells #[.bool ot, .bool false, .int .i64 0] 45)
              have x1 := z1 (.cells #[.bool ot, .bool false, .int .i64 0] 45)
              have x2 := z2 (.cells #[.bool ot, .bool false, .int .i64 0] 45)
              have m0 := n0 (.cells #[.bool ot, .bool false, .int .i64 0] 45)
              rw [hW8] at CA HB8 x0 x1 x2 m0
              have hn8 : W8.heap[wr.heap.size]? = some (.cells #[.bool ot, .bool false, .int .i64 0] 45 (0, 0)) := by rw [← hW8, Deep.blk_alloc_new]
              have CA' := Sld.mk CA
              have HB8' := Sld.mk HB8
              have HN8 := Sld.mk hn8
              have HW8 := Sld.mk hW8
              clear HCN cA z0 z1 z2 n1 CA HB8 hoc hn8 hW8 x0 x1 x2
              go_wp2_with fail
              rw [HW8.out]
              refine CA'.out.mono ?_
              rintro e w' ⟨rfl, m, rfl⟩
              have hn9 : (W8.drewN m).heap[wr.heap.size]? = some (.cells #[.bool ot, .bool false, .int .i64 0] 45 (0, 0)) := HN8.out
              obtain ⟨W9, hW9⟩ : ∃ W9, ((W8.drewN m).setCell ⟨wr.heap.size, 1, none⟩ (.bool (er == 0))).setCell ⟨wr.heap.size, 2, none⟩ (.int .i64 on) = W9 := ⟨_, rfl⟩
              have h91 := heap_setCell_same _ wr.heap.size 1 _ _ (.bool (er == 0)) hn9
              have h92 := heap_setCell_same _ wr.heap.size 2 _ _ (.int .i64 on) h91
              rw [hW9] at h92
              have hB9 : Below w.heap.size w W9 := by
                rw [← hW9]
                exact ((show Below w.heap.size w (W8.drewN m) from HB8'.out.trans ⟨rfl, rfl, rfl, Nat.le_refl _, fun _ _ => rfl⟩).setCell (p := ⟨wr.heap.size, 1, none⟩) BW.out.size _).setCell (p := ⟨wr.heap.size, 2, none⟩) BW.out.size _
              have hf9 : W9.heap[w5.heap.size]? = some (.cells #[.bool ot, .bool (er == 0), .int .i64 on] 45 (0, 0)) := by
                rw [← hW9, Deep.blk_setCell_other _ _ _ _ (by show w5.heap.size ≠ wr.heap.size; omega), Deep.blk_setCell_other _ _ _ _ (by show w5.heap.size ≠ wr.heap.size; omega)]
                show W8.heap[w5.heap.size]? = _
                rw [← HW8.out, Deep.blk_alloc_lt _ _ _ hw5l]
                exact HGF.out
              obtain ⟨p0, p1, p2, pf⟩ := blk3 hn9
              obtain ⟨q0, q1, q2, _⟩ := blk3 (by simpa using h92 : W9.heap[wr.heap.size]? = some (.cells #[.bool ot, .bool (er == 0), .int .i64 on] 45 (0, 0)))
              obtain ⟨t0, t1, t2, _⟩ := blk3 hf9
              have HB9 := Sld.mk hB9
              clear hB9 hf9 h91 h92 hn9 CA' HB8' HN8 HW8
              go_wp2_with fail
              go_ret
              exact ⟨rfl, HB9.out⟩
theorem factsParts_walk (w : World) (ao : Option Addr) (cap : Nat) (l : List Nd) (h : FaIn w ao cap l) (hF : Fit l) :
    Calls Tryd.prog 6 #[.slice ao l.length cap] w fun e w' => e = .returned (.bool true) ∧ Below w.heap.size w w' := by
  cases hb : begL l with
  | none => exact factsParts.bad w ao cap l h hF hb
  | some fr => exact factsParts.good w ao cap l h hF fr hb
end Go.Proofs.YtkbcgcempchoaaaDoor

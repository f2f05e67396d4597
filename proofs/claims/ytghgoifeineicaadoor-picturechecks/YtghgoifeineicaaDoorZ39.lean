/-
  DcO.
-/
import Derived.Shelf.Unicode.DecodeSlow
import Derived.Laws.RangeAny
import Derived.Shelf.Strconv.Itoa0
import Derived.Shelf.LaysM
import Derived.Shelf.Strconv.Clone
import Derived.Shelf.Unicode.DecodeAny
import Derived.Shelf.Slices.CompactS
import Derived.Test.YtghgoifeineicaaDoorProg
import Derived.WalkKit
import Derived.Deep.DeepFit
import Derived.Lib.OthersKept
import Derived.Lib.RuneCountTail
import Derived.Deep.AppendLies
import Derived.Deep.OwnRows
import Derived.Laws.AppendOwnNone
import Derived.Deep.QuietTactic
import Derived.BigQuiet
import Derived.Deep.RegionWith
import Derived.Laws.DeepStrings4
import Derived.Below
import Derived.Lib.MapLaws
import Derived.Sort.Walk0
import Derived.Lib.QuietBelow
import Derived.StillTail
import Derived.Deep.RegionHeld3
import Derived.Laws.AppendOwn
import Derived.Deep.DeepCutAuto
import Derived.Maps.OwnSet
import Derived.Maps.Keyed
import Derived.DeepKeys4
import Derived.Laws.ResultCell
import Derived.Laws.CopyOwn
import Derived.Laws.OwnMore
import Derived.Deep.RegionLaw
import Derived.Laws.IdiomStrings
import Derived.WalkSmall
import Derived.Lib.SlBytesRow
import Derived.Test.YtghgoifeineicaaDoorZ01
import Derived.Test.YtghgoifeineicaaDoorZ02
import Derived.Test.YtghgoifeineicaaDoorZ03
import Derived.Test.YtghgoifeineicaaDoorZ04
import Derived.Test.YtghgoifeineicaaDoorZ05
import Derived.Test.YtghgoifeineicaaDoorZ06
import Derived.Test.YtghgoifeineicaaDoorZ07
import Derived.Test.YtghgoifeineicaaDoorZ08
import Derived.Test.YtghgoifeineicaaDoorZ09
import Derived.Test.YtghgoifeineicaaDoorZ10
import Derived.Test.YtghgoifeineicaaDoorZ11
import Derived.Test.YtghgoifeineicaaDoorZ12
import Derived.Test.YtghgoifeineicaaDoorZ13
import Derived.Test.YtghgoifeineicaaDoorZ14
import Derived.Test.YtghgoifeineicaaDoorZ15
import Derived.Test.YtghgoifeineicaaDoorZ16
import Derived.Test.YtghgoifeineicaaDoorZ17
import Derived.Test.YtghgoifeineicaaDoorZ29
import Derived.Test.YtghgoifeineicaaDoorZ30
import Derived.Test.YtghgoifeineicaaDoorZ31
import Derived.Test.YtghgoifeineicaaDoorZ32
import Derived.Test.YtghgoifeineicaaDoorZ33
import Derived.Test.YtghgoifeineicaaDoorZ34
import Derived.Test.YtghgoifeineicaaDoorZ35
import Derived.Test.YtghgoifeineicaaDoorZ36
import Derived.Test.YtghgoifeineicaaDoorZ37
import Derived.Test.YtghgoifeineicaaDoorZ38
import Derived.Test.YtghgoifeineicaaDoorZA1
set_option linter.unusedSimpArgs false
set_option linter.unusedVariables false
namespace Go.Proofs.YtghgoifeineicaaDoor
open Go.RowKit Go.Lib Go.Sort

theorem Clss.cellC {w : World} {B : Nat} {ao : Option Addr} {n cap : Nat} {cs : List Cls} (h : Clss w B (.slice ao n cap) cs) {i : Nat} (hi : i < cs.length) : ∃ b o na nc, ao = some ⟨b, o, none⟩ ∧ b < B ∧ w.cell? ⟨b, o + i * 2, none⟩ = some (.slice na (clA cs i).nodes.length nc) ∧ w.cell? ⟨b, o + i * 2 + 1, none⟩ = some (.int .i64 (clA cs i).size) ∧ Nodes w B (.slice na (clA cs i).nodes.length nc) (clA cs i).nodes := by
  obtain ⟨ao', cap', h1, _, _, h2⟩ := h
  injection h1 with h1 _ _
  rcases h2 with h2 | ⟨b, o, h2, h3, h4⟩
  · subst h2; simp at hi
  · obtain ⟨na, nc, h5, h6, h7⟩ := h4 i hi
    exact ⟨b, o, na, nc, h1.trans h2, h3, h5, h6, h7⟩
theorem Clss.bnd {w : World} {B : Nat} {ao : Option Addr} {n cap : Nat} {cs : List Cls} (h : Clss w B (.slice ao n cap) cs) : n = cs.length ∧ cs.length ≤ cap ∧ cap ≤ 9223372036854775807 := by
  obtain ⟨ao', cap', h1, h2, h3, _⟩ := h
  injection h1 with h1 h4 h5
  unfold maxLen at h3
  subst h5
  exact ⟨h4, h2, by omega⟩
set_option maxRecDepth 20000 in
set_option maxHeartbeats 4000000 in
theorem sameClass_any (c d : Cls) (ca da : Option Addr) (cc dc : Nat) (w : World) (hc : Nodes w w.heap.size (.slice ca c.nodes.length cc) c.nodes) (hd : Nodes w w.heap.size (.slice da d.nodes.length dc) d.nodes) :
    Calls Tryd.prog 84 #[.agg #[.slice ca c.nodes.length cc, .int .i64 c.size], .agg #[.slice da d.nodes.length dc, .int .i64 d.size]] w fun e w' => e = .returned (.bool (decide (c.size = d.size) && decide (c.nodes = d.nodes))) ∧ Below w.heap.size w w' := by
  obtain ⟨cn, cz⟩ := c
  obtain ⟨dn, dz⟩ := d
  simp only at hc hd ⊢
  obtain ⟨W1, hW1⟩ : ∃ W1, (w.alloc (.cells #[.slice ca cn.length cc, .int .i64 cz] 93)).alloc (.cells #[.slice da dn.length dc, .int .i64 dz] 93) = W1 := ⟨_, rfl⟩
  have hb : Below w.heap.size w W1 := by rw [← hW1]; exact ((Below.refl _ _).alloc (Nat.le_refl _) _).alloc (by simp) _
  have bx : W1.heap[w.heap.size]? = some (.cells #[.slice ca cn.length cc, .int .i64 cz] 93 (0, 0)) := by
    rw [← hW1, Deep.blk_alloc_lt _ _ _ (by simp), Deep.blk_alloc_new]
  have by_ : W1.heap[w.heap.size + 1]? = some (.cells #[.slice da dn.length dc, .int .i64 dz] 93 (0, 0)) := by
    have := Deep.blk_alloc_new (w.alloc (.cells #[.slice ca cn.length cc, .int .i64 cz] 93)) (.cells #[.slice da dn.length dc, .int .i64 dz] 93)
    rw [World.size_alloc] at this
    rw [← hW1]; exact this
  have x0 : W1.cell? ⟨w.heap.size, 0, none⟩ = some (.slice ca cn.length cc) := by simp [World.cell?, bx]
  have x1 : W1.cell? ⟨w.heap.size, 1, none⟩ = some (.int .i64 cz) := by simp [World.cell?, bx]
  have y0 : W1.cell? ⟨w.heap.size + 1, 0, none⟩ = some (.slice da dn.length dc) := by simp [World.cell?, by_]
  have y1 : W1.cell? ⟨w.heap.size + 1, 1, none⟩ = some (.int .i64 dz) := by simp [World.cell?, by_]
  have CS : Sld (Calls Tryd.prog 13 #[.slice ca cn.length cc, .slice da dn.length dc] W1 fun e w' => e = .returned (.bool (decide (cn = dn))) ∧ Below W1.heap.size W1 w') := ⟨same_any _ _ cn dn W1 _ (Nat.le_refl _) (hc.below hb hb.size) (hd.below hb hb.size)⟩
  have HW1 := Sld.mk hW1
  have HB1 := Sld.mk hb
  clear hW1 hb bx by_ hc hd
  generalize decide (cn = dn) = R at *
  generalize cn.length = nl at *
  generalize dn.length = ml at *
  by_cases hz : cz = dz
  · have hze : (cz == dz) = true := by simpa using hz
    have HR : Sld ((decide (cz = dz) && R) = R) := ⟨by simp [hz]⟩
    clear hz
    go_enter Tryd.func84, Tryd.ntmps84
    go_wp2_with fail
    rw [HW1.out]
    go_wp2_with (go_at_call 13; refine CS.out.mono ?_; rintro e w2 ⟨rfl, hb2⟩)
    go_ret
    exact ⟨by rw [HR.out]; rfl, HB1.out.trans (hb2.mono HB1.out.size)⟩
  · have hze : (cz == dz) = false := by simpa using hz
    have HR : Sld ((decide (cz = dz) && R) = false) := ⟨by simp [hz]⟩
    clear hz
    go_enter Tryd.func84, Tryd.ntmps84
    go_wp2_with fail
    rw [HW1.out]
    go_wp2_with fail
    go_ret
    exact ⟨by rw [HR.out]; rfl, HB1.out⟩
set_option maxRecDepth 20000 in
set_option maxHeartbeats 4000000 in
theorem samePicture_any (cs ds : List Cls) (rs ts : List Int) (ca da ra ta : Option Addr) (cc dc rc tc : Nat) (w : World) (hc : Clss w w.heap.size (.slice ca cs.length cc) cs) (hd : Clss w w.heap.size (.slice da ds.length dc) ds) (hr : Ints w w.heap.size (.slice ra rs.length rc) rs) (ht : Ints w w.heap.size (.slice ta ts.length tc) ts) (hl : ds.length = cs.length) :
    Calls Tryd.prog 63 #[.agg #[.slice ca cs.length cc, .slice ra rs.length rc], .agg #[.slice da ds.length dc, .slice ta ts.length tc]] w fun e w' => (∃ r : Bool, e = .returned (.bool r) ∧ (r = true ↔ rs = ts ∧ ∀ i, i < cs.length → (clA cs i).nodes = (clA ds i).nodes ∧ (clA cs i).size = (clA ds i).size)) ∧ Below w.heap.size w w' := by
  obtain ⟨W1, hW1⟩ : ∃ W1, (w.alloc (.cells #[.slice ca cs.length cc, .slice ra rs.length rc] 56)).alloc (.cells #[.slice da ds.length dc, .slice ta ts.length tc] 56) = W1 := ⟨_, rfl⟩
  have hb : Below w.heap.size w W1 := by rw [← hW1]; exact ((Below.refl _ _).alloc (Nat.le_refl _) _).alloc (by simp) _
  have bx : W1.heap[w.heap.size]? = some (.cells #[.slice ca cs.length cc, .slice ra rs.length rc] 56 (0, 0)) := by
    rw [← hW1, Deep.blk_alloc_lt _ _ _ (by simp), Deep.blk_alloc_new]
  have by_ : W1.heap[w.heap.size + 1]? = some (.cells #[.slice da ds.length dc, .slice ta ts.length tc] 56 (0, 0)) := by
    have := Deep.blk_alloc_new (w.alloc (.cells #[.slice ca cs.length cc, .slice ra rs.length rc] 56)) (.cells #[.slice da ds.length dc, .slice ta ts.length tc] 56)
    rw [World.size_alloc] at this
    rw [← hW1]; exact this
  have HP : Sld (∀ V, Below W1.heap.size W1 V → V.cell? ⟨w.heap.size, 0, none⟩ = some (.slice ca cs.length cc) ∧ V.cell? ⟨w.heap.size, 1, none⟩ = some (.slice ra rs.length rc) ∧ V.cell? ⟨w.heap.size + 1, 0, none⟩ = some (.slice da ds.length dc) ∧ V.cell? ⟨w.heap.size + 1, 1, none⟩ = some (.slice ta ts.length tc) ∧ Below w.heap.size w V) := ⟨fun V hV => by
    have h1 := (hV.block _ (lt_of_block bx)).trans bx
    have h2 := (hV.block _ (lt_of_block by_)).trans by_
    exact ⟨by simp [World.cell?, h1], by simp [World.cell?, h1], by simp [World.cell?, h2], by simp [World.cell?, h2], hb.trans (hV.mono hb.size)⟩⟩
  obtain ⟨x0, x1, y0, y1, _⟩ := HP.out W1 (Below.refl _ _)
  obtain ⟨_, b1, b2⟩ := hc.bnd
  have CI : Sld (Calls Tryd.prog 68 #[.slice ra rs.length rc, .slice ta ts.length tc] W1 fun e w' => e = .returned (.bool (decide (rs = ts))) ∧ ∃ n, w' = W1.drewN n) := ⟨sameInts_any _ _ rs ts W1 _ (Nat.le_refl _) (hr.below hb hb.size) (ht.below hb hb.size)⟩
  have HB1 := Sld.mk hb
  have HC := Sld.mk (hc.below hb hb.size)
  have HD := Sld.mk (hd.below hb hb.size)
  have HL := Sld.mk hl
  rw [hl] at y0 hW1
  have HW1 := Sld.mk hW1
  clear hW1 hb bx by_ hc hd hr ht
  have hne : (((cs.length : Nat) : Int) != ((cs.length : Nat) : Int)) = false := by simp
  rw [hl]
  by_cases hrt : rs = ts
  · have hrd : decide (rs = ts) = true := by simp [hrt]
    rw [hrd] at CI
    have HRT := Sld.mk hrt
    clear hrd hrt
    go_enter Tryd.func63, Tryd.ntmps63
    go_wp2_with fail
    rw [HW1.out]
    go_wp2_with (go_at_call 68; refine CI.out.mono ?_; rintro e w2 ⟨rfl, nd, rfl⟩)
    have HBd : Sld (Below W1.heap.size W1 (W1.drewN nd)) := ⟨below_drewN' (Below.refl _ _) nd⟩
    generalize W1.drewN nd = wd at *
    clear x0 x1 y0 y1 CI
    go_loopw [5] (fun q wr => ∃ j : Nat, j ≤ cs.length ∧ q = .int .i64 j ∧ Sld (∀ i, i < j → (clA cs i).nodes = (clA ds i).nodes ∧ (clA cs i).size = (clA ds i).size) ∧ Sld (Below W1.heap.size W1 wr)) (fun q _ => cs.length - (RowKit.intOf q).toNat)
    case atStart => exact ⟨0, by omega, rfl, ⟨fun i hi => by omega⟩, HBd⟩
    case round =>
      obtain ⟨j, hj, rfl, HA, HB⟩ := hrel
      clear HBd
      obtain ⟨x0, x1, y0, y1, _⟩ := HP.out wr HB.out
      rw [HL.out] at y0
      by_cases hlt : j < cs.length
      · obtain ⟨cb, co, na, nc, rfl, _, c0, c1, hN⟩ := (HC.out.below HB.out HB.out.size).cellC hlt
        obtain ⟨db, do_, ma, mc, rfl, _, d0, d1, hM⟩ := (HD.out.below HB.out HB.out.size).cellC (i := j) (by rw [HL.out]; exact hlt)
        have CS : Sld (∀ d os, Calls Tryd.prog 84 #[.agg #[.slice na (clA cs j).nodes.length nc, .int .i64 (clA cs j).size], .agg #[.slice ma (clA ds j).nodes.length mc, .int .i64 (clA ds j).size]] (grow (redrawn wr d) os) fun e w'' => e = .returned (.bool (decide ((clA cs j).size = (clA ds j).size) && decide ((clA cs j).nodes = (clA ds j).nodes))) ∧ ∃ p : Regrown, w'' = grow (redrawn wr p.d) p.os) := ⟨fun d os => by
          have hb := below_regrown wr d os
          exact Calls.regrown_of (sameClass_any _ _ na ma nc mc _ (hN.below hb hb.size) (hM.below hb hb.size))⟩
        have HYES : Sld ((decide ((clA cs j).size = (clA ds j).size) && decide ((clA cs j).nodes = (clA ds j).nodes)) = true → ∀ i, i < j + 1 → (clA cs i).nodes = (clA ds i).nodes ∧ (clA cs i).size = (clA ds i).size) := ⟨fun h i hi => by
          simp only [Bool.and_eq_true, decide_eq_true_eq] at h
          by_cases e : i = j
          · subst e; exact ⟨h.2, h.1⟩
          · exact HA.out i (by omega)⟩
        have HNO : Sld ((decide ((clA cs j).size = (clA ds j).size) && decide ((clA cs j).nodes = (clA ds j).nodes)) = false → ¬ ∀ i, i < cs.length → (clA cs i).nodes = (clA ds i).nodes ∧ (clA cs i).size = (clA ds i).size) := ⟨fun h h2 => by
          obtain ⟨e1, e2⟩ := h2 j hlt
          simp [e1, e2] at h⟩
        have g0 := cell_regrown x0
        have g1 := cell_regrown y0
        have g2 := cell_regrown c0
        have g3 := cell_regrown c1
        have g4 := cell_regrown d0
        have g5 := cell_regrown d1
        clear hN hM c0 c1 d0 d1
        generalize (decide ((clA cs j).size = (clA ds j).size) && decide ((clA cs j).nodes = (clA ds j).nodes)) = R at *
        generalize (clA cs j).nodes.length = n1 at *
        generalize (clA ds j).nodes.length = n2 at *
        generalize (clA cs j).size = z1 at *
        generalize (clA ds j).size = z2 at *
        cases R with
        | false =>
          have HNOX := Sld.mk (HNO.out (by first | rfl | trivial))
          go_wp2_with fail
          refine wp_region_quiet_below (by kernel_rfl) (by kernel_rfl) ?_
          iterate 12 (go_big_quiet_step ((go_at_call 84; exact CS.out _ _)))
          refine wpQuiet_nil ?_
          intro _ hw'
          obtain ⟨⟨dq, oss⟩, hw''⟩ := hw'
          subst hw''
          have HBX : Sld (Below w.heap.size w (grow (redrawn wr dq) oss)) := ⟨HB1.out.trans ((HB.out.trans ((below_regrown wr dq oss).mono HB.out.size)).mono HB1.out.size)⟩
          have HF : Sld (False → False) := ⟨id⟩
          go_wp2_with fail
          go_ret
          exact ⟨⟨false, rfl, by simp only [Bool.false_eq_true, false_iff]; exact fun h => HNOX.out h.2⟩, HBX.out⟩
        | true =>
          have HY := Sld.mk (HYES.out (by first | rfl | trivial))
          go_wp2_with fail
          refine wp_region_quiet_below (by kernel_rfl) (by kernel_rfl) ?_
          iterate 12 (go_big_quiet_step ((go_at_call 84; exact CS.out _ _)))
          refine wpQuiet_nil ?_
          intro _ hw'
          obtain ⟨⟨dq, oss⟩, hw''⟩ := hw'
          subst hw''
          have HBX : Sld (Below W1.heap.size W1 (grow (redrawn wr dq) oss)) := ⟨HB.out.trans ((below_regrown wr dq oss).mono HB.out.size)⟩
          go_wp2_with fail
          exact ⟨⟨j + 1, by omega, by go_num, HY, HBX⟩, by simp [RowKit.intOf]; omega⟩
      · have hje : j = cs.length := by omega
        subst hje
        go_wp2_with fail
        go_ret
        exact ⟨⟨true, rfl, by simp only [true_iff]; exact ⟨HRT.out, HA.out⟩⟩, HB1.out.trans (HB.out.mono HB1.out.size)⟩
  · have hrd : decide (rs = ts) = false := by simp [hrt]
    rw [hrd] at CI
    have HRT := Sld.mk hrt
    clear hrd hrt
    go_enter Tryd.func63, Tryd.ntmps63
    go_wp2_with fail
    rw [HW1.out]
    go_wp2_with (go_at_call 68; refine CI.out.mono ?_; rintro e w2 ⟨rfl, nd, rfl⟩)
    go_ret
    exact ⟨⟨false, rfl, by simp only [Bool.false_eq_true, false_iff]; exact fun h => HRT.out h.1⟩, HB1.out.trans ((below_drewN' (Below.refl _ _) nd).mono HB1.out.size)⟩
end Go.Proofs.YtghgoifeineicaaDoor

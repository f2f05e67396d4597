/-
  DcO, PgD.
-/
import Derived.Test.YtlbmijcpalfaeaaGreatDoorP40
set_option linter.unusedSimpArgs false
set_option linter.unusedVariables false
namespace Go.Proofs.YtlbmijcpalfaeaaGreatDoor
open Go.RowKit Go.Lib Go.Sort

theorem Clss.cellC {w : World} {B : Nat} {ao : Option Addr} {n cap : Nat} {cs : List Cls} (h : Clss w B (.slice ao n cap) cs) {i : Nat} (hi : i < cs.length) : ∃ b o na nc, ao = some ⟨b, o, none⟩ ∧ b < B ∧ w.cell? ⟨b, o + i * 2, none⟩ = some (.slice na (clA cs i).nodes.length nc) ∧ w.cell? ⟨b, o + i * 2 + 1, none⟩ = some (.int .i64 (clA cs i).size) ∧ Nodes w B (.slice na (clA cs i).nodes.length nc) (clA cs i).nodes := by
  obtain ⟨ao', cap', h1, _, _, h2⟩ := h
  injection h1 with h1 _ _
  rcases h2 with h2 | ⟨b, o, h2, h3, h4⟩
  · subst h2; simp at hi
  · obtain ⟨na, nc, h5, h6, h7⟩ := h4 i hi
    exact ⟨b, o, na, nc, h1.trans h2, h3, h5, h6, h7⟩
theorem Clss.bnd {w : World} {B : Nat} {ao : Option Addr} {n cap : Nat} {cs : List Cls} (h : Clss w B (.slice ao n cap) cs) : n = cs.length ∧ cs.length ≤ cap ∧ cap ≤ 9223372036854775807 := by
  obtain ⟨ao', cap', h1, h2, h3, _⟩ := h
  injection h1 with h1 h4 h5
  unfold maxLen at h3
  subst h5
  exact ⟨h4, h2, by omega⟩
set_option maxRecDepth 20000 in
set_option maxHeartbeats 4000000 in
theorem sameClass_any (c d : Cls) (ca da : Option Addr) (cc dc : Nat) (w : World) (hc : Nodes w w.heap.size (.slice ca c.nodes.length cc) c.nodes) (hd : Nodes w w.heap.size (.slice da d.nodes.length dc) d.nodes) :
    Calls Tryz.prog 50 #[.agg #[.slice ca c.nodes.length cc, .int .i64 c.size], .agg #[.slice da d.nodes.length dc, .int .i64 d.size]] w fun e w' => e = .returned (.bool (decide (c.size = d.size) && decide (c.nodes = d.nodes))) ∧ Below w.heap.size w w' := by
  obtain ⟨cn, cz⟩ := c
  obtain ⟨dn, dz⟩ := d
  simp only at hc hd ⊢
  obtain ⟨W1, hW1⟩ : ∃ W1, (w.alloc (.cells #[.slice ca cn.length cc, .int .i64 cz] 49)).alloc (.cells #[.slice da dn.length dc, .int .i64 dz] 49) = W1 := ⟨_, rfl⟩
  have hb : Below w.heap.size w W1 := by rw [← hW1]; exact ((Below.refl _ _).alloc (Nat.le_refl _) _).alloc (by simp) _
  have bx : W1.heap[w.heap.size]? = some (.cells #[.slice ca cn.length cc, .int .i64 cz] 49 (0, 0)) := by
    rw [← hW1, Deep.blk_alloc_lt _ _ _ (by simp), Deep.blk_alloc_new]
  have by_ : W1.heap[w.heap.size + 1]? = some (.cells #[.slice da dn.length dc, .int .i64 dz] 49 (0, 0)) := by
    have := Deep.blk_alloc_new (w.alloc (.cells #[.slice ca cn.length cc, .int .i64 cz] 49)) (.cells #[.slice da dn.length dc, .int .i64 dz] 49)
    rw [World.size_alloc] at this
    rw [← hW1]; exact this
  have x0 : W1.cell? ⟨w.heap.size, 0, none⟩ = some (.slice ca cn.length cc) := by simp [World.cell?, bx]
  have x1 : W1.cell? ⟨w.heap.size, 1, none⟩ = some (.int .i64 cz) := by simp [World.cell?, bx]
  have y0 : W1.cell? ⟨w.heap.size + 1, 0, none⟩ = some (.slice da dn.length dc) := by simp [World.cell?, by_]
  have y1 : W1.cell? ⟨w.heap.size + 1, 1, none⟩ = some (.int .i64 dz) := by simp [World.cell?, by_]
  have CS : Sld (Calls Tryz.prog 71 #[.slice ca cn.length cc, .slice da dn.length dc] W1 fun e w' => e = .returned (.bool (decide (cn = dn))) ∧ Below W1.heap.size W1 w') := ⟨same_any _ _ cn dn W1 _ (Nat.le_refl _) (hc.below hb hb.size) (hd.below hb hb.size)⟩
  have HW1 := Sld.mk hW1
  have HB1 := Sld.mk hb
  clear hW1 hb bx by_ hc hd
  generalize decide (cn = dn) = R at *
  generalize cn.length = nl at *
  generalize dn.length = ml at *
  by_cases hz : cz = dz
  · have hze : (cz == dz) = true := by simpa using hz
    have HR : Sld ((decide (cz = dz) && R) = R) := ⟨by simp [hz]⟩
    clear hz
    go_enter Tryz.func50, Tryz.ntmps50
    go_wp2_with fail
    rw [HW1.out]
    go_wp2_with (go_at_call 71; refine CS.out.mono ?_; rintro e w2 ⟨rfl, hb2⟩)
    go_ret
    exact ⟨by rw [HR.out]; rfl, HB1.out.trans (hb2.mono HB1.out.size)⟩
  · have hze : (cz == dz) = false := by simpa using hz
    have HR : Sld ((decide (cz = dz) && R) = false) := ⟨by simp [hz]⟩
    clear hz
    go_enter Tryz.func50, Tryz.ntmps50
    go_wp2_with fail
    rw [HW1.out]
    go_wp2_with fail
    go_ret
    exact ⟨by rw [HR.out]; rfl, HB1.out⟩
set_option maxRecDepth 20000 in
set_option maxHeartbeats 4000000 in
theorem samePicture_any (cs ds : List Cls) (rs ts : List Int) (ca da ra ta : Option Addr) (cc dc rc tc : Nat) (w : World) (hc : Clss w w.heap.size (.slice ca cs.length cc) cs) (hd : Clss w w.heap.size (.slice da ds.length dc) ds) (hr : Ints w w.heap.size (.slice ra rs.length rc) rs) (ht : Ints w w.heap.size (.slice ta ts.length tc) ts) (hl : ds.length = cs.length) :
    Calls Tryz.prog 33 #[.agg #[.slice ca cs.length cc, .slice ra rs.length rc], .agg #[.slice da ds.length dc, .slice ta ts.length tc]] w fun e w' => (∃ r : Bool, e = .returned (.bool r) ∧ (r = true ↔ rs = ts ∧ ∀ i, i < cs.length → (clA cs i).nodes = (clA ds i).nodes ∧ (clA cs i).size = (clA ds i).size)) ∧ Below w.heap.size w w' := by
  obtain ⟨W1, hW1⟩ : ∃ W1, (w.alloc (.cells #[.slice ca cs.length cc, .slice ra rs.length rc] 26)).alloc (.cells #[.slice da ds.length dc, .slice ta ts.length tc] 26) = W1 := ⟨_, rfl⟩
  have hb : Below w.heap.size w W1 := by rw [← hW1]; exact ((Below.refl _ _).alloc (Nat.le_refl _) _).alloc (by simp) _
  have bx : W1.heap[w.heap.size]? = some (.cells #[.slice ca cs.length cc, .slice ra rs.length rc] 26 (0, 0)) := by
    rw [← hW1, Deep.blk_alloc_lt _ _ _ (by simp), Deep.blk_alloc_new]
  have by_ : W1.heap[w.heap.size + 1]? = some (.cells #[.slice da ds.length dc, .slice ta ts.length tc] 26 (0, 0)) := by
    have := Deep.blk_alloc_new (w.alloc (.cells #[.slice ca cs.length cc, .slice ra rs.length rc] 26)) (.cells #[.slice da ds.length dc, .slice ta ts.length tc] 26)
    rw [World.size_alloc] at this
    rw [← hW1]; exact this
  have HP : Sld (∀ V, Below W1.heap.size W1 V → V.cell? ⟨w.heap.size, 0, none⟩ = some (.slice ca cs.length cc) ∧ V.cell? ⟨w.heap.size, 1, none⟩ = some (.slice ra rs.length rc) ∧ V.cell? ⟨w.heap.size + 1, 0, none⟩ = some (.slice da ds.length dc) ∧ V.cell? ⟨w.heap.size + 1, 1, none⟩ = some (.slice ta ts.length tc) ∧ Below w.heap.size w V) := ⟨fun V hV => by
    have h1 := (hV.block _ (lt_of_block bx)).trans bx
    have h2 := (hV.block _ (lt_of_block by_)).trans by_
    exact ⟨by simp [World.cell?, h1], by simp [World.cell?, h1], by simp [World.cell?, h2], by simp [World.cell?, h2], hb.trans (hV.mono hb.size)⟩⟩
  obtain ⟨x0, x1, y0, y1, _⟩ := HP.out W1 (Below.refl _ _)
  obtain ⟨_, b1, b2⟩ := hc.bnd
  have CI : Sld (Calls Tryz.prog 49 #[.slice ra rs.length rc, .slice ta ts.length tc] W1 fun e w' => e = .returned (.bool (decide (rs = ts))) ∧ ∃ n, w' = W1.drewN n) := ⟨sameInts_any _ _ rs ts W1 _ (Nat.le_refl _) (hr.below hb hb.size) (ht.below hb hb.size)⟩
  have HB1 := Sld.mk hb
  have HC := Sld.mk (hc.below hb hb.size)
  have HD := Sld.mk (hd.below hb hb.size)
  have HL := Sld.mk hl
  rw [hl] at y0 hW1
  have HW1 := Sld.mk hW1
  clear hW1 hb bx by_ hc hd hr ht
  have hne : (((cs.length : Nat) : Int) != ((cs.length : Nat) : Int)) = false := by simp
  rw [hl]
  by_cases hrt : rs = ts
  · have hrd : decide (rs = ts) = true := by simp [hrt]
    rw [hrd] at CI
    have HRT := Sld.mk hrt
    clear hrd hrt
    go_enter Tryz.func33, Tryz.ntmps33
    go_wp2_with fail
    rw [HW1.out]
    go_wp2_with (go_at_call 49; refine CI.out.mono ?_; rintro e w2 ⟨rfl, nd, rfl⟩)
    have HBd : Sld (Below W1.heap.size W1 (W1.drewN nd)) := ⟨below_drewN' (Below.refl _ _) nd⟩
    generalize W1.drewN nd = wd at *
    clear x0 x1 y0 y1 CI
    go_loopw [5] (fun q wr => ∃ j : Nat, j ≤ cs.length ∧ q = .int .i64 j ∧ Sld (∀ i, i < j → (clA cs i).nodes = (clA ds i).nodes ∧ (clA cs i).size = (clA ds i).size) ∧ Sld (Below W1.heap.size W1 wr)) (fun q _ => cs.length - (RowKit.intOf q).toNat)
    case atStart => exact ⟨0, by omega, rfl, ⟨fun i hi => by omega⟩, HBd⟩
    case round =>
      obtain ⟨j, hj, rfl, HA, HB⟩ := hrel
      clear HBd
      obtain ⟨x0, x1, y0, y1, _⟩ := HP.out wr HB.out
      rw [HL.out] at y0
      by_cases hlt : j < cs.length
      · obtain ⟨cb, co, na, nc, rfl, _, c0, c1, hN⟩ := (HC.out.below HB.out HB.out.size).cellC hlt
        obtain ⟨db, do_, ma, mc, rfl, _, d0, d1, hM⟩ := (HD.out.below HB.out HB.out.size).cellC (i := j) (by rw [HL.out]; exact hlt)
        have CS : Sld (∀ d os, Calls Tryz.prog 50 #[.agg #[.slice na (clA cs j).nodes.length nc, .int .i64 (clA cs j).size], .agg #[.slice ma (clA ds j).nodes.length mc, .int .i64 (clA ds j).size]] (grow (redrawn wr d) os) fun e w'' => e = .returned (.bool (decide ((clA cs j).size = (clA ds j).size) && decide ((clA cs j).nodes = (clA ds j).nodes))) ∧ ∃ p : Regrown, w'' = grow (redrawn wr p.d) p.os) := ⟨fun d os => by
          have hb := below_regrown wr d os
          exact Calls.regrown_of (sameClass_any _ _ na ma nc mc _ (hN.below hb hb.size) (hM.below hb hb.size))⟩
        have HYES : Sld ((decide ((clA cs j).size = (clA ds j).size) && decide ((clA cs j).nodes = (clA ds j).nodes)) = true → ∀ i, i < j + 1 → (clA cs i).nodes = (clA ds i).nodes ∧ (clA cs i).size = (clA ds i).size) := ⟨fun h i hi => by
          simp only [Bool.and_eq_true, decide_eq_true_eq] at h
          by_cases e : i = j
          · subst e; exact ⟨h.2, h.1⟩
          · exact HA.out i (by omega)⟩
        have HNO : Sld ((decide ((clA cs j).size = (clA ds j).size) && decide ((clA cs j).nodes = (clA ds j).nodes)) = false → ¬ ∀ i, i < cs.length → (clA cs i).nodes = (clA ds i).nodes ∧ (clA cs i).size = (clA ds i).size) := ⟨fun h h2 => by
          obtain ⟨e1, e2⟩ := h2 j hlt
          simp [e1, e2] at h⟩
        have g0 := cell_regrown x0
        have g1 := cell_regrown y0
        have g2 := cell_regrown c0
        have g3 := cell_regrown c1
        have g4 := cell_regrown d0
        have g5 := cell_regrown d1
        clear hN hM c0 c1 d0 d1
        generalize (decide ((clA cs j).size = (clA ds j).size) && decide ((clA cs j).nodes = (clA ds j).nodes)) = R at *
        generalize (clA cs j).nodes.length = n1 at *
        generalize (clA ds j).nodes.length = n2 at *
        generalize (clA cs j).size = z1 at *
        generalize (clA ds j).size = z2 at *
        cases R with
        | false =>
          have HNOX := Sld.mk (HNO.out (by first | rfl | trivial))
          go_wp2_with fail
          refine wp_region_quiet_below (by kernel_rfl) (by kernel_rfl) ?_
          iterate 12 (go_big_quiet_step ((go_at_call 50; exact CS.out _ _)))
          refine wpQuiet_nil ?_
          intro _ hw'
          obtain ⟨⟨dq, oss⟩, hw''⟩ := hw'
          subst hw''
          have HBX : Sld (Below w.heap.size w (grow (redrawn wr dq) oss)) := ⟨HB1.out.trans ((HB.out.trans ((below_regrown wr dq oss).mono HB.out.size)).mono HB1.out.size)⟩
          have HF : Sld (False → False) := ⟨id⟩
          go_wp2_with fail
          go_ret
          exact ⟨⟨false, rfl, by simp only [Bool.false_eq_true, false_iff]; exact fun h => HNOX.out h.2⟩, HBX.out⟩
        | true =>
          have HY := Sld.mk (HYES.out (by first | rfl | trivial))
          go_wp2_with fail
          refine wp_region_quiet_below (by kernel_rfl) (by kernel_rfl) ?_
          iterate 12 (go_big_quiet_step ((go_at_call 50; exact CS.out _ _)))
          refine wpQuiet_nil ?_
          intro _ hw'
          obtain ⟨⟨dq, oss⟩, hw''⟩ := hw'
          subst hw''
          have HBX : Sld (Below W1.heap.size W1 (grow (redrawn wr dq) oss)) := ⟨HB.out.trans ((below_regrown wr dq oss).mono HB.out.size)⟩
          go_wp2_with fail
          exact ⟨⟨j + 1, by omega, by go_num, HY, HBX⟩, by simp [RowKit.intOf]; omega⟩
      · have hje : j = cs.length := by omega
        subst hje
        go_wp2_with fail
        go_ret
        exact ⟨⟨true, rfl, by simp only [true_iff]; exact ⟨HRT.out, HA.out⟩⟩, HB1.out.trans (HB.out.mono HB1.out.size)⟩
  · have hrd : decide (rs = ts) = false := by simp [hrt]
    rw [hrd] at CI
    have HRT := Sld.mk hrt
    clear hrd hrt
    go_enter Tryz.func33, Tryz.ntmps33
    go_wp2_with fail
    rw [HW1.out]
    go_wp2_with (go_at_call 49; refine CI.out.mono ?_; rintro e w2 ⟨rfl, nd, rfl⟩)
    go_ret
    exact ⟨⟨false, rfl, by simp only [Bool.false_eq_true, false_iff]; exact fun h => HRT.out h.1⟩, HB1.out.trans ((below_drewN' (Below.refl _ _) nd).mono HB1.out.size)⟩
end Go.Proofs.YtlbmijcpalfaeaaGreatDoor

set_option linter.unusedSimpArgs false
set_option linter.unusedVariables false
namespace Go.Proofs.YtlbmijcpalfaeaaGreatDoor.Gt
open Go.RowKit Go.Lib Go.Sort

/-- What graph.Of answers. -/
def GoQ (b : Bool) (e : Ending) : Prop := ∃ (v : Value) (z : Int), e = .returned (.tuple #[v, .int .i64 z]) ∧ (z = 0 ∧ b = true ∨ z = 1 ∧ b = false)
set_option maxRecDepth 20000 in
set_option maxHeartbeats 32000000 in
theorem gOf_any (cs : List Cls) (roots : List Int) (ca ra : Option Addr) (cc rc : Nat) (w : World) (T : Tabs w) (hc : Clss w w.heap.size (.slice ca cs.length cc) cs) (hr : Ints w w.heap.size (.slice ra roots.length rc) roots) (hw : ∀ c ∈ cs, c.nodes.length * 56 ≤ 140737488351232) (hrw : roots.length * 8 ≤ 140737488355328) (hN : ∀ c ∈ cellsL cs, N6 c.1.n ∧ c.1.name.size ≤ 281474976710656) :
    Calls Tryz.prog 28 #[.agg #[.slice ca cs.length cc, .slice ra roots.length rc]] w fun e w' => GoQ (ofB cs roots) e ∧ Below w.heap.size w w' := by
  obtain ⟨B, hB⟩ : ∃ B, ofB cs roots = B := ⟨_, rfl⟩
  have HNO : Sld (¬ OfOk cs roots → B = false) := ⟨fun h => by
    cases hb : B with
    | false => rfl
    | true => exact absurd (ofB_ok (hB.trans hb)) h⟩
  have HYES : Sld (ofB cs roots = B) := ⟨hB⟩
  have HLS : Sld ((bdP cs roots && lsA cs cs.length) = false → B = false) := ⟨fun h => by rw [← hB]; unfold ofB; rw [h]; rfl⟩
  rw [hB]
  obtain ⟨W1, hW1⟩ : ∃ W1, w.alloc (.cells #[.slice ca cs.length cc, .slice ra roots.length rc] 26) = W1 := ⟨_, rfl⟩
  have hb1 : Below w.heap.size w W1 := by rw [← hW1]; exact (Below.refl _ _).alloc (Nat.le_refl _) _
  have hk1 : W1.heap[w.heap.size]? = some (.cells #[.slice ca cs.length cc, .slice ra roots.length rc] 26 (0, 0)) := by rw [← hW1, Deep.blk_alloc_new]
  obtain ⟨_, hcc1, hcc2⟩ := hc.bnd
  obtain ⟨_, hrc1, hrc2⟩ := hr.bnd
  have HW1 := Sld.mk hW1
  have HB1 := Sld.mk hb1
  have HC1 := Sld.mk (hc.below hb1 hb1.size)
  have HR1 := Sld.mk (hr.below hb1 hb1.size)
  have HWW := Sld.mk hw
  have HNN : Sld (∀ (c : Nat), c < cs.length → ∀ x ∈ (clA cs c).nodes, N6 x.n ∧ x.name.size ≤ 281474976710656) := ⟨fun c hc x hx => hN (x, (c : Int)) (mem_cells.2 ⟨by omega, by omega, by simpa using hx⟩)⟩
  have HT1 := Sld.mk (T.below hb1)
  have HP : Sld (∀ V, Below W1.heap.size W1 V → V.cell? ⟨w.heap.size, 0, none⟩ = some (.slice ca cs.length cc) ∧ V.cell? ⟨w.heap.size, 1, none⟩ = some (.slice ra roots.length rc) ∧ Below w.heap.size w V) := ⟨fun V hV => by
    have h1 := (hV.block _ (lt_of_block hk1)).trans hk1
    exact ⟨by simp [World.cell?, h1], by simp [World.cell?, h1], hb1.trans (hV.mono hb1.size)⟩⟩
  obtain ⟨p0, p1, _⟩ := HP.out W1 (Below.refl _ _)
  have CL := Sld.mk (leasts_any cs roots ca ra cc rc W1 HT1.out HC1.out HR1.out HWW.out)
  clear hW1 hb1 hk1 hc hr hw hN hB
  go_enter Tryz.func28, Tryz.ntmps28
  go_wp2_with fail
  rw [HW1.out]
  go_wp2_with fail
  refine CL.out.mono ?_
  rintro e w2 ⟨hls, hb2⟩
  have HB2 := Sld.mk hb2
  rcases hls with ⟨hf, rfl⟩ | ⟨hf, v, rfl, hm⟩
  · have HF := Sld.mk (HLS.out hf)
    have HBW := Sld.mk ((HP.out _ hb2).2.2)
    clear hb2 CL hf
    go_wp2_with fail
    go_ret2
    exact ⟨⟨_, 1, rfl, .inr ⟨rfl, HF.out⟩⟩, HBW.out⟩
  · have HBD := Sld.mk hf
    have HLO := Sld.mk (LsOk.of hf)
    have HM := Sld.mk hm
    obtain ⟨va, vc, rfl⟩ := hm.form
    have hfew := HLO.out.few
    clear hb2 CL hf hm HLS p0 p1
    have CN := Sld.mk (gnew_any w2)
    go_wp2_with fail
    refine CN.out.mono ?_
    rintro e w3 ⟨rfl, hw3⟩
    obtain ⟨p, hp⟩ : ∃ p, w2.heap.size = p := ⟨_, rfl⟩
    have hg3 : GrM w3 p G00 := by rw [hw3, ← hp]; exact GrM.start w2
    have hb3 : Below w2.heap.size w2 w3 := by rw [hw3]; exact (Below.refl _ _).alloc (Nat.le_refl _) _
    have HG3 := Sld.mk hg3
    have HPW : Sld (W1.heap.size ≤ p) := ⟨by rw [← hp]; exact HB2.out.size⟩
    -- whatever has become of the graph, what lies ahead of it is as it was
    have HSW : Sld (∀ V G, GrT w3 p G00 G V → Below p w2 V ∧ Below W1.heap.size W1 V) := ⟨fun V G hg => by
      have h1 : Below p w2 V := by rw [← hp]; rw [← hp] at hg hg3; exact hb3.trans (hg.below hg3)
      exact ⟨h1, HB2.out.trans (h1.mono (by rw [← hp]; exact HB2.out.size))⟩⟩
    have HPE := Sld.mk hp
    rw [hp]
    clear hw3 hb3 hg3 CN hp
    go_wp2_with fail
    go_loopw [27] (fun q wr => ∃ (j : Nat) (G : Gs), j ≤ cs.length ∧ q = .int .i64 j ∧ Sld (GrT w3 p G00 G wr) ∧ Sld (Of1 cs j G)) (fun q _ => cs.length - (RowKit.intOf q).toNat)
    case atStart => exact ⟨0, G00, by omega, rfl, ⟨⟨HG3.out, Tk.refl _ _, fun b h => .inl h⟩⟩, ⟨OfI.start, rfl, fun k h => by omega, fun k h => by omega⟩⟩
    case round =>
      rename World => Y
      obtain ⟨j, G, hj, rfl, HG, HO⟩ := hrel
      obtain ⟨hBp, hB1⟩ := HSW.out Y G HG.out
      have HBp := Sld.mk hBp
      have HBY := Sld.mk hB1
      by_cases hlt : j < cs.length
      · obtain ⟨g, cap, ka, kc, hv, hj1, hj2, hgl, a0, a1, a2, a3, hki⟩ := HM.out.at_ hlt
        injection hv with hva _ hvc
        subst hva; subst hvc
        have hgp : g < p := by rw [← HPE.out]; exact hgl
        have d0 := (hBp.cell (p := ⟨g, j * 4, none⟩) hgp).trans a0
        have d1 := (hBp.cell (p := ⟨g, j * 4 + 1, none⟩) hgp).trans a1
        have d2 := (hBp.cell (p := ⟨g, j * 4 + 2, none⟩) hgp).trans a2
        have d3 := (hBp.cell (p := ⟨g, j * 4 + 3, none⟩) hgp).trans a3
        have hst := HO.out.step HLO.out hlt
        have hx := HNN.out j hlt _ (HLO.out.least hlt).1
        have HAF : Sld (formB (lsN cs j) = false → B = false) := ⟨fun hf => HNO.out (fun h => by
          have := h.form _ (clA_mem hlt) _ (HLO.out.least hlt).1
          rw [hf] at this; cases this)⟩
        have hjv : j ≤ cs.length := hj
        unfold maxLen at hj2
        generalize lsN cs j = x at *
        obtain ⟨Y1, hY1⟩ : ∃ Y1, Y.alloc (.cells #[.int .i64 x.op, .int .i64 x.n, .string x.name, .slice ka x.kids.length kc] 41) = Y1 := ⟨_, rfl⟩
        have hbY1 : Below Y.heap.size Y Y1 := by rw [← hY1]; exact (Below.refl _ _).alloc (Nat.le_refl _) _
        have hx1 : Y1.heap[Y.heap.size]? = some (.cells #[.int .i64 x.op, .int .i64 x.n, .string x.name, .slice ka x.kids.length kc] 41 (0, 0)) := by rw [← hY1, Deep.blk_alloc_new]
        obtain ⟨x0, x1, x2, x3⟩ := blk4N hx1
        have hB1' : Below W1.heap.size W1 Y1 := hB1.trans (hbY1.mono hB1.size)
        have hGY := HG.out.gr.below hbY1
        have HGT := Sld.mk (HG.out.trans (GrT.of_below HG.out.gr hbY1))
        have hLen : G.L.length = j := by rw [HO.out.L, lsL_len]
        have hS := seat_both hGY (HT1.out.below hB1').spans x ka kc ⟨hki.below hB1' hB1'.size, hx.1, hx.2⟩ (fun b o hk hn hs => by
          have h1 := Ints.far hki hk hn
          have h2 := hGY.base b hs
          have := HPW.out; omega) (-1) (.inl rfl) (HO.out.oi.gsB (by omega))
        have HY1 := Sld.mk hY1
        have HBW := Sld.mk ((HP.out _ hB1).2.2)
        cases hf : formB x with
        | false =>
          have HF := Sld.mk (HAF.out hf)
          rw [ptR_bad hf] at hS
          have CS := Sld.mk hS
          generalize (ptR G.L x).1 = id at *
          clear hst hx HAF hY1 hbY1 hx1 hB1' hGY hS hki hB1 hBp a0 a1 a2 a3 hf
          go_wp2_with (rw [HY1.out])
          refine CS.out.mono ?_
          rintro e w6 ⟨rfl, G', hg6, _⟩
          have HB6 := Sld.mk ((HP.out _ (HSW.out _ G' (HGT.out.trans hg6)).2).2.2)
          clear hg6 CS
          go_wp2_with fail
          go_ret2
          exact ⟨⟨_, 1, rfl, .inr ⟨rfl, HF.out⟩⟩, HB6.out⟩
        | true =>
          obtain ⟨hE, _, hnx⟩ := hst hf
          rw [hE] at hS
          have CS := Sld.mk hS
          have HNX := Sld.mk hnx
          generalize (ptR G.L x).1 = id at *
          clear hst hx HAF hY1 hbY1 hx1 hB1' hGY hS hki hB1 hBp a0 a1 a2 a3 hf hE hnx
          go_wp2_with (rw [HY1.out])
          refine CS.out.mono ?_
          rintro e w6 ⟨rfl, G', hg6, hs6⟩
          have HG6 := Sld.mk (HGT.out.trans hg6)
          have HO6 := Sld.mk (HNX.out G' hs6)
          clear hg6 hs6 CS HNX
          go_wp2_with fail
          exact ⟨⟨j + 1, G', by omega, by go_num, HG6, HO6⟩, by simp [RowKit.intOf]; omega⟩
      · have hje : j = cs.length := by omega
        subst hje
        have HO2 := Sld.mk (HO.out.two HLO.out)
        obtain ⟨p0, p1, _⟩ := HP.out Y hB1
        clear hBp hB1 HO
        go_wp2_with fail
        go_loopw [43] (fun q wr => ∃ (ci : Nat) (G : Gs), ci ≤ cs.length ∧ q = .int .i64 ci ∧ Sld (GrT w3 p G00 G wr) ∧ Sld (Of2 cs ci 0 G)) (fun q _ => cs.length - (RowKit.intOf q).toNat)
        case atStart => exact ⟨0, G, by omega, rfl, HG, HO2⟩
        case round =>
          clear HG HO2 HBp HBY p0 p1
          rename World => Y
          obtain ⟨ci, G, hci, rfl, HG, HO⟩ := hrel
          obtain ⟨hBp, hB1⟩ := HSW.out Y G HG.out
          by_cases hlt : ci < cs.length
          · obtain ⟨cb, co, na, nc, rfl, hcb, c0, c1, hNd⟩ := HC1.out.cellC hlt
            have d0 := (hB1.cell (p := ⟨cb, co + ci * 2, none⟩) hcb).trans c0
            have d1 := (hB1.cell (p := ⟨cb, co + ci * 2 + 1, none⟩) hcb).trans c1
            obtain ⟨_, hm1, hm2⟩ := hNd.bnd
            obtain ⟨Y1, hY1⟩ : ∃ Y1, Y.alloc (.cells #[.slice na (clA cs ci).nodes.length nc, .int .i64 (clA cs ci).size] 49) = Y1 := ⟨_, rfl⟩
            have hbY1 : Below Y.heap.size Y Y1 := by rw [← hY1]; exact (Below.refl _ _).alloc (Nat.le_refl _) _
            have hx1 : Y1.heap[Y.heap.size]? = some (.cells #[.slice na (clA cs ci).nodes.length nc, .int .i64 (clA cs ci).size] 49 (0, 0)) := by rw [← hY1, Deep.blk_alloc_new]
            have x0 : Y1.cell? ⟨Y.heap.size, 0, none⟩ = some (.slice na (clA cs ci).nodes.length nc) := by simp [World.cell?, hx1]
            have HGT := Sld.mk (HG.out.trans (GrT.of_below HG.out.gr hbY1))
            have HY1 := Sld.mk hY1
            have HND := Sld.mk hNd
            have hciI : (ci : Int) < (cs.length : Int) := by omega
            generalize (clA cs ci).size = csz at *
            clear hY1 hbY1 hx1 hNd hBp hB1 c0 c1
            go_wp2_with (rw [HY1.out])
            go_loopw [51] (fun q wr => ∃ (i : Nat) (G : Gs), i ≤ (clA cs ci).nodes.length ∧ q = .int .i64 i ∧ Sld (GrT w3 p G00 G wr) ∧ Sld (Of2 cs ci i G)) (fun q _ => (clA cs ci).nodes.length - (RowKit.intOf q).toNat)
            case atStart => exact ⟨0, G, by omega, rfl, HGT, HO⟩
            case round =>
              clear HGT HO HG x0
              rename World => Z
              obtain ⟨i, G, hi, rfl, HG, HO⟩ := hrel
              obtain ⟨hBp, hB1⟩ := HSW.out Z G HG.out
              by_cases hlt2 : i < (clA cs ci).nodes.length
              · obtain ⟨nb, no, ka, kc, rfl, hnb, hna⟩ := HND.out.cellN hlt2
                have hst := fun hI => HO.out.step HLO.out hI hlt hlt2
                have hTI : TbI G.L := (@TbM.facts G.gr _ _ _ _ _ HG.out.gr.tb).2.2.1
                have hst := hst hTI
                have hx := HNN.out ci hlt _ (ndA_mem hlt2)
                have HAF : Sld (formB (ndA (clA cs ci).nodes i) = false → B = false) := ⟨fun hf => HNO.out (fun h => by
                  have := h.form _ (clA_mem hlt) _ (ndA_mem hlt2)
                  rw [hf] at this; cases this)⟩
                obtain ⟨a0, a1, a2, a3, hki⟩ := hna
                generalize ndA (clA cs ci).nodes i = x at *
                have d0 := (hB1.cell (p := ⟨nb, no + i * 4, none⟩) hnb).trans a0
                have d1 := (hB1.cell (p := ⟨nb, no + i * 4 + 1, none⟩) hnb).trans a1
                have d2 := (hB1.cell (p := ⟨nb, no + i * 4 + 2, none⟩) hnb).trans a2
                have d3 := (hB1.cell (p := ⟨nb, no + i * 4 + 3, none⟩) hnb).trans a3
                obtain ⟨Z1, hZ1⟩ : ∃ Z1, Z.alloc (.cells #[.int .i64 x.op, .int .i64 x.n, .string x.name, .slice ka x.kids.length kc] 41) = Z1 := ⟨_, rfl⟩
                have hbZ1 : Below Z.heap.size Z Z1 := by rw [← hZ1]; exact (Below.refl _ _).alloc (Nat.le_refl _) _
                have hx1 : Z1.heap[Z.heap.size]? = some (.cells #[.int .i64 x.op, .int .i64 x.n, .string x.name, .slice ka x.kids.length kc] 41 (0, 0)) := by rw [← hZ1, Deep.blk_alloc_new]
                obtain ⟨x0, x1, x2, x3⟩ := blk4N hx1
                have hB1' : Below W1.heap.size W1 Z1 := hB1.trans (hbZ1.mono hB1.size)
                have hGY := HG.out.gr.below hbZ1
                have HGT := Sld.mk (HG.out.trans (GrT.of_below HG.out.gr hbZ1))
                have hLen : G.L.length ≤ 1048576 := hTI.le
                have hSS := HO.out.oi.ssLen
                have hGe := HO.out.ge
                have hS := seat_both hGY (HT1.out.below hB1').spans x ka kc ⟨hki.below hB1' hB1'.size, hx.1, hx.2⟩ (fun b o hk hn hs => by
                  have h1 := Ints.far hki hk hn
                  have h2 := hGY.base b hs
                  have := HPW.out; omega) (ci : Int) (.inr ⟨ci, rfl, by omega⟩) (HO.out.oi.gsB hLen)
                have HZ1 := Sld.mk hZ1
                cases hf : formB x with
                | false =>
                  have HF := Sld.mk (HAF.out hf)
                  rw [ptR_bad hf] at hS
                  have CS := Sld.mk hS
                  generalize (ptR G.L x).1 = id at *
                  clear hst hx HAF hZ1 hbZ1 hx1 hB1' hGY hS hki hB1 hBp a0 a1 a2 a3 hf
                  go_wp2_with (rw [HZ1.out])
                  refine CS.out.mono ?_
                  rintro e w6 ⟨rfl, G', hg6, _⟩
                  have HB6 := Sld.mk ((HP.out _ (HSW.out _ G' (HGT.out.trans hg6)).2).2.2)
                  clear hg6 CS
                  go_wp2_with fail
                  go_ret2
                  exact ⟨⟨_, 1, rfl, .inr ⟨rfl, HF.out⟩⟩, HB6.out⟩
                | true =>
                  obtain ⟨hE, c, hne, hnx⟩ := hst hf
                  rw [hE] at hS
                  have CS := Sld.mk hS
                  have HNX := Sld.mk hnx
                  have HNE := Sld.mk hne
                  generalize (ptR G.L x).1 = id at *
                  clear hst hx HAF hZ1 hbZ1 hx1 hB1' hGY hS hki hB1 hBp a0 a1 a2 a3 hf hE hnx hne
                  go_wp2_with (rw [HZ1.out])
                  refine CS.out.mono ?_
                  rintro e w6 ⟨rfl, G', hg6, hs6⟩
                  have HG6 := Sld.mk (HGT.out.trans hg6)
                  obtain ⟨⟨st, hstn⟩, hn6⟩ := HNX.out G' hs6
                  have CT := Sld.mk (stands_any hg6.gr hstn)
                  clear hg6 hs6 CS HNX hstn
                  by_cases hcc : c = ci
                  · have HO6 := Sld.mk (hn6 hcc)
                    subst hcc
                    clear hn6 HNE
                    go_wp2_with fail
                    refine CT.out.mono ?_
                    rintro e w7 ⟨rfl, rfl⟩
                    clear CT
                    go_wp2_with fail
                    exact ⟨⟨i + 1, G', by omega, by go_num, HG6, HO6⟩, by simp [RowKit.intOf]; omega⟩
                  · have HF := Sld.mk (HNO.out (HNE.out hcc))
                    have e1 : ((c : Int) != (ci : Int)) = true := by simp; omega
                    have HB6 := Sld.mk ((HP.out _ (HSW.out _ G' HG6.out).2).2.2)
                    clear hn6 HNE hcc
                    go_wp2_with fail
                    refine CT.out.mono ?_
                    rintro e w7 ⟨rfl, rfl⟩
                    clear CT
                    go_wp2_with fail
                    go_ret2
                    exact ⟨⟨_, 1, rfl, .inr ⟨rfl, HF.out⟩⟩, HB6.out⟩
              · have hie : i = (clA cs ci).nodes.length := by omega
                subst hie
                have HO6 := Sld.mk (HO.out.next hlt)
                clear HO hBp hB1
                go_wp2_with fail
                exact ⟨⟨ci + 1, G, by omega, by go_num, HG, HO6⟩, by simp [RowKit.intOf]; omega⟩
          · have hce : ci = cs.length := by omega
            subst hce
            have hTI : TbI G.L := (@TbM.facts G.gr _ _ _ _ _ HG.out.gr.tb).2.2.1
            have HB := Sld.mk (HYES.out.symm.trans (HO.out.end_ hTI HBD.out))
            obtain ⟨p0, p1, hbw⟩ := HP.out Y hB1
            have CC := Sld.mk (clone_any Y ra rc roots (HR1.out.below hB1 hB1.size) hrw)
            have HBW := Sld.mk hbw
            have HWP : Sld (w.heap.size ≤ p) := ⟨Nat.le_trans HB1.out.size HPW.out⟩
            clear HO hBp hB1 hTI hbw
            go_wp2_with fail
            refine CC.out.mono ?_
            rintro e w6 ⟨⟨sa, sn, sc, rfl⟩, hb6⟩
            obtain ⟨_, _, _, _, _, g5, gf⟩ := (HG.out.gr.below hb6).cells
            have gf5 := gf 5
            have HBX : Sld (Below w.heap.size w (w6.setCell ⟨p, 5, none⟩ (.slice sa sn sc))) := ⟨(HBW.out.trans (hb6.mono HBW.out.size)).setCell (p := ⟨p, 5, none⟩) HWP.out _⟩
            clear gf hb6 CC
            go_wp2_with fail
            go_ret2
            exact ⟨⟨_, 0, rfl, .inl ⟨rfl, HB.out⟩⟩, HBX.out⟩
end Go.Proofs.YtlbmijcpalfaeaaGreatDoor.Gt

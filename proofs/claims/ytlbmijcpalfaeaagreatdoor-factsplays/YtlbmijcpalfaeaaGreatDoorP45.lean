/-
  DcU.
-/
import Derived.Test.YtlbmijcpalfaeaaGreatDoorP43
import Derived.Test.YtlbmijcpalfaeaaGreatDoorP44
set_option linter.unusedSimpArgs false
set_option linter.unusedVariables false
namespace Go.Proofs.YtlbmijcpalfaeaaGreatDoor
open Go.RowKit Go.Lib Go.Maps Go.Sort

set_option maxRecDepth 20000 in
set_option maxHeartbeats 32000000 in
theorem dcheck_any (cs : List Cls) (roots : List Int) (ca ra : Option Addr) (cc rc : Nat) (w : World) (hc : Clss w w.heap.size (.slice ca cs.length cc) cs) (hr : Ints w w.heap.size (.slice ra roots.length rc) roots) (hw : ∀ c ∈ cs, c.nodes.length * 56 ≤ 140737488351232) (hrw : roots.length * 8 ≤ 140737488355328) (hN : ∀ c ∈ cellsL cs, N6 c.1.n ∧ c.1.name.size ≤ 281474976710656 ∧ ∀ k ∈ c.1.kids, N6 k) :
    Calls Tryz.prog 18 #[.agg #[.slice ca cs.length cc, .slice ra roots.length rc]] w fun e w' => CkQ (ofB cs roots) e ∧ Below w.heap.size w w' := by
  obtain ⟨B, hB⟩ : ∃ B, ofB cs roots = B := ⟨_, rfl⟩
  have HNO : Sld (¬ OfOk cs roots → B = false) := ⟨fun h => by
    cases hb : B with
    | false => rfl
    | true => exact absurd (ofB_ok (hB.trans hb)) h⟩
  have HYES : Sld (OfOk cs roots → B = true) := ⟨fun h => by rw [← hB]; exact ok_ofB h⟩
  rw [hB]
  obtain ⟨W1, hW1⟩ : ∃ W1, w.alloc (.cells #[.slice ca cs.length cc, .slice ra roots.length rc] 26) = W1 := ⟨_, rfl⟩
  have hb1 : Below w.heap.size w W1 := by rw [← hW1]; exact (Below.refl _ _).alloc (Nat.le_refl _) _
  have hk1 : W1.heap[w.heap.size]? = some (.cells #[.slice ca cs.length cc, .slice ra roots.length rc] 26 (0, 0)) := by rw [← hW1, Deep.blk_alloc_new]
  obtain ⟨_, hcc1, hcc2⟩ := hc.bnd
  obtain ⟨_, hrc1, hrc2⟩ := hr.bnd
  have HW1 := Sld.mk hW1
  have HB1 := Sld.mk hb1
  have HC1 := Sld.mk (hc.below hb1 hb1.size)
  have HR1 := Sld.mk (hr.below hb1 hb1.size)
  have HWW := Sld.mk hw
  have HN := Sld.mk hN
  have HP : Sld (∀ V, Below W1.heap.size W1 V → V.cell? ⟨w.heap.size, 0, none⟩ = some (.slice ca cs.length cc) ∧ V.cell? ⟨w.heap.size, 1, none⟩ = some (.slice ra roots.length rc) ∧ Below w.heap.size w V) := ⟨fun V hV => by
    have h1 := (hV.block _ (lt_of_block hk1)).trans hk1
    exact ⟨by simp [World.cell?, h1], by simp [World.cell?, h1], hb1.trans (hV.mono hb1.size)⟩⟩
  obtain ⟨p0, p1, _⟩ := HP.out W1 (Below.refl _ _)
  clear hW1 hb1 hk1 hc hr hw hN hB
  by_cases h1 : cs.length ≤ 4096
  case neg =>
    have h1I : (4096 : Int) < (cs.length : Int) := by omega
    have HF := Sld.mk (HNO.out (fun h => h1 h.few))
    go_enter Tryz.func18, Tryz.ntmps18
    go_wp2_with fail
    rw [HW1.out]
    go_wp2_with fail
    go_ret
    exact ⟨⟨1, rfl, .inr ⟨rfl, HF.out⟩⟩, HB1.out⟩
  have CC := Sld.mk (countNodes_any cs (.slice ra roots.length rc) ca cc W1 HC1.out h1 HWW.out)
  have h1I : (cs.length : Int) ≤ 4096 := by omega
  by_cases h2 : mnyL cs ≤ 8192
  case neg =>
    have h2I : (8192 : Int) < (mnyL cs : Nat) := by omega
    have HF := Sld.mk (HNO.out (fun h => h2 h.many))
    generalize mnyL cs = M at *
    go_enter Tryz.func18, Tryz.ntmps18
    go_wp2_with fail
    rw [HW1.out]
    go_wp2_with (go_at_call 30; refine CC.out.mono ?_; rintro e w2 ⟨rfl, hb2⟩)
    have HBW := Sld.mk ((HP.out _ hb2).2.2)
    clear hb2 CC
    go_wp2_with fail
    go_ret
    exact ⟨⟨1, rfl, .inr ⟨rfl, HF.out⟩⟩, HBW.out⟩
  have h2I : ((mnyL cs : Nat) : Int) ≤ 8192 := by omega
  have HLC : Sld ((cellsL cs).length ≤ 8192) := ⟨by unfold cellsL; rw [cellsF_len]; exact h2⟩
  have HF1 : Sld (∀ c ∈ cellsL cs, formB c.1 ≠ true → B = false) := ⟨fun c hc hf => HNO.out (fun h => hf (h.inCs.form c hc))⟩
  have HF2 : Sld (∀ c ∈ cellsL cs, ∀ k ∈ c.1.kids, ¬ (0 ≤ k ∧ k < (cs.length : Int)) → B = false) := ⟨fun c hc k hk hf => HNO.out (fun h => hf (h.inCs.kids c hc k hk))⟩
  have HF3 : Sld (¬ ((cellsL cs).map (·.1)).Nodup → B = false) := ⟨fun hf => HNO.out (fun h => hf h.nodup)⟩
  have HM2 := Sld.mk h2
  generalize mnyL cs = M at h2I CC
  go_enter Tryz.func18, Tryz.ntmps18
  go_wp2_with fail
  rw [HW1.out]
  go_wp2_with (go_at_call 30; refine CC.out.mono ?_; rintro e w2 ⟨rfl, hb2⟩)
  have HB2 := Sld.mk hb2
  clear hb2 CC p0 p1 h2
  go_wp2_with fail
  go_loopw [3] (fun q wr => ∃ j : Nat, j ≤ roots.length ∧ q = .int .i64 j ∧ Sld (∀ r ∈ roots.take j, 0 ≤ r ∧ r < (cs.length : Int)) ∧ Sld (Below W1.heap.size W1 wr)) (fun q _ => roots.length - (RowKit.intOf q).toNat)
  case atStart => exact ⟨0, by omega, rfl, ⟨by simp⟩, HB2⟩
  case round =>
    clear HB2
    obtain ⟨j, hj, rfl, HA, HB⟩ := hrel
    obtain ⟨p0, p1, _⟩ := HP.out wr HB.out
    by_cases hlt : j < roots.length
    · obtain ⟨rb, ro, rfl, hrb, r0⟩ := (HR1.out.below HB.out HB.out.size).cellK hlt
      have hrm : roots.getD j 0 ∈ roots := by rw [List.getD_eq_getElem?_getD, List.getElem?_eq_getElem hlt]; exact List.getElem_mem _
      have HNR : Sld (¬ (0 ≤ roots.getD j 0 ∧ roots.getD j 0 < (cs.length : Int)) → B = false) := ⟨fun hh => HNO.out (fun h => hh (h.roots _ hrm))⟩
      have HST : Sld ((0 ≤ roots.getD j 0 ∧ roots.getD j 0 < (cs.length : Int)) → ∀ r ∈ roots.take (j + 1), 0 ≤ r ∧ r < (cs.length : Int)) := ⟨fun hh r hr => by
        rw [List.take_add_one, List.getElem?_eq_getElem hlt, List.mem_append] at hr
        rcases hr with hr | hr
        · exact HA.out r hr
        · have : r = roots.getD j 0 := by rw [List.getD_eq_getElem?_getD, List.getElem?_eq_getElem hlt]; simpa using hr
          rw [this]; exact hh⟩
      generalize roots.getD j 0 = r at *
      have g0 := cell_regrown p0
      have g1 := cell_regrown p1
      have g2 := cell_regrown r0
      clear r0 hrm
      by_cases hr0 : r < 0
      · have HF := Sld.mk (HNR.out (by omega))
        clear HNR HST
        go_wp2_with fail
        refine wp_region_quiet_below (by kernel_rfl) (by kernel_rfl) ?_
        iterate 17 (go_big_quiet_step (fail))
        refine wpQuiet_nil ?_
        intro _ hw'
        obtain ⟨⟨dq, oss⟩, hw''⟩ := hw'
        subst hw''
        have HBX := Sld.mk ((HP.out _ (HB.out.trans ((below_regrown wr dq oss).mono HB.out.size))).2.2)
        go_wp2_with fail
        go_ret
        exact ⟨⟨1, rfl, .inr ⟨rfl, HF.out⟩⟩, HBX.out⟩
      · by_cases hr1 : r < (cs.length : Int)
        · have HS := Sld.mk (HST.out ⟨by omega, hr1⟩)
          have e0 : decide (r < 0) = false := by simp; omega
          have e1 : decide ((cs.length : Int) ≤ r) = false := by simp; omega
          clear HNR HST
          go_wp2_with fail
          refine wp_region_quiet_below (by kernel_rfl) (by kernel_rfl) ?_
          iterate 17 (go_big_quiet_step (fail))
          refine wpQuiet_nil ?_
          intro _ hw'
          obtain ⟨⟨dq, oss⟩, hw''⟩ := hw'
          subst hw''
          have HBX : Sld (Below W1.heap.size W1 (grow (redrawn wr dq) oss)) := ⟨HB.out.trans ((below_regrown wr dq oss).mono HB.out.size)⟩
          go_wp2_with fail
          exact ⟨⟨j + 1, by omega, by go_num, HS, HBX⟩, by simp [RowKit.intOf]; omega⟩
        · have HF := Sld.mk (HNR.out (by omega))
          have e0 : decide (r < 0) = false := by simp; omega
          have e1 : decide ((cs.length : Int) ≤ r) = true := by simp; omega
          clear HNR HST
          go_wp2_with fail
          refine wp_region_quiet_below (by kernel_rfl) (by kernel_rfl) ?_
          iterate 17 (go_big_quiet_step (fail))
          refine wpQuiet_nil ?_
          intro _ hw'
          obtain ⟨⟨dq, oss⟩, hw''⟩ := hw'
          subst hw''
          have HBX := Sld.mk ((HP.out _ (HB.out.trans ((below_regrown wr dq oss).mono HB.out.size))).2.2)
          go_wp2_with fail
          go_ret
          exact ⟨⟨1, rfl, .inr ⟨rfl, HF.out⟩⟩, HBX.out⟩
    · have hje : j = roots.length := by omega
      subst hje
      rw [List.take_length] at HA
      obtain ⟨W3, hW3⟩ : ∃ W3, wr.alloc (.map #[] 0) = W3 := ⟨_, rfl⟩
      obtain ⟨SB, hSB⟩ : ∃ SB, wr.heap.size = SB := ⟨_, rfl⟩
      have hT3 : TxM W3 SB [] := by rw [← hW3, ← hSB]; exact TxM.made wr
      have hB3 : Below W1.heap.size W1 W3 := by rw [← hW3]; exact HB.out.alloc HB.out.size _
      have HSB : Sld (W1.heap.size ≤ SB) := ⟨by rw [← hSB]; exact HB.out.size⟩
      have CE := Sld.mk (cells_any cs (.slice ra roots.length rc) ca cc W3 (HC1.out.below hB3 hB3.size) h1 HM2.out ⟨_, _, _, rfl⟩)
      obtain ⟨l, hl⟩ : ∃ l, cellsL cs = l := ⟨_, rfl⟩
      have HLL := Sld.mk hl
      rw [hl] at CE HLC HF1 HF2 HF3 HN
      have hl8 := HLC.out
      obtain ⟨q0, q1, _⟩ := HP.out W3 hB3
      have HT3 := Sld.mk hT3
      have HB3 := Sld.mk hB3
      have HW3 := Sld.mk hW3
      have HSE := Sld.mk hSB
      clear hW3 hSB hT3 hB3 HB hl
      have hmm := @run_makeMap Tryz.prog
      go_wp2_with (rw [HW3.out])
      refine CE.out.mono ?_
      rintro e w5 ⟨la, lc, rfl, hcel, hb5⟩
      rw [HSE.out]
      have hT5 := HT3.out.below hb5
      have HCE := Sld.mk hcel
      obtain ⟨es5, c5, hm5⟩ := hT5.obj
      have hB5 : Below W1.heap.size W1 w5 := HB3.out.trans (hb5.mono HB3.out.size)
      have HSW : Sld (∀ V, w5.grownBy V (some SB) → V.cell? ⟨w.heap.size, 0, none⟩ = some (.slice ca cs.length cc) ∧ V.cell? ⟨w.heap.size, 1, none⟩ = some (.slice ra roots.length rc) ∧ Ints V V.heap.size (.slice ra roots.length rc) roots ∧ Clss V V.heap.size (.slice ca cs.length cc) cs ∧ Cels V V.heap.size (.slice la l.length lc) l ∧ Below w.heap.size w V ∧ SB < V.heap.size) := ⟨fun V hg => by
        have hc : ∀ p v, w5.cell? p = some v → V.cell? p = some v := fun p v h => cell_keptM hm5 hg h
        have hsz : w5.heap.size ≤ V.heap.size := by obtain ⟨_, _, _, h4, _⟩ := hg; exact h4
        obtain ⟨a0, a1, a2⟩ := HP.out w5 hB5
        have hw5 : w.heap.size ≤ w5.heap.size := Nat.le_trans HB1.out.size hB5.size
        exact ⟨hc _ _ a0, hc _ _ a1, (HR1.out.below hB5 hB5.size).same hc hsz, (HC1.out.below hB5 hB5.size).same hc hsz, HCE.out.same hc hsz, a2.grown hg hw5 (fun b hb => by injection hb with hb; rw [← hb]; exact Nat.le_trans HB1.out.size HSB.out), Nat.lt_of_lt_of_le hT5.lt hsz⟩⟩
      have HT5 := Sld.mk hT5
      have HM5 := Sld.mk hm5
      clear hT5 hm5 hcel hb5 hB5 hmm CE q0 q1 p0 p1
      go_wp2_with fail
      go_loopw [6] (fun q wr => ∃ j : Nat, j ≤ l.length ∧ q = .int .i64 j ∧ Sld (CkO cs.length l j) ∧ Sld (TxM wr SB ((l.take j).map fun c => keyB c.1)) ∧ Sld (w5.grownBy wr (some SB))) (fun q _ => l.length - (RowKit.intOf q).toNat)
      case atStart => exact ⟨0, by omega, rfl, ⟨CkO.start _ _⟩, ⟨by simpa using HT5.out⟩, ⟨grown_of_below (Below.refl _ _) _⟩⟩
      case round =>
        clear HT5
        rename World => Y
        obtain ⟨j, hj, rfl, HO, HT, HG⟩ := hrel
        obtain ⟨p0, p1, _, _, HCV, HBV, hSY⟩ := HSW.out Y HG.out
        by_cases hlt : j < l.length
        · obtain ⟨lb, lo, ka, kc, rfl, hlb, hnd, l4⟩ := HCV.cell hlt
          have hmem : l.getD j ce0 ∈ l := by
            rw [List.getD_eq_getElem?_getD, List.getElem?_eq_getElem hlt]; exact List.getElem_mem _
          have hNx := HN.out _ hmem
          have HSTEP : Sld (formB (l.getD j ce0).1 = true → (∀ k ∈ (l.getD j ce0).1.kids, 0 ≤ k ∧ k < (cs.length : Int)) → (l.getD j ce0).1 ∉ (l.take j).map (·.1) → CkO cs.length l (j + 1)) := ⟨fun a b c => HO.out.step hlt a b c⟩
          have HKS : Sld (formB (l.getD j ce0).1 = true → (keyB (l.getD j ce0).1 ∈ (l.take j).map (fun c => keyB c.1) ↔ (l.getD j ce0).1 ∈ (l.take j).map (·.1))) := ⟨fun a => key_seen HO.out hlt a (fun c hc => ⟨(HN.out c hc).1, (HN.out c hc).2.2⟩)⟩
          have HDUP : Sld ((l.getD j ce0).1 ∈ (l.take j).map (·.1) → B = false) := ⟨fun a => HF3.out (seen_dup hlt a)⟩
          have HFM := Sld.mk (HF1.out _ hmem)
          have HKD := Sld.mk (HF2.out _ hmem)
          have HTK := Sld.mk (cells_fst_take l j hlt)
          have hTl : ((l.take j).map fun c => keyB c.1).length ≤ 8192 := by simp; omega
          generalize l.getD j ce0 = ce at *
          obtain ⟨⟨op, nn, nm, ks⟩, cq⟩ := ce
          obtain ⟨d0, d1, d2, d3, hki⟩ := hnd
          simp only at d0 d1 d2 d3 hki l4 hNx
          obtain ⟨hn6, hnms, hk6⟩ := hNx
          obtain ⟨_, hkc1, hkc2⟩ := hki.bnd
          obtain ⟨Y1, hY1⟩ : ∃ Y1, Y.alloc (.cells #[.int .i64 op, .int .i64 nn, .string nm, .slice ka ks.length kc] 41) = Y1 := ⟨_, rfl⟩
          obtain ⟨xb, hxb⟩ : ∃ xb, Y.heap.size = xb := ⟨_, rfl⟩
          have hbY1 : Below Y.heap.size Y Y1 := by rw [← hY1]; exact (Below.refl _ _).alloc (Nat.le_refl _) _
          have hx1 : Y1.heap[xb]? = some (.cells #[.int .i64 op, .int .i64 nn, .string nm, .slice ka ks.length kc] 41 (0, 0)) := by rw [← hY1, ← hxb, Deep.blk_alloc_new]
          have hs1 : Y1.heap.size = xb + 1 := by rw [← hY1, ← hxb]; simp
          have cF := Sld.mk (form_any op nn nm ka ks.length kc Y1 (by unfold maxLen; omega) (by unfold maxLen; omega))
          have HX1 := Sld.mk hx1
          have HXS := Sld.mk hs1
          have HY1B : Sld (Below xb Y Y1) := ⟨by rw [← hxb]; exact hbY1⟩
          have HY1 := Sld.mk hY1
          have HXB := Sld.mk hxb
          have HSX : Sld (SB < xb) := ⟨by omega⟩
          have HKI : Sld (Ints Y xb (.slice ka ks.length kc) ks) := ⟨by rw [← hxb]; exact hki⟩
          have HK6 := Sld.mk hk6
          obtain ⟨x0, x1, x2, x3⟩ := blk4N hx1
          rw [← hxb] at x0 x1 x2 x3
          cases hF : fitB op nn nm ks.length with
          | false =>
            have HBF := Sld.mk (HFM.out (by show ¬ fitB op nn nm ks.length = true; rw [hF]; simp))
            rw [hF] at cF
            have HBW := Sld.mk (HBV.trans ((hbY1).mono HBV.size))
            clear HSTEP HKS HDUP HFM HKD HTK hY1 hbY1 hx1 hs1 hxb hki
            go_wp2_with (rw [HY1.out])
            refine cF.out.mono ?_
            rintro e w6 ⟨rfl, hb6⟩
            have HB6 := Sld.mk (HBW.out.trans (hb6.mono HBW.out.size))
            clear hb6 cF
            go_wp2_with fail
            go_ret
            exact ⟨⟨1, rfl, .inr ⟨rfl, HBF.out⟩⟩, HB6.out⟩
          | true =>
            rw [hF] at cF
            have hFm : formB (⟨op, nn, nm, ks⟩ : Nd) = true := hF
            have hk3 : ks.length ≤ 3 := formB_kids hFm
            have HKS2 := Sld.mk (HKS.out hFm)
            have HST2 := Sld.mk (HSTEP.out hFm)
            have HBYW := Sld.mk HBV
            have hks : (keyB (⟨op, nn, nm, ks⟩ : Nd)).size ≤ maxLen := by
              have := keyB_size (x := ⟨op, nn, nm, ks⟩) hk3
              unfold maxLen; simp only at this; omega
            have cK : Sld (∀ V, Below xb Y V → Calls Tryz.prog 31 #[.agg #[.int .i64 op, .int .i64 nn, .string nm, .slice ka ks.length kc]] V fun e w' => e = .returned (.string (keyB ⟨op, nn, nm, ks⟩)) ∧ Below V.heap.size V w') := ⟨fun V hV => key_any ⟨op, nn, nm, ks⟩ ka kc V (HKI.out.below hV (by have := hV.size; omega)) hFm hn6 HK6.out⟩
            simp only at HTK HDUP HKD HKS2 HST2
            generalize keyB (⟨op, nn, nm, ks⟩ : Nd) = key at *
            have HTX : Sld (∀ V, Below xb Y V → TxM V SB ((l.take j).map fun c => keyB c.1)) := ⟨fun V hV => HT.out.below (by rw [HXB.out]; exact hV)⟩
            clear HSTEP HKS HFM hY1 hbY1 hx1 hs1 hki hFm hF HN hxb
            go_wp2_with (rw [HY1.out])
            refine cF.out.mono ?_
            rintro e w6 ⟨rfl, hb6⟩
            have HB6 : Sld (Below xb Y w6) := ⟨HY1B.out.trans (hb6.mono (by have := HXS.out; omega))⟩
            have hx6 := (hb6.block xb (by have := HXS.out; omega)).trans HX1.out
            obtain ⟨y0, y1, y2, y3⟩ := blk4N hx6
            have CK6 := Sld.mk (cK.out w6 HB6.out)
            have HX6 := Sld.mk hx6
            rw [HXB.out]
            clear hb6 cF x0 x1 x2 x3 hx6
            go_wp2_with fail
            refine CK6.out.mono ?_
            rintro e w7 ⟨rfl, hb7⟩
            have hsz6 : xb < w6.heap.size := lt_of_block HX6.out
            have HB7 : Sld (Below xb Y w7) := ⟨HB6.out.trans (hb7.mono (by omega))⟩
            have hx7 := (hb7.block xb hsz6).trans HX6.out
            obtain ⟨z0, z1, z2, z3⟩ := blk4N hx7
            have hT7 := HTX.out w7 HB7.out
            have HX7 := Sld.mk hx7
            have CK7 := Sld.mk (cK.out w7 HB7.out)
            clear hb7 CK6 y0 y1 y2 y3 hx7
            by_cases hseen : key ∈ (l.take j).map fun c => keyB c.1
            · have hlk := hT7.look hks (b := true) ⟨fun _ => hseen, fun _ => rfl⟩
              have HBF := Sld.mk (HDUP.out (HKS2.out.1 hseen))
              have HBW := Sld.mk (HBYW.out.trans (HB7.out.mono (by have := HBYW.out.size; have := HXB.out; omega)))
              clear hT7
              go_wp2_with fail
              go_ret
              exact ⟨⟨1, rfl, .inr ⟨rfl, HBF.out⟩⟩, HBW.out⟩
            · have hlk := hT7.look hks (b := false) ⟨fun h => absurd h (by simp), fun h => absurd h hseen⟩
              have HNS := Sld.mk (fun h => hseen (HKS2.out.2 h))
              clear hT7 hseen
              go_wp2_with fail
              refine CK7.out.mono ?_
              rintro e w8 ⟨rfl, hb8⟩
              have hsz7 : xb < w7.heap.size := lt_of_block HX7.out
              have HB8 : Sld (Below xb Y w8) := ⟨HB7.out.trans (hb8.mono (by omega))⟩
              have hx8 := (hb8.block xb hsz7).trans HX7.out
              have hT8 := HTX.out w8 HB8.out
              obtain ⟨es8, c8, hm8⟩ := hT8.obj
              obtain ⟨w9, hput, hT9, hg9⟩ := hT8.put (s := key) (by unfold maxLen; omega) hks
              have hx9 := (hg9.block xb (lt_of_block hx8) (fun e => by injection e with e; have := HSX.out; omega)).trans hx8
              have HX9 := Sld.mk hx9
              have hI8 := HKI.out.below HB8.out (Nat.le_refl _)
              have hsz9 : w8.heap.size ≤ w9.heap.size := by obtain ⟨_, _, _, h4, _⟩ := hg9; exact h4
              have HK9 := Sld.mk (hI8.same (B' := w9.heap.size) (fun p v h => cell_keptM hm8 hg9 h) (by have := lt_of_block hx8; omega))
              have hgY : w5.grownBy w8 (some SB) := grown_trans' HG.out (grown_of_below (by rw [HXB.out]; exact HB8.out) none) (fun b hb => by cases hb)
              have hg59 : w5.grownBy w9 (some SB) := grown_trans' hgY hg9 (fun b hb => .inl hb)
              rw [← HTK.out] at hT9
              have HT9 := Sld.mk hT9
              have HG9 := Sld.mk hg59
              clear hb8 CK7 hlk z0 z1 z2 z3 hx8 hT8 hm8 hT9 hg9 hx9 hI8 hgY hg59 hsz9 hsz6 hsz7 HTX HKS2 cK p0 p1 d0 d1 d2 d3 l4 HCV HBV
              go_wp2_with fail
              go_loopw [8] (fun q wr => ∃ t : Nat, t ≤ ks.length ∧ q = .int .i64 t ∧ Sld (∀ k ∈ ks.take t, 0 ≤ k ∧ k < (cs.length : Int)) ∧ Sld (Below w9.heap.size w9 wr)) (fun q _ => ks.length - (RowKit.intOf q).toNat)
              case atStart => exact ⟨0, by omega, rfl, ⟨by simp⟩, ⟨Below.refl _ _⟩⟩
              case round =>
                obtain ⟨t, ht, rfl, HA, HB⟩ := hrel
                have HGV : Sld (∀ V, Below wr.heap.size wr V → w5.grownBy V (some SB)) := ⟨fun V hV => grown_trans' HG9.out (grown_of_below (HB.out.trans (hV.mono HB.out.size)) none) (fun b hb => by cases hb)⟩
                obtain ⟨p0, p1, _, _, _, HBV, _⟩ := HSW.out wr (HGV.out wr (Below.refl _ _))
                obtain ⟨x0, x1, x2, x3⟩ := blk4N ((HB.out.block xb (lt_of_block HX9.out)).trans HX9.out)
                clear x0 x1 x2
                by_cases hlt2 : t < ks.length
                · obtain ⟨kb, ko, rfl, hkb, k0⟩ := (HK9.out.below HB.out HB.out.size).cellK hlt2
                  have hkm : ks.getD t 0 ∈ ks := by rw [List.getD_eq_getElem?_getD, List.getElem?_eq_getElem hlt2]; exact List.getElem_mem _
                  have HNR := Sld.mk (HKD.out _ hkm)
                  have HST : Sld ((0 ≤ ks.getD t 0 ∧ ks.getD t 0 < (cs.length : Int)) → ∀ k ∈ ks.take (t + 1), 0 ≤ k ∧ k < (cs.length : Int)) := ⟨fun hh k hk => by
                    rw [List.take_add_one, List.getElem?_eq_getElem hlt2, List.mem_append] at hk
                    rcases hk with hk | hk
                    · exact HA.out k hk
                    · have : k = ks.getD t 0 := by rw [List.getD_eq_getElem?_getD, List.getElem?_eq_getElem hlt2]; simpa using hk
                      rw [this]; exact hh⟩
                  generalize ks.getD t 0 = r at *
                  have g0 := cell_regrown p0
                  have g1 := cell_regrown x3
                  have g2 := cell_regrown k0
                  clear k0 hkm HBV
                  by_cases hr0 : r < 0
                  · have HF := Sld.mk (HNR.out (by omega))
                    clear HNR HST
                    go_wp2_with fail
                    refine wp_region_quiet_below (by kernel_rfl) (by kernel_rfl) ?_
                    iterate 17 (go_big_quiet_step (fail))
                    refine wpQuiet_nil ?_
                    intro _ hw'
                    obtain ⟨⟨dq, oss⟩, hw''⟩ := hw'
                    subst hw''
                    obtain ⟨_, _, _, _, _, hbx, _⟩ := HSW.out _ (HGV.out _ (below_regrown wr dq oss))
                    have HBX := Sld.mk hbx
                    clear hbx
                    go_wp2_with fail
                    go_ret
                    exact ⟨⟨1, rfl, .inr ⟨rfl, HF.out⟩⟩, HBX.out⟩
                  · by_cases hr1 : r < (cs.length : Int)
                    · have HS := Sld.mk (HST.out ⟨by omega, hr1⟩)
                      have e0 : decide (r < 0) = false := by simp; omega
                      have e1 : decide ((cs.length : Int) ≤ r) = false := by simp; omega
                      clear HNR HST
                      go_wp2_with fail
                      refine wp_region_quiet_below (by kernel_rfl) (by kernel_rfl) ?_
                      iterate 17 (go_big_quiet_step (fail))
                      refine wpQuiet_nil ?_
                      intro _ hw'
                      obtain ⟨⟨dq, oss⟩, hw''⟩ := hw'
                      subst hw''
                      have HBX : Sld (Below w9.heap.size w9 (grow (redrawn wr dq) oss)) := ⟨HB.out.trans ((below_regrown wr dq oss).mono HB.out.size)⟩
                      go_wp2_with fail
                      exact ⟨⟨t + 1, by omega, by go_num, HS, HBX⟩, by simp [RowKit.intOf]; omega⟩
                    · have HF := Sld.mk (HNR.out (by omega))
                      have e0 : decide (r < 0) = false := by simp; omega
                      have e1 : decide ((cs.length : Int) ≤ r) = true := by simp; omega
                      clear HNR HST
                      go_wp2_with fail
                      refine wp_region_quiet_below (by kernel_rfl) (by kernel_rfl) ?_
                      iterate 17 (go_big_quiet_step (fail))
                      refine wpQuiet_nil ?_
                      intro _ hw'
                      obtain ⟨⟨dq, oss⟩, hw''⟩ := hw'
                      subst hw''
                      obtain ⟨_, _, _, _, _, hbx, _⟩ := HSW.out _ (HGV.out _ (below_regrown wr dq oss))
                      have HBX := Sld.mk hbx
                      clear hbx
                      go_wp2_with fail
                      go_ret
                      exact ⟨⟨1, rfl, .inr ⟨rfl, HF.out⟩⟩, HBX.out⟩
                · have hte : t = ks.length := by omega
                  subst hte
                  rw [List.take_length] at HA
                  have HCO := Sld.mk (HST2.out HA.out HNS.out)
                  have HTE := Sld.mk (HT9.out.below HB.out)
                  have HGE := Sld.mk (HGV.out wr (Below.refl _ _))
                  go_wp2_with fail
                  exact ⟨⟨j + 1, by omega, by go_num, HCO, HTE, HGE⟩, by simp [RowKit.intOf]; omega⟩
        · have hje : j = l.length := by omega
          subst hje
          have hO := HO.out
          have hck : CellOk cs := by
            refine ⟨?_, ?_, ?_⟩ <;> rw [HLL.out]
            · have := hO.form; rw [List.take_length] at this; exact this
            · have := hO.kids; rw [List.take_length] at this; exact this
            · have := hO.nodup; rw [List.take_length] at this; exact this
          have HCK := Sld.mk hck
          have hin : InCs cs.length l := by have := hck.inCs; rw [HLL.out] at this; exact this
          obtain ⟨_, _, hRY, hCY, hCL, hBY, _⟩ := HSW.out Y HG.out
          have CA := Sld.mk (arrange_any cs.length Y la lc l ra rc roots hCL hRY hin h1 hl8 HA.out hrw)
          have HBY := Sld.mk hBY
          have HCY := Sld.mk hCY
          have HRY := Sld.mk hRY
          have HPY : Sld (∀ V, Below Y.heap.size Y V → V.cell? ⟨w.heap.size, 0, none⟩ = some (.slice ca cs.length cc) ∧ V.cell? ⟨w.heap.size, 1, none⟩ = some (.slice ra roots.length rc) ∧ Below w.heap.size w V) := ⟨fun V hV => by
            have hl0 := World.block_lt_of_cell? Y _ p0
            exact ⟨(hV.cell (p := ⟨w.heap.size, 0, none⟩) hl0).trans p0, (hV.cell (p := ⟨w.heap.size, 1, none⟩) hl0).trans p1, hBY.trans (hV.mono hBY.size)⟩⟩
          clear hO hck hin hRY hCY hCL hBY HCV HBV
          go_wp2_with fail
          refine CA.out.mono ?_
          rintro e w10 ⟨hq, hb10⟩
          obtain ⟨zs, hfix, hq⟩ := hq
          obtain ⟨p0, p1, hbw⟩ := HPY.out w10 hb10
          have hfix' : FixS cs.length (cellsL cs) (szLs zs) := by rw [HLL.out]; exact hfix
          rcases hq with ⟨⟨q, q0, q1, q2⟩, rfl⟩ | ⟨hM, p', al, a, c, ra', rc', hlst, hall, rfl, hcls, hints⟩
          · have HBF := Sld.mk (HNO.out (fun h => by have := (h.low hfix' q0 q1).2; omega))
            have HBW := Sld.mk hbw
            clear hfix hfix' hbw hb10 CA
            go_wp2_with fail
            go_ret
            exact ⟨⟨1, rfl, .inr ⟨rfl, HBF.out⟩⟩, HBW.out.alloc HBW.out.size _⟩
          · obtain ⟨W11, hW11⟩ : ∃ W11, w10.alloc (.cells #[.slice a cs.length c, .slice ra' roots.length rc'] 26) = W11 := ⟨_, rfl⟩
            have hb11 : Below w10.heap.size w10 W11 := by rw [← hW11]; exact (Below.refl _ _).alloc (Nat.le_refl _) _
            have hk11 : W11.heap[w10.heap.size]? = some (.cells #[.slice a cs.length c, .slice ra' roots.length rc'] 26 (0, 0)) := by rw [← hW11, Deep.blk_alloc_new]
            have r0 : W11.cell? ⟨w10.heap.size, 0, none⟩ = some (.slice a cs.length c) := by simp [World.cell?, hk11]
            have r1 : W11.cell? ⟨w10.heap.size, 1, none⟩ = some (.slice ra' roots.length rc') := by simp [World.cell?, hk11]
            have hbY : Below Y.heap.size Y W11 := hb10.trans (hb11.mono hb10.size)
            obtain ⟨p0, p1, hbw⟩ := HPY.out W11 hbY
            have hlen := arrC_len al cs.length (szLs zs) l
            have hS := samePicture_any cs (arrC al cs.length (szLs zs) l) roots (roots.map (plA al)) ca a ra ra' cc c rc rc' W11 (HCY.out.below hbY hbY.size) (by rw [hlen]; exact hcls.below hb11 hb11.size) (HRY.out.below hbY hbY.size) (by rw [List.length_map]; exact hints.below hb11 hb11.size) hlen
            rw [hlen, List.length_map] at hS
            have CS := Sld.mk hS
            have hlst' : LstO cs.length (cellsL cs) (szLs zs) (lsP' p') 1073741825 := by rw [HLL.out]; exact hlst
            have HRT : Sld (∀ r : Bool, (r = true ↔ roots = roots.map (plA al) ∧ ∀ i, i < cs.length → (clA cs i).nodes = (clA (arrC al cs.length (szLs zs) l) i).nodes ∧ (clA cs i).size = (clA (arrC al cs.length (szLs zs) l) i).size) → B = r) := ⟨fun r hr => by
              cases r with
              | true =>
                obtain ⟨e1, e2⟩ := hr.1 rfl
                have he : cs = arrC al cs.length (szLs zs) l := cs_ext hlen.symm e2
                exact HYES.out (doc_ok h1 HM2.out HA.out HCK.out hfix' hM (by omega) hlst' hall (by rw [HLL.out]; exact he.symm))
              | false =>
                refine HNO.out (fun h => ?_)
                obtain ⟨e1, e2⟩ := h.laid hfix' (by omega) hlst' hall
                rw [HLL.out] at e1
                have := hr.2 ⟨e2.symm, fun i hi => by rw [e1]; exact ⟨rfl, rfl⟩⟩
                cases this⟩
            have HW11 := Sld.mk hW11
            have HBW := Sld.mk hbw
            clear hfix hfix' hbw hb10 CA hcls hints hlst hlst' hall hS hlen hbY hW11 hb11 hk11
            go_wp2_with (rw [HW11.out])
            refine CS.out.mono ?_
            rintro e w12 ⟨⟨r, rfl, hr⟩, hb12⟩
            have HBF := Sld.mk (HRT.out r hr)
            have HBX := Sld.mk (HBW.out.trans (hb12.mono HBW.out.size))
            clear hr HRT hb12 CS
            cases r with
            | true =>
              go_wp2_with fail
              go_ret
              exact ⟨⟨0, rfl, .inl ⟨rfl, HBF.out⟩⟩, HBX.out⟩
            | false =>
              go_wp2_with fail
              go_ret
              exact ⟨⟨1, rfl, .inr ⟨rfl, HBF.out⟩⟩, HBX.out⟩
end Go.Proofs.YtlbmijcpalfaeaaGreatDoor

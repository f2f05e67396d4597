/-
  The walk of BoxParts.
-/
import Derived.Test.YteaipdmbdcmmeabBxValW
import Derived.Test.YteaipdmbdcmmeabBxHdW
import Derived.Test.YteaipdmbdcmmeabBxNearW
set_option linter.unusedSimpArgs false
set_option linter.unusedVariables false
namespace Go.Proofs.Yteaipdmbdcmmeab
open Go.RowKit Go.Sort

theorem getT_in (ts : List Tm) (k : Nat) (z : Int) (hk : k ≤ ts.length) (h0 : 0 ≤ z) (h1 : z < k) : getT (ts.take k) z = ts.getD z.toNat .nil := by
  have hl : (ts.take k).length = k := by simp; omega
  unfold getT
  rw [hl, if_pos ⟨h0, h1⟩]
  have : z.toNat < k := by omega
  simp [List.getElem?_take, this]
theorem getT_out (ts : List Tm) (k : Nat) (z : Int) (hk : k ≤ ts.length) (h : z < 0 ∨ (k : Int) ≤ z) : getT (ts.take k) z = .nil := by
  have hl : (ts.take k).length = k := by simp; omega
  unfold getT
  rw [hl, if_neg (by omega)]

set_option maxRecDepth 20000 in
set_option maxHeartbeats 2000000 in
theorem boxParts_walk (ao : Option Addr) (cap : Nat) (l : List Cl) (w : World) (hN : Cls w ao cap l) (hlen : l.length * 16 ≤ 140737488355328) :
    Calls Try.prog 3 #[.slice ao l.length cap] w fun e w' => e = .returned (.bool true) ∧ Below w.heap.size w w' := by
  have hm := hN.2.1
  have hl := hN.1
  unfold maxLen at hm
  have HN0 : Hid (Cls w ao cap l) := hN
  clear hN
  have cLn : Hid (∀ V, Calls Try.prog 11 #[.nilIface] V fun e w' => e = .returned (.tuple #[.int .i64 0, .bool false]) ∧ Below V.heap.size V w') := fun V => lit_any .nil trivial V
  have cOn : Hid (∀ V, Calls Try.prog 9 #[.nilIface] V fun e w' => e = .returned (.int .i64 0) ∧ Below V.heap.size V w') := fun V => op_any .nil trivial V
  have cPn : Hid (∀ V, Calls Try.prog 8 #[.nilIface] V fun e w' => ∃ ao, e = .returned (.slice ao 0 0) ∧ Below V.heap.size V w') := fun V => by
    refine (parts_rd .nil trivial V).mono ?_
    rintro e w' ⟨ao, n, rfl, h1, _, _, h3⟩
    have : n = 0 := by rw [h1]; rfl
    subst this
    exact ⟨ao, rfl, h3⟩
  go_enter Try.func3, Try.ntmps3
  go_wp2_with fail
  refine (awk3_any _).mono ?_
  rintro e w1 ⟨rfl, hb1⟩
  go_wp2_with fail
  refine (values_any ao cap l w1 (HN0.out.below hb1) hlen).mono ?_
  rintro e w2 ⟨ts, rfl, hV, htl, hG, hb2⟩
  have hb12 : Below w.heap.size w w2 := hb1.trans (hb2.mono hb1.size)
  have HB12 : Hid (Below w.heap.size w w2) := hb12
  have HN : Hid (Cls w2 ao cap l) := HN0.out.below hb12
  have HV : Hid (Vals l ts) := hV
  have HG : Hid (∀ j, j < l.length → w2.cell? ⟨w1.heap.size, j, none⟩ = some (tv (ts.getD j .nil))) := hG
  generalize w1.heap.size = G at *
  clear hb12 hV hG hb1 hb2 HN0 w1
  go_wp2_with fail
  go_loopw [4] (fun i wr => ∃ k : Nat, k ≤ l.length ∧ i = .int .i64 k ∧ Below w2.heap.size w2 wr) (fun i _ => l.length - (RowKit.intOf i).toNat)
  case atStart => exact ⟨0, by omega, rfl, Below.refl _ _⟩
  case round =>
    obtain ⟨k, hk, rfl, hbr⟩ := hrel
    obtain ⟨wo, hwo⟩ : ∃ wo, wo = wr := ⟨_, rfl⟩
    subst hwo
    by_cases hlt : k < l.length
    · obtain ⟨b, o, rfl, hbl, hc⟩ := (HN.out.below hbr).at_ hlt
      obtain ⟨c0, c1, c2, c3, c4, c5, c6⟩ := hc k hlt
      clear hc
      have hGlt : G < w2.heap.size := World.block_lt_of_cell? _ _ (HG.out k hlt)
      have hgc : Hid (∀ V, Below wo.heap.size wo V → ∀ j, j < l.length → V.cell? ⟨G, j, none⟩ = some (tv (ts.getD j .nil))) := fun V hV j hj => (hV.cell (p := ⟨G, j, none⟩) (Nat.lt_of_lt_of_le hGlt hbr.size)).trans ((hbr.cell (p := ⟨G, j, none⟩) hGlt).trans (HG.out j hj))
      have hkn := HV.out.kn k (by omega)
      obtain ⟨p, hp⟩ := HV.out.at_ k (by omega)
      have HOP : Hid (opT (ts.getD k .nil) = hopC (l.getD k cl0)) := by rw [Hid, hp]; exact mkT_op _ _ _
      have HPA : Hid (partsT (ts.getD k .nil) = (hkidsC (l.getD k cl0)).map (getT (ts.take k))) := by rw [Hid, hp]; exact mkT_parts _ _ _
      have HLI : Hid (isLit (ts.getD k .nil) = decide ((l.getD k cl0).kind = 1) ∧ (nT (ts.getD k .nil) = if (l.getD k cl0).kind = 1 then (l.getD k cl0).n else 0)) := by rw [Hid, hp]; exact mkT_lit _ _ _
      clear hp
      have HKN : Hid (Kn (ts.getD k .nil)) := hkn
      clear hkn
      obtain ⟨tk, htk⟩ : ∃ tk, ts.getD k .nil = tk := ⟨_, rfl⟩
      rw [htk] at HOP HPA HLI HKN
      have HTK : Hid (ts.getD k .nil = tk) := htk
      clear htk
      have cH := head_any (l.getD k cl0)
      have HC : Hid (ClAt wo b (o + k * 7) (l.getD k cl0)) := ⟨c0, c1, c2, c3, c4, c5, c6⟩
      have HBR : Hid (Below w2.heap.size w2 wo) := hbr
      clear hbr
      generalize l.getD k cl0 = x at *
      obtain ⟨kd, op, n, nm, a, bb, c⟩ := x
      simp only at c0 c1 c2 c3 c4 c5 c6 cH HLI
      have CH : Hid (∀ V, Calls Try.prog 7 #[.agg #[.int .i64 kd, .int .i64 op, .int .i64 n, .string nm, .int .i64 a, .int .i64 bb, .int .i64 c]] V fun e w' => HeadPost V ⟨kd, op, n, nm, a, bb, c⟩ e w') := cH
      clear cH
      go_wp2_with fail
      refine (CH.out _).mono ?_
      rintro e w3 ⟨ka, kn, kc, rfl, hkn, hk3, hkc, hkc3, hks, hb3⟩
      have HKS : Hid (kn = 0 ∨ ∃ g, ka = some ⟨g, 0, none⟩ ∧ ∀ j, j < kn → w3.cell? ⟨g, j, none⟩ = some (.int .i64 ((hkidsC ⟨kd, op, n, nm, a, bb, c⟩).getD j 0))) := hks
      have HKN2 : Hid (kn = (hkidsC ⟨kd, op, n, nm, a, bb, c⟩).length) := hkn
      clear hks hkn
      have v3 := hgc.out w3 hb3 k hlt
      rw [HTK.out] at v3
      go_wp2_with fail
      refine (parts_rd tk HKN.out.oth _).mono ?_
      rintro e w4 ⟨pa, pn, rfl, hpn, hp3, hps, hb4⟩
      have HPS : Hid (pn = 0 ∨ ∃ g, pa = some ⟨g, 0, none⟩ ∧ g < w4.heap.size ∧ ∀ j, j < pn → w4.cell? ⟨g, j, none⟩ = some (tv ((partsT tk).getD j .nil))) := hps
      have hpk : pn = kn := by rw [hpn, HPA.out, HKN2.out, List.length_map]
      clear hps hpn
      subst hpk
      have hb34 := hb3.trans (hb4.mono hb3.size)
      have v4 := hgc.out w4 hb34 k hlt
      rw [HTK.out] at v4
      go_wp2_with fail
      refine (op_any tk HKN.out.oth _).mono ?_
      rintro e w5 ⟨rfl, hb5⟩
      have hb35 := hb34.trans (hb5.mono hb34.size)
      have HB35 : Hid (Below wo.heap.size wo w5) := hb35
      have HB5 : Hid (Below w4.heap.size w4 w5) := hb5
      have HB4 : Hid (Below w3.heap.size w3 w4) := hb4
      rw [HOP.out]
      clear v3 v4 hb3 hb4 hb5 hb34 hb35 c1 c3 c4 c5 c6
      go_wp2_with fail
      go_loopw [8] (fun q wq => ∃ j : Nat, j ≤ pn ∧ q = .int .i64 j ∧ Below w5.heap.size w5 wq) (fun q _ => pn - (RowKit.intOf q).toNat)
      case atStart => exact ⟨0, by omega, rfl, Below.refl _ _⟩
      case round =>
        obtain ⟨j, hj, rfl, hbq⟩ := hrel
        by_cases hjl : j < pn
        · obtain ⟨kg, rfl, hkcell⟩ : ∃ g, ka = some ⟨g, 0, none⟩ ∧ ∀ j, j < pn → w3.cell? ⟨g, j, none⟩ = some (.int .i64 ((hkidsC ⟨kd, op, n, nm, a, bb, c⟩).getD j 0)) := by
            rcases HKS.out with h | h
            · omega
            · exact h
          obtain ⟨pg, rfl, hpgl, hpcell⟩ : ∃ g, pa = some ⟨g, 0, none⟩ ∧ g < w4.heap.size ∧ ∀ j, j < pn → w4.cell? ⟨g, j, none⟩ = some (tv ((partsT tk).getD j .nil)) := by
            rcases HPS.out with h | h
            · omega
            · exact h
          have e1 := hkcell j hjl
          have hkglt := World.block_lt_of_cell? _ _ e1
          have e2 := (HB4.out.cell (p := ⟨kg, j, none⟩) hkglt).trans e1
          have e3 := (HB5.out.cell (p := ⟨kg, j, none⟩) (Nat.lt_of_lt_of_le hkglt HB4.out.size)).trans e2
          have e4 : wr.cell? ⟨kg, j, none⟩ = some (.int .i64 ((hkidsC ⟨kd, op, n, nm, a, bb, c⟩).getD j 0)) := (hbq.cell (p := ⟨kg, j, none⟩) (Nat.lt_of_lt_of_le (Nat.lt_of_lt_of_le hkglt HB4.out.size) HB5.out.size)).trans e3
          have f1 := hpcell j hjl
          have f2 := (HB5.out.cell (p := ⟨pg, j, none⟩) hpgl).trans f1
          have f3 : wr.cell? ⟨pg, j, none⟩ = some (tv ((partsT tk).getD j .nil)) := (hbq.cell (p := ⟨pg, j, none⟩) (Nat.lt_of_lt_of_le hpgl HB5.out.size)).trans f2
          have hpz : (partsT tk).getD j .nil = getT (ts.take k) ((hkidsC ⟨kd, op, n, nm, a, bb, c⟩).getD j 0) := by
            have hjk : j < (hkidsC ⟨kd, op, n, nm, a, bb, c⟩).length := by rw [← HKN2.out]; exact hjl
            rw [HPA.out]; simp [hjk]
          rw [hpz] at f3
          clear e1 e2 e3 f1 f2 hpz hkcell hpcell HKS HPS
          generalize (hkidsC ⟨kd, op, n, nm, a, bb, c⟩).getD j 0 = z at *
          have HBQ : Hid (Below w5.heap.size w5 wr) := hbq
          by_cases hz : z < 0 ∨ (k : Int) ≤ z
          · rw [getT_out ts k z (by omega) hz] at f3
            unfold tv at f3
            by_cases hz0 : z < 0
            · go_wp2_with fail
              exact ⟨⟨j + 1, by omega, by go_num, HBQ.out⟩, by simp [RowKit.intOf]; omega⟩
            · have hz1 : (k : Int) ≤ z := by omega
              go_wp2_with fail
              exact ⟨⟨j + 1, by omega, by go_num, HBQ.out⟩, by simp [RowKit.intOf]; omega⟩
          · obtain ⟨y, rfl⟩ : ∃ y : Nat, z = (y : Int) := ⟨z.toNat, by omega⟩
            have hyk : y < k := by omega
            rw [getT_in ts k (y : Int) (by omega) (by omega) (by omega), Int.toNat_natCast] at f3
            have v5 := hgc.out wr (HB35.out.trans (hbq.mono HB35.out.size)) y (by omega)
            have hkny := HV.out.kn y (by omega)
            generalize ts.getD y .nil = ty at f3 v5 hkny
            have g0 := cell_regrown f3
            have g1 := cell_regrown e4
            have g2 := cell_regrown v5
            have cN : Hid (∀ d os, Calls Try.prog 10 #[tv ty, tv ty] (grow (redrawn wr d) os) fun e w'' => e = .returned (.bool true) ∧ ∃ p : Regrown, w'' = grow (redrawn wr p.d) p.os) := fun d os => Calls.regrown_of (near_same _ hkny _)
            have hy0 : ¬ (y : Int) < 0 := by omega
            have hy1 : ¬ (k : Int) ≤ (y : Int) := by omega
            have hy2 : (y : Int) < (l.length : Int) := by omega
            clear hz
            go_wp2_with fail
            refine wp_region_quiet_below (by kernel_rfl) (by kernel_rfl) ?_
            iterate 13 (go_big_quiet_step ((go_at_call 10; exact cN.out _ _)))
            refine wpQuiet_nil ?_
            intro _ hw'
            obtain ⟨⟨ds, oss⟩, hw''⟩ := hw'
            subst hw''
            go_wp2_with fail
            exact ⟨⟨j + 1, by omega, by go_num, HBQ.out.trans ((below_regrown wr ds oss).mono HBQ.out.size)⟩, by simp [RowKit.intOf]; omega⟩
        · have hje : j = pn := by omega
          subst hje
          have hbo : Below wo.heap.size wo wr := HB35.out.trans (hbq.mono HB35.out.size)
          have v6 := hgc.out wr hbo k hlt
          rw [HTK.out] at v6
          have HBO : Hid (Below wo.heap.size wo wr) := hbo
          clear hbo
          go_wp2_with fail
          refine (lit_any tk HKN.out.oth _).mono ?_
          rintro e w7 ⟨rfl, hb7⟩
          have hb37 := HBO.out.trans (hb7.mono HBO.out.size)
          have hC := HC.out.below hb37 hbl
          have d0 := hC.c0
          have d2 := hC.c2
          simp only at d0 d2
          rw [HLI.out.1, HLI.out.2]
          have HB37 : Hid (Below wo.heap.size wo w7) := hb37
          clear hC hb37 hb7 v6 c0 c2
          by_cases hkd : kd = 1
          · subst hkd
            simp only [decide_true, if_true]
            go_wp2_with fail
            refine ⟨⟨k + 1, by omega, by go_num, HBR.out.trans (HB37.out.mono HBR.out.size)⟩, by simp [RowKit.intOf]; omega⟩
          · have hkd2 : (kd == 1) = false := by simpa using hkd
            rw [decide_eq_false hkd, if_neg hkd]
            go_wp2_with fail
            refine ⟨⟨k + 1, by omega, by go_num, HBR.out.trans (HB37.out.mono HBR.out.size)⟩, by simp [RowKit.intOf]; omega⟩
    · have hke : k = l.length := by omega
      subst hke
      have HBR : Hid (Below w2.heap.size w2 wo) := hbr
      clear hbr
      go_wp2_with fail
      refine (cLn.out _).mono ?_
      rintro e w3 ⟨rfl, hb3⟩
      go_wp2_with fail
      refine (cOn.out _).mono ?_
      rintro e w4 ⟨rfl, hb4⟩
      go_wp2_with fail
      refine (cPn.out _).mono ?_
      rintro e w5 ⟨pa, rfl, hb5⟩
      go_wp2_with fail
      go_ret
      have q3 := HBR.out.trans (hb3.mono HBR.out.size)
      have q4 := q3.trans (hb4.mono q3.size)
      have q5 := q4.trans (hb5.mono q4.size)
      exact ⟨rfl, HB12.out.trans (q5.mono HB12.out.size)⟩
end Go.Proofs.Yteaipdmbdcmmeab

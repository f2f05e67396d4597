/-
  EvalKeeps, walked.
-/
import Derived.Test.YtkgfcamlfnlpoaaDoorEwLwW
import Derived.Test.YtkgfcamlfnlpoaaDoorEvSmW
import Derived.Test.YtkgfcamlfnlpoaaDoorRmKpW
set_option linter.unusedSimpArgs false
set_option linter.unusedVariables false
namespace Go.Proofs.YtkgfcamlfnlpoaaDoor
open Go.RowKit Go.Lib Go.Sort

theorem news2W (w : World) (a b : Value) (t : TypeId) : ∀ j u, [a, b][j]? = some u → (w.alloc (.cells #[a, b] t)).cell? ((⟨w.heap.size, 0, none⟩ : Addr).add j) = some u := by
  intro j u hj
  match j, hj with
  | 0, hj => simp at hj; subst hj; simp [Addr.add]
  | 1, hj => simp at hj; subst hj; simp [Addr.add]
theorem Bds.prefix {w : World} {ao : Option Addr} {cap : Nat} {l m : List Bd} (h : Bds w ao cap (l ++ m)) : Bds w ao cap l := by
  obtain ⟨⟨h1, h2, h3⟩, h4⟩ := h
  rw [List.length_append] at h1
  refine ⟨⟨by omega, h2, h3⟩, ?_⟩
  rcases h4 with h4 | ⟨b, o, rfl, hb, hc⟩
  · left; exact (List.append_eq_nil_iff.1 h4).1
  · right
    refine ⟨b, o, rfl, hb, fun i hi => ?_⟩
    have := hc i (by rw [List.length_append]; omega)
    have e : (l ++ m).getD i bd0 = l.getD i bd0 := by simp [List.getElem?_append_left hi]
    rw [e] at this
    exact this
theorem own_cap {w : World} {base g n c size : Nat} {e : TypeId} {xs : List Value} (h : w.ownsRow base e size (.slice (some ⟨g, 0, none⟩) n c) n xs) : n ≤ c ∧ c ≤ maxLen := by
  rcases h.2 with ⟨h0, _⟩ | ⟨g', cap', cur, hv, _, _, hn, hm, _⟩
  · cases h0
  · cases hv; exact ⟨hn, hm⟩
def mk71 : Bd := (⟨#[35]⟩, 71)

set_option maxRecDepth 20000 in
set_option maxHeartbeats 4000000 in
theorem evKeeps.walk (w : World) (ao : Option Addr) (cap : Nat) (l : List Nd) (bo : Option Addr) (cb : Nat) (m : List Nd) (eo : Option Addr) (ec : Nat) (bs : List Bd) (h : EvIn w ao cap l eo ec bs) (hF : FitR l) (hM : Rd w bo cb m) (hF2 : Fit m) (hcap : bs.length * 24 ≤ 140737488351232) :
    Calls Tryd.prog 8 #[.slice ao l.length cap, .slice bo m.length cb, .slice eo bs.length ec] w fun e w' => e = .returned (.bool true) ∧ Below w.heap.size w w' := by
  obtain ⟨i0, hi, hz0, hz1, hz2⟩ := info_parts Tryd.infoBind
  have HH : Hid (EvIn w ao cap l eo ec bs) := h
  have HF : Hid (FitR l) := hF
  have HM : Hid (Rd w bo cb m) := hM
  have cE : Hid (∀ V a c a' c', Below w.heap.size w V → Rd V a c l → Bds V a' c' bs → Calls Tryd.prog 24 #[.slice a l.length c, .slice a' bs.length c'] V fun e w' => e = .returned (.tuple #[.int .i64 (evA bs l).1, .int .i64 (evA bs l).2]) ∧ Below V.heap.size V w') := fun V a c a' c' hV hR hB => eval_any ⟨(h.below hV).T, (h.below hV).G, hR, hB, h.reach⟩
  have cO : Hid (∀ V a c a' c', Below w.heap.size w V → Rd V a c m → Bds V a' c' bs → Calls Tryd.prog 24 #[.slice a m.length c, .slice a' bs.length c'] V fun e w' => e = .returned (.tuple #[.int .i64 (evA bs m).1, .int .i64 (evA bs m).2]) ∧ Below V.heap.size V w') := fun V a c a' c' hV hR hB => eval_any ⟨(h.below hV).T, (h.below hV).G, hR, hB, h.reach⟩
  have cT : Hid (∀ V a c a' c', Below w.heap.size w V → Rd V a c l → Bds V a' c' bs → Calls Tryd.prog 27 #[.slice a l.length c, .slice a' bs.length c'] V fun e w' => e = .returned (.tuple #[.int .i64 (evT bs l).1, .int .i64 (evT bs l).2]) ∧ Below V.heap.size V w') := fun V a c a' c' hV hR hB => trap_any ⟨(h.below hV).T, (h.below hV).G, hR, hB, h.reach⟩
  have hbl := h.B.1.1
  have hbm := h.B.1.2.1
  unfold maxLen at hbm
  clear h hF hM
  generalize evA bs l = A at *
  generalize evA bs m = M at *
  generalize evT bs l = T at *
  obtain ⟨x1, x2⟩ := A
  obtain ⟨y1, y2⟩ := T
  obtain ⟨z1, z2⟩ := M
  simp only at cE cT cO
  go_enter Tryd.func8, Tryd.ntmps8
  go_wp2_with fail
  refine (awake8_any w HH.out.T HH.out.G).mono ?_
  rintro e w1 ⟨rfl, hb1⟩
  have B1 : Hid (Below w.heap.size w w1) := hb1
  clear hb1
  go_wp2_with fail
  refine (roomy_any ao cap l w1 (HH.out.below B1.out).R HF.out).mono ?_
  rintro e w2 ⟨R, vw, vf, vk, p, ks, rfl, hRO⟩
  obtain ⟨wa, wc, fb, fc, ka, kc, hRm⟩ := hRO.rd
  have B2 : Hid (Below w.heap.size w w2) := B1.out.trans (hRO.below.mono B1.out.size)
  have R2 : Hid (RoomRd w2 R l wa wc fb fc ka kc) := hRm
  clear hRO hRm B1
  go_wp2_with fail
  refine (copied8_any eo ec bs HH.out.reach w2 (HH.out.below B2.out).B).mono ?_
  rintro e w3 ⟨⟨v, rfl, hO⟩, hb3⟩
  obtain ⟨va, vc, hv⟩ := hO.form
  subst hv
  have hown : w3.ownsRow w2.heap.size 51 2 (.slice va bs.length vc) bs.length (bdCells bs) := hO
  have B3 : Hid (Below w2.heap.size w2 w3) := hb3
  have hs3 := hb3.size
  clear hb3 hO
  go_wp2_with (at_builtin; refine wpList_append_lies _ rfl (.tmp 24) (.tmp 26) 38 rfl w2.heap.size 51 i0 (.agg #[.string ⟨#[]⟩, .int .i64 0]) 2 24 Tryd.underlying38 hi hz0 hz1 hz2 rfl (by decide) _ _ _ (by simp [Act.eval, Act.put]) (hown.alloc _) ⟨w3.heap.size, 0, none⟩ 1 1 [.string ⟨#[35]⟩, .int .i64 71] (by simp [Act.eval, Act.put]) rfl (news2W w3 _ _ _) (by simp [Value.oneCell']) (by omega) (by unfold maxLen; omega) (by omega) (by simp; omega) _ rfl ?_; intro g6 cap6 w6 hown6 hg6 hat6 hl6; obtain ⟨hcp1, hcp2⟩ := own_cap hown6; have hcpI : (bs.length : Int) ≤ (cap6 : Int) := (by omega); unfold maxLen at hcp2)

  have hOF : OwnB w6 w2.heap.size (.slice (some ⟨g6, 0, none⟩) (bs ++ [mk71]).length cap6) (bs ++ [mk71]) := by
    show w6.ownsRow _ _ _ _ _ _
    rw [bdCells_append, List.length_append]
    exact hown6
  have b6 : Below w2.heap.size w2 w6 := by
    have b1 := B3.out.trans (((Below.refl w3.heap.size w3).alloc (Nat.le_refl _) (.cells #[.string ⟨#[35]⟩, .int .i64 71] 51)).mono hs3)
    exact b1.grown hg6 (by rw [World.size_alloc]; omega) (fun j hj => (hown.lt j hj).1)
  have B6 : Hid (Below w.heap.size w w6) := B2.out.trans (b6.mono B2.out.size)
  have R6 : Hid (RoomRd w6 R l wa wc fb fc ka kc) := R2.out.below b6
  have Q6 : Hid (Bds w6 (some ⟨g6, 0, none⟩) cap6 (bs ++ [mk71])) := by
    obtain ⟨ao', cap', h1, h2, _⟩ := hOF.read
    cases h1
    exact h2
  clear hOF hown6 hg6 hat6 hl6 b6 B3 R2 B2 hown hs3 hi hz0 hz1 hz2

  go_wp2_with fail
  refine (roomExpr R6.out).mono ?_
  rintro e w7 ⟨rfl, hb⟩
  have R7 : Hid (RoomRd w7 R l wa wc fb fc ka kc) := R6.out.below hb
  have Q7 : Hid (Bds w7 (some ⟨g6, 0, none⟩) cap6 (bs ++ [mk71])) := Q6.out.below hb
  have B7 : Hid (Below w.heap.size w w7) := B6.out.trans (hb.mono B6.out.size)
  clear hb R6 Q6 B6
  go_wp2_with fail
  refine (cE.out w7 (some ⟨fb, 0, none⟩) fc _ _ B7.out R7.out.full.prefix Q7.out.prefix).mono ?_
  rintro e w8 ⟨rfl, hb⟩
  have R8 : Hid (RoomRd w8 R l wa wc fb fc ka kc) := R7.out.below hb
  have Q8 : Hid (Bds w8 (some ⟨g6, 0, none⟩) cap6 (bs ++ [mk71])) := Q7.out.below hb
  have B8 : Hid (Below w.heap.size w w8) := B7.out.trans (hb.mono B7.out.size)
  clear hb R7 Q7 B7
  go_wp2_with fail
  refine (roomExpr R8.out).mono ?_
  rintro e w9 ⟨rfl, hb⟩
  have R9 : Hid (RoomRd w9 R l wa wc fb fc ka kc) := R8.out.below hb
  have Q9 : Hid (Bds w9 (some ⟨g6, 0, none⟩) cap6 (bs ++ [mk71])) := Q8.out.below hb
  have B9 : Hid (Below w.heap.size w w9) := B8.out.trans (hb.mono B8.out.size)
  clear hb R8 Q8 B8
  go_wp2_with fail
  refine (cT.out w9 (some ⟨fb, 0, none⟩) fc _ _ B9.out R9.out.full.prefix Q9.out.prefix).mono ?_
  rintro e w10 ⟨rfl, hb⟩
  have R10 : Hid (RoomRd w10 R l wa wc fb fc ka kc) := R9.out.below hb
  have Q10 : Hid (Bds w10 (some ⟨g6, 0, none⟩) cap6 (bs ++ [mk71])) := Q9.out.below hb
  have B10 : Hid (Below w.heap.size w w10) := B9.out.trans (hb.mono B9.out.size)
  clear hb R9 Q9 B9
  go_wp2_with fail
  refine (copyR (HM.out.below B10.out B10.out.size) hF2).mono ?_
  rintro e w11 ⟨ax, cx, rfl, hcr, hb⟩
  have R11 : Hid (RoomRd w11 R l wa wc fb fc ka kc) := R10.out.below hb
  have Q11 : Hid (Bds w11 (some ⟨g6, 0, none⟩) cap6 (bs ++ [mk71])) := Q10.out.below hb
  have B11 : Hid (Below w.heap.size w w11) := B10.out.trans (hb.mono B10.out.size)
  have CX : Hid (Rd w11 ax cx m) := hcr
  clear hcr
  clear hb R10 Q10 B10
  go_wp2_with fail
  refine (cO.out w11 ax cx _ _ B11.out CX.out Q11.out.prefix).mono ?_
  rintro e w12 ⟨rfl, hb⟩
  have R12 : Hid (RoomRd w12 R l wa wc fb fc ka kc) := R11.out.below hb
  have Q12 : Hid (Bds w12 (some ⟨g6, 0, none⟩) cap6 (bs ++ [mk71])) := Q11.out.below hb
  have B12 : Hid (Below w.heap.size w w12) := B11.out.trans (hb.mono B11.out.size)
  clear hb R11 Q11 B11
  go_wp2_with fail
  refine (roomExpr R12.out).mono ?_
  rintro e w13 ⟨rfl, hb⟩
  have R13 : Hid (RoomRd w13 R l wa wc fb fc ka kc) := R12.out.below hb
  have Q13 : Hid (Bds w13 (some ⟨g6, 0, none⟩) cap6 (bs ++ [mk71])) := Q12.out.below hb
  have B13 : Hid (Below w.heap.size w w13) := B12.out.trans (hb.mono B12.out.size)
  clear hb R12 Q12 B12
  go_wp2_with fail
  refine (cE.out w13 (some ⟨fb, 0, none⟩) fc _ _ B13.out R13.out.full.prefix Q13.out.prefix).mono ?_
  rintro e w14 ⟨rfl, hb⟩
  have R14 : Hid (RoomRd w14 R l wa wc fb fc ka kc) := R13.out.below hb
  have Q14 : Hid (Bds w14 (some ⟨g6, 0, none⟩) cap6 (bs ++ [mk71])) := Q13.out.below hb
  have B14 : Hid (Below w.heap.size w w14) := B13.out.trans (hb.mono B13.out.size)
  clear hb R13 Q13 B13
  go_wp2_with fail
  refine (roomExpr R14.out).mono ?_
  rintro e w15 ⟨rfl, hb⟩
  have R15 : Hid (RoomRd w15 R l wa wc fb fc ka kc) := R14.out.below hb
  have Q15 : Hid (Bds w15 (some ⟨g6, 0, none⟩) cap6 (bs ++ [mk71])) := Q14.out.below hb
  have B15 : Hid (Below w.heap.size w w15) := B14.out.trans (hb.mono B14.out.size)
  clear hb R14 Q14 B14
  go_wp2_with fail
  refine (cT.out w15 (some ⟨fb, 0, none⟩) fc _ _ B15.out R15.out.full.prefix Q15.out.prefix).mono ?_
  rintro e w16 ⟨rfl, hb⟩
  have R16 : Hid (RoomRd w16 R l wa wc fb fc ka kc) := R15.out.below hb
  have Q16 : Hid (Bds w16 (some ⟨g6, 0, none⟩) cap6 (bs ++ [mk71])) := Q15.out.below hb
  have B16 : Hid (Below w.heap.size w w16) := B15.out.trans (hb.mono B15.out.size)
  clear hb R15 Q15 B15
  have hq := neq_bind
  go_wp2_with fail
  go_loopw [18] (fun i wr => ∃ k : Nat, k ≤ bs.length ∧ i = .int .i64 k ∧ Below w16.heap.size w16 wr) (fun i _ => bs.length - (RowKit.intOf i).toNat)
  case atStart => exact ⟨0, by omega, rfl, Below.refl _ _⟩
  case round =>
    obtain ⟨k, hk, rfl, HB0⟩ := hrel
    have BW : Hid (Below w.heap.size w wr) := B16.out.trans (HB0.mono B16.out.size)
    have RW : Hid (RoomRd wr R l wa wc fb fc ka kc) := R16.out.below HB0
    have QW : Hid (Bds wr (some ⟨g6, 0, none⟩) cap6 (bs ++ [mk71])) := Q16.out.below HB0
    have HB1 : Hid (Below w16.heap.size w16 wr) := HB0
    by_cases hlt : k < bs.length
    · obtain ⟨b, o, hbe, hb, ⟨c0, c1⟩⟩ := (QW.out.prefix).at_ hlt
      cases hbe
      obtain ⟨b', o', rfl, hb', ⟨d0, d1⟩⟩ := ((HH.out.below BW.out).B).at_ hlt
      have hkl2 : (k : Int) < (bs.length : Int) := by omega
      generalize bs.getD k bd0 = x at *
      obtain ⟨x1, x2⟩ := x
      simp only [Nat.zero_add] at c0 c1 d0 d1
      clear HB0
      replace c0 := cell_regrown c0
      replace c1 := cell_regrown c1
      replace d0 := cell_regrown d0
      replace d1 := cell_regrown d1
      have hqq := fun w => (hq x1 x1 x2 x2 w)
      rw [decide_eq_true rfl] at hqq
      clear hq
      go_wp2_with fail
      refine wp_region_quiet_below (by kernel_rfl) (by kernel_rfl) ?_
      iterate 9 (go_big_quiet_step (fail))
      refine wpQuiet_nil ?_
      intro _ hw'
      obtain ⟨⟨ds, oss⟩, hw''⟩ := hw'
      subst hw''
      have b4 : Below w16.heap.size w16 (grow (redrawn wr ds) oss) := HB1.out.trans ((below_regrown wr ds oss).mono HB1.out.size)
      generalize grow (redrawn wr ds) oss = w6' at *
      clear c0 c1 d0 d1
      go_wp2_with fail
      exact ⟨⟨k + 1, by omega, by go_num, b4⟩, by simp [RowKit.intOf]; omega⟩
    · obtain rfl : k = bs.length := by omega
      have g71 := QW.out.at_ (i := bs.length) (by simp)
      obtain ⟨b, o, hbe, hb, hc⟩ := g71
      cases hbe
      have e71 : (bs ++ [mk71]).getD bs.length bd0 = mk71 := by simp
      rw [e71] at hc
      have c1 : wr.cell? ⟨g6, bs.length * 2 + 1, none⟩ = some (.int .i64 71) := by have := hc.c1; rw [Nat.zero_add] at this; exact this
      have hcp3 : (bs.length : Int) < (bs.length : Int) + 1 := by omega
      clear hc e71 hq HB0
      go_wp2_with fail
      refine (kept_any RW.out HF.out).mono ?_
      rintro e wz ⟨rfl, hb'⟩
      have c1z : wz.cell? ⟨g6, bs.length * 2 + 1, none⟩ = some (.int .i64 71) := (hb'.cell (p := ⟨g6, bs.length * 2 + 1, none⟩) hb).trans c1
      have BZ : Hid (Below w.heap.size w wz) := BW.out.trans (hb'.mono BW.out.size)
      clear hb' c1
      go_wp2_with fail
      go_ret
      exact ⟨rfl, BZ.out⟩
end Go.Proofs.YtkgfcamlfnlpoaaDoor

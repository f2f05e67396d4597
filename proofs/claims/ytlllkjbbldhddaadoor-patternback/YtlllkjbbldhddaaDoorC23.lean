/-
  PaBkW.
-/
import Derived.Test.YtlllkjbbldhddaaDoorChecked
import GoSem.PinnedTables
import GoSem.Claim
import GoSem.ClaimJoined
import GoSem.ClaimMapViews
import Derived.JoinedTies
import Derived.KernelRfl
import Derived.Shelf.Unicode.DecodeSlow
import Derived.Laws.RangeAny
import Derived.Shelf.Unicode.DecodeAny
import Derived.Test.YtlllkjbbldhddaaDoorProg
import Derived.WalkKit
import Derived.Deep.DeepFit
import Derived.Lib.OthersKept
import Derived.Lib.RuneCountTail
import Derived.Lib.LaidU8
import Derived.MakeChecks
import Derived.ProofKit
import Derived.OpenShut
import Derived.Deep.DeepHandedRow
import Derived.Deep.AppendLies
import Derived.Deep.OwnRows
import Derived.Laws.AppendOwnNone
import Derived.Deep.QuietTactic
import Derived.BigQuiet
import Derived.Deep.RegionWith
import Derived.Laws.DeepStrings4
import Derived.Deep.Slices
import Derived.SizedLaws
import Derived.Lib.MapLaws
import Derived.Sort.Walk0
import Derived.Lib.ItoaNum
import Derived.Maps.OwnSet
import Derived.StringKeys
import Derived.Below
import Derived.Laws.ResultCell
import Derived.Deep.RegionHeld3
import Derived.Deep.RegionLaw
import Derived.Lib.QuietBelow
import Derived.StillTail
import Derived.Deep.DeepCutAuto
import Derived.Laws.IdiomStrings
import Derived.WalkSmall
import Derived.Laws.OwnMore
import Derived.Test.YtlllkjbbldhddaaDoorRows
import Derived.Test.YtlllkjbbldhddaaDoorC01
import Derived.Test.YtlllkjbbldhddaaDoorC02
import Derived.Test.YtlllkjbbldhddaaDoorC03
import Derived.Test.YtlllkjbbldhddaaDoorC04
import Derived.Test.YtlllkjbbldhddaaDoorC05
import Derived.Test.YtlllkjbbldhddaaDoorC06
import Derived.Test.YtlllkjbbldhddaaDoorC07
import Derived.Test.YtlllkjbbldhddaaDoorC08
import Derived.Test.YtlllkjbbldhddaaDoorC09
import Derived.Test.YtlllkjbbldhddaaDoorC10
import Derived.Test.YtlllkjbbldhddaaDoorC11
import Derived.Test.YtlllkjbbldhddaaDoorC12
import Derived.Test.YtlllkjbbldhddaaDoorC13
import Derived.Test.YtlllkjbbldhddaaDoorC14
import Derived.Test.YtlllkjbbldhddaaDoorC15
import Derived.Test.YtlllkjbbldhddaaDoorC16
import Derived.Test.YtlllkjbbldhddaaDoorC17
import Derived.Test.YtlllkjbbldhddaaDoorC18
import Derived.Test.YtlllkjbbldhddaaDoorC19
import Derived.Test.YtlllkjbbldhddaaDoorC20
import Derived.Test.YtlllkjbbldhddaaDoorC21
import Derived.Test.YtlllkjbbldhddaaDoorC22
set_option linter.unusedSimpArgs false
set_option linter.unusedVariables false
namespace Go.Proofs.YtlllkjbbldhddaaDoor
open Go.RowKit Go.Lib Go.Maps Go.Deep Go.Sort

/-- Fill's contract, as the laws use it. -/
def FillK (l : List Nd) (ps : List (List Nd)) (X : List Nd) (c : Int) : Prop := ∀ (W : World) (ao pa : Option Addr) (cap pc : Nat), SpanCells W → Rd W ao cap l → (∀ x ∈ l, x.name.size ≤ maxLen) → Lst W W.heap.size (.slice pa ps.length pc) ps → Calls Tryd.prog 37 #[.slice ao l.length cap, .slice pa ps.length pc] W fun e w' => AnQ W X c e w'
/-- Fits' contract, as the laws use it. -/
def FitsK (l x : List Nd) (L : List (List Nd)) (c : Int) : Prop := ∀ (W : World) (ao bo : Option Addr) (cap cb : Nat), Tabs W → Rd W ao cap l → (∀ x ∈ l, x.name.size ≤ maxLen) → Rd W bo cb x → Calls Tryd.prog 40 #[.slice ao l.length cap, .slice bo x.length cb] W fun e w' => AnP W L c e w'
structure FillF (l : List Nd) (ps : List (List Nd)) (X : List Nd) (c : Int) : Prop where
  eq : flC l ps = c
  ok : c = 0 → sndB X = true ∧ hds X = flH ps (hlsL l) l
  no : c ≠ 0 → X = []
  call : FillK l ps X c
theorem fillF (l : List Nd) (ps : List (List Nd)) : ∃ X c, FillF l ps X c := by
  obtain ⟨X, h1, h2, h3⟩ := fillX l ps
  exact ⟨X, flC l ps, ⟨rfl, h1, h2, h3⟩⟩
theorem FillK.mk {l : List Nd} {ps : List (List Nd)} {X : List Nd} {c : Int} (h : FillK l ps X c) {W : World} {ao pa : Option Addr} {cap pc : Nat} (h1 : SpanCells W) (h2 : Rd W ao cap l) (h3 : ∀ x ∈ l, x.name.size ≤ maxLen) (h4 : RdP W pa pc ps) :
    Calls Tryd.prog 37 #[.slice ao l.length cap, .slice pa ps.length pc] W fun e w' => ∃ a c', e = .returned (.tuple #[.slice a X.length c', .int .i64 c]) ∧ Rd w' a c' X ∧ Below W.heap.size W w' := by
  refine (h W ao pa cap pc h1 h2 h3 h4).mono ?_
  rintro e w' ⟨v, rfl, ho, hb⟩
  obtain ⟨a, c', rfl, hr⟩ := Rd_of_own ho.n
  exact ⟨a, c', rfl, hr, hb⟩
theorem FitsK.mk {l x : List Nd} {L : List (List Nd)} {c : Int} (h : FitsK l x L c) {W : World} {ao bo : Option Addr} {cap cb : Nat} (h1 : Tabs W) (h2 : Rd W ao cap l) (h3 : ∀ x ∈ l, x.name.size ≤ maxLen) (h4 : Rd W bo cb x) :
    Calls Tryd.prog 40 #[.slice ao l.length cap, .slice bo x.length cb] W fun e w' => ∃ a c', e = .returned (.tuple #[.slice a L.length c', .int .i64 c]) ∧ RdP w' a c' L ∧ Below W.heap.size W w' := by
  refine (h W ao bo cap cb h1 h2 h3 h4).mono ?_
  rintro e w' ⟨v, A, rfl, hA, rfl, hb⟩
  have hl := hA.lst
  obtain ⟨a, c', rfl, _⟩ := id hl
  exact ⟨a, c', rfl, hl, hb⟩

set_option maxRecDepth 20000 in
set_option maxHeartbeats 4000000 in
theorem patternBack_walk (w : World) (a0 a1 a2 a3 : Option Addr) (c0 c1 c2 c3 : Nat) (l : List Nd) (ps : List (List Nd)) (x m : List Nd) (T : Tabs w) (hL : Rd w a0 c0 l) (hP : RdP w a1 c1 ps) (hE : Rd w a2 c2 x) (hM : Rd w a3 c3 m) (FL : FitX l) (FP : FitL ps) (FE : FitX x) (FM : FitX m) :
    Calls Tryd.prog 6 #[.slice a0 l.length c0, .slice a1 ps.length c1, .slice a2 x.length c2, .slice a3 m.length c3] w fun e w' => e = .returned (.bool true) ∧ Below w.heap.size w w' := by
  have H0 : Hid (StdB w a0 a1 a2 a3 c0 c1 c2 c3 l ps x m w) := ⟨Below.refl _ _, T, hL, hP, hE, hM⟩
  have hN : Hid (∀ x ∈ l, x.name.size ≤ maxLen) := FL.name
  have HFL : Hid (Fit l) := FL.fit
  have HFE : Hid (Fit x) := FE.fit
  have HFM : Hid (Fit m) := FM.fit
  have HFP : Hid (FitL ps) := FP
  have cW := awake14_any w T.spans
  obtain ⟨X, c, hF1⟩ := fillF l ps
  have HF1 : Hid (FillF l ps X c) := hF1
  obtain ⟨L, lc, hL2, cT⟩ := fitsX l x
  have HT2 : Hid (FtC l x L lc) := hL2
  have CT2 : Hid (FitsK l x L lc) := cT
  obtain ⟨Z, zc, hF3⟩ := fillF l L
  have HF3 : Hid (FillF l L Z zc) := hF3
  have hpb : ps.length ≤ 9223372036854775807 := by
    obtain ⟨_, _, e', h1, h2, _⟩ := id hP
    cases e'
    unfold maxLen at h2; omega
  clear T hL hP hE hM FL FP FE FM hF1 hL2 cT hF3
  go_enter Tryd.func6, Tryd.ntmps6
  go_wp2_with fail
  refine (cW).mono ?_
  rintro e w1 ⟨rfl, hb⟩
  have H1 : Hid (StdB w a0 a1 a2 a3 c0 c1 c2 c3 l ps x m w1) := H0.out.next hb
  clear hb H0
  clear cW
  go_wp2_with fail
  refine (copyR H1.out.rl HFL.out).mono ?_
  rintro e w2 ⟨u2, t2, rfl, hD, hb⟩
  have H2 : Hid (StdB w a0 a1 a2 a3 c0 c1 c2 c3 l ps x m w2) := H1.out.next hb
  have D2 : Hid (Rd w2 u2 t2 l) := hD
  clear hb H1
  go_wp2_with fail
  refine (copiesP H2.out.rp HFP.out).mono ?_
  rintro e w3 ⟨u3, t3, rfl, hP, hb⟩
  have H3 : Hid (StdB w a0 a1 a2 a3 c0 c1 c2 c3 l ps x m w3) := H2.out.next hb
  have D3 : Hid (Rd w3 u2 t2 l) := D2.out.below hb hb.size
  have P3 : Hid (RdP w3 u3 t3 ps) := hP
  clear hb H2 D2
  go_wp2_with fail
  refine (HF1.out.call.mk H3.out.tabs.spans D3.out hN.out P3.out).mono ?_
  rintro e w4 ⟨u4, t4, rfl, hR, hb⟩
  have H4 : Hid (StdB w a0 a1 a2 a3 c0 c1 c2 c3 l ps x m w4) := H3.out.next hb
  have X4 : Hid (Rd w4 u4 t4 X) := hR
  clear hb H3 D3 P3
  by_cases hc : c = 0
  · have hX := HF1.out.ok hc
    have hfl : flC l ps = 0 := HF1.out.eq.trans hc
    subst hc
    obtain ⟨L1, c5, hL1, cT1⟩ := fitsX l X
    obtain ⟨hq1, hq2⟩ := bk_fits hfl hX hL1
    have CT1 : Hid (FitsK l X L1 c5) := cT1
    have HX : Hid (flC l ps = 0 ∧ sndB X = true ∧ hds X = flH ps (hlsL l) l) := ⟨hfl, hX⟩
    clear hfl hX hL1 cT1 HF1
    subst hq1
    subst hq2
    go_wp2_with fail
    refine (copyR H4.out.rl HFL.out).mono ?_
    rintro e w5 ⟨u5, t5, rfl, hD, hb⟩
    have H5 : Hid (StdB w a0 a1 a2 a3 c0 c1 c2 c3 l L1 x m w5) := H4.out.next hb
    have X5 : Hid (Rd w5 u4 t4 X) := X4.out.below hb hb.size
    have D5 : Hid (Rd w5 u5 t5 l) := hD
    clear hb H4 X4
    go_wp2_with fail
    refine (copyR X5.out (fit_snd HX.out.2.1)).mono ?_
    rintro e w6 ⟨u6, t6, rfl, hE, hb⟩
    have H6 : Hid (StdB w a0 a1 a2 a3 c0 c1 c2 c3 l L1 x m w6) := H5.out.next hb
    have X6 : Hid (Rd w6 u4 t4 X) := X5.out.below hb hb.size
    have D6 : Hid (Rd w6 u5 t5 l) := D5.out.below hb hb.size
    have E6 : Hid (Rd w6 u6 t6 X) := hE
    clear hb H5 X5 D5
    go_wp2_with fail
    refine (CT1.out.mk H6.out.tabs D6.out hN.out E6.out).mono ?_
    rintro e w7 ⟨u7, t7, rfl, hQ, hb⟩
    have H7 : Hid (StdB w a0 a1 a2 a3 c0 c1 c2 c3 l L1 x m w7) := H6.out.next hb
    have X7 : Hid (Rd w7 u4 t4 X) := X6.out.below hb hb.size
    have Q7 : Hid (RdP w7 u7 t7 L1) := hQ
    clear hb H6 X6 D6 E6
    have cS := sameAll_any Q7.out H7.out.rp
    rw [decide_eq_true (rfl : L1 = L1)] at cS
    go_wp2_with fail
    refine (cS).mono ?_
    rintro e w8 ⟨rfl, hb⟩
    have H8 : Hid (StdB w a0 a1 a2 a3 c0 c1 c2 c3 l L1 x m w8) := H7.out.next hb
    have X8 : Hid (Rd w8 u4 t4 X) := X7.out.below hb hb.size
    clear hb H7 X7 Q7
    clear cS
    by_cases hp0 : 0 < L1.length
    · have hpi : (0 : Int) < (L1.length : Int) := by omega
      cases hsm : sndB m with
      | true =>
        have HSM : Hid (sndB m = true) := hsm
        clear hsm
        go_wp2_with fail
        refine (rchkR H8.out.rm HFM.out 0 (chkE_yes HSM.out)).mono ?_
        rintro e w9 ⟨rfl, hb⟩
        have H9 : Hid (StdB w a0 a1 a2 a3 c0 c1 c2 c3 l L1 x m w9) := H8.out.next hb
        have X9 : Hid (Rd w9 u4 t4 X) := X8.out.below hb hb.size
        clear hb H8 X8
        have HV : Hid (StdB w a0 a1 a2 a3 c0 c1 c2 c3 l L1 x m w9) := H9
        have XV : Hid (Rd w9 u4 t4 X) := X9
        obtain ⟨Y, yc, hF2⟩ := fillF l (L1.set 0 m)
        have HF2 : Hid (FillF l (L1.set 0 m) Y yc) := hF2
        clear hF2
        go_wp2_with fail
        refine (copiesA H9.out.rp HFP.out hp0).mono ?_
        rintro e w10 ⟨g8, t8, rfl, ht8, hm8, hA, hb⟩
        have H10 : Hid (StdB w a0 a1 a2 a3 c0 c1 c2 c3 l L1 x m w10) := H9.out.next hb
        have X10 : Hid (Rd w10 u4 t4 X) := X9.out.below hb hb.size
        have A10 : Hid (OwA w9 w10 g8 t8 L1.length L1) := hA
        clear hb H9 X9
        have hVU : w9.heap.size ≤ w10.heap.size := A10.out.below.size
        have A0 : Hid (OwA w9 w10 g8 t8 L1.length L1) := A10
        clear A10
        go_wp2_with fail
        refine (copyN H10.out.rm HFM.out).mono ?_
        rintro e w11 ⟨u9, n9, t9, rfl, hN9, hb⟩
        have H11 : Hid (StdB w a0 a1 a2 a3 c0 c1 c2 c3 l L1 x m w11) := H10.out.next hb
        have X11 : Hid (Rd w11 u4 t4 X) := X10.out.below hb hb.size
        have A1 : Hid (OwA w9 w11 g8 t8 L1.length L1) := A0.out.next hb
        have HN9 : Hid (OwnN w11 w10.heap.size (.slice u9 n9 t9) m) := hN9
        clear hb H10 X10
        obtain ⟨⟨u10, hcl⟩, hfz⟩ := A1.out.cell hp0
        have A2 : Hid (OwA w9 (w11.setCell ⟨g8, 0, none⟩ (.slice u9 n9 t9)) g8 t8 L1.length (L1.set 0 m)) := A1.out.set hp0 hVU HN9.out
        have H_S : Hid (StdB w a0 a1 a2 a3 c0 c1 c2 c3 l L1 x m (w11.setCell ⟨g8, 0, none⟩ (.slice u9 n9 t9))) := HV.out.next A2.out.below
        have X_S : Hid (Rd (w11.setCell ⟨g8, 0, none⟩ (.slice u9 n9 t9)) u4 t4 X) := XV.out.below A2.out.below A2.out.below.size
        clear A0 A1 HN9 HV XV hN9 H11 X11
        unfold maxLen at hm8
        go_wp2_with fail
        refine (copyR H_S.out.rl HFL.out).mono ?_
        rintro e w12 ⟨u11, t11, rfl, hD, hb⟩
        have H12 : Hid (StdB w a0 a1 a2 a3 c0 c1 c2 c3 l L1 x m w12) := H_S.out.next hb
        have X12 : Hid (Rd w12 u4 t4 X) := X_S.out.below hb hb.size
        have P12 : Hid (RdP w12 (some ⟨g8, 0, none⟩) t8 (L1.set 0 m)) := A2.out.rd.below hb
        have D12 : Hid (Rd w12 u11 t11 l) := hD
        clear hb hD H_S X_S A2 hcl hfz
        have cF := HF2.out.call.mk H12.out.tabs.spans D12.out hN.out P12.out
        rw [List.length_set] at cF
        clear D12 P12
        go_wp2_with fail
        refine (cF).mono ?_
        rintro e w13 ⟨u12, t12, rfl, hR, hb⟩
        have H13 : Hid (StdB w a0 a1 a2 a3 c0 c1 c2 c3 l L1 x m w13) := H12.out.next hb
        have X13 : Hid (Rd w13 u4 t4 X) := X12.out.below hb hb.size
        have Y13 : Hid (Rd w13 u12 t12 Y) := hR
        clear hb H12 X12
        clear cF hR
        by_cases hyc : yc = 0
        · have hY := HF2.out.ok hyc
          have hiff := bk_other HX.out.1 HX.out.2 (HF2.out.eq.trans hyc) hY
          subst hyc
          obtain ⟨r, hr⟩ : ∃ r, decide (X = Y) = r := ⟨_, rfl⟩
          have hr2 : decide (L1.getD 0 [] = m) = r := by
            rw [← hr]
            exact decide_eq_decide.2 ((set0_iff hp0).symm.trans hiff.symm)
          obtain ⟨pb, po, qa, qc, e1, hpb1, hc1, hn1⟩ := H13.out.rp.part (Below.refl _ _) hp0
          rw [e1]
          clear e1
          have FA := HFP.out.each _ (getD_mem (d := []) hp0)
          have cS1 : Hid (∀ d os, Calls Tryd.prog 15 #[.slice u4 X.length t4, .slice u12 Y.length t12] (grow (redrawn w13 d) os) fun e w'' => e = .returned (.bool r) ∧ ∃ p : Regrown, w'' = grow (redrawn w13 p.d) p.os) := fun d os => Calls.regrown_of (sameR (Rd.below X13.out (below_regrown w13 d os) (below_regrown w13 d os).size) (Rd.below Y13.out (below_regrown w13 d os) (below_regrown w13 d os).size) r hr)
          have cS2 : Hid (∀ d os, Calls Tryd.prog 15 #[.slice qa (L1.getD 0 []).length qc, .slice a3 m.length c3] (grow (redrawn w13 d) os) fun e w'' => e = .returned (.bool r) ∧ ∃ p : Regrown, w'' = grow (redrawn w13 p.d) p.os) := fun d os => Calls.regrown_of (sameR (Rd.below hn1 (below_regrown w13 d os) (below_regrown w13 d os).size) (Rd.below H13.out.rm (below_regrown w13 d os) (below_regrown w13 d os).size) r hr2)
          simp only [Nat.add_zero] at hc1
          have g1 := cell_regrown hc1
          clear hY hiff hr hr2 hn1 FA hc1
          generalize (L1.getD 0 []).length = l0 at *
          go_wp2_with fail
          refine wp_region_quiet_below (by kernel_rfl) (by kernel_rfl) ?_
          iterate 13 (go_big_quiet_step (first | (go_at_call_of 15 (Value.slice u4 X.length t4); exact cS1.out _ _) | (go_at_call_of 15 (Value.slice qa l0 qc); exact cS2.out _ _)))
          refine wpQuiet_nil ?_
          intro _ hw'
          obtain ⟨⟨ds, oss⟩, hw''⟩ := hw'
          subst hw''
          have hb := below_regrown w13 ds oss
          generalize grow (redrawn w13 ds) oss = w14 at *
          have H14 : Hid (StdB w a0 a1 a2 a3 c0 c1 c2 c3 l L1 x m w14) := H13.out.next hb
          clear hb H13 X13 Y13 cS1 cS2 g1 HF2
          go_wp2_with fail
          refine (copyR H14.out.rl HFL.out).mono ?_
          rintro e w15 ⟨ua, ta, rfl, hD, hb⟩
          have H15 : Hid (StdB w a0 a1 a2 a3 c0 c1 c2 c3 l L1 x m w15) := H14.out.next hb
          have D15 : Hid (Rd w15 ua ta l) := hD
          clear hb H14
          go_wp2_with fail
          refine (copyR H15.out.re HFE.out).mono ?_
          rintro e w16 ⟨ub, tb, rfl, hE, hb⟩
          have H16 : Hid (StdB w a0 a1 a2 a3 c0 c1 c2 c3 l L1 x m w16) := H15.out.next hb
          have D16 : Hid (Rd w16 ua ta l) := D15.out.below hb hb.size
          have E16 : Hid (Rd w16 ub tb x) := hE
          clear hb H15 D15
          go_wp2_with fail
          refine (CT2.out.mk H16.out.tabs D16.out hN.out E16.out).mono ?_
          rintro e w17 ⟨uc, tc, rfl, hQ, hb⟩
          have H17 : Hid (StdB w a0 a1 a2 a3 c0 c1 c2 c3 l L1 x m w17) := H16.out.next hb
          have Q17 : Hid (RdP w17 uc tc L) := hQ
          clear hb H16 D16 E16
          rcases HT2.out.ways with ⟨h1, h2, h3, h4⟩ | ⟨h1, h2, _⟩ | ⟨h1, h2, _⟩
          · obtain ⟨h5, h6⟩ := bk_fill h2 h3 h4 (fun h0 => HF3.out.ok (HF3.out.eq.symm.trans h0))
            have h7 : zc = 0 := HF3.out.eq.symm.trans h5
            clear h2 h3 h4 h5 HT2 CT2
            subst h1
            subst h7
            have h6 := h6.symm
            subst h6
            go_wp2_with fail
            refine (copyR H17.out.rl HFL.out).mono ?_
            rintro e w18 ⟨ud, td, rfl, hD, hb⟩
            have H18 : Hid (StdB w a0 a1 a2 a3 c0 c1 c2 c3 l L1 x m w18) := H17.out.next hb
            have Q18 : Hid (RdP w18 uc tc L) := Q17.out.below hb
            have D18 : Hid (Rd w18 ud td l) := hD
            clear hb H17 Q17
            go_wp2_with fail
            refine (HF3.out.call.mk H18.out.tabs.spans D18.out hN.out Q18.out).mono ?_
            rintro e w19 ⟨ue, te, rfl, hR, hb⟩
            have H19 : Hid (StdB w a0 a1 a2 a3 c0 c1 c2 c3 l L1 x m w19) := H18.out.next hb
            have Y19 : Hid (Rd w19 ue te x) := hR
            clear hb H18 Q18 D18
            go_wp2_with fail
            refine (sameR Y19.out H19.out.re true (by simp)).mono ?_
            rintro e w20 ⟨rfl, hb⟩
            have H20 : Hid (StdB w a0 a1 a2 a3 c0 c1 c2 c3 l L1 x m w20) := H19.out.next hb
            clear hb H19 Y19
            go_wp2_with fail
            go_ret
            exact ⟨rfl, H20.out.below⟩
          · clear HT2 CT2 HF3
            subst h1
            subst h2
            go_wp2_with fail
            go_ret
            exact ⟨rfl, H17.out.below⟩
          · clear HT2 CT2 HF3
            subst h1
            subst h2
            go_wp2_with fail
            go_ret
            exact ⟨rfl, H17.out.below⟩
        · have hyn : (yc == 0) = false := by rw [beq_eq_false_iff_ne]; exact hyc
          clear hyc HF2
          go_wp2_with fail
          refine wp_region_quiet_below (by kernel_rfl) (by kernel_rfl) ?_
          iterate 13 (go_big_quiet_step (fail))
          refine wpQuiet_nil ?_
          intro _ hw'
          obtain ⟨⟨ds, oss⟩, hw''⟩ := hw'
          subst hw''
          have hb := below_regrown w13 ds oss
          generalize grow (redrawn w13 ds) oss = w14 at *
          have H14 : Hid (StdB w a0 a1 a2 a3 c0 c1 c2 c3 l L1 x m w14) := H13.out.next hb
          clear hb H13 X13 Y13
          go_wp2_with fail
          refine (copyR H14.out.rl HFL.out).mono ?_
          rintro e w15 ⟨ua, ta, rfl, hD, hb⟩
          have H15 : Hid (StdB w a0 a1 a2 a3 c0 c1 c2 c3 l L1 x m w15) := H14.out.next hb
          have D15 : Hid (Rd w15 ua ta l) := hD
          clear hb H14
          go_wp2_with fail
          refine (copyR H15.out.re HFE.out).mono ?_
          rintro e w16 ⟨ub, tb, rfl, hE, hb⟩
          have H16 : Hid (StdB w a0 a1 a2 a3 c0 c1 c2 c3 l L1 x m w16) := H15.out.next hb
          have D16 : Hid (Rd w16 ua ta l) := D15.out.below hb hb.size
          have E16 : Hid (Rd w16 ub tb x) := hE
          clear hb H15 D15
          go_wp2_with fail
          refine (CT2.out.mk H16.out.tabs D16.out hN.out E16.out).mono ?_
          rintro e w17 ⟨uc, tc, rfl, hQ, hb⟩
          have H17 : Hid (StdB w a0 a1 a2 a3 c0 c1 c2 c3 l L1 x m w17) := H16.out.next hb
          have Q17 : Hid (RdP w17 uc tc L) := hQ
          clear hb H16 D16 E16
          rcases HT2.out.ways with ⟨h1, h2, h3, h4⟩ | ⟨h1, h2, _⟩ | ⟨h1, h2, _⟩
          · obtain ⟨h5, h6⟩ := bk_fill h2 h3 h4 (fun h0 => HF3.out.ok (HF3.out.eq.symm.trans h0))
            have h7 : zc = 0 := HF3.out.eq.symm.trans h5
            clear h2 h3 h4 h5 HT2 CT2
            subst h1
            subst h7
            have h6 := h6.symm
            subst h6
            go_wp2_with fail
            refine (copyR H17.out.rl HFL.out).mono ?_
            rintro e w18 ⟨ud, td, rfl, hD, hb⟩
            have H18 : Hid (StdB w a0 a1 a2 a3 c0 c1 c2 c3 l L1 x m w18) := H17.out.next hb
            have Q18 : Hid (RdP w18 uc tc L) := Q17.out.below hb
            have D18 : Hid (Rd w18 ud td l) := hD
            clear hb H17 Q17
            go_wp2_with fail
            refine (HF3.out.call.mk H18.out.tabs.spans D18.out hN.out Q18.out).mono ?_
            rintro e w19 ⟨ue, te, rfl, hR, hb⟩
            have H19 : Hid (StdB w a0 a1 a2 a3 c0 c1 c2 c3 l L1 x m w19) := H18.out.next hb
            have Y19 : Hid (Rd w19 ue te x) := hR
            clear hb H18 Q18 D18
            go_wp2_with fail
            refine (sameR Y19.out H19.out.re true (by simp)).mono ?_
            rintro e w20 ⟨rfl, hb⟩
            have H20 : Hid (StdB w a0 a1 a2 a3 c0 c1 c2 c3 l L1 x m w20) := H19.out.next hb
            clear hb H19 Y19
            go_wp2_with fail
            go_ret
            exact ⟨rfl, H20.out.below⟩
          · clear HT2 CT2 HF3
            subst h1
            subst h2
            go_wp2_with fail
            go_ret
            exact ⟨rfl, H17.out.below⟩
          · clear HT2 CT2 HF3
            subst h1
            subst h2
            go_wp2_with fail
            go_ret
            exact ⟨rfl, H17.out.below⟩
      | false =>
        have HSM : Hid (sndB m = false) := hsm
        clear hsm
        go_wp2_with fail
        refine (rchkR H8.out.rm HFM.out 1 (chkE_no HSM.out)).mono ?_
        rintro e w9 ⟨rfl, hb⟩
        have H9 : Hid (StdB w a0 a1 a2 a3 c0 c1 c2 c3 l L1 x m w9) := H8.out.next hb
        have X9 : Hid (Rd w9 u4 t4 X) := X8.out.below hb hb.size
        clear hb H8 X8
        go_wp2_with fail
        refine (copyR H9.out.rl HFL.out).mono ?_
        rintro e w10 ⟨ua, ta, rfl, hD, hb⟩
        have H10 : Hid (StdB w a0 a1 a2 a3 c0 c1 c2 c3 l L1 x m w10) := H9.out.next hb
        have X10 : Hid (Rd w10 u4 t4 X) := X9.out.below hb hb.size
        have D10 : Hid (Rd w10 ua ta l) := hD
        clear hb H9 X9
        go_wp2_with fail
        refine (copyR H10.out.re HFE.out).mono ?_
        rintro e w11 ⟨ub, tb, rfl, hE, hb⟩
        have H11 : Hid (StdB w a0 a1 a2 a3 c0 c1 c2 c3 l L1 x m w11) := H10.out.next hb
        have X11 : Hid (Rd w11 u4 t4 X) := X10.out.below hb hb.size
        have D11 : Hid (Rd w11 ua ta l) := D10.out.below hb hb.size
        have E11 : Hid (Rd w11 ub tb x) := hE
        clear hb H10 X10 D10
        go_wp2_with fail
        refine (CT2.out.mk H11.out.tabs D11.out hN.out E11.out).mono ?_
        rintro e w12 ⟨uc, tc, rfl, hQ, hb⟩
        have H12 : Hid (StdB w a0 a1 a2 a3 c0 c1 c2 c3 l L1 x m w12) := H11.out.next hb
        have X12 : Hid (Rd w12 u4 t4 X) := X11.out.below hb hb.size
        have Q12 : Hid (RdP w12 uc tc L) := hQ
        clear hb H11 X11 D11 E11
        rcases HT2.out.ways with ⟨h1, h2, h3, h4⟩ | ⟨h1, h2, _⟩ | ⟨h1, h2, _⟩
        · obtain ⟨h5, h6⟩ := bk_fill h2 h3 h4 (fun h0 => HF3.out.ok (HF3.out.eq.symm.trans h0))
          have h7 : zc = 0 := HF3.out.eq.symm.trans h5
          clear h2 h3 h4 h5 HT2 CT2
          subst h1
          subst h7
          have h6 := h6.symm
          subst h6
          go_wp2_with fail
          refine (copyR H12.out.rl HFL.out).mono ?_
          rintro e w13 ⟨ud, td, rfl, hD, hb⟩
          have H13 : Hid (StdB w a0 a1 a2 a3 c0 c1 c2 c3 l L1 x m w13) := H12.out.next hb
          have X13 : Hid (Rd w13 u4 t4 X) := X12.out.below hb hb.size
          have Q13 : Hid (RdP w13 uc tc L) := Q12.out.below hb
          have D13 : Hid (Rd w13 ud td l) := hD
          clear hb H12 X12 Q12
          go_wp2_with fail
          refine (HF3.out.call.mk H13.out.tabs.spans D13.out hN.out Q13.out).mono ?_
          rintro e w14 ⟨ue, te, rfl, hR, hb⟩
          have H14 : Hid (StdB w a0 a1 a2 a3 c0 c1 c2 c3 l L1 x m w14) := H13.out.next hb
          have X14 : Hid (Rd w14 u4 t4 X) := X13.out.below hb hb.size
          have Y14 : Hid (Rd w14 ue te x) := hR
          clear hb H13 X13 Q13 D13
          go_wp2_with fail
          refine (sameR Y14.out H14.out.re true (by simp)).mono ?_
          rintro e w15 ⟨rfl, hb⟩
          have H15 : Hid (StdB w a0 a1 a2 a3 c0 c1 c2 c3 l L1 x m w15) := H14.out.next hb
          have X15 : Hid (Rd w15 u4 t4 X) := X14.out.below hb hb.size
          clear hb H14 X14 Y14
          go_wp2_with fail
          go_ret
          exact ⟨rfl, H15.out.below⟩
        · clear HT2 CT2 HF3
          subst h1
          subst h2
          go_wp2_with fail
          go_ret
          exact ⟨rfl, H12.out.below⟩
        · clear HT2 CT2 HF3
          subst h1
          subst h2
          go_wp2_with fail
          go_ret
          exact ⟨rfl, H12.out.below⟩
    · have hpi : ¬ (0 : Int) < (L1.length : Int) := by omega
      go_wp2_with fail
      refine (copyR H8.out.rl HFL.out).mono ?_
      rintro e w9 ⟨ua, ta, rfl, hD, hb⟩
      have H9 : Hid (StdB w a0 a1 a2 a3 c0 c1 c2 c3 l L1 x m w9) := H8.out.next hb
      have X9 : Hid (Rd w9 u4 t4 X) := X8.out.below hb hb.size
      have D9 : Hid (Rd w9 ua ta l) := hD
      clear hb H8 X8
      go_wp2_with fail
      refine (copyR H9.out.re HFE.out).mono ?_
      rintro e w10 ⟨ub, tb, rfl, hE, hb⟩
      have H10 : Hid (StdB w a0 a1 a2 a3 c0 c1 c2 c3 l L1 x m w10) := H9.out.next hb
      have X10 : Hid (Rd w10 u4 t4 X) := X9.out.below hb hb.size
      have D10 : Hid (Rd w10 ua ta l) := D9.out.below hb hb.size
      have E10 : Hid (Rd w10 ub tb x) := hE
      clear hb H9 X9 D9
      go_wp2_with fail
      refine (CT2.out.mk H10.out.tabs D10.out hN.out E10.out).mono ?_
      rintro e w11 ⟨uc, tc, rfl, hQ, hb⟩
      have H11 : Hid (StdB w a0 a1 a2 a3 c0 c1 c2 c3 l L1 x m w11) := H10.out.next hb
      have X11 : Hid (Rd w11 u4 t4 X) := X10.out.below hb hb.size
      have Q11 : Hid (RdP w11 uc tc L) := hQ
      clear hb H10 X10 D10 E10
      rcases HT2.out.ways with ⟨h1, h2, h3, h4⟩ | ⟨h1, h2, _⟩ | ⟨h1, h2, _⟩
      · obtain ⟨h5, h6⟩ := bk_fill h2 h3 h4 (fun h0 => HF3.out.ok (HF3.out.eq.symm.trans h0))
        have h7 : zc = 0 := HF3.out.eq.symm.trans h5
        clear h2 h3 h4 h5 HT2 CT2
        subst h1
        subst h7
        have h6 := h6.symm
        subst h6
        go_wp2_with fail
        refine (copyR H11.out.rl HFL.out).mono ?_
        rintro e w12 ⟨ud, td, rfl, hD, hb⟩
        have H12 : Hid (StdB w a0 a1 a2 a3 c0 c1 c2 c3 l L1 x m w12) := H11.out.next hb
        have X12 : Hid (Rd w12 u4 t4 X) := X11.out.below hb hb.size
        have Q12 : Hid (RdP w12 uc tc L) := Q11.out.below hb
        have D12 : Hid (Rd w12 ud td l) := hD
        clear hb H11 X11 Q11
        go_wp2_with fail
        refine (HF3.out.call.mk H12.out.tabs.spans D12.out hN.out Q12.out).mono ?_
        rintro e w13 ⟨ue, te, rfl, hR, hb⟩
        have H13 : Hid (StdB w a0 a1 a2 a3 c0 c1 c2 c3 l L1 x m w13) := H12.out.next hb
        have X13 : Hid (Rd w13 u4 t4 X) := X12.out.below hb hb.size
        have Y13 : Hid (Rd w13 ue te x) := hR
        clear hb H12 X12 Q12 D12
        go_wp2_with fail
        refine (sameR Y13.out H13.out.re true (by simp)).mono ?_
        rintro e w14 ⟨rfl, hb⟩
        have H14 : Hid (StdB w a0 a1 a2 a3 c0 c1 c2 c3 l L1 x m w14) := H13.out.next hb
        have X14 : Hid (Rd w14 u4 t4 X) := X13.out.below hb hb.size
        clear hb H13 X13 Y13
        go_wp2_with fail
        go_ret
        exact ⟨rfl, H14.out.below⟩
      · clear HT2 CT2 HF3
        subst h1
        subst h2
        go_wp2_with fail
        go_ret
        exact ⟨rfl, H11.out.below⟩
      · clear HT2 CT2 HF3
        subst h1
        subst h2
        go_wp2_with fail
        go_ret
        exact ⟨rfl, H11.out.below⟩
  · have hcn : (c == 0) = false := by rw [beq_eq_false_iff_ne]; exact hc
    clear hc HF1
    go_wp2_with fail
    refine (copyR H4.out.rl HFL.out).mono ?_
    rintro e w5 ⟨ua, ta, rfl, hD, hb⟩
    have H5 : Hid (StdB w a0 a1 a2 a3 c0 c1 c2 c3 l ps x m w5) := H4.out.next hb
    have X5 : Hid (Rd w5 u4 t4 X) := X4.out.below hb hb.size
    have D5 : Hid (Rd w5 ua ta l) := hD
    clear hb H4 X4
    go_wp2_with fail
    refine (copyR H5.out.re HFE.out).mono ?_
    rintro e w6 ⟨ub, tb, rfl, hE, hb⟩
    have H6 : Hid (StdB w a0 a1 a2 a3 c0 c1 c2 c3 l ps x m w6) := H5.out.next hb
    have X6 : Hid (Rd w6 u4 t4 X) := X5.out.below hb hb.size
    have D6 : Hid (Rd w6 ua ta l) := D5.out.below hb hb.size
    have E6 : Hid (Rd w6 ub tb x) := hE
    clear hb H5 X5 D5
    go_wp2_with fail
    refine (CT2.out.mk H6.out.tabs D6.out hN.out E6.out).mono ?_
    rintro e w7 ⟨uc, tc, rfl, hQ, hb⟩
    have H7 : Hid (StdB w a0 a1 a2 a3 c0 c1 c2 c3 l ps x m w7) := H6.out.next hb
    have X7 : Hid (Rd w7 u4 t4 X) := X6.out.below hb hb.size
    have Q7 : Hid (RdP w7 uc tc L) := hQ
    clear hb H6 X6 D6 E6
    rcases HT2.out.ways with ⟨h1, h2, h3, h4⟩ | ⟨h1, h2, _⟩ | ⟨h1, h2, _⟩
    · obtain ⟨h5, h6⟩ := bk_fill h2 h3 h4 (fun h0 => HF3.out.ok (HF3.out.eq.symm.trans h0))
      have h7 : zc = 0 := HF3.out.eq.symm.trans h5
      clear h2 h3 h4 h5 HT2 CT2
      subst h1
      subst h7
      have h6 := h6.symm
      subst h6
      go_wp2_with fail
      refine (copyR H7.out.rl HFL.out).mono ?_
      rintro e w8 ⟨ud, td, rfl, hD, hb⟩
      have H8 : Hid (StdB w a0 a1 a2 a3 c0 c1 c2 c3 l ps x m w8) := H7.out.next hb
      have X8 : Hid (Rd w8 u4 t4 X) := X7.out.below hb hb.size
      have Q8 : Hid (RdP w8 uc tc L) := Q7.out.below hb
      have D8 : Hid (Rd w8 ud td l) := hD
      clear hb H7 X7 Q7
      go_wp2_with fail
      refine (HF3.out.call.mk H8.out.tabs.spans D8.out hN.out Q8.out).mono ?_
      rintro e w9 ⟨ue, te, rfl, hR, hb⟩
      have H9 : Hid (StdB w a0 a1 a2 a3 c0 c1 c2 c3 l ps x m w9) := H8.out.next hb
      have X9 : Hid (Rd w9 u4 t4 X) := X8.out.below hb hb.size
      have Y9 : Hid (Rd w9 ue te x) := hR
      clear hb H8 X8 Q8 D8
      go_wp2_with fail
      refine (sameR Y9.out H9.out.re true (by simp)).mono ?_
      rintro e w10 ⟨rfl, hb⟩
      have H10 : Hid (StdB w a0 a1 a2 a3 c0 c1 c2 c3 l ps x m w10) := H9.out.next hb
      have X10 : Hid (Rd w10 u4 t4 X) := X9.out.below hb hb.size
      clear hb H9 X9 Y9
      go_wp2_with fail
      go_ret
      exact ⟨rfl, H10.out.below⟩
    · clear HT2 CT2 HF3
      subst h1
      subst h2
      go_wp2_with fail
      go_ret
      exact ⟨rfl, H7.out.below⟩
    · clear HT2 CT2 HF3
      subst h1
      subst h2
      go_wp2_with fail
      go_ret
      exact ⟨rfl, H7.out.below⟩
end Go.Proofs.YtlllkjbbldhddaaDoor

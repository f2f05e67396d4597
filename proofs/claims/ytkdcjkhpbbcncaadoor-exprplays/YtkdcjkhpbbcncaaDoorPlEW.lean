/-
  ExprPlays: the law.
-/
import Derived.Test.YtkdcjkhpbbcncaaDoorPdW
import Derived.Test.YtkdcjkhpbbcncaaDoorVdW
set_option linter.unusedSimpArgs false
set_option linter.unusedVariables false
namespace Go.Proofs.YtkdcjkhpbbcncaaDoor
open Go.RowKit Go.Lib

def VrE (l : List Nd) (xs : List ByteArray) (er : Int) : Prop := (begL l = none ∧ xs = [] ∧ er = 1) ∨ (begL l ≠ none ∧ VrOf (vsL l) xs ∧ er = 0)
theorem VrE.eq {l : List Nd} {xs ys : List ByteArray} {e f : Int} (h : VrE l xs e) (h' : VrE l ys f) : ys = xs ∧ f = e := by
  rcases h with ⟨h1, h2, h3⟩ | ⟨h1, h2, h3⟩ <;> rcases h' with ⟨h4, h5, h6⟩ | ⟨h4, h5, h6⟩
  · exact ⟨by rw [h2, h5], by rw [h3, h6]⟩
  · exact absurd h1 h4
  · exact absurd h4 h1
  · exact ⟨h5.eq h2 fun _ => Iff.rfl, by rw [h3, h6]⟩
theorem varsE {w : World} {ao : Option Addr} {cap : Nat} {l : List Nd} (T : Tabs w) (h : Rd w ao cap l) :
    Calls Tryd.prog 20 #[.slice ao l.length cap] w fun e w' => ∃ ao' cap' xs er, e = .returned (.tuple #[.slice ao' xs.length cap', .int .i64 er]) ∧ VrE l xs er ∧ Strs w' ao' cap' xs ∧ Below w.heap.size w w' := by
  cases hb : begL l with
  | none => exact (vars_none _ l w _ (Nat.le_refl _) T.spans h hb).mono fun e w' ⟨h1, h2⟩ => ⟨none, 0, [], 1, h1, .inl ⟨hb, rfl, rfl⟩, ⟨by simp, by simp [maxLen], .inl rfl⟩, h2⟩
  | some fr => exact (vars_some _ l fr w _ (Nat.le_refl _) T h hb (fun s hs => (snd_chk hb s hs).1)).mono fun e w' ⟨ao', cap', xs, h1, h2, h3, h4⟩ => ⟨ao', cap', xs, 0, h1, .inr ⟨by rw [hb]; simp, h2, rfl⟩, h3, h4⟩
theorem refVarsE {w : World} {ao : Option Addr} {cap : Nat} {l : List Nd} (h : Rd w ao cap l) (hF : Fit l) :
    Calls Tryd.prog 21 #[.slice ao l.length cap] w fun e w' => ∃ ao' cap' xs er, e = .returned (.tuple #[.slice ao' xs.length cap', .int .i64 er]) ∧ VrE l xs er ∧ Strs w' ao' cap' xs ∧ Below w.heap.size w w' := by
  cases hb : begL l with
  | none => exact (refVars_none w ao cap l h hF hb).mono fun e w' ⟨h1, h2⟩ => ⟨none, 0, [], 1, h1, .inl ⟨hb, rfl, rfl⟩, ⟨by simp, by simp [maxLen], .inl rfl⟩, h2⟩
  | some fr => exact (refVars_some w ao cap l fr h hF hb).mono fun e w' ⟨ao', cap', xs, h1, h2, h3, h4⟩ => ⟨ao', cap', xs, 0, h1, .inr ⟨by rw [hb]; simp, h2, rfl⟩, h3, h4⟩
theorem chkR {w : World} {ao : Option Addr} {cap : Nat} {l : List Nd} (T : SpanCells w) (h : Rd w ao cap l) (r : Int) (hr : chkE l = r) :
    Calls Tryd.prog 10 #[.slice ao l.length cap] w fun e w' => e = .returned (.int .i64 r) ∧ Below w.heap.size w w' := by
  rw [← hr]
  cases hb : begL l with
  | none => rw [chkE_no (by simp [sndB, hb])]; exact check_none _ l w _ (Nat.le_refl _) T h hb
  | some fr => rw [chkE_yes (by simp [sndB, hb])]; exact check_some _ l fr w _ (Nat.le_refl _) T h hb

set_option maxRecDepth 20000 in
set_option maxHeartbeats 8000000 in
theorem exprPlays_walk (w : World) (ao bo : Option Addr) (ac bc : Nat) (a b : List Nd) (at_ : Int) (hT : Tabs w) (hRa : Rd w ao ac a) (hRb : Rd w bo bc b) (hFa : FitX a) (hFb : FitX b) :
    Calls Tryd.prog 3 #[.slice ao a.length ac, .int .i64 at_, .slice bo b.length bc] w fun e w' => e = .returned (.bool true) ∧ Below w.heap.size w w' := by
  have HRa : Sld (∀ W, Below w.heap.size w W → Rd W ao ac a) := ⟨fun W hW => hRa.below hW hW.size⟩
  have HRb : Sld (∀ W, Below w.heap.size w W → Rd W bo bc b) := ⟨fun W hW => hRb.below hW hW.size⟩
  have HT : Sld (∀ W, Below w.heap.size w W → Tabs W) := ⟨fun W hW => hT.below hW⟩
  obtain ⟨C, hC⟩ : ∃ C, chkE a = C := ⟨_, rfl⟩
  obtain ⟨⟨P, pe⟩, hP⟩ : ∃ P, ptE a at_ = P := ⟨_, rfl⟩
  obtain ⟨⟨Q, qe⟩, hQ⟩ : ∃ Q, puE a at_ b = Q := ⟨_, rfl⟩
  obtain ⟨⟨D, de⟩, hD⟩ : ∃ D, dpE a = D := ⟨_, rfl⟩
  have CA : Sld (Calls Tryd.prog 9 #[] w fun e w' => e = .returned (.bool true) ∧ Below w.heap.size w w') := ⟨awk_any w hT.spans⟩
  have CC : Sld (∀ W, Below w.heap.size w W → Calls Tryd.prog 11 #[.slice ao a.length ac] W fun e w' => ∃ ao' cap', e = .returned (.slice ao' a.length cap') ∧ Rd w' ao' cap' a ∧ Below W.heap.size W w') := ⟨fun W hW => copyR (HRa.out W hW) hFa.fit⟩
  have CCb : Sld (∀ W, Below w.heap.size w W → Calls Tryd.prog 11 #[.slice bo b.length bc] W fun e w' => ∃ ao' cap', e = .returned (.slice ao' b.length cap') ∧ Rd w' ao' cap' b ∧ Below W.heap.size W w') := ⟨fun W hW => copyR (HRb.out W hW) hFb.fit⟩
  have CK : Sld (∀ W xo xc, Below w.heap.size w W → Rd W xo xc a → Calls Tryd.prog 10 #[.slice xo a.length xc] W fun e w' => e = .returned (.int .i64 C) ∧ Below W.heap.size W w') := ⟨fun W xo xc hW h => chkR (HT.out W hW).spans h C hC⟩
  have CR : Sld (∀ W, Below w.heap.size w W → Calls Tryd.prog 12 #[.slice ao a.length ac] W fun e w' => e = .returned (.int .i64 C) ∧ Below W.heap.size W w') := ⟨fun W hW => rchkR (HRa.out W hW) hFa.fit C hC⟩
  have CP : Sld (∀ W xo xc, Below w.heap.size w W → Rd W xo xc a → Calls Tryd.prog 13 #[.slice xo a.length xc, .int .i64 at_] W fun e w' => ∃ yo yc, e = .returned (.tuple #[.slice yo P.length yc, .int .i64 pe]) ∧ Rd w' yo yc P ∧ Below W.heap.size W w') := ⟨fun W xo xc hW h => by
    have := partE (HT.out W hW).spans h at_
    rw [hP] at this
    exact this⟩
  have CPr : Sld (∀ W, Below w.heap.size w W → Calls Tryd.prog 14 #[.slice ao a.length ac, .int .i64 at_] W fun e w' => ∃ yo yc, e = .returned (.tuple #[.slice yo P.length yc, .int .i64 pe]) ∧ Rd w' yo yc P ∧ Below W.heap.size W w') := ⟨fun W hW => by
    have := refPartE (HRa.out W hW) hFa at_
    rw [hP] at this
    exact this⟩
  have CU : Sld (∀ W xo xc yo yc, Below w.heap.size w W → Rd W xo xc a → Rd W yo yc b → Calls Tryd.prog 16 #[.slice xo a.length xc, .int .i64 at_, .slice yo b.length yc] W fun e w' => ∃ yo yc, e = .returned (.tuple #[.slice yo Q.length yc, .int .i64 qe]) ∧ Rd w' yo yc Q ∧ Below W.heap.size W w') := ⟨fun W xo xc yo yc hW h h2 => by
    have := putE (HT.out W hW).spans h h2 at_
    rw [hQ] at this
    exact this⟩
  have CUr : Sld (∀ W, Below w.heap.size w W → Calls Tryd.prog 17 #[.slice ao a.length ac, .int .i64 at_, .slice bo b.length bc] W fun e w' => ∃ yo yc, e = .returned (.tuple #[.slice yo Q.length yc, .int .i64 qe]) ∧ Rd w' yo yc Q ∧ Below W.heap.size W w') := ⟨fun W hW => by
    have := refPutE (HRa.out W hW) (HRb.out W hW) hFa hFb at_
    rw [hQ] at this
    exact this⟩
  have CD : Sld (∀ W xo xc, Below w.heap.size w W → Rd W xo xc a → Calls Tryd.prog 18 #[.slice xo a.length xc] W fun e w' => e = .returned (.tuple #[.int .i64 (D : Nat), .int .i64 de]) ∧ Below W.heap.size W w') := ⟨fun W xo xc hW h => by
    have := depthE (HT.out W hW).spans h
    rw [hD] at this
    exact this⟩
  have CDr : Sld (∀ W, Below w.heap.size w W → Calls Tryd.prog 19 #[.slice ao a.length ac] W fun e w' => e = .returned (.tuple #[.int .i64 (D : Nat), .int .i64 de]) ∧ Below W.heap.size W w') := ⟨fun W hW => by
    have := refDepthE (HRa.out W hW) hFa.fit
    rw [hD] at this
    exact this⟩
  have CV : Sld (∀ W xo xc, Below w.heap.size w W → Rd W xo xc a → Calls Tryd.prog 20 #[.slice xo a.length xc] W fun e w' => ∃ ao' cap' xs er, e = .returned (.tuple #[.slice ao' xs.length cap', .int .i64 er]) ∧ VrE a xs er ∧ Strs w' ao' cap' xs ∧ Below W.heap.size W w') := ⟨fun W xo xc hW h => varsE (HT.out W hW) h⟩
  have CVr : Sld (∀ W, Below w.heap.size w W → Calls Tryd.prog 21 #[.slice ao a.length ac] W fun e w' => ∃ ao' cap' xs er, e = .returned (.tuple #[.slice ao' xs.length cap', .int .i64 er]) ∧ VrE a xs er ∧ Strs w' ao' cap' xs ∧ Below W.heap.size W w') := ⟨fun W hW => refVarsE (HRa.out W hW) hFa.fit⟩
  clear hT hRa hRb hFa hFb hC hP hQ hD HRa HRb HT
  go_enter Tryd.func3, Tryd.ntmps3
  go_wp2_with fail
  refine CA.out.mono ?_
  rintro e w1 ⟨rfl, hb1⟩
  have HB1 : Sld (Below w.heap.size w w1) := ⟨hb1⟩
  clear hb1 CA
  go_wp2_with fail
  refine (CC.out w1 HB1.out).mono ?_
  rintro e w2 ⟨o2, p2, rfl, hR2, hb2⟩
  have HB2 : Sld (Below w.heap.size w w2) := ⟨HB1.out.trans (hb2.mono HB1.out.size)⟩
  have HR2 : Sld _ := ⟨hR2⟩
  clear hb2 hR2 HB1
  go_wp2_with fail
  refine (CK.out w2 _ _ HB2.out HR2.out).mono ?_
  rintro e w3 ⟨rfl, hb3⟩
  have HB3 : Sld (Below w.heap.size w w3) := ⟨HB2.out.trans (hb3.mono HB2.out.size)⟩
  clear hb3 HR2 HB2 CK
  go_wp2_with fail
  refine (CR.out w3 HB3.out).mono ?_
  rintro e w4 ⟨rfl, hb4⟩
  have HB4 : Sld (Below w.heap.size w w4) := ⟨HB3.out.trans (hb4.mono HB3.out.size)⟩
  clear hb4 HB3 CR
  go_wp2_with fail
  refine (CC.out w4 HB4.out).mono ?_
  rintro e w5 ⟨o5, p5, rfl, hR5, hb5⟩
  have HB5 : Sld (Below w.heap.size w w5) := ⟨HB4.out.trans (hb5.mono HB4.out.size)⟩
  have HR5 : Sld _ := ⟨hR5⟩
  clear hb5 hR5 HB4
  go_wp2_with fail
  refine (CP.out w5 _ _ HB5.out HR5.out).mono ?_
  rintro e w6 ⟨o6, p6, rfl, hR6, hb6⟩
  have HB6 : Sld (Below w.heap.size w w6) := ⟨HB5.out.trans (hb6.mono HB5.out.size)⟩
  have HR6 : Sld _ := ⟨hR6⟩
  clear hb6 hR6 HB5 HR5 CP
  go_wp2_with fail
  refine (CPr.out w6 HB6.out).mono ?_
  rintro e w7 ⟨o7, p7, rfl, hR7, hb7⟩
  have HB7 : Sld (Below w.heap.size w w7) := ⟨HB6.out.trans (hb7.mono HB6.out.size)⟩
  have CS7 : Sld _ := ⟨sameR (HR6.out.below hb7 hb7.size) hR7 true (by simp)⟩
  clear hb7 hR7 HB6 HR6 CPr
  go_wp2_with fail
  refine CS7.out.mono ?_
  rintro e w8 ⟨rfl, hb8⟩
  have HB8 : Sld (Below w.heap.size w w8) := ⟨HB7.out.trans (hb8.mono HB7.out.size)⟩
  clear hb8 HB7 CS7
  go_wp2_with fail
  refine (CC.out w8 HB8.out).mono ?_
  rintro e w9 ⟨o9, p9, rfl, hR9, hb9⟩
  have HB9 : Sld (Below w.heap.size w w9) := ⟨HB8.out.trans (hb9.mono HB8.out.size)⟩
  have HR9 : Sld _ := ⟨hR9⟩
  clear hb9 hR9 HB8
  go_wp2_with fail
  refine (CCb.out w9 HB9.out).mono ?_
  rintro e w10 ⟨o10, p10, rfl, hR10, hb10⟩
  have HB10 : Sld (Below w.heap.size w w10) := ⟨HB9.out.trans (hb10.mono HB9.out.size)⟩
  have HR10 : Sld _ := ⟨hR10⟩
  have HR9' : Sld _ := ⟨HR9.out.below hb10 hb10.size⟩
  clear hb10 hR10 HB9 HR9 CCb
  go_wp2_with fail
  refine (CU.out w10 _ _ _ _ HB10.out HR9'.out HR10.out).mono ?_
  rintro e w11 ⟨o11, p11, rfl, hR11, hb11⟩
  have HB11 : Sld (Below w.heap.size w w11) := ⟨HB10.out.trans (hb11.mono HB10.out.size)⟩
  have HR11 : Sld _ := ⟨hR11⟩
  clear hb11 hR11 HB10 HR9' HR10 CU
  go_wp2_with fail
  refine (CUr.out w11 HB11.out).mono ?_
  rintro e w12 ⟨o12, p12, rfl, hR12, hb12⟩
  have HB12 : Sld (Below w.heap.size w w12) := ⟨HB11.out.trans (hb12.mono HB11.out.size)⟩
  have CS12 : Sld _ := ⟨sameR (HR11.out.below hb12 hb12.size) hR12 true (by simp)⟩
  clear hb12 hR12 HB11 HR11 CUr
  go_wp2_with fail
  refine CS12.out.mono ?_
  rintro e w13 ⟨rfl, hb13⟩
  have HB13 : Sld (Below w.heap.size w w13) := ⟨HB12.out.trans (hb13.mono HB12.out.size)⟩
  clear hb13 HB12 CS12
  go_wp2_with fail
  refine (CC.out w13 HB13.out).mono ?_
  rintro e w14 ⟨o14, p14, rfl, hR14, hb14⟩
  have HB14 : Sld (Below w.heap.size w w14) := ⟨HB13.out.trans (hb14.mono HB13.out.size)⟩
  have HR14 : Sld _ := ⟨hR14⟩
  clear hb14 hR14 HB13
  go_wp2_with fail
  refine (CD.out w14 _ _ HB14.out HR14.out).mono ?_
  rintro e w15 ⟨rfl, hb15⟩
  have HB15 : Sld (Below w.heap.size w w15) := ⟨HB14.out.trans (hb15.mono HB14.out.size)⟩
  clear hb15 HB14 HR14 CD
  go_wp2_with fail
  refine (CDr.out w15 HB15.out).mono ?_
  rintro e w16 ⟨rfl, hb16⟩
  have HB16 : Sld (Below w.heap.size w w16) := ⟨HB15.out.trans (hb16.mono HB15.out.size)⟩
  clear hb16 HB15 CDr
  go_wp2_with fail
  refine (CC.out w16 HB16.out).mono ?_
  rintro e w17 ⟨o17, p17, rfl, hR17, hb17⟩
  have HB17 : Sld (Below w.heap.size w w17) := ⟨HB16.out.trans (hb17.mono HB16.out.size)⟩
  have HR17 : Sld _ := ⟨hR17⟩
  clear hb17 hR17 HB16
  go_wp2_with fail
  refine (CV.out w17 _ _ HB17.out HR17.out).mono ?_
  rintro e w18 ⟨o18, p18, xs, er, rfl, hV, hS18, hb18⟩
  have HB18 : Sld (Below w.heap.size w w18) := ⟨HB17.out.trans (hb18.mono HB17.out.size)⟩
  have HV : Sld _ := ⟨hV⟩
  have HS18 : Sld _ := ⟨hS18⟩
  clear hb18 hV hS18 HB17 HR17 CV
  go_wp2_with fail
  refine (CVr.out w18 HB18.out).mono ?_
  rintro e w19 ⟨o19, p19, ys, er', rfl, hV', hS19, hb19⟩
  obtain ⟨h1, h2⟩ := HV.out.eq hV'
  subst h1 h2
  have HB19 : Sld (Below w.heap.size w w19) := ⟨HB18.out.trans (hb19.mono HB18.out.size)⟩
  have CT : Sld _ := ⟨sameTexts_any w19 _ _ _ _ _ (HS18.out.below hb19) hS19⟩
  clear hb19 hV' hS19 HB18 HV HS18 CVr CC
  go_wp2_with fail
  refine CT.out.mono ?_
  rintro e w20 ⟨rfl, hb20⟩
  have HB20 : Sld (Below w.heap.size w w20) := ⟨HB19.out.trans (hb20.mono HB19.out.size)⟩
  go_wp2_with fail
  go_ret
  exact ⟨rfl, HB20.out⟩
end Go.Proofs.YtkdcjkhpbbcncaaDoor

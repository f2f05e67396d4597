/-
  PlQ, PlW14, PatternplaysK.
-/
import Derived.Test.YtlllkjbbldhddaaDoorChecked
import GoSem.PinnedTables
import GoSem.Claim
import GoSem.ClaimJoined
import GoSem.ClaimMapViews
import Derived.JoinedTies
import Derived.KernelRfl
import GoSem.ClaimSeven
import Derived.LaidByTextLater
import Derived.SevenTiedAt
import Derived.LaidSub
import Derived.LaidOnce
import Derived.Shelf.Unicode.DecodeSlow
import Derived.Laws.RangeAny
import Derived.Shelf.Unicode.DecodeAny
import Derived.Test.YtlllkjbbldhddaaDoorProg
import Derived.WalkKit
import Derived.Deep.DeepFit
import Derived.Lib.OthersKept
import Derived.Lib.RuneCountTail
import Derived.Lib.LaidU8
import Derived.MakeChecks
import Derived.ProofKit
import Derived.OpenShut
import Derived.Deep.DeepHandedRow
import Derived.Deep.AppendLies
import Derived.Deep.OwnRows
import Derived.Laws.AppendOwnNone
import Derived.Deep.QuietTactic
import Derived.BigQuiet
import Derived.Deep.RegionWith
import Derived.Laws.DeepStrings4
import Derived.Deep.Slices
import Derived.SizedLaws
import Derived.Lib.MapLaws
import Derived.Sort.Walk0
import Derived.Lib.ItoaNum
import Derived.Maps.OwnSet
import Derived.StringKeys
import Derived.Below
import Derived.Laws.ResultCell
import Derived.Deep.RegionHeld3
import Derived.Deep.RegionLaw
import Derived.Lib.QuietBelow
import Derived.StillTail
import Derived.Deep.DeepCutAuto
import Derived.Laws.IdiomStrings
import Derived.WalkSmall
import Derived.Laws.OwnMore
import Derived.WideKeyArgs
import Derived.Test.YtlllkjbbldhddaaDoorRows
import Derived.Test.YtlllkjbbldhddaaDoorCards
import Derived.Test.YtlllkjbbldhddaaDoorTie
import Derived.Test.YtlllkjbbldhddaaDoorF01
import Derived.Test.YtlllkjbbldhddaaDoorF02
import Derived.Test.YtlllkjbbldhddaaDoorF03
import Derived.Test.YtlllkjbbldhddaaDoorF04
import Derived.Test.YtlllkjbbldhddaaDoorF05
import Derived.Test.YtlllkjbbldhddaaDoorF06
import Derived.Test.YtlllkjbbldhddaaDoorF07
import Derived.Test.YtlllkjbbldhddaaDoorF08
import Derived.Test.YtlllkjbbldhddaaDoorF09
import Derived.Test.YtlllkjbbldhddaaDoorF10
import Derived.Test.YtlllkjbbldhddaaDoorF11
import Derived.Test.YtlllkjbbldhddaaDoorF12
import Derived.Test.YtlllkjbbldhddaaDoorF13
import Derived.Test.YtlllkjbbldhddaaDoorF14
import Derived.Test.YtlllkjbbldhddaaDoorF15
import Derived.Test.YtlllkjbbldhddaaDoorF16
import Derived.Test.YtlllkjbbldhddaaDoorF17
import Derived.Test.YtlllkjbbldhddaaDoorF18
import Derived.Test.YtlllkjbbldhddaaDoorF19
import Derived.Test.YtlllkjbbldhddaaDoorF20
import Derived.Test.YtlllkjbbldhddaaDoorF21
import Derived.Test.YtlllkjbbldhddaaDoorF22
import Derived.Test.YtlllkjbbldhddaaDoorF23
import Derived.Test.YtlllkjbbldhddaaDoorF24
import Derived.Test.YtlllkjbbldhddaaDoorF25
import Derived.Test.YtlllkjbbldhddaaDoorF26
import Derived.Test.YtlllkjbbldhddaaDoorF27
import Derived.Test.YtlllkjbbldhddaaDoorF28
import Derived.Test.YtlllkjbbldhddaaDoorF29
import Derived.Test.YtlllkjbbldhddaaDoorF30
import Derived.Test.YtlllkjbbldhddaaDoorF31
set_option linter.unusedSimpArgs false
set_option linter.unusedVariables false
namespace Go.Proofs.YtlllkjbbldhddaaDoor
open Go.RowKit Go.Lib Go.Maps Go.Deep

set_option maxRecDepth 20000 in
set_option maxHeartbeats 2000000 in
theorem sameTexts14_any (w : World) (ao bo : Option Addr) (ac bc : Nat) (xs : List ByteArray) (hx : Strs w ao ac xs) (hy : Strs w bo bc xs) :
    Calls Tryd.prog 22 #[.slice ao xs.length ac, .slice bo xs.length bc] w fun e w' => e = .returned (.bool true) ∧ Below w.heap.size w w' := by
  have HX : Sld (Strs w ao ac xs) := ⟨hx⟩
  have HY : Sld (Strs w bo bc xs) := ⟨hy⟩
  obtain ⟨h1, h2, _⟩ := hx
  obtain ⟨h3, h4, _⟩ := hy
  unfold maxLen at h2 h4
  go_enter Tryd.func22, Tryd.ntmps22
  go_wp2_with fail
  go_loopw [5] (fun i wr => ∃ k : Nat, k ≤ xs.length ∧ i = .int .i64 k ∧ Below w.heap.size w wr) (fun i _ => xs.length - (RowKit.intOf i).toNat)
  case atStart => exact ⟨0, by omega, rfl, Below.refl _ _⟩
  case round =>
    obtain ⟨k, hk, rfl, hB⟩ := hrel
    have HB : Sld (Below w.heap.size w wr) := ⟨hB⟩
    clear hB
    by_cases hlt : k < xs.length
    · obtain ⟨a1, o1, rfl, hl1, c1⟩ := (HX.out.below HB.out).cell hlt
      obtain ⟨a2, o2, rfl, hl2, c2⟩ := (HY.out.below HB.out).cell hlt
      generalize xs.getD k ⟨#[]⟩ = s at *
      go_wp2_with fail
      go_region
      go_wp2_with fail
      exact ⟨⟨k + 1, by omega, by go_num, HB.out.drew⟩, by simp [RowKit.intOf]; omega⟩
    · have hke : k = xs.length := by omega
      subst hke
      go_wp2_with fail
      go_ret
      exact ⟨rfl, HB.out⟩


/-- Three arguments that stand. -/
structure StdL (w : World) (a0 a1 a2 : Option Addr) (c0 c1 c2 : Nat) (l : List Nd) (ps : List (List Nd)) (x : List Nd) (W : World) : Prop where
  below : Below w.heap.size w W
  tabs : Tabs W
  rl : Rd W a0 c0 l
  rp : RdP W a1 c1 ps
  rx : Rd W a2 c2 x
theorem StdL.next {w W W' : World} {a0 a1 a2 : Option Addr} {c0 c1 c2 : Nat} {l : List Nd} {ps : List (List Nd)} {x : List Nd} (h : StdL w a0 a1 a2 c0 c1 c2 l ps x W) (hb : Below W.heap.size W W') : StdL w a0 a1 a2 c0 c1 c2 l ps x W' :=
  ⟨h.below.trans (hb.mono h.below.size), h.tabs.below hb, h.rl.below hb hb.size, h.rp.below hb, h.rx.below hb hb.size⟩
theorem check14_c {w : World} {ao : Option Addr} {cap : Nat} {l : List Nd} (hT : SpanCells w) (hN : Rd w ao cap l) (hnm : ∀ x ∈ l, x.name.size ≤ maxLen) (c : Int) (hc : pkC l = c) :
    Calls Tryd.prog 33 #[.slice ao l.length cap] w fun e w' => e = .returned (.int .i64 c) ∧ Below w.heap.size w w' := by
  subst hc
  unfold pkC
  exact check14_any hT hN hnm
theorem rchk14_c {w : World} {ao : Option Addr} {cap : Nat} {l : List Nd} (hN : Rd w ao cap l) (hF : Fit l) (c : Int) (hc : pkC l = c) :
    Calls Tryd.prog 34 #[.slice ao l.length cap] w fun e w' => e = .returned (.int .i64 c) ∧ Below w.heap.size w w' := by
  subst hc
  exact rchk14_any hN hF
/-- Holes' contract, as the law uses it. -/
def HolesK (l : List Nd) (ks : List ByteArray) (c : Int) : Prop := ∀ (W : World) (ao : Option Addr) (cap : Nat), SpanCells W → Rd W ao cap l → (∀ x ∈ l, x.name.size ≤ maxLen) →
    Calls Tryd.prog 35 #[.slice ao l.length cap] W fun e w' => ∃ na nc, e = .returned (.tuple #[.slice na ks.length nc, .int .i64 c]) ∧ w'.ownsRow W.heap.size 9 1 (.slice na ks.length nc) ks.length (ks.map Value.string) ∧ Below W.heap.size W w'
theorem HolesK.mk {l : List Nd} {ks : List ByteArray} {c : Int} (h : HolesK l ks c) {W : World} {ao : Option Addr} {cap : Nat} (h1 : SpanCells W) (h2 : Rd W ao cap l) (h3 : ∀ x ∈ l, x.name.size ≤ maxLen) :
    Calls Tryd.prog 35 #[.slice ao l.length cap] W fun e w' => ∃ na nc, e = .returned (.tuple #[.slice na ks.length nc, .int .i64 c]) ∧ Strs w' na nc ks ∧ Below W.heap.size W w' := by
  refine (h W ao cap h1 h2 h3).mono ?_
  rintro e w' ⟨na, nc, he, ho, hb⟩
  obtain ⟨na', nc', e1, hS⟩ := Strs_of_own ho
  cases e1
  exact ⟨na, nc, he, hS, hb⟩
end Go.Proofs.YtlllkjbbldhddaaDoor

set_option linter.unusedSimpArgs false
set_option linter.unusedVariables false
namespace Go.Proofs.YtlllkjbbldhddaaDoor
open Go.RowKit Go.Lib Go.Maps Go.Deep

set_option maxRecDepth 20000 in
set_option maxHeartbeats 4000000 in
theorem patternPlays_walk (w : World) (a0 a1 a2 : Option Addr) (c0 c1 c2 : Nat) (l : List Nd) (ps : List (List Nd)) (x : List Nd) (T : Tabs w) (hL : Rd w a0 c0 l) (hP : RdP w a1 c1 ps) (hX : Rd w a2 c2 x) (FL : FitX l) (FP : FitL ps) (FX : FitX x) :
    Calls Tryd.prog 5 #[.slice a0 l.length c0, .slice a1 ps.length c1, .slice a2 x.length c2] w fun e w' => e = .returned (.bool true) ∧ Below w.heap.size w w' := by
  have H0 : Hid (StdL w a0 a1 a2 c0 c1 c2 l ps x w) := ⟨Below.refl _ _, T, hL, hP, hX⟩
  have hN : Hid (∀ x ∈ l, x.name.size ≤ maxLen) := FL.name
  have HFL : Hid (Fit l) := FL.fit
  have HFX : Hid (FitX x) := FX
  have HFP : Hid (FitL ps) := FP
  have cW := awake14_any w T.spans
  obtain ⟨kc, hkc⟩ : ∃ kc, pkC l = kc := ⟨_, rfl⟩
  have HKC : Hid (pkC l = kc) := hkc
  obtain ⟨ks, hc, hks, cH⟩ := holesX l
  have HKS : Hid ((hc = 0 ∧ patB l = true ∧ ks = hlsL l) ∨ (hc = 1 ∧ patB l = false ∧ ks = [])) := hks
  have CH : Hid (HolesK l ks hc) := cH
  obtain ⟨X, c, hF1⟩ := fillF l ps
  have HF1 : Hid (FillF l ps X c) := hF1
  obtain ⟨L, lc, hL2, cT⟩ := fitsX l x
  have HT2 : Hid (FtC l x L lc) := hL2
  have CT2 : Hid (FitsK l x L lc) := cT
  clear T hL hP hX FL FP FX hkc hks cH hF1 hL2 cT
  go_enter Tryd.func5, Tryd.ntmps5
  go_wp2_with fail
  refine (cW).mono ?_
  rintro e w1 ⟨rfl, hb⟩
  have H1 : Hid (StdL w a0 a1 a2 c0 c1 c2 l ps x w1) := H0.out.next hb
  clear hb H0
  clear cW
  go_wp2_with fail
  refine (copyR H1.out.rl HFL.out).mono ?_
  rintro e w2 ⟨u2, t2, rfl, hD, hb⟩
  have H2 : Hid (StdL w a0 a1 a2 c0 c1 c2 l ps x w2) := H1.out.next hb
  have D2 : Hid (Rd w2 u2 t2 l) := hD
  clear hb H1
  go_wp2_with fail
  refine (check14_c H2.out.tabs.spans D2.out hN.out kc HKC.out).mono ?_
  rintro e w3 ⟨rfl, hb⟩
  have H3 : Hid (StdL w a0 a1 a2 c0 c1 c2 l ps x w3) := H2.out.next hb
  clear hb H2 D2
  go_wp2_with fail
  refine (rchk14_c H3.out.rl HFL.out kc HKC.out).mono ?_
  rintro e w4 ⟨rfl, hb⟩
  have H4 : Hid (StdL w a0 a1 a2 c0 c1 c2 l ps x w4) := H3.out.next hb
  clear hb H3
  go_wp2_with fail
  refine (copyR H4.out.rl HFL.out).mono ?_
  rintro e w5 ⟨u3, t3, rfl, hD, hb⟩
  have H5 : Hid (StdL w a0 a1 a2 c0 c1 c2 l ps x w5) := H4.out.next hb
  have D5 : Hid (Rd w5 u3 t3 l) := hD
  clear hb H4
  go_wp2_with fail
  refine (CH.out.mk H5.out.tabs.spans D5.out hN.out).mono ?_
  rintro e w6 ⟨u4, t4, rfl, hS, hb⟩
  have H6 : Hid (StdL w a0 a1 a2 c0 c1 c2 l ps x w6) := H5.out.next hb
  have S6 : Hid (Strs w6 u4 t4 ks) := hS
  clear hb H5 D5
  go_wp2_with fail
  refine (refHoles14_any H6.out.rl HFL.out ks hc HKS.out).mono ?_
  rintro e w7 ⟨u5, t5, rfl, hS, hb⟩
  have H7 : Hid (StdL w a0 a1 a2 c0 c1 c2 l ps x w7) := H6.out.next hb
  have S7 : Hid (Strs w7 u4 t4 ks) := S6.out.below hb
  have R7 : Hid (Strs w7 u5 t5 ks) := hS
  clear hb H6 S6
  go_wp2_with fail
  refine (copyR H7.out.rl HFL.out).mono ?_
  rintro e w8 ⟨u6, t6, rfl, hD, hb⟩
  have H8 : Hid (StdL w a0 a1 a2 c0 c1 c2 l ps x w8) := H7.out.next hb
  have S8 : Hid (Strs w8 u4 t4 ks) := S7.out.below hb
  have R8 : Hid (Strs w8 u5 t5 ks) := R7.out.below hb
  have D8 : Hid (Rd w8 u6 t6 l) := hD
  clear hb H7 S7 R7
  go_wp2_with fail
  refine (copiesP H8.out.rp HFP.out).mono ?_
  rintro e w9 ⟨u7, t7, rfl, hP, hb⟩
  have H9 : Hid (StdL w a0 a1 a2 c0 c1 c2 l ps x w9) := H8.out.next hb
  have S9 : Hid (Strs w9 u4 t4 ks) := S8.out.below hb
  have R9 : Hid (Strs w9 u5 t5 ks) := R8.out.below hb
  have D9 : Hid (Rd w9 u6 t6 l) := D8.out.below hb hb.size
  have P9 : Hid (RdP w9 u7 t7 ps) := hP
  clear hb H8 S8 R8 D8
  go_wp2_with fail
  refine (HF1.out.call.mk H9.out.tabs.spans D9.out hN.out P9.out).mono ?_
  rintro e w10 ⟨u8, t8, rfl, hR, hb⟩
  have H10 : Hid (StdL w a0 a1 a2 c0 c1 c2 l ps x w10) := H9.out.next hb
  have S10 : Hid (Strs w10 u4 t4 ks) := S9.out.below hb
  have R10 : Hid (Strs w10 u5 t5 ks) := R9.out.below hb
  have X10 : Hid (Rd w10 u8 t8 X) := hR
  clear hb H9 S9 R9 D9 P9
  go_wp2_with fail
  refine (refFill_any X c HF1.out H10.out.rl H10.out.rp HFL.out HFP.out).mono ?_
  rintro e w11 ⟨u9, t9, rfl, hR, hb⟩
  have H11 : Hid (StdL w a0 a1 a2 c0 c1 c2 l ps x w11) := H10.out.next hb
  have S11 : Hid (Strs w11 u4 t4 ks) := S10.out.below hb
  have R11 : Hid (Strs w11 u5 t5 ks) := R10.out.below hb
  have X11 : Hid (Rd w11 u8 t8 X) := X10.out.below hb hb.size
  have Y11 : Hid (Rd w11 u9 t9 X) := hR
  clear hb H10 S10 R10 X10
  go_wp2_with fail
  refine (copyR H11.out.rl HFL.out).mono ?_
  rintro e w12 ⟨ua, ta, rfl, hD, hb⟩
  have H12 : Hid (StdL w a0 a1 a2 c0 c1 c2 l ps x w12) := H11.out.next hb
  have S12 : Hid (Strs w12 u4 t4 ks) := S11.out.below hb
  have R12 : Hid (Strs w12 u5 t5 ks) := R11.out.below hb
  have X12 : Hid (Rd w12 u8 t8 X) := X11.out.below hb hb.size
  have Y12 : Hid (Rd w12 u9 t9 X) := Y11.out.below hb hb.size
  have D12 : Hid (Rd w12 ua ta l) := hD
  clear hb H11 S11 R11 X11 Y11
  go_wp2_with fail
  refine (copyR H12.out.rx HFX.out.fit).mono ?_
  rintro e w13 ⟨ub, tb, rfl, hE, hb⟩
  have H13 : Hid (StdL w a0 a1 a2 c0 c1 c2 l ps x w13) := H12.out.next hb
  have S13 : Hid (Strs w13 u4 t4 ks) := S12.out.below hb
  have R13 : Hid (Strs w13 u5 t5 ks) := R12.out.below hb
  have X13 : Hid (Rd w13 u8 t8 X) := X12.out.below hb hb.size
  have Y13 : Hid (Rd w13 u9 t9 X) := Y12.out.below hb hb.size
  have D13 : Hid (Rd w13 ua ta l) := D12.out.below hb hb.size
  have E13 : Hid (Rd w13 ub tb x) := hE
  clear hb H12 S12 R12 X12 Y12 D12
  go_wp2_with fail
  refine (CT2.out.mk H13.out.tabs D13.out hN.out E13.out).mono ?_
  rintro e w14 ⟨uc, tc, rfl, hQ, hb⟩
  have H14 : Hid (StdL w a0 a1 a2 c0 c1 c2 l ps x w14) := H13.out.next hb
  have S14 : Hid (Strs w14 u4 t4 ks) := S13.out.below hb
  have R14 : Hid (Strs w14 u5 t5 ks) := R13.out.below hb
  have X14 : Hid (Rd w14 u8 t8 X) := X13.out.below hb hb.size
  have Y14 : Hid (Rd w14 u9 t9 X) := Y13.out.below hb hb.size
  have Q14 : Hid (RdP w14 uc tc L) := hQ
  clear hb H13 S13 R13 X13 Y13 D13 E13
  go_wp2_with fail
  refine (refFits_any L lc HT2.out H14.out.rl H14.out.rx HFL.out HFX.out).mono ?_
  rintro e w15 ⟨ud, td, rfl, hQ, hb⟩
  have H15 : Hid (StdL w a0 a1 a2 c0 c1 c2 l ps x w15) := H14.out.next hb
  have S15 : Hid (Strs w15 u4 t4 ks) := S14.out.below hb
  have R15 : Hid (Strs w15 u5 t5 ks) := R14.out.below hb
  have X15 : Hid (Rd w15 u8 t8 X) := X14.out.below hb hb.size
  have Y15 : Hid (Rd w15 u9 t9 X) := Y14.out.below hb hb.size
  have Q15 : Hid (RdP w15 uc tc L) := Q14.out.below hb
  have U15 : Hid (RdP w15 ud td L) := hQ
  clear hb H14 S14 R14 X14 Y14 Q14
  go_wp2_with fail
  refine (sameTexts14_any _ _ _ _ _ ks S15.out R15.out).mono ?_
  rintro e w16 ⟨rfl, hb⟩
  have H16 : Hid (StdL w a0 a1 a2 c0 c1 c2 l ps x w16) := H15.out.next hb
  have X16 : Hid (Rd w16 u8 t8 X) := X15.out.below hb hb.size
  have Y16 : Hid (Rd w16 u9 t9 X) := Y15.out.below hb hb.size
  have Q16 : Hid (RdP w16 uc tc L) := Q15.out.below hb
  have U16 : Hid (RdP w16 ud td L) := U15.out.below hb
  clear hb H15 S15 R15 X15 Y15 Q15 U15
  go_wp2_with fail
  refine (sameR X16.out Y16.out true (by simp)).mono ?_
  rintro e w17 ⟨rfl, hb⟩
  have H17 : Hid (StdL w a0 a1 a2 c0 c1 c2 l ps x w17) := H16.out.next hb
  have Q17 : Hid (RdP w17 uc tc L) := Q16.out.below hb
  have U17 : Hid (RdP w17 ud td L) := U16.out.below hb
  clear hb H16 X16 Y16 Q16 U16
  have cS := sameAll_any Q17.out U17.out
  rw [decide_eq_true (rfl : L = L)] at cS
  go_wp2_with fail
  refine (cS).mono ?_
  rintro e w18 ⟨rfl, hb⟩
  have H18 : Hid (StdL w a0 a1 a2 c0 c1 c2 l ps x w18) := H17.out.next hb
  clear hb H17 Q17 U17
  go_wp2_with fail
  go_ret
  exact ⟨rfl, H18.out.below⟩
end Go.Proofs.YtlllkjbbldhddaaDoor

set_option linter.unusedVariables false
namespace Go.Proofs.YtlllkjbbldhddaaDoor.patternplays
open Go.ChangeShapes Go.WideShapes Go.ChangeAt Go.RowKit Go.WideMaps Go.WideElems
open Go.ChangeMaps (open_string shut_string)

set_option maxRecDepth 100000 in
set_option maxHeartbeats 1000000 in
theorem contract (H : Type) (enc : TypeId × Value → H) (W : World) (base : Nat) (args : Array Value) (ds gs : List (DataW H)) (before : List MemPlace)
    (hval : ∀ (j : Nat) t v, Tryd.f5.params[j]? = some t → args[j]? = some v → Value.okWide Tryd.prog W .any base t v)
    (hW : DataW.Whole enc Tryd.prog Tryd.f5.params.toList Rows.patternPlaysSpec.vars false W args.toList ds gs before)
    (hsz : (DataW.weightsEach Tryd.prog (Tryd.f5.params.toList ++ (OpenSpec.ofChange Rows.patternPlaysSpec).bare.plain.varTypes Tryd.prog) (ds ++ gs)).all (· ≤ reachBytes) = true)
    (hL : laidMetH Tryd.prog Rows.patternPlaysRow.laid W) :
    Calls Tryd.prog 5 args W fun e W' => ∃ v, e = .returned v ∧ Rows.patternPlaysSpec.post enc Tryd.prog Tryd.f5 false true false false W args v W' := by
  have hW' := hW
  have hlt : ∀ x ∈ before, x.block < W.heap.size := fun x hx => by simpa using hW'.lt x hx
  obtain ⟨p, q, hA0, hV, rfl, hfz, hnd⟩ := hW
  have hA : DataW.TrodAll enc Tryd.prog W 0 (fun _ => true) true Tryd.f5.params.toList args.toList ds p := hA0
  rw [Tryd.params5 ] at hA hval
  obtain ⟨v0, vs0, d0, ds0, p0, q0, hargs0, rfl, rfl, h0, r0⟩ := trodAll_cons hA
  obtain ⟨v1, vs1, d1, ds1, p1, q1, rfl, rfl, rfl, h1, r1⟩ := trodAll_cons r0
  obtain ⟨v2, vs2, d2, ds2, p2, q2, rfl, rfl, rfl, h2, r2⟩ := trodAll_cons r1
  obtain ⟨rfl, rfl, rfl⟩ := trodAll_nil r2
  obtain rfl : args = #[v0, v1, v2] := by cases args; simp_all
  obtain ⟨rfl, rfl⟩ := trodVars_none hV
  clear hA0
  simp only [List.append_nil] at hW' hsz
  have h0k := h0
  have ok0 : Value.okWide Tryd.prog W .any base 22 v0 := hval 0 22 v0 (by rfl) (by rfl)
  obtain ⟨a0, n0, c0, rfl⟩ := okWide_slice Tryd.underlying22 ok0
  obtain ⟨fu0, hf0⟩ := h0
  obtain ⟨ao0, cap0, l0, he0, R0, hF0⟩ := open_nodesX (v := .slice a0 n0 c0) hf0
  cases he0
  have F0 := hF0 fun n hn => of_decide_eq_true (List.all_eq_true.1 hsz n (DataW.weights_mem_each (j := 0) (t := 22) (by kernel_rfl) rfl n hn))
  have h1k := h1
  have ok1 : Value.okWide Tryd.prog W .any base 46 v1 := hval 1 46 v1 (by rfl) (by rfl)
  obtain ⟨a1, n1, c1, rfl⟩ := okWide_slice Tryd.underlying46 ok1
  obtain ⟨fu1, hf1⟩ := h1
  obtain ⟨ao1, cap1, l1, he1, R1, hF1⟩ := open_parts (v := .slice a1 n1 c1) hf1
  cases he1
  have F1 := hF1 fun n hn => of_decide_eq_true (List.all_eq_true.1 hsz n (DataW.weights_mem_each (j := 1) (t := 46) (by kernel_rfl) rfl n hn))
  have h2k := h2
  have ok2 : Value.okWide Tryd.prog W .any base 22 v2 := hval 2 22 v2 (by rfl) (by rfl)
  obtain ⟨a2, n2, c2, rfl⟩ := okWide_slice Tryd.underlying22 ok2
  obtain ⟨fu2, hf2⟩ := h2
  obtain ⟨ao2, cap2, l2, he2, R2, hF2⟩ := open_nodesX (v := .slice a2 n2 c2) hf2
  cases he2
  have F2 := hF2 fun n hn => of_decide_eq_true (List.all_eq_true.1 hsz n (DataW.weights_mem_each (j := 2) (t := 22) (by kernel_rfl) rfl n hn))
  refine (patternPlays_walk W a0 a1 a2 c0 c1 c2 l0 l1 l2 (tabs_of_laid hL)  R0 R1 R2  F0 F1 F2).mono fun e W' ⟨he, hg⟩ => ?_
  subst he
  exact ⟨_, rfl, post_below (pv := []) hW' (fun _ _ _ => trodAll_cons_mk (shut_bool Tryd.underlying4 _) trodAll_mk0) (fun sp hsp => trodAll_cons_mk (Trod_stays Tryd.laidOut (by kernel_rfl) (of_decide_eq_true (by kernel_rfl)) h0k (fun x hx => hg.same (hlt x (by simp [hx]))) (fun x hx => hsp x (by simp [hx]))) (trodAll_cons_mk (Trod_stays Tryd.laidOut (by kernel_rfl) (of_decide_eq_true (by kernel_rfl)) h1k (fun x hx => hg.same (hlt x (by simp [hx]))) (fun x hx => hsp x (by simp [hx]))) (trodAll_cons_mk (Trod_stays Tryd.laidOut (by kernel_rfl) (of_decide_eq_true (by kernel_rfl)) h2k (fun x hx => hg.same (hlt x (by simp [hx]))) (fun x hx => hsp x (by simp [hx]))) trodAll_mk0))) (fun _ _ => rfl) (by simp) (hg.frame _)⟩

end Go.Proofs.YtlllkjbbldhddaaDoor.patternplays

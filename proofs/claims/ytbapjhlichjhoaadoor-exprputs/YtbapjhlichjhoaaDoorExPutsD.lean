/-
  The walk of ExprPuts: put and taken out.
-/
import Derived.Test.YtbapjhlichjhoaaDoorExRdW
set_option linter.unusedSimpArgs false
set_option linter.unusedVariables false
namespace Go.Proofs.YtbapjhlichjhoaaDoor
open Go.RowKit Go.Lib

set_option maxHeartbeats 4000000 in
theorem puts_C3 (w : World) (ao bo : Option Addr) (cap cb : Nat) (l m : List Nd) (T0 : SpanCells w) (E0 : Rd w ao cap l) (P0 : Rd w bo cb m) (FE : Fit l) (FP : Fit m) (fr : List Nat) (i : Nat) (hn : begL l = some fr) (hi : i < l.length) (fm : List Nat) (hm : begL m = some fm) (hlg : l.length + m.length + fr.getD i 0 ≤ 64 + (i + 1)) :
    Calls Tryd.prog 6 #[.slice ao l.length cap, .int .i64 i, .slice bo m.length cb] w fun e w' => e = .returned (.bool true) ∧ Below w.heap.size w w' := by
  have bb0 := Below.refl w.heap.size w
  obtain ⟨hl1, hl2⟩ := E0.bound
  obtain ⟨hm1, hm2⟩ := P0.bound
  unfold maxLen at hl2 hm2
  have h64 := (snd_bounds hn).1
  have hok := begOk_of (begL_some hn).2.2.1
  have hai := hok.low i
  have hpl := partL_len l (fr.getD i 0) i hi hai
  have hpn := names_part (fr.getD i 0) i FE.name
  obtain ⟨fo, hfo⟩ := part_snd hn i hi
  have FO := fit_of_snd hfo hpn
  have hps := put_same hok i hi
  have m64 := (snd_bounds hm).1
  have hmok := begOk_of (begL_some hm).2.2.1
  have hm0 := (begL_some hm).1
  have hxl := putL_len l m (fr.getD i 0) i hi hai
  have hpx := part_put (l := l) hmok (fr.getD i 0) i hi hai hm0
  have hbx := put_back (m := m) hok i hi hm0
  have hxn := names_put (fr.getD i 0) i FE.name FP.name
  obtain ⟨fx, hfx, hfxa⟩ := put_snd hn hm i hi hlg
  have FX := fit_of_snd hfx hxn
  obtain ⟨pl, hpl2⟩ : ∃ pl, fr.getD i 0 + m.length - 1 = pl := ⟨_, rfl⟩
  rw [hpl2] at hpx hbx hfxa
  have hpl3 : pl + 1 = fr.getD i 0 + m.length := by omega
  generalize hold : partL l (fr.getD i 0) i = old at *
  have HN : Hid (begL l = some fr) := hn
  have HFO : Hid (begL old = some fo) := hfo
  have HOLD : Hid (partL l (fr.getD i 0) i = old) := hold
  have HPS : Hid (putL l (fr.getD i 0) i old = l) := hps
  have HA : Hid (fr.getD i 0 ≤ i) := hai
  have hol : old.length + fr.getD i 0 = i + 1 := by omega
  have HOL : Hid (old.length + fr.getD i 0 = i + 1) := hol
  have hol2 : old.length ≤ i + 1 := by omega
  have hol3 : 0 < old.length := by omega
  clear hn hok hai hpl hpn hfo hps hold hol
  generalize hx : putL l (fr.getD i 0) i m = x at *
  have hfxe : fx.getD pl 0 = fr.getD i 0 := hfxa
  have HX : Hid (putL l (fr.getD i 0) i m = x) := hx
  have HFX : Hid (begL x = some fx) := hfx
  have HPX : Hid (partL x (fx.getD pl 0) pl = m) := by show partL x (fx.getD pl 0) pl = m; rw [hfxe]; exact hpx
  have HBX : Hid (putL x (fx.getD pl 0) pl old = l) := by show putL x (fx.getD pl 0) pl old = l; rw [hfxe]; exact hbx
  have HM : Hid (begL m = some fm) := hm
  have HL : Hid (l.length + m.length + fr.getD i 0 ≤ 64 + (i + 1)) := hlg
  have HPL : Hid ((i : Int) - old.length + m.length = (pl : Int)) := by show (i : Int) - old.length + m.length = (pl : Int); have := HOL.out; omega
  have hplx : pl < x.length := by omega
  have hxl2 : x.length + old.length = l.length + m.length := by have := HOL.out; omega
  have HSX : Hid (x.length + old.length + fx.getD pl 0 ≤ 64 + (pl + 1)) := by show x.length + old.length + fx.getD pl 0 ≤ 64 + (pl + 1); have := HOL.out; rw [hfxe]; omega
  have heq : ((x.length : Int) == (l.length : Int) - old.length + m.length) = true := by rw [beq_iff_eq]; omega
  have hxm : x.length ≤ 128 := by omega
  clear hm hlg hxl hpx hbx hxn hfx hfxa hpl2 hpl3 hx hfxe hmok hxl2
  go_enter Tryd.func6, Tryd.ntmps6
  go_wp2_with fail
  refine (awk_any _ T0).mono ?_
  rintro e w1 ⟨rfl, hb1⟩
  have T1 := T0.below hb1
  have bb1 : Below w.heap.size w w1 := bb0.trans (hb1.mono bb0.size)
  have E1 := E0.below hb1 hb1.size
  have P1 := P0.below hb1 hb1.size
  clear E0 P0 T0 hb1 bb0
  go_wp2_with fail
  refine (copyR E1 FE).mono ?_
  rintro e w2 ⟨ao2, cp2, rfl, C2, hb2⟩
  have T2 := T1.below hb2
  have bb2 : Below w.heap.size w w2 := bb1.trans (hb2.mono bb1.size)
  have E2 := E1.below hb2 hb2.size
  have P2 := P1.below hb2 hb2.size
  clear E1 P1 T1 hb2 bb1
  go_wp2_with fail
  refine (partR T2 C2 HN.out i _ rfl hi HOLD.out).mono ?_
  rintro e w3 ⟨oo, oc, rfl, O3, hb3⟩
  have T3 := T2.below hb3
  have bb3 : Below w.heap.size w w3 := bb2.trans (hb3.mono bb2.size)
  have E3 := E2.below hb3 hb3.size
  have P3 := P2.below hb3 hb3.size
  have C3 := C2.below hb3 hb3.size
  clear E2 P2 C2 T2 hb3 bb2
  go_wp2_with fail
  refine (copyR E3 FE).mono ?_
  rintro e w4 ⟨ao4, cp4, rfl, C4, hb4⟩
  have T4 := T3.below hb4
  have bb4 : Below w.heap.size w w4 := bb3.trans (hb4.mono bb3.size)
  have E4 := E3.below hb4 hb4.size
  have P4 := P3.below hb4 hb4.size
  have O4 := O3.below hb4 hb4.size
  clear E3 P3 O3 T3 hb4 bb3
  go_wp2_with fail
  refine (copyR O4 FO).mono ?_
  rintro e w5 ⟨ao5, cp5, rfl, D5, hb5⟩
  have T5 := T4.below hb5
  have bb5 : Below w.heap.size w w5 := bb4.trans (hb5.mono bb4.size)
  have E5 := E4.below hb5 hb5.size
  have P5 := P4.below hb5 hb5.size
  have O5 := O4.below hb5 hb5.size
  have C5 := C4.below hb5 hb5.size
  clear E4 P4 O4 C4 T4 hb5 bb4
  go_wp2_with fail
  refine (putR T5 C5 D5 HN.out HFO.out i _ rfl hi (by have := HOL.out; omega) HPS.out).mono ?_
  rintro e w6 ⟨xo, xc, rfl, X6, hb6⟩
  have T6 := T5.below hb6
  have bb6 : Below w.heap.size w w6 := bb5.trans (hb6.mono bb5.size)
  have E6 := E5.below hb6 hb6.size
  have P6 := P5.below hb6 hb6.size
  have O6 := O5.below hb6 hb6.size
  have C6 := C5.below hb6 hb6.size
  have D6 := D5.below hb6 hb6.size
  clear E5 P5 O5 C5 D5 T5 hb6 bb5
  go_wp2_with fail
  refine (sameR X6 E6 true (by simp)).mono ?_
  rintro e w7 ⟨rfl, hb7⟩
  have T7 := T6.below hb7
  have bb7 : Below w.heap.size w w7 := bb6.trans (hb7.mono bb6.size)
  have E7 := E6.below hb7 hb7.size
  have P7 := P6.below hb7 hb7.size
  have O7 := O6.below hb7 hb7.size
  have X7 := X6.below hb7 hb7.size
  clear E6 P6 O6 X6 T6 hb7 bb6
  go_wp2_with fail
  refine (copyR E7 FE).mono ?_
  rintro e w8 ⟨ao8, cp8, rfl, C8, hb8⟩
  have T8 := T7.below hb8
  have bb8 : Below w.heap.size w w8 := bb7.trans (hb8.mono bb7.size)
  have E8 := E7.below hb8 hb8.size
  have P8 := P7.below hb8 hb8.size
  have O8 := O7.below hb8 hb8.size
  clear E7 P7 O7 T7 hb8 bb7
  go_wp2_with fail
  refine (copyR P8 FP).mono ?_
  rintro e w9 ⟨ao9, cp9, rfl, D9, hb9⟩
  have T9 := T8.below hb9
  have bb9 : Below w.heap.size w w9 := bb8.trans (hb9.mono bb8.size)
  have E9 := E8.below hb9 hb9.size
  have P9 := P8.below hb9 hb9.size
  have O9 := O8.below hb9 hb9.size
  have C9 := C8.below hb9 hb9.size
  clear E8 P8 O8 C8 T8 hb9 bb8
  go_wp2_with fail
  refine (putR T9 C9 D9 HN.out HM.out i _ rfl hi HL.out HX.out).mono ?_
  rintro e w10 ⟨yo, yc, rfl, Y10, hb10⟩
  have T10 := T9.below hb10
  have bb10 : Below w.heap.size w w10 := bb9.trans (hb10.mono bb9.size)
  have E10 := E9.below hb10 hb10.size
  have P10 := P9.below hb10 hb10.size
  have O10 := O9.below hb10 hb10.size
  have C10 := C9.below hb10 hb10.size
  have D10 := D9.below hb10 hb10.size
  clear E9 P9 O9 C9 D9 T9 hb10 bb9
  go_wp2_with fail
  refine (copyR Y10 FX).mono ?_
  rintro e w11 ⟨ao11, cp11, rfl, C11, hb11⟩
  have T11 := T10.below hb11
  have bb11 : Below w.heap.size w w11 := bb10.trans (hb11.mono bb10.size)
  have E11 := E10.below hb11 hb11.size
  have P11 := P10.below hb11 hb11.size
  have O11 := O10.below hb11 hb11.size
  have Y11 := Y10.below hb11 hb11.size
  clear E10 P10 O10 Y10 T10 hb11 bb10
  go_wp2_with fail
  refine (partR T11 C11 HFX.out pl _ HPL.out hplx HPX.out).mono ?_
  rintro e w12 ⟨zo, zc, rfl, Z12, hb12⟩
  have T12 := T11.below hb12
  have bb12 : Below w.heap.size w w12 := bb11.trans (hb12.mono bb11.size)
  have E12 := E11.below hb12 hb12.size
  have P12 := P11.below hb12 hb12.size
  have O12 := O11.below hb12 hb12.size
  have Y12 := Y11.below hb12 hb12.size
  have C12 := C11.below hb12 hb12.size
  clear E11 P11 O11 Y11 C11 T11 hb12 bb11
  go_wp2_with fail
  refine (copyR Y12 FX).mono ?_
  rintro e w13 ⟨ao13, cp13, rfl, C13, hb13⟩
  have T13 := T12.below hb13
  have bb13 : Below w.heap.size w w13 := bb12.trans (hb13.mono bb12.size)
  have E13 := E12.below hb13 hb13.size
  have P13 := P12.below hb13 hb13.size
  have O13 := O12.below hb13 hb13.size
  have Y13 := Y12.below hb13 hb13.size
  have Z13 := Z12.below hb13 hb13.size
  clear E12 P12 O12 Y12 Z12 T12 hb13 bb12
  go_wp2_with fail
  refine (copyR O13 FO).mono ?_
  rintro e w14 ⟨ao14, cp14, rfl, D14, hb14⟩
  have T14 := T13.below hb14
  have bb14 : Below w.heap.size w w14 := bb13.trans (hb14.mono bb13.size)
  have E14 := E13.below hb14 hb14.size
  have P14 := P13.below hb14 hb14.size
  have O14 := O13.below hb14 hb14.size
  have Y14 := Y13.below hb14 hb14.size
  have Z14 := Z13.below hb14 hb14.size
  have C14 := C13.below hb14 hb14.size
  clear E13 P13 O13 Y13 Z13 C13 T13 hb14 bb13
  go_wp2_with fail
  refine (putR T14 C14 D14 HFX.out HFO.out pl _ HPL.out hplx HSX.out HBX.out).mono ?_
  rintro e w15 ⟨uo, uc, rfl, U15, hb15⟩
  have T15 := T14.below hb15
  have bb15 : Below w.heap.size w w15 := bb14.trans (hb15.mono bb14.size)
  have E15 := E14.below hb15 hb15.size
  have P15 := P14.below hb15 hb15.size
  have O15 := O14.below hb15 hb15.size
  have Y15 := Y14.below hb15 hb15.size
  have Z15 := Z14.below hb15 hb15.size
  have C15 := C14.below hb15 hb15.size
  have D15 := D14.below hb15 hb15.size
  clear E14 P14 O14 Y14 Z14 C14 D14 T14 hb15 bb14
  go_wp2_with fail
  refine (sameR Z15 P15 true (by simp)).mono ?_
  rintro e w16 ⟨rfl, hb16⟩
  have T16 := T15.below hb16
  have bb16 : Below w.heap.size w w16 := bb15.trans (hb16.mono bb15.size)
  have E16 := E15.below hb16 hb16.size
  have P16 := P15.below hb16 hb16.size
  have O16 := O15.below hb16 hb16.size
  have Y16 := Y15.below hb16 hb16.size
  have Z16 := Z15.below hb16 hb16.size
  have U16 := U15.below hb16 hb16.size
  clear E15 P15 O15 Y15 Z15 U15 T15 hb16 bb15
  go_wp2_with fail
  refine (sameR U16 E16 true (by simp)).mono ?_
  rintro e w17 ⟨rfl, hb17⟩
  have T17 := T16.below hb17
  have bb17 : Below w.heap.size w w17 := bb16.trans (hb17.mono bb16.size)
  have E17 := E16.below hb17 hb17.size
  have P17 := P16.below hb17 hb17.size
  have O17 := O16.below hb17 hb17.size
  have Y17 := Y16.below hb17 hb17.size
  have Z17 := Z16.below hb17 hb17.size
  have U17 := U16.below hb17 hb17.size
  clear E16 P16 O16 Y16 Z16 U16 T16 hb17 bb16
  go_wp2_with fail
  go_ret
  exact ⟨rfl, bb17⟩

end Go.Proofs.YtbapjhlichjhoaaDoor

/-
  The walk of ExprPuts: a part that is not sound, or too large.
-/
import Derived.Test.YtbapjhlichjhoaaDoorExRdW
set_option linter.unusedSimpArgs false
set_option linter.unusedVariables false
namespace Go.Proofs.YtbapjhlichjhoaaDoor
open Go.RowKit Go.Lib

set_option maxHeartbeats 2000000 in
theorem puts_C1 (w : World) (ao bo : Option Addr) (cap cb : Nat) (l m : List Nd) (T0 : SpanCells w) (E0 : Rd w ao cap l) (P0 : Rd w bo cb m) (FE : Fit l) (FP : Fit m) (fr : List Nat) (i : Nat) (hn : begL l = some fr) (hi : i < l.length) (hm : begL m = none) :
    Calls Tryd.prog 6 #[.slice ao l.length cap, .int .i64 i, .slice bo m.length cb] w fun e w' => e = .returned (.bool true) ∧ Below w.heap.size w w' := by
  have bb0 := Below.refl w.heap.size w
  obtain ⟨hl1, hl2⟩ := E0.bound
  obtain ⟨hm1, hm2⟩ := P0.bound
  unfold maxLen at hl2 hm2
  have h64 := (snd_bounds hn).1
  have hok := begOk_of (begL_some hn).2.2.1
  have hai := hok.low i
  have hpl := partL_len l (fr.getD i 0) i hi hai
  have hpn := names_part (fr.getD i 0) i FE.name
  obtain ⟨fo, hfo⟩ := part_snd hn i hi
  have FO := fit_of_snd hfo hpn
  have hps := put_same hok i hi
  generalize hold : partL l (fr.getD i 0) i = old at *
  have HN : Hid (begL l = some fr) := hn
  have HFO : Hid (begL old = some fo) := hfo
  have HOLD : Hid (partL l (fr.getD i 0) i = old) := hold
  have HPS : Hid (putL l (fr.getD i 0) i old = l) := hps
  have HA : Hid (fr.getD i 0 ≤ i) := hai
  have hol : old.length + fr.getD i 0 = i + 1 := by omega
  have HOL : Hid (old.length + fr.getD i 0 = i + 1) := hol
  have hol2 : old.length ≤ i + 1 := by omega
  have hol3 : 0 < old.length := by omega
  clear hn hok hai hpl hpn hfo hps hold hol
  have HM : Hid (begL m = none) := hm
  have HKM : Hid (chkE m = 1) := chkE_no (by simp [sndB, hm])
  clear hm
  go_enter Tryd.func6, Tryd.ntmps6
  go_wp2_with fail
  refine (awk_any _ T0).mono ?_
  rintro e w1 ⟨rfl, hb1⟩
  have T1 := T0.below hb1
  have bb1 : Below w.heap.size w w1 := bb0.trans (hb1.mono bb0.size)
  have E1 := E0.below hb1 hb1.size
  have P1 := P0.below hb1 hb1.size
  clear E0 P0 T0 hb1 bb0
  go_wp2_with fail
  refine (copyR E1 FE).mono ?_
  rintro e w2 ⟨ao2, cp2, rfl, C2, hb2⟩
  have T2 := T1.below hb2
  have bb2 : Below w.heap.size w w2 := bb1.trans (hb2.mono bb1.size)
  have E2 := E1.below hb2 hb2.size
  have P2 := P1.below hb2 hb2.size
  clear E1 P1 T1 hb2 bb1
  go_wp2_with fail
  refine (partR T2 C2 HN.out i _ rfl hi HOLD.out).mono ?_
  rintro e w3 ⟨oo, oc, rfl, O3, hb3⟩
  have T3 := T2.below hb3
  have bb3 : Below w.heap.size w w3 := bb2.trans (hb3.mono bb2.size)
  have E3 := E2.below hb3 hb3.size
  have P3 := P2.below hb3 hb3.size
  have C3 := C2.below hb3 hb3.size
  clear E2 P2 C2 T2 hb3 bb2
  go_wp2_with fail
  refine (copyR E3 FE).mono ?_
  rintro e w4 ⟨ao4, cp4, rfl, C4, hb4⟩
  have T4 := T3.below hb4
  have bb4 : Below w.heap.size w w4 := bb3.trans (hb4.mono bb3.size)
  have E4 := E3.below hb4 hb4.size
  have P4 := P3.below hb4 hb4.size
  have O4 := O3.below hb4 hb4.size
  clear E3 P3 O3 T3 hb4 bb3
  go_wp2_with fail
  refine (copyR O4 FO).mono ?_
  rintro e w5 ⟨ao5, cp5, rfl, D5, hb5⟩
  have T5 := T4.below hb5
  have bb5 : Below w.heap.size w w5 := bb4.trans (hb5.mono bb4.size)
  have E5 := E4.below hb5 hb5.size
  have P5 := P4.below hb5 hb5.size
  have O5 := O4.below hb5 hb5.size
  have C5 := C4.below hb5 hb5.size
  clear E4 P4 O4 C4 T4 hb5 bb4
  go_wp2_with fail
  refine (putR T5 C5 D5 HN.out HFO.out i _ rfl hi (by have := HOL.out; omega) HPS.out).mono ?_
  rintro e w6 ⟨xo, xc, rfl, X6, hb6⟩
  have T6 := T5.below hb6
  have bb6 : Below w.heap.size w w6 := bb5.trans (hb6.mono bb5.size)
  have E6 := E5.below hb6 hb6.size
  have P6 := P5.below hb6 hb6.size
  have O6 := O5.below hb6 hb6.size
  have C6 := C5.below hb6 hb6.size
  have D6 := D5.below hb6 hb6.size
  clear E5 P5 O5 C5 D5 T5 hb6 bb5
  go_wp2_with fail
  refine (sameR X6 E6 true (by simp)).mono ?_
  rintro e w7 ⟨rfl, hb7⟩
  have T7 := T6.below hb7
  have bb7 : Below w.heap.size w w7 := bb6.trans (hb7.mono bb6.size)
  have E7 := E6.below hb7 hb7.size
  have P7 := P6.below hb7 hb7.size
  have O7 := O6.below hb7 hb7.size
  have X7 := X6.below hb7 hb7.size
  clear E6 P6 O6 X6 T6 hb7 bb6
  go_wp2_with fail
  refine (copyR E7 FE).mono ?_
  rintro e w8 ⟨ao8, cp8, rfl, C8, hb8⟩
  have T8 := T7.below hb8
  have bb8 : Below w.heap.size w w8 := bb7.trans (hb8.mono bb7.size)
  have E8 := E7.below hb8 hb8.size
  have P8 := P7.below hb8 hb8.size
  have O8 := O7.below hb8 hb8.size
  clear E7 P7 O7 T7 hb8 bb7
  go_wp2_with fail
  refine (copyR P8 FP).mono ?_
  rintro e w9 ⟨ao9, cp9, rfl, D9, hb9⟩
  have T9 := T8.below hb9
  have bb9 : Below w.heap.size w w9 := bb8.trans (hb9.mono bb8.size)
  have E9 := E8.below hb9 hb9.size
  have P9 := P8.below hb9 hb9.size
  have O9 := O8.below hb9 hb9.size
  have C9 := C8.below hb9 hb9.size
  clear E8 P8 O8 C8 T8 hb9 bb8
  go_wp2_with fail
  refine (put_none2 _ _ l m fr _ _ _ (Nat.le_refl _) T9 C9 D9 HN.out HM.out).mono ?_
  rintro e w10 ⟨rfl, hb10⟩
  have T10 := T9.below hb10
  have bb10 : Below w.heap.size w w10 := bb9.trans (hb10.mono bb9.size)
  have E10 := E9.below hb10 hb10.size
  have P10 := P9.below hb10 hb10.size
  have O10 := O9.below hb10 hb10.size
  have C10 := C9.below hb10 hb10.size
  have D10 := D9.below hb10 hb10.size
  clear E9 P9 O9 C9 D9 T9 hb10 bb9
  go_wp2_with fail
  refine (rchkR P10 FP 1 HKM.out).mono ?_
  rintro e w11 ⟨rfl, hb11⟩
  have T11 := T10.below hb11
  have bb11 : Below w.heap.size w w11 := bb10.trans (hb11.mono bb10.size)
  have E11 := E10.below hb11 hb11.size
  have P11 := P10.below hb11 hb11.size
  have O11 := O10.below hb11 hb11.size
  have C11 := C10.below hb11 hb11.size
  have D11 := D10.below hb11 hb11.size
  clear E10 P10 O10 C10 D10 T10 hb11 bb10
  go_wp2_with fail
  go_ret
  exact ⟨rfl, bb11⟩

set_option maxHeartbeats 2000000 in
theorem puts_C2 (w : World) (ao bo : Option Addr) (cap cb : Nat) (l m : List Nd) (T0 : SpanCells w) (E0 : Rd w ao cap l) (P0 : Rd w bo cb m) (FE : Fit l) (FP : Fit m) (fr : List Nat) (i : Nat) (hn : begL l = some fr) (hi : i < l.length) (fm : List Nat) (hm : begL m = some fm) (hlg : 64 + (i + 1) < l.length + m.length + fr.getD i 0) :
    Calls Tryd.prog 6 #[.slice ao l.length cap, .int .i64 i, .slice bo m.length cb] w fun e w' => e = .returned (.bool true) ∧ Below w.heap.size w w' := by
  have bb0 := Below.refl w.heap.size w
  obtain ⟨hl1, hl2⟩ := E0.bound
  obtain ⟨hm1, hm2⟩ := P0.bound
  unfold maxLen at hl2 hm2
  have h64 := (snd_bounds hn).1
  have hok := begOk_of (begL_some hn).2.2.1
  have hai := hok.low i
  have hpl := partL_len l (fr.getD i 0) i hi hai
  have hpn := names_part (fr.getD i 0) i FE.name
  obtain ⟨fo, hfo⟩ := part_snd hn i hi
  have FO := fit_of_snd hfo hpn
  have hps := put_same hok i hi
  generalize hold : partL l (fr.getD i 0) i = old at *
  have HN : Hid (begL l = some fr) := hn
  have HFO : Hid (begL old = some fo) := hfo
  have HOLD : Hid (partL l (fr.getD i 0) i = old) := hold
  have HPS : Hid (putL l (fr.getD i 0) i old = l) := hps
  have HA : Hid (fr.getD i 0 ≤ i) := hai
  have hol : old.length + fr.getD i 0 = i + 1 := by omega
  have HOL : Hid (old.length + fr.getD i 0 = i + 1) := hol
  have hol2 : old.length ≤ i + 1 := by omega
  have hol3 : 0 < old.length := by omega
  clear hn hok hai hpl hpn hfo hps hold hol
  have HM : Hid (begL m = some fm) := hm
  have HKM : Hid (chkE m = 0) := chkE_yes (by simp [sndB, hm])
  have m64 := (snd_bounds hm).1
  have HL : Hid (64 + (i + 1) < l.length + m.length + fr.getD i 0) := hlg
  have hlg2 : (64 : Int) < (l.length : Int) - old.length + m.length := by have := HOL.out; omega
  clear hm hlg
  go_enter Tryd.func6, Tryd.ntmps6
  go_wp2_with fail
  refine (awk_any _ T0).mono ?_
  rintro e w1 ⟨rfl, hb1⟩
  have T1 := T0.below hb1
  have bb1 : Below w.heap.size w w1 := bb0.trans (hb1.mono bb0.size)
  have E1 := E0.below hb1 hb1.size
  have P1 := P0.below hb1 hb1.size
  clear E0 P0 T0 hb1 bb0
  go_wp2_with fail
  refine (copyR E1 FE).mono ?_
  rintro e w2 ⟨ao2, cp2, rfl, C2, hb2⟩
  have T2 := T1.below hb2
  have bb2 : Below w.heap.size w w2 := bb1.trans (hb2.mono bb1.size)
  have E2 := E1.below hb2 hb2.size
  have P2 := P1.below hb2 hb2.size
  clear E1 P1 T1 hb2 bb1
  go_wp2_with fail
  refine (partR T2 C2 HN.out i _ rfl hi HOLD.out).mono ?_
  rintro e w3 ⟨oo, oc, rfl, O3, hb3⟩
  have T3 := T2.below hb3
  have bb3 : Below w.heap.size w w3 := bb2.trans (hb3.mono bb2.size)
  have E3 := E2.below hb3 hb3.size
  have P3 := P2.below hb3 hb3.size
  have C3 := C2.below hb3 hb3.size
  clear E2 P2 C2 T2 hb3 bb2
  go_wp2_with fail
  refine (copyR E3 FE).mono ?_
  rintro e w4 ⟨ao4, cp4, rfl, C4, hb4⟩
  have T4 := T3.below hb4
  have bb4 : Below w.heap.size w w4 := bb3.trans (hb4.mono bb3.size)
  have E4 := E3.below hb4 hb4.size
  have P4 := P3.below hb4 hb4.size
  have O4 := O3.below hb4 hb4.size
  clear E3 P3 O3 T3 hb4 bb3
  go_wp2_with fail
  refine (copyR O4 FO).mono ?_
  rintro e w5 ⟨ao5, cp5, rfl, D5, hb5⟩
  have T5 := T4.below hb5
  have bb5 : Below w.heap.size w w5 := bb4.trans (hb5.mono bb4.size)
  have E5 := E4.below hb5 hb5.size
  have P5 := P4.below hb5 hb5.size
  have O5 := O4.below hb5 hb5.size
  have C5 := C4.below hb5 hb5.size
  clear E4 P4 O4 C4 T4 hb5 bb4
  go_wp2_with fail
  refine (putR T5 C5 D5 HN.out HFO.out i _ rfl hi (by have := HOL.out; omega) HPS.out).mono ?_
  rintro e w6 ⟨xo, xc, rfl, X6, hb6⟩
  have T6 := T5.below hb6
  have bb6 : Below w.heap.size w w6 := bb5.trans (hb6.mono bb5.size)
  have E6 := E5.below hb6 hb6.size
  have P6 := P5.below hb6 hb6.size
  have O6 := O5.below hb6 hb6.size
  have C6 := C5.below hb6 hb6.size
  have D6 := D5.below hb6 hb6.size
  clear E5 P5 O5 C5 D5 T5 hb6 bb5
  go_wp2_with fail
  refine (sameR X6 E6 true (by simp)).mono ?_
  rintro e w7 ⟨rfl, hb7⟩
  have T7 := T6.below hb7
  have bb7 : Below w.heap.size w w7 := bb6.trans (hb7.mono bb6.size)
  have E7 := E6.below hb7 hb7.size
  have P7 := P6.below hb7 hb7.size
  have O7 := O6.below hb7 hb7.size
  have X7 := X6.below hb7 hb7.size
  clear E6 P6 O6 X6 T6 hb7 bb6
  go_wp2_with fail
  refine (copyR E7 FE).mono ?_
  rintro e w8 ⟨ao8, cp8, rfl, C8, hb8⟩
  have T8 := T7.below hb8
  have bb8 : Below w.heap.size w w8 := bb7.trans (hb8.mono bb7.size)
  have E8 := E7.below hb8 hb8.size
  have P8 := P7.below hb8 hb8.size
  have O8 := O7.below hb8 hb8.size
  clear E7 P7 O7 T7 hb8 bb7
  go_wp2_with fail
  refine (copyR P8 FP).mono ?_
  rintro e w9 ⟨ao9, cp9, rfl, D9, hb9⟩
  have T9 := T8.below hb9
  have bb9 : Below w.heap.size w w9 := bb8.trans (hb9.mono bb8.size)
  have E9 := E8.below hb9 hb9.size
  have P9 := P8.below hb9 hb9.size
  have O9 := O8.below hb9 hb9.size
  have C9 := C8.below hb9 hb9.size
  clear E8 P8 O8 C8 T8 hb9 bb8
  go_wp2_with fail
  refine (putR_large T9 C9 D9 HN.out HM.out i hi HL.out).mono ?_
  rintro e w10 ⟨rfl, hb10⟩
  have T10 := T9.below hb10
  have bb10 : Below w.heap.size w w10 := bb9.trans (hb10.mono bb9.size)
  have E10 := E9.below hb10 hb10.size
  have P10 := P9.below hb10 hb10.size
  have O10 := O9.below hb10 hb10.size
  have C10 := C9.below hb10 hb10.size
  have D10 := D9.below hb10 hb10.size
  clear E9 P9 O9 C9 D9 T9 hb10 bb9
  go_wp2_with fail
  refine (rchkR P10 FP 0 HKM.out).mono ?_
  rintro e w11 ⟨rfl, hb11⟩
  have T11 := T10.below hb11
  have bb11 : Below w.heap.size w w11 := bb10.trans (hb11.mono bb10.size)
  have E11 := E10.below hb11 hb11.size
  have P11 := P10.below hb11 hb11.size
  have O11 := O10.below hb11 hb11.size
  have C11 := C10.below hb11 hb11.size
  have D11 := D10.below hb11 hb11.size
  clear E10 P10 O10 C10 D10 T10 hb11 bb10
  go_wp2_with fail
  go_ret
  exact ⟨rfl, bb11⟩

end Go.Proofs.YtbapjhlichjhoaaDoor

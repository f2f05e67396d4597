/-
  EvalPlays, walked.
-/
import Derived.Test.YtkgfcamlfnlpoaaDoorEwLwW
import Derived.Test.YtkgfcamlfnlpoaaDoorEwRfW
set_option linter.unusedSimpArgs false
set_option linter.unusedVariables false
namespace Go.Proofs.YtkgfcamlfnlpoaaDoor
open Go.RowKit Go.Lib

set_option maxRecDepth 20000 in
set_option maxHeartbeats 2000000 in
theorem evPlays.walk (w : World) (ao : Option Addr) (cap : Nat) (l : List Nd) (eo : Option Addr) (ec : Nat) (bs : List Bd) (h : EvIn w ao cap l eo ec bs) (hF : Fit l) (hbs : BdOk bs) (hnum : ∀ x ∈ l, i6 x.n) :
    Calls Tryd.prog 4 #[.slice ao l.length cap, .slice eo bs.length ec] w fun e w' => e = .returned (.bool true) ∧ Below w.heap.size w w' := by
  have HH : Hid (EvIn w ao cap l eo ec bs) := h
  obtain ⟨v1, v2⟩ : Nonempty (Int × Int) ∧ Nonempty (Int × Int) := ⟨⟨(0, 0)⟩, ⟨(0, 0)⟩⟩
  have cE : Hid (∀ V a c a' c', Below w.heap.size w V → Rd V a c l → Bds V a' c' bs → Calls Tryd.prog 24 #[.slice a l.length c, .slice a' bs.length c'] V fun e w' => e = .returned (.tuple #[.int .i64 (evA bs l).1, .int .i64 (evA bs l).2]) ∧ Below V.heap.size V w') := fun V a c a' c' hV hR hB => eval_any ⟨(h.below hV).T, (h.below hV).G, hR, hB, h.reach⟩
  have cT : Hid (∀ V a c a' c', Below w.heap.size w V → Rd V a c l → Bds V a' c' bs → Calls Tryd.prog 27 #[.slice a l.length c, .slice a' bs.length c'] V fun e w' => e = .returned (.tuple #[.int .i64 (evT bs l).1, .int .i64 (evT bs l).2]) ∧ Below V.heap.size V w') := fun V a c a' c' hV hR hB => trap_any ⟨(h.below hV).T, (h.below hV).G, hR, hB, h.reach⟩
  have dE : Hid (∀ V, Below w.heap.size w V → Calls Tryd.prog 26 #[.slice ao l.length cap, .slice eo bs.length ec] V fun e w' => e = .returned (.tuple #[.int .i64 (evA bs l).1, .int .i64 (evA bs l).2]) ∧ Below V.heap.size V w') := fun V hV => refEval_any (h.below hV) hF hbs hnum
  have dT : Hid (∀ V, Below w.heap.size w V → Calls Tryd.prog 28 #[.slice ao l.length cap, .slice eo bs.length ec] V fun e w' => e = .returned (.tuple #[.int .i64 (evT bs l).1, .int .i64 (evT bs l).2]) ∧ Below V.heap.size V w') := fun V hV => refTrap_any (h.below hV) hF hbs hnum
  clear h hbs hnum v1 v2
  generalize evA bs l = A at *
  generalize evT bs l = T at *
  obtain ⟨x1, x2⟩ := A
  obtain ⟨y1, y2⟩ := T
  simp only at cE cT dE dT
  go_enter Tryd.func4, Tryd.ntmps4
  go_wp2_with fail
  refine (awake8_any w HH.out.T HH.out.G).mono ?_
  rintro e w1 ⟨rfl, hb1⟩
  have B1 : Hid (Below w.heap.size w w1) := hb1
  clear hb1
  go_wp2_with fail
  refine (copyR (HH.out.below B1.out).R hF).mono ?_
  rintro e w2 ⟨a2, c2, rfl, hR2, hb2⟩
  have B2 : Hid (Below w.heap.size w w2) := B1.out.trans (hb2.mono B1.out.size)
  have R2 : Hid (Rd w2 a2 c2 l) := hR2
  clear hR2 hb2 B1
  go_wp2_with fail
  refine (copied8_rd HH.out.reach (HH.out.below B2.out).B).mono ?_
  rintro e w3 ⟨a3, c3, rfl, hB3, hb3⟩
  have B3 : Hid (Below w.heap.size w w3) := B2.out.trans (hb3.mono B2.out.size)
  have R3 : Hid (Rd w3 a2 c2 l) := R2.out.below hb3 hb3.size
  have Q3 : Hid (Bds w3 a3 c3 bs) := hB3
  clear hB3 hb3 B2 R2
  go_wp2_with fail
  refine (cE.out w3 a2 c2 a3 c3 B3.out R3.out Q3.out).mono ?_
  rintro e w4 ⟨rfl, hb4⟩
  have B4 : Hid (Below w.heap.size w w4) := B3.out.trans (hb4.mono B3.out.size)
  clear hb4 B3 R3 Q3
  go_wp2_with fail
  refine (dE.out w4 B4.out).mono ?_
  rintro e w5 ⟨rfl, hb5⟩
  have B5 : Hid (Below w.heap.size w w5) := B4.out.trans (hb5.mono B4.out.size)
  clear hb5 B4
  go_wp2_with fail
  refine (copyR (HH.out.below B5.out).R hF).mono ?_
  rintro e w6 ⟨a6, c6, rfl, hR6, hb6⟩
  have B6 : Hid (Below w.heap.size w w6) := B5.out.trans (hb6.mono B5.out.size)
  have R6 : Hid (Rd w6 a6 c6 l) := hR6
  clear hR6 hb6 B5
  go_wp2_with fail
  refine (copied8_rd HH.out.reach (HH.out.below B6.out).B).mono ?_
  rintro e w7 ⟨a7, c7, rfl, hB7, hb7⟩
  have B7 : Hid (Below w.heap.size w w7) := B6.out.trans (hb7.mono B6.out.size)
  have R7 : Hid (Rd w7 a6 c6 l) := R6.out.below hb7 hb7.size
  have Q7 : Hid (Bds w7 a7 c7 bs) := hB7
  clear hB7 hb7 B6 R6
  go_wp2_with fail
  refine (cT.out w7 a6 c6 a7 c7 B7.out R7.out Q7.out).mono ?_
  rintro e w8 ⟨rfl, hb8⟩
  have B8 : Hid (Below w.heap.size w w8) := B7.out.trans (hb8.mono B7.out.size)
  clear hb8 B7 R7 Q7
  go_wp2_with fail
  refine (dT.out w8 B8.out).mono ?_
  rintro e w9 ⟨rfl, hb9⟩
  have B9 : Hid (Below w.heap.size w w9) := B8.out.trans (hb9.mono B8.out.size)
  clear hb9 B8
  go_wp2_with fail
  go_ret
  exact ⟨by simp, B9.out⟩
end Go.Proofs.YtkgfcamlfnlpoaaDoor

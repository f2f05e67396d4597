/-
  The walk of ExprOrders.
-/
import Derived.Test.YteaipdmbdcmmeaaDoorExOrXW
set_option linter.unusedSimpArgs false
set_option linter.unusedVariables false
namespace Go.Proofs.YteaipdmbdcmmeaaDoor
open Go.RowKit Go.Lib Go.Sort

set_option maxHeartbeats 4000000 in
theorem orders_U1 (w : World) (ao bo co : Option Addr) (ca cb cc : Nat) (a b c : List Nd) (T0 : Tabs w) (A0 : Rd w ao ca a) (B0 : Rd w bo cb b) (C0 : Rd w co cc c) (FA : Fit a) (FB : Fit b) (FC : Fit c) (ha : begL a = none) :
    Calls Tryd.prog 4 #[.slice ao a.length ca, .slice bo b.length cb, .slice co c.length cc] w fun e w' => e = .returned (.bool true) ∧ Below w.heap.size w w' := by
  have bb0 := Below.refl w.heap.size w
  obtain ⟨hl1, hl2⟩ := A0.bound
  obtain ⟨hm1, hm2⟩ := B0.bound
  obtain ⟨hn1, hn2⟩ := C0.bound
  unfold maxLen at hl2 hm2 hn2
  have HKa : Hid (chkE a = 1) := chkE_no (by simp [sndB, ha])
  clear ha
  obtain ⟨x, y, hxy⟩ : ∃ x y, ordE a b = (x, y) := ⟨_, _, rfl⟩
  have HXY : Hid (ordE a b = (x, y)) := hxy
  clear hxy
  go_enter Tryd.func4, Tryd.ntmps4
  go_wp2_with fail
  refine (awk_any _ T0.spans).mono ?_
  rintro e w1 ⟨rfl, hb1⟩
  have T1 := T0.below hb1
  have bb1 : Below w.heap.size w w1 := bb0.trans (hb1.mono bb0.size)
  have A1 := A0.below hb1 hb1.size
  have B1 := B0.below hb1 hb1.size
  have C1 := C0.below hb1 hb1.size
  clear A0 B0 C0 T0 hb1 bb0
  go_wp2_with fail
  refine (copyR A1 FA).mono ?_
  rintro e w2 ⟨o2, p2, rfl, D2, hb2⟩
  have T2 := T1.below hb2
  have bb2 : Below w.heap.size w w2 := bb1.trans (hb2.mono bb1.size)
  have A2 := A1.below hb2 hb2.size
  have B2 := B1.below hb2 hb2.size
  have C2 := C1.below hb2 hb2.size
  clear A1 B1 C1 T1 hb2 bb1
  go_wp2_with fail
  refine (copyR B2 FB).mono ?_
  rintro e w3 ⟨q3, r3, rfl, E3, hb3⟩
  have T3 := T2.below hb3
  have bb3 : Below w.heap.size w w3 := bb2.trans (hb3.mono bb2.size)
  have A3 := A2.below hb3 hb3.size
  have B3 := B2.below hb3 hb3.size
  have C3 := C2.below hb3 hb3.size
  have D3 := D2.below hb3 hb3.size
  clear A2 B2 C2 D2 T2 hb3 bb2
  go_wp2_with fail
  refine (orderX T3 D3 E3 x y HXY.out).mono ?_
  rintro e w4 ⟨rfl, hb4⟩
  have T4 := T3.below hb4
  have bb4 : Below w.heap.size w w4 := bb3.trans (hb4.mono bb3.size)
  have A4 := A3.below hb4 hb4.size
  have B4 := B3.below hb4 hb4.size
  have C4 := C3.below hb4 hb4.size
  have D4 := D3.below hb4 hb4.size
  have E4 := E3.below hb4 hb4.size
  clear A3 B3 C3 D3 E3 T3 hb4 bb3
  go_wp2_with fail
  refine (orderR A4 B4 FA FB x y HXY.out).mono ?_
  rintro e w5 ⟨rfl, hb5⟩
  have T5 := T4.below hb5
  have bb5 : Below w.heap.size w w5 := bb4.trans (hb5.mono bb4.size)
  have A5 := A4.below hb5 hb5.size
  have B5 := B4.below hb5 hb5.size
  have C5 := C4.below hb5 hb5.size
  have D5 := D4.below hb5 hb5.size
  have E5 := E4.below hb5 hb5.size
  clear A4 B4 C4 D4 E4 T4 hb5 bb4
  go_wp2_with fail
  refine (rchkR A5 FA 1 HKa.out).mono ?_
  rintro e w6 ⟨rfl, hb6⟩
  have T6 := T5.below hb6
  have bb6 : Below w.heap.size w w6 := bb5.trans (hb6.mono bb5.size)
  have A6 := A5.below hb6 hb6.size
  have B6 := B5.below hb6 hb6.size
  have C6 := C5.below hb6 hb6.size
  have D6 := D5.below hb6 hb6.size
  have E6 := E5.below hb6 hb6.size
  clear A5 B5 C5 D5 E5 T5 hb6 bb5
  go_wp2_with fail
  go_ret
  exact ⟨rfl, bb6⟩

set_option maxHeartbeats 4000000 in
theorem orders_U2 (w : World) (ao bo co : Option Addr) (ca cb cc : Nat) (a b c : List Nd) (T0 : Tabs w) (A0 : Rd w ao ca a) (B0 : Rd w bo cb b) (C0 : Rd w co cc c) (FA : Fit a) (FB : Fit b) (FC : Fit c) (fa : List Nat) (ha : begL a = some fa) (hb : begL b = none) :
    Calls Tryd.prog 4 #[.slice ao a.length ca, .slice bo b.length cb, .slice co c.length cc] w fun e w' => e = .returned (.bool true) ∧ Below w.heap.size w w' := by
  have bb0 := Below.refl w.heap.size w
  obtain ⟨hl1, hl2⟩ := A0.bound
  obtain ⟨hm1, hm2⟩ := B0.bound
  obtain ⟨hn1, hn2⟩ := C0.bound
  unfold maxLen at hl2 hm2 hn2
  have HKa : Hid (chkE a = 0) := chkE_yes (by simp [sndB, ha])
  have HKb : Hid (chkE b = 1) := chkE_no (by simp [sndB, hb])
  clear ha hb
  obtain ⟨x, y, hxy⟩ : ∃ x y, ordE a b = (x, y) := ⟨_, _, rfl⟩
  have HXY : Hid (ordE a b = (x, y)) := hxy
  clear hxy
  go_enter Tryd.func4, Tryd.ntmps4
  go_wp2_with fail
  refine (awk_any _ T0.spans).mono ?_
  rintro e w1 ⟨rfl, hb1⟩
  have T1 := T0.below hb1
  have bb1 : Below w.heap.size w w1 := bb0.trans (hb1.mono bb0.size)
  have A1 := A0.below hb1 hb1.size
  have B1 := B0.below hb1 hb1.size
  have C1 := C0.below hb1 hb1.size
  clear A0 B0 C0 T0 hb1 bb0
  go_wp2_with fail
  refine (copyR A1 FA).mono ?_
  rintro e w2 ⟨o2, p2, rfl, D2, hb2⟩
  have T2 := T1.below hb2
  have bb2 : Below w.heap.size w w2 := bb1.trans (hb2.mono bb1.size)
  have A2 := A1.below hb2 hb2.size
  have B2 := B1.below hb2 hb2.size
  have C2 := C1.below hb2 hb2.size
  clear A1 B1 C1 T1 hb2 bb1
  go_wp2_with fail
  refine (copyR B2 FB).mono ?_
  rintro e w3 ⟨q3, r3, rfl, E3, hb3⟩
  have T3 := T2.below hb3
  have bb3 : Below w.heap.size w w3 := bb2.trans (hb3.mono bb2.size)
  have A3 := A2.below hb3 hb3.size
  have B3 := B2.below hb3 hb3.size
  have C3 := C2.below hb3 hb3.size
  have D3 := D2.below hb3 hb3.size
  clear A2 B2 C2 D2 T2 hb3 bb2
  go_wp2_with fail
  refine (orderX T3 D3 E3 x y HXY.out).mono ?_
  rintro e w4 ⟨rfl, hb4⟩
  have T4 := T3.below hb4
  have bb4 : Below w.heap.size w w4 := bb3.trans (hb4.mono bb3.size)
  have A4 := A3.below hb4 hb4.size
  have B4 := B3.below hb4 hb4.size
  have C4 := C3.below hb4 hb4.size
  have D4 := D3.below hb4 hb4.size
  have E4 := E3.below hb4 hb4.size
  clear A3 B3 C3 D3 E3 T3 hb4 bb3
  go_wp2_with fail
  refine (orderR A4 B4 FA FB x y HXY.out).mono ?_
  rintro e w5 ⟨rfl, hb5⟩
  have T5 := T4.below hb5
  have bb5 : Below w.heap.size w w5 := bb4.trans (hb5.mono bb4.size)
  have A5 := A4.below hb5 hb5.size
  have B5 := B4.below hb5 hb5.size
  have C5 := C4.below hb5 hb5.size
  have D5 := D4.below hb5 hb5.size
  have E5 := E4.below hb5 hb5.size
  clear A4 B4 C4 D4 E4 T4 hb5 bb4
  go_wp2_with fail
  refine (rchkR A5 FA 0 HKa.out).mono ?_
  rintro e w6 ⟨rfl, hb6⟩
  have T6 := T5.below hb6
  have bb6 : Below w.heap.size w w6 := bb5.trans (hb6.mono bb5.size)
  have A6 := A5.below hb6 hb6.size
  have B6 := B5.below hb6 hb6.size
  have C6 := C5.below hb6 hb6.size
  have D6 := D5.below hb6 hb6.size
  have E6 := E5.below hb6 hb6.size
  clear A5 B5 C5 D5 E5 T5 hb6 bb5
  go_wp2_with fail
  refine (rchkR B6 FB 1 HKb.out).mono ?_
  rintro e w7 ⟨rfl, hb7⟩
  have T7 := T6.below hb7
  have bb7 : Below w.heap.size w w7 := bb6.trans (hb7.mono bb6.size)
  have A7 := A6.below hb7 hb7.size
  have B7 := B6.below hb7 hb7.size
  have C7 := C6.below hb7 hb7.size
  have D7 := D6.below hb7 hb7.size
  have E7 := E6.below hb7 hb7.size
  clear A6 B6 C6 D6 E6 T6 hb7 bb6
  go_wp2_with fail
  go_ret
  exact ⟨rfl, bb7⟩

set_option maxHeartbeats 4000000 in
theorem orders_U3 (w : World) (ao bo co : Option Addr) (ca cb cc : Nat) (a b c : List Nd) (T0 : Tabs w) (A0 : Rd w ao ca a) (B0 : Rd w bo cb b) (C0 : Rd w co cc c) (FA : Fit a) (FB : Fit b) (FC : Fit c) (fa fb : List Nat) (ha : begL a = some fa) (hb : begL b = some fb) (hc : begL c = none) :
    Calls Tryd.prog 4 #[.slice ao a.length ca, .slice bo b.length cb, .slice co c.length cc] w fun e w' => e = .returned (.bool true) ∧ Below w.heap.size w w' := by
  have bb0 := Below.refl w.heap.size w
  obtain ⟨hl1, hl2⟩ := A0.bound
  obtain ⟨hm1, hm2⟩ := B0.bound
  obtain ⟨hn1, hn2⟩ := C0.bound
  unfold maxLen at hl2 hm2 hn2
  have HKa : Hid (chkE a = 0) := chkE_yes (by simp [sndB, ha])
  have HKb : Hid (chkE b = 0) := chkE_yes (by simp [sndB, hb])
  have HKc : Hid (chkE c = 1) := chkE_no (by simp [sndB, hc])
  clear ha hb hc
  obtain ⟨x, y, hxy⟩ : ∃ x y, ordE a b = (x, y) := ⟨_, _, rfl⟩
  have HXY : Hid (ordE a b = (x, y)) := hxy
  clear hxy
  go_enter Tryd.func4, Tryd.ntmps4
  go_wp2_with fail
  refine (awk_any _ T0.spans).mono ?_
  rintro e w1 ⟨rfl, hb1⟩
  have T1 := T0.below hb1
  have bb1 : Below w.heap.size w w1 := bb0.trans (hb1.mono bb0.size)
  have A1 := A0.below hb1 hb1.size
  have B1 := B0.below hb1 hb1.size
  have C1 := C0.below hb1 hb1.size
  clear A0 B0 C0 T0 hb1 bb0
  go_wp2_with fail
  refine (copyR A1 FA).mono ?_
  rintro e w2 ⟨o2, p2, rfl, D2, hb2⟩
  have T2 := T1.below hb2
  have bb2 : Below w.heap.size w w2 := bb1.trans (hb2.mono bb1.size)
  have A2 := A1.below hb2 hb2.size
  have B2 := B1.below hb2 hb2.size
  have C2 := C1.below hb2 hb2.size
  clear A1 B1 C1 T1 hb2 bb1
  go_wp2_with fail
  refine (copyR B2 FB).mono ?_
  rintro e w3 ⟨q3, r3, rfl, E3, hb3⟩
  have T3 := T2.below hb3
  have bb3 : Below w.heap.size w w3 := bb2.trans (hb3.mono bb2.size)
  have A3 := A2.below hb3 hb3.size
  have B3 := B2.below hb3 hb3.size
  have C3 := C2.below hb3 hb3.size
  have D3 := D2.below hb3 hb3.size
  clear A2 B2 C2 D2 T2 hb3 bb2
  go_wp2_with fail
  refine (orderX T3 D3 E3 x y HXY.out).mono ?_
  rintro e w4 ⟨rfl, hb4⟩
  have T4 := T3.below hb4
  have bb4 : Below w.heap.size w w4 := bb3.trans (hb4.mono bb3.size)
  have A4 := A3.below hb4 hb4.size
  have B4 := B3.below hb4 hb4.size
  have C4 := C3.below hb4 hb4.size
  have D4 := D3.below hb4 hb4.size
  have E4 := E3.below hb4 hb4.size
  clear A3 B3 C3 D3 E3 T3 hb4 bb3
  go_wp2_with fail
  refine (orderR A4 B4 FA FB x y HXY.out).mono ?_
  rintro e w5 ⟨rfl, hb5⟩
  have T5 := T4.below hb5
  have bb5 : Below w.heap.size w w5 := bb4.trans (hb5.mono bb4.size)
  have A5 := A4.below hb5 hb5.size
  have B5 := B4.below hb5 hb5.size
  have C5 := C4.below hb5 hb5.size
  have D5 := D4.below hb5 hb5.size
  have E5 := E4.below hb5 hb5.size
  clear A4 B4 C4 D4 E4 T4 hb5 bb4
  go_wp2_with fail
  refine (rchkR A5 FA 0 HKa.out).mono ?_
  rintro e w6 ⟨rfl, hb6⟩
  have T6 := T5.below hb6
  have bb6 : Below w.heap.size w w6 := bb5.trans (hb6.mono bb5.size)
  have A6 := A5.below hb6 hb6.size
  have B6 := B5.below hb6 hb6.size
  have C6 := C5.below hb6 hb6.size
  have D6 := D5.below hb6 hb6.size
  have E6 := E5.below hb6 hb6.size
  clear A5 B5 C5 D5 E5 T5 hb6 bb5
  go_wp2_with fail
  refine (rchkR B6 FB 0 HKb.out).mono ?_
  rintro e w7 ⟨rfl, hb7⟩
  have T7 := T6.below hb7
  have bb7 : Below w.heap.size w w7 := bb6.trans (hb7.mono bb6.size)
  have A7 := A6.below hb7 hb7.size
  have B7 := B6.below hb7 hb7.size
  have C7 := C6.below hb7 hb7.size
  have D7 := D6.below hb7 hb7.size
  have E7 := E6.below hb7 hb7.size
  clear A6 B6 C6 D6 E6 T6 hb7 bb6
  go_wp2_with fail
  refine (rchkR C7 FC 1 HKc.out).mono ?_
  rintro e w8 ⟨rfl, hb8⟩
  have T8 := T7.below hb8
  have bb8 : Below w.heap.size w w8 := bb7.trans (hb8.mono bb7.size)
  have A8 := A7.below hb8 hb8.size
  have B8 := B7.below hb8 hb8.size
  have C8 := C7.below hb8 hb8.size
  have D8 := D7.below hb8 hb8.size
  have E8 := E7.below hb8 hb8.size
  clear A7 B7 C7 D7 E7 T7 hb8 bb7
  go_wp2_with fail
  go_ret
  exact ⟨rfl, bb8⟩

set_option maxHeartbeats 4000000 in
theorem orders_S (w : World) (ao bo co : Option Addr) (ca cb cc : Nat) (a b c : List Nd) (T0 : Tabs w) (A0 : Rd w ao ca a) (B0 : Rd w bo cb b) (C0 : Rd w co cc c) (FA : Fit a) (FB : Fit b) (FC : Fit c) (fa fb fc : List Nat) (ha : begL a = some fa) (hb : begL b = some fb) (hc : begL c = some fc) :
    Calls Tryd.prog 4 #[.slice ao a.length ca, .slice bo b.length cb, .slice co c.length cc] w fun e w' => e = .returned (.bool true) ∧ Below w.heap.size w w' := by
  have bb0 := Below.refl w.heap.size w
  obtain ⟨hl1, hl2⟩ := A0.bound
  obtain ⟨hm1, hm2⟩ := B0.bound
  obtain ⟨hn1, hn2⟩ := C0.bound
  unfold maxLen at hl2 hm2 hn2
  have HKa : Hid (chkE a = 0) := chkE_yes (by simp [sndB, ha])
  have HKb : Hid (chkE b = 0) := chkE_yes (by simp [sndB, hb])
  have HKc : Hid (chkE c = 0) := chkE_yes (by simp [sndB, hc])
  have hS : Hid (Sg (ordW b fb a fa) ∧ Sg (ordW b fb c fc) ∧ Sg (ordW a fa c fc)) := ⟨ordF_sg _ _ _ _ _ _ _, ordF_sg _ _ _ _ _ _ _, ordF_sg _ _ _ _ _ _ _⟩
  have hNeg : Hid (ordW a fa b fb = -ordW b fb a fa) := ordW_neg ha hb
  have hTri : Hid (Tri (ordW a fa b fb) (ordW b fb c fc) (ordW a fa c fc)) := ordW_tri ha hb hc
  have hZ : Hid (ordW a fa b fb = 0 ↔ a = b) := ordW_zero ha hb
  have hSm : Hid (a.length < b.length → ordW a fa b fb = -1) := ordW_small ha hb
  have HXY : Hid (ordE a b = (ordW a fa b fb, 0)) := ordE_yes ha hb
  have HYX : Hid (ordE b a = (ordW b fb a fa, 0)) := ordE_yes hb ha
  have HYZ : Hid (ordE b c = (ordW b fb c fc, 0)) := ordE_yes hb hc
  have HXZ : Hid (ordE a c = (ordW a fa c fc, 0)) := ordE_yes ha hc
  clear ha hb hc
  generalize ordW a fa b fb = x at *
  generalize ordW b fb a fa = y at *
  generalize ordW b fb c fc = z at *
  generalize ordW a fa c fc = v at *
  go_enter Tryd.func4, Tryd.ntmps4
  go_wp2_with fail
  refine (awk_any _ T0.spans).mono ?_
  rintro e w1 ⟨rfl, hb1⟩
  have T1 := T0.below hb1
  have bb1 : Below w.heap.size w w1 := bb0.trans (hb1.mono bb0.size)
  have A1 := A0.below hb1 hb1.size
  have B1 := B0.below hb1 hb1.size
  have C1 := C0.below hb1 hb1.size
  clear A0 B0 C0 T0 hb1 bb0
  go_wp2_with fail
  refine (copyR A1 FA).mono ?_
  rintro e w2 ⟨o2, p2, rfl, D2, hb2⟩
  have T2 := T1.below hb2
  have bb2 : Below w.heap.size w w2 := bb1.trans (hb2.mono bb1.size)
  have A2 := A1.below hb2 hb2.size
  have B2 := B1.below hb2 hb2.size
  have C2 := C1.below hb2 hb2.size
  clear A1 B1 C1 T1 hb2 bb1
  go_wp2_with fail
  refine (copyR B2 FB).mono ?_
  rintro e w3 ⟨q3, r3, rfl, E3, hb3⟩
  have T3 := T2.below hb3
  have bb3 : Below w.heap.size w w3 := bb2.trans (hb3.mono bb2.size)
  have A3 := A2.below hb3 hb3.size
  have B3 := B2.below hb3 hb3.size
  have C3 := C2.below hb3 hb3.size
  have D3 := D2.below hb3 hb3.size
  clear A2 B2 C2 D2 T2 hb3 bb2
  go_wp2_with fail
  refine (orderX T3 D3 E3 x 0 HXY.out).mono ?_
  rintro e w4 ⟨rfl, hb4⟩
  have T4 := T3.below hb4
  have bb4 : Below w.heap.size w w4 := bb3.trans (hb4.mono bb3.size)
  have A4 := A3.below hb4 hb4.size
  have B4 := B3.below hb4 hb4.size
  have C4 := C3.below hb4 hb4.size
  have D4 := D3.below hb4 hb4.size
  have E4 := E3.below hb4 hb4.size
  clear A3 B3 C3 D3 E3 T3 hb4 bb3
  go_wp2_with fail
  refine (orderR A4 B4 FA FB x 0 HXY.out).mono ?_
  rintro e w5 ⟨rfl, hb5⟩
  have T5 := T4.below hb5
  have bb5 : Below w.heap.size w w5 := bb4.trans (hb5.mono bb4.size)
  have A5 := A4.below hb5 hb5.size
  have B5 := B4.below hb5 hb5.size
  have C5 := C4.below hb5 hb5.size
  have D5 := D4.below hb5 hb5.size
  have E5 := E4.below hb5 hb5.size
  clear A4 B4 C4 D4 E4 T4 hb5 bb4
  go_wp2_with fail
  refine (rchkR A5 FA 0 HKa.out).mono ?_
  rintro e w6 ⟨rfl, hb6⟩
  have T6 := T5.below hb6
  have bb6 : Below w.heap.size w w6 := bb5.trans (hb6.mono bb5.size)
  have A6 := A5.below hb6 hb6.size
  have B6 := B5.below hb6 hb6.size
  have C6 := C5.below hb6 hb6.size
  have D6 := D5.below hb6 hb6.size
  have E6 := E5.below hb6 hb6.size
  clear A5 B5 C5 D5 E5 T5 hb6 bb5
  go_wp2_with fail
  refine (rchkR B6 FB 0 HKb.out).mono ?_
  rintro e w7 ⟨rfl, hb7⟩
  have T7 := T6.below hb7
  have bb7 : Below w.heap.size w w7 := bb6.trans (hb7.mono bb6.size)
  have A7 := A6.below hb7 hb7.size
  have B7 := B6.below hb7 hb7.size
  have C7 := C6.below hb7 hb7.size
  have D7 := D6.below hb7 hb7.size
  have E7 := E6.below hb7 hb7.size
  clear A6 B6 C6 D6 E6 T6 hb7 bb6
  go_wp2_with fail
  refine (rchkR C7 FC 0 HKc.out).mono ?_
  rintro e w8 ⟨rfl, hb8⟩
  have T8 := T7.below hb8
  have bb8 : Below w.heap.size w w8 := bb7.trans (hb8.mono bb7.size)
  have A8 := A7.below hb8 hb8.size
  have B8 := B7.below hb8 hb8.size
  have C8 := C7.below hb8 hb8.size
  have D8 := D7.below hb8 hb8.size
  have E8 := E7.below hb8 hb8.size
  clear A7 B7 C7 D7 E7 T7 hb8 bb7
  go_wp2_with fail
  refine (copyR B8 FB).mono ?_
  rintro e w9 ⟨o9, p9, rfl, D9, hb9⟩
  have T9 := T8.below hb9
  have bb9 : Below w.heap.size w w9 := bb8.trans (hb9.mono bb8.size)
  have A9 := A8.below hb9 hb9.size
  have B9 := B8.below hb9 hb9.size
  have C9 := C8.below hb9 hb9.size
  clear A8 B8 C8 T8 hb9 bb8
  go_wp2_with fail
  refine (copyR A9 FA).mono ?_
  rintro e w10 ⟨q10, r10, rfl, E10, hb10⟩
  have T10 := T9.below hb10
  have bb10 : Below w.heap.size w w10 := bb9.trans (hb10.mono bb9.size)
  have A10 := A9.below hb10 hb10.size
  have B10 := B9.below hb10 hb10.size
  have C10 := C9.below hb10 hb10.size
  have D10 := D9.below hb10 hb10.size
  clear A9 B9 C9 D9 T9 hb10 bb9
  go_wp2_with fail
  refine (orderX T10 D10 E10 y 0 HYX.out).mono ?_
  rintro e w11 ⟨rfl, hb11⟩
  have T11 := T10.below hb11
  have bb11 : Below w.heap.size w w11 := bb10.trans (hb11.mono bb10.size)
  have A11 := A10.below hb11 hb11.size
  have B11 := B10.below hb11 hb11.size
  have C11 := C10.below hb11 hb11.size
  have D11 := D10.below hb11 hb11.size
  have E11 := E10.below hb11 hb11.size
  clear A10 B10 C10 D10 E10 T10 hb11 bb10
  go_wp2_with fail
  refine (copyR B11 FB).mono ?_
  rintro e w12 ⟨o12, p12, rfl, D12, hb12⟩
  have T12 := T11.below hb12
  have bb12 : Below w.heap.size w w12 := bb11.trans (hb12.mono bb11.size)
  have A12 := A11.below hb12 hb12.size
  have B12 := B11.below hb12 hb12.size
  have C12 := C11.below hb12 hb12.size
  clear A11 B11 C11 T11 hb12 bb11
  go_wp2_with fail
  refine (copyR C12 FC).mono ?_
  rintro e w13 ⟨q13, r13, rfl, E13, hb13⟩
  have T13 := T12.below hb13
  have bb13 : Below w.heap.size w w13 := bb12.trans (hb13.mono bb12.size)
  have A13 := A12.below hb13 hb13.size
  have B13 := B12.below hb13 hb13.size
  have C13 := C12.below hb13 hb13.size
  have D13 := D12.below hb13 hb13.size
  clear A12 B12 C12 D12 T12 hb13 bb12
  go_wp2_with fail
  refine (orderX T13 D13 E13 z 0 HYZ.out).mono ?_
  rintro e w14 ⟨rfl, hb14⟩
  have T14 := T13.below hb14
  have bb14 : Below w.heap.size w w14 := bb13.trans (hb14.mono bb13.size)
  have A14 := A13.below hb14 hb14.size
  have B14 := B13.below hb14 hb14.size
  have C14 := C13.below hb14 hb14.size
  have D14 := D13.below hb14 hb14.size
  have E14 := E13.below hb14 hb14.size
  clear A13 B13 C13 D13 E13 T13 hb14 bb13
  go_wp2_with fail
  refine (copyR A14 FA).mono ?_
  rintro e w15 ⟨o15, p15, rfl, D15, hb15⟩
  have T15 := T14.below hb15
  have bb15 : Below w.heap.size w w15 := bb14.trans (hb15.mono bb14.size)
  have A15 := A14.below hb15 hb15.size
  have B15 := B14.below hb15 hb15.size
  have C15 := C14.below hb15 hb15.size
  clear A14 B14 C14 T14 hb15 bb14
  go_wp2_with fail
  refine (copyR C15 FC).mono ?_
  rintro e w16 ⟨q16, r16, rfl, E16, hb16⟩
  have T16 := T15.below hb16
  have bb16 : Below w.heap.size w w16 := bb15.trans (hb16.mono bb15.size)
  have A16 := A15.below hb16 hb16.size
  have B16 := B15.below hb16 hb16.size
  have C16 := C15.below hb16 hb16.size
  have D16 := D15.below hb16 hb16.size
  clear A15 B15 C15 D15 T15 hb16 bb15
  go_wp2_with fail
  refine (orderX T16 D16 E16 v 0 HXZ.out).mono ?_
  rintro e w17 ⟨rfl, hb17⟩
  have T17 := T16.below hb17
  have bb17 : Below w.heap.size w w17 := bb16.trans (hb17.mono bb16.size)
  have A17 := A16.below hb17 hb17.size
  have B17 := B16.below hb17 hb17.size
  have C17 := C16.below hb17 hb17.size
  have D17 := D16.below hb17 hb17.size
  have E17 := E16.below hb17 hb17.size
  clear A16 B16 C16 D16 E16 T16 hb17 bb16
  have cS : Hid (∀ V, Below w17.heap.size w17 V → Calls Tryd.prog 15 #[.slice ao a.length ca, .slice bo b.length cb] V fun e w' => e = .returned (.bool (decide (x = 0))) ∧ Below V.heap.size V w') := fun V hV => by
    refine sameR (A17.below hV hV.size) (B17.below hV hV.size) _ ?_
    simp only [decide_eq_decide]
    exact hZ.out.symm
  clear HXY HYX HYZ HXZ HKa HKb HKc A17 B17 C17 T17 D17 E17
  have hx := hNeg.out
  obtain ⟨s1, s2, s3⟩ := hS.out
  have h3 := hTri.out
  have h4 := hSm.out
  clear hNeg hS hTri hSm hZ
  unfold Sg at s1 s2 s3
  unfold Tri at h3
  have h5 : x ≤ 0 → z ≤ 0 → ¬ 0 < v := fun p q => by have := (h3 p q).1; omega
  clear h3
  have HL : Hid (a.length < b.length → x = -1) := h4
  clear h4
  subst hx
  rcases s1 with rfl | rfl | rfl
  all_goals rcases s2 with rfl | rfl | rfl
  all_goals rcases s3 with rfl | rfl | rfl
  all_goals first
    | (exfalso; revert h5; decide)
    | (clear h5
       by_cases hlt : a.length < b.length
       · have hcontra := HL.out hlt
         first
         | (exfalso; revert hcontra; decide)
         | (clear hcontra HL
            have hge : ¬ (b.length : Int) ≤ (a.length : Int) := by omega
            go_wp2_with (go_at_call 15; refine (cS.out _ (Below.refl _ _)).mono ?_; rintro e wz ⟨rfl, hbz⟩)
            go_ret
            exact ⟨rfl, bb17.trans (hbz.mono bb17.size)⟩)
       · clear HL
         have hge : (b.length : Int) ≤ (a.length : Int) := by omega
         go_wp2_with (go_at_call 15; refine (cS.out _ (Below.refl _ _)).mono ?_; rintro e wz ⟨rfl, hbz⟩)
         go_ret
         exact ⟨rfl, bb17.trans (hbz.mono bb17.size)⟩)

theorem orders_walk (w : World) (ao bo co : Option Addr) (ca cb cc : Nat) (a b c : List Nd) (T0 : Tabs w) (A0 : Rd w ao ca a) (B0 : Rd w bo cb b) (C0 : Rd w co cc c) (FA : Fit a) (FB : Fit b) (FC : Fit c) :
    Calls Tryd.prog 4 #[.slice ao a.length ca, .slice bo b.length cb, .slice co c.length cc] w fun e w' => e = .returned (.bool true) ∧ Below w.heap.size w w' := by
  cases ha : begL a with
  | none => exact orders_U1 w ao bo co ca cb cc a b c T0 A0 B0 C0 FA FB FC ha
  | some fa =>
    cases hb : begL b with
    | none => exact orders_U2 w ao bo co ca cb cc a b c T0 A0 B0 C0 FA FB FC fa ha hb
    | some fb =>
      cases hc : begL c with
      | none => exact orders_U3 w ao bo co ca cb cc a b c T0 A0 B0 C0 FA FB FC fa fb ha hb hc
      | some fc => exact orders_S w ao bo co ca cb cc a b c T0 A0 B0 C0 FA FB FC fa fb fc ha hb hc
end Go.Proofs.YteaipdmbdcmmeaaDoor

/-
  The walk of BoxBack.
-/
import Derived.Test.YtiobcipmieefaaaDoorBxOpW
import Derived.Test.YtiobcipmieefaaaDoorBxOfW
import Derived.Test.YtiobcipmieefaaaDoorBxAskW
set_option linter.unusedSimpArgs false
set_option linter.unusedVariables false
namespace Go.Proofs.YtiobcipmieefaaaDoor
open Go.RowKit Go.Lib

set_option maxRecDepth 20000 in
set_option maxHeartbeats 2000000 in
theorem back_none (w : World) (ao : Option Addr) (cap : Nat) (l : List Nd) (T0 : SpanCells w) (A0 : Rd w ao cap l) (FA : Fit l) (h : begL l = none) :
    Calls Tryd.prog 3 #[.slice ao l.length cap] w fun e w' => e = .returned (.bool true) ∧ Below w.heap.size w w' := by
  have bb0 := Below.refl w.heap.size w
  obtain ⟨hl1, hl2⟩ := A0.bound
  unfold maxLen at hl2
  have HK : Hid (chkE l = 1) := chkE_no (by simp [sndB, h])
  have HS : Hid (begL l = none) := h
  clear h
  go_enter Tryd.func3, Tryd.ntmps3
  go_wp2_with fail
  refine (awk3_any _).mono ?_
  rintro e w1 ⟨rfl, hb1⟩
  have T1 := T0.below hb1
  have bb1 : Below w.heap.size w w1 := bb0.trans (hb1.mono bb0.size)
  have A1 := A0.below hb1 hb1.size
  clear A0 T0 hb1 bb0
  go_wp2_with fail
  refine (copyR A1 FA).mono ?_
  rintro e w2 ⟨o2, p2, rfl, D2, hb2⟩
  have T2 := T1.below hb2
  have bb2 : Below w.heap.size w w2 := bb1.trans (hb2.mono bb1.size)
  have A2 := A1.below hb2 hb2.size
  clear A1 T1 hb2 bb1
  go_wp2_with fail
  refine (box_none T2 D2 HS.out).mono ?_
  rintro e w3 ⟨rfl, hb3⟩
  have bb3 : Below w.heap.size w w3 := bb2.trans (hb3.mono bb2.size)
  have A3 := A2.below hb3 hb3.size
  clear A2 T2 D2 hb3 bb2
  go_wp2_with fail
  refine (rchkR A3 FA 1 HK.out).mono ?_
  rintro e w4 ⟨rfl, hb4⟩
  have bb4 : Below w.heap.size w w4 := bb3.trans (hb4.mono bb3.size)
  clear hb4 bb3 A3
  go_wp2_with fail
  go_ret
  exact ⟨rfl, bb4⟩

set_option maxRecDepth 20000 in
set_option maxHeartbeats 2000000 in
theorem back_some (w : World) (ao : Option Addr) (cap : Nat) (l : List Nd) (T0 : SpanCells w) (A0 : Rd w ao cap l) (FA : Fit l) (fr : List Nat) (h : begL l = some fr) :
    Calls Tryd.prog 3 #[.slice ao l.length cap] w fun e w' => e = .returned (.bool true) ∧ Below w.heap.size w w' := by
  have bb0 := Below.refl w.heap.size w
  obtain ⟨hl1, hl2⟩ := A0.bound
  unfold maxLen at hl2
  have HK : Hid (chkE l = 0) := chkE_yes (by simp [sndB, h])
  have HS : Hid (begL l = some fr) := h
  have hl0 := (begL_some h).1
  have h64 := (begL_some h).2.1
  have HF : Hid (Five (tmA l (l.length - 1))) := five_tm h (by omega)
  have HW : Hid (wantT (tmA l (l.length - 1)) = l ∧ sndB (flatT (tmA l (l.length - 1))) = true) := by
    have e := flat_whole h
    have s : sndB (flatT (tmA l (l.length - 1))) = true := by rw [e]; simp [sndB, h]
    exact ⟨by unfold wantT; rw [if_pos s, e], s⟩
  clear h
  obtain ⟨t, ht⟩ : ∃ t, tmA l (l.length - 1) = t := ⟨_, rfl⟩
  have CO : Hid (∀ V ao cap, Rd V ao cap l → Calls Tryd.prog 14 #[.slice ao l.length cap, .int .i64 ((l.length : Int) - 1)] V fun e w' => e = .returned (tv t) ∧ Below V.heap.size V w') := fun V ao cap hR => by
    have := of_any l fr HS.out ao cap (l.length - 1) (by omega) V hR
    rw [ht] at this
    have e : ((l.length - 1 : Nat) : Int) = (l.length : Int) - 1 := by omega
    rw [e] at this
    exact this
  have CB : Hid (∀ V ao cap, SpanCells V → Rd V ao cap l → Calls Tryd.prog 9 #[.slice ao l.length cap] V fun e w' => e = .returned (.tuple #[tv t, .int .i64 0]) ∧ Below V.heap.size V w') := fun V ao cap hT hR => by
    have := box_some hT hR HS.out
    rw [ht] at this; exact this
  rw [ht] at HF HW
  have CP : Hid (∀ V, SpanCells V → Calls Tryd.prog 12 #[tv t] V fun e w' => ∃ ao cap, e = .returned (.tuple #[.slice ao l.length cap, .int .i64 0]) ∧ Rd w' ao cap l ∧ Below V.heap.size V w') := fun V hT => by
    have := open_any t (five_oth HF.out) V hT
    rw [HW.out.1, HW.out.2] at this
    exact this
  have CA : Hid (∀ V, Calls Tryd.prog 13 #[tv t, tv t] V fun e w' => e = .returned (.bool true) ∧ Below V.heap.size V w') := fun V => alike_same t HF.out V
  clear ht
  obtain ⟨v, hv⟩ : ∃ v, tv t = v := ⟨_, rfl⟩
  rw [hv] at CO CB CP CA
  clear hv
  go_enter Tryd.func3, Tryd.ntmps3
  go_wp2_with fail
  refine (awk3_any _).mono ?_
  rintro e w1 ⟨rfl, hb1⟩
  have T1 := T0.below hb1
  have bb1 : Below w.heap.size w w1 := bb0.trans (hb1.mono bb0.size)
  have A1 := A0.below hb1 hb1.size
  clear A0 T0 hb1 bb0
  go_wp2_with fail
  refine (copyR A1 FA).mono ?_
  rintro e w2 ⟨o2, p2, rfl, D2, hb2⟩
  have T2 := T1.below hb2
  have bb2 : Below w.heap.size w w2 := bb1.trans (hb2.mono bb1.size)
  have A2 := A1.below hb2 hb2.size
  clear A1 T1 hb2 bb1
  go_wp2_with fail
  refine (CB.out _ _ _ T2 D2).mono ?_
  rintro e w3 ⟨rfl, hb3⟩
  have T3 := T2.below hb3
  have bb3 : Below w.heap.size w w3 := bb2.trans (hb3.mono bb2.size)
  have A3 := A2.below hb3 hb3.size
  clear A2 T2 D2 hb3 bb2
  go_wp2_with fail
  refine (rchkR A3 FA 0 HK.out).mono ?_
  rintro e w4 ⟨rfl, hb4⟩
  have T4 := T3.below hb4
  have bb4 : Below w.heap.size w w4 := bb3.trans (hb4.mono bb3.size)
  have A4 := A3.below hb4 hb4.size
  clear hb4 bb3 A3 T3
  go_wp2_with fail
  refine (CP.out _ T4).mono ?_
  rintro e w5 ⟨o5, p5, rfl, E5, hb5⟩
  have bb5 : Below w.heap.size w w5 := bb4.trans (hb5.mono bb4.size)
  have A5 := A4.below hb5 hb5.size
  clear hb5 bb4 A4 T4
  go_wp2_with fail
  refine (CO.out _ _ _ A5).mono ?_
  rintro e w6 ⟨rfl, hb6⟩
  have bb6 : Below w.heap.size w w6 := bb5.trans (hb6.mono bb5.size)
  have A6 := A5.below hb6 hb6.size
  have E6 := E5.below hb6 hb6.size
  clear hb6 bb5 A5 E5
  go_wp2_with fail
  refine (CA.out _).mono ?_
  rintro e w7 ⟨rfl, hb7⟩
  have bb7 : Below w.heap.size w w7 := bb6.trans (hb7.mono bb6.size)
  have A7 := A6.below hb7 hb7.size
  have E7 := E6.below hb7 hb7.size
  clear hb7 bb6 A6 E6
  go_wp2_with fail
  refine (sameR E7 A7 true (by simp)).mono ?_
  rintro e w8 ⟨rfl, hb8⟩
  have bb8 : Below w.heap.size w w8 := bb7.trans (hb8.mono bb7.size)
  clear hb8 bb7 A7 E7
  go_wp2_with fail
  go_ret
  exact ⟨rfl, bb8⟩

theorem back_walk (w : World) (ao : Option Addr) (cap : Nat) (l : List Nd) (T0 : SpanCells w) (A0 : Rd w ao cap l) (FA : Fit l) :
    Calls Tryd.prog 3 #[.slice ao l.length cap] w fun e w' => e = .returned (.bool true) ∧ Below w.heap.size w w' := by
  cases h : begL l with
  | none => exact back_none w ao cap l T0 A0 FA h
  | some fr => exact back_some w ao cap l T0 A0 FA fr h
end Go.Proofs.YtiobcipmieefaaaDoor

/-
  The walk of ExprPuts: what is not sound, or no place.
-/
import Derived.Test.YtbapjhlichjhoaaDoorExRdW
set_option linter.unusedSimpArgs false
set_option linter.unusedVariables false
namespace Go.Proofs.YtbapjhlichjhoaaDoor
open Go.RowKit Go.Lib

set_option maxHeartbeats 2000000 in
theorem puts_A (w : World) (ao bo : Option Addr) (cap cb : Nat) (l m : List Nd) (at_ : Int) (T0 : SpanCells w) (E0 : Rd w ao cap l) (P0 : Rd w bo cb m) (FE : Fit l) (FP : Fit m) (hn : begL l = none) :
    Calls Tryd.prog 6 #[.slice ao l.length cap, .int .i64 at_, .slice bo m.length cb] w fun e w' => e = .returned (.bool true) ∧ Below w.heap.size w w' := by
  have bb0 := Below.refl w.heap.size w
  obtain ⟨hl1, hl2⟩ := E0.bound
  obtain ⟨hm1, hm2⟩ := P0.bound
  unfold maxLen at hl2 hm2
  have HN : Hid (begL l = none) := hn
  have HK : Hid (chkE l = 1) := chkE_no (by simp [sndB, hn])
  clear hn
  go_enter Tryd.func6, Tryd.ntmps6
  go_wp2_with fail
  refine (awk_any _ T0).mono ?_
  rintro e w1 ⟨rfl, hb1⟩
  have T1 := T0.below hb1
  have bb1 : Below w.heap.size w w1 := bb0.trans (hb1.mono bb0.size)
  have E1 := E0.below hb1 hb1.size
  have P1 := P0.below hb1 hb1.size
  clear E0 P0 T0 hb1 bb0
  go_wp2_with fail
  refine (copyR E1 FE).mono ?_
  rintro e w2 ⟨ao2, cp2, rfl, C2, hb2⟩
  have T2 := T1.below hb2
  have bb2 : Below w.heap.size w w2 := bb1.trans (hb2.mono bb1.size)
  have E2 := E1.below hb2 hb2.size
  have P2 := P1.below hb2 hb2.size
  clear E1 P1 T1 hb2 bb1
  go_wp2_with fail
  refine (part_none _ l _ _ _ (Nat.le_refl _) T2 C2 HN.out).mono ?_
  rintro e w3 ⟨rfl, hb3⟩
  have T3 := T2.below hb3
  have bb3 : Below w.heap.size w w3 := bb2.trans (hb3.mono bb2.size)
  have E3 := E2.below hb3 hb3.size
  have P3 := P2.below hb3 hb3.size
  have C3 := C2.below hb3 hb3.size
  clear E2 P2 C2 T2 hb3 bb2
  go_wp2_with fail
  refine (rchkR E3 FE 1 HK.out).mono ?_
  rintro e w4 ⟨rfl, hb4⟩
  have T4 := T3.below hb4
  have bb4 : Below w.heap.size w w4 := bb3.trans (hb4.mono bb3.size)
  have E4 := E3.below hb4 hb4.size
  have P4 := P3.below hb4 hb4.size
  have C4 := C3.below hb4 hb4.size
  clear E3 P3 C3 T3 hb4 bb3
  go_wp2_with fail
  go_ret
  exact ⟨rfl, bb4⟩

set_option maxHeartbeats 2000000 in
theorem puts_B1 (w : World) (ao bo : Option Addr) (cap cb : Nat) (l m : List Nd) (at_ : Int) (T0 : SpanCells w) (E0 : Rd w ao cap l) (P0 : Rd w bo cb m) (FE : Fit l) (FP : Fit m) (fr : List Nat) (hn : begL l = some fr) (ho : at_ < 0) :
    Calls Tryd.prog 6 #[.slice ao l.length cap, .int .i64 at_, .slice bo m.length cb] w fun e w' => e = .returned (.bool true) ∧ Below w.heap.size w w' := by
  have bb0 := Below.refl w.heap.size w
  obtain ⟨hl1, hl2⟩ := E0.bound
  obtain ⟨hm1, hm2⟩ := P0.bound
  unfold maxLen at hl2 hm2
  have HN : Hid (begL l = some fr) := hn
  have HK : Hid (chkE l = 0) := chkE_yes (by simp [sndB, hn])
  have HO : Hid (at_ < 0 ∨ (l.length : Int) ≤ at_) := by show at_ < 0 ∨ (l.length : Int) ≤ at_; omega
  clear hn
  go_enter Tryd.func6, Tryd.ntmps6
  go_wp2_with fail
  refine (awk_any _ T0).mono ?_
  rintro e w1 ⟨rfl, hb1⟩
  have T1 := T0.below hb1
  have bb1 : Below w.heap.size w w1 := bb0.trans (hb1.mono bb0.size)
  have E1 := E0.below hb1 hb1.size
  have P1 := P0.below hb1 hb1.size
  clear E0 P0 T0 hb1 bb0
  go_wp2_with fail
  refine (copyR E1 FE).mono ?_
  rintro e w2 ⟨ao2, cp2, rfl, C2, hb2⟩
  have T2 := T1.below hb2
  have bb2 : Below w.heap.size w w2 := bb1.trans (hb2.mono bb1.size)
  have E2 := E1.below hb2 hb2.size
  have P2 := P1.below hb2 hb2.size
  clear E1 P1 T1 hb2 bb1
  go_wp2_with fail
  refine (part_out _ l fr _ _ _ (Nat.le_refl _) T2 C2 HN.out HO.out).mono ?_
  rintro e w3 ⟨rfl, hb3⟩
  have T3 := T2.below hb3
  have bb3 : Below w.heap.size w w3 := bb2.trans (hb3.mono bb2.size)
  have E3 := E2.below hb3 hb3.size
  have P3 := P2.below hb3 hb3.size
  have C3 := C2.below hb3 hb3.size
  clear E2 P2 C2 T2 hb3 bb2
  go_wp2_with fail
  refine (rchkR E3 FE 0 HK.out).mono ?_
  rintro e w4 ⟨rfl, hb4⟩
  have T4 := T3.below hb4
  have bb4 : Below w.heap.size w w4 := bb3.trans (hb4.mono bb3.size)
  have E4 := E3.below hb4 hb4.size
  have P4 := P3.below hb4 hb4.size
  have C4 := C3.below hb4 hb4.size
  clear E3 P3 C3 T3 hb4 bb3
  go_wp2_with fail
  go_ret
  exact ⟨rfl, bb4⟩

set_option maxHeartbeats 2000000 in
theorem puts_B2 (w : World) (ao bo : Option Addr) (cap cb : Nat) (l m : List Nd) (at_ : Int) (T0 : SpanCells w) (E0 : Rd w ao cap l) (P0 : Rd w bo cb m) (FE : Fit l) (FP : Fit m) (fr : List Nat) (hn : begL l = some fr) (ho : 0 ≤ at_ ∧ (l.length : Int) ≤ at_) :
    Calls Tryd.prog 6 #[.slice ao l.length cap, .int .i64 at_, .slice bo m.length cb] w fun e w' => e = .returned (.bool true) ∧ Below w.heap.size w w' := by
  have bb0 := Below.refl w.heap.size w
  obtain ⟨hl1, hl2⟩ := E0.bound
  obtain ⟨hm1, hm2⟩ := P0.bound
  unfold maxLen at hl2 hm2
  have HN : Hid (begL l = some fr) := hn
  have HK : Hid (chkE l = 0) := chkE_yes (by simp [sndB, hn])
  have HO : Hid (at_ < 0 ∨ (l.length : Int) ≤ at_) := by show at_ < 0 ∨ (l.length : Int) ≤ at_; omega
  clear hn
  obtain ⟨ho1, ho2⟩ := ho
  go_enter Tryd.func6, Tryd.ntmps6
  go_wp2_with fail
  refine (awk_any _ T0).mono ?_
  rintro e w1 ⟨rfl, hb1⟩
  have T1 := T0.below hb1
  have bb1 : Below w.heap.size w w1 := bb0.trans (hb1.mono bb0.size)
  have E1 := E0.below hb1 hb1.size
  have P1 := P0.below hb1 hb1.size
  clear E0 P0 T0 hb1 bb0
  go_wp2_with fail
  refine (copyR E1 FE).mono ?_
  rintro e w2 ⟨ao2, cp2, rfl, C2, hb2⟩
  have T2 := T1.below hb2
  have bb2 : Below w.heap.size w w2 := bb1.trans (hb2.mono bb1.size)
  have E2 := E1.below hb2 hb2.size
  have P2 := P1.below hb2 hb2.size
  clear E1 P1 T1 hb2 bb1
  go_wp2_with fail
  refine (part_out _ l fr _ _ _ (Nat.le_refl _) T2 C2 HN.out HO.out).mono ?_
  rintro e w3 ⟨rfl, hb3⟩
  have T3 := T2.below hb3
  have bb3 : Below w.heap.size w w3 := bb2.trans (hb3.mono bb2.size)
  have E3 := E2.below hb3 hb3.size
  have P3 := P2.below hb3 hb3.size
  have C3 := C2.below hb3 hb3.size
  clear E2 P2 C2 T2 hb3 bb2
  go_wp2_with fail
  refine (rchkR E3 FE 0 HK.out).mono ?_
  rintro e w4 ⟨rfl, hb4⟩
  have T4 := T3.below hb4
  have bb4 : Below w.heap.size w w4 := bb3.trans (hb4.mono bb3.size)
  have E4 := E3.below hb4 hb4.size
  have P4 := P3.below hb4 hb4.size
  have C4 := C3.below hb4 hb4.size
  clear E3 P3 C3 T3 hb4 bb3
  go_wp2_with fail
  go_ret
  exact ⟨rfl, bb4⟩

end Go.Proofs.YtbapjhlichjhoaaDoor

/-
  RunesNames: Name and Order of the program and of the document answer the same.
-/
import Derived.Test.YthmcgfiaimnplaaDoorRefOrdW
import Derived.Test.YthmcgfiaimnplaaDoorRefSpanW
set_option linter.unusedSimpArgs false
set_option linter.unusedVariables false
namespace Go.Proofs.YthmcgfiaimnplaaDoor.names
open Go.RowKit Go.Lib

set_option maxHeartbeats 2000000 in
theorem walk (s t : ByteArray) (w : World) (hT : Tabs w) (hs : s.size ≤ maxLen) (ht : t.size ≤ maxLen) (hs2 : s.size ≤ 70368744177664) (ht2 : t.size ≤ 70368744177664) :
    Calls Tryd.prog 5 #[.string s, .string t] w fun e w' => e = .returned (.bool true) ∧ Below w.heap.size w w' := by
  have c0 : Hid (∀ W, Tabs W → Calls Tryd.prog 9 #[] W fun e w' => e = .returned (.bool true) ∧ Below W.heap.size W w') := awake_any
  have c1 : Hid (∀ x W, Tabs W → Calls Tryd.prog 20 #[.string x] W fun e w' => e = .returned (.bool (nameB x)) ∧ Below W.heap.size W w') := name_any
  have c2s : Hid (∀ W, Calls Tryd.prog 21 #[.string s] W fun e w' => e = .returned (.bool (nameB s)) ∧ Below W.heap.size W w') := fun W => refName_any s W hs
  have c2t : Hid (∀ W, Calls Tryd.prog 21 #[.string t] W fun e w' => e = .returned (.bool (nameB t)) ∧ Below W.heap.size W w') := fun W => refName_any t W ht
  have c3 : Hid (∀ W, Tabs W → Calls Tryd.prog 22 #[.string s, .string t] W fun e w' => e = .returned (.int .i64 (ordI s t)) ∧ Below W.heap.size W w') := order_any s t
  have c4 : Hid (∀ W, Calls Tryd.prog 23 #[.string s, .string t] W fun e w' => e = .returned (.int .i64 (ordI s t)) ∧ Below W.heap.size W w') := fun W => refOrder_any s t W hs2 ht2
  have q0 : (nameB s == nameB s) = true := by simp
  have q1 : (nameB t == nameB t) = true := by simp
  go_enter Tryd.func5, Tryd.ntmps5
  go_wp2_with fail
  refine (c0.out _ hT).mono ?_
  rintro e w0 ⟨rfl, B0⟩
  have hT0 := hT.below B0
  go_wp2_with fail
  refine (c1.out s _ hT0).mono ?_
  rintro e w1 ⟨rfl, hb1⟩
  have hT1 := hT0.below hb1
  have B1 := B0.trans (hb1.mono B0.size)
  go_wp2_with fail
  refine (c2s.out _).mono ?_
  rintro e w2 ⟨rfl, hb2⟩
  have hT2 := hT1.below hb2
  have B2 := B1.trans (hb2.mono B1.size)
  go_wp2_with fail
  refine (c1.out t _ hT2).mono ?_
  rintro e w3 ⟨rfl, hb3⟩
  have hT3 := hT2.below hb3
  have B3 := B2.trans (hb3.mono B2.size)
  go_wp2_with fail
  refine (c2t.out _).mono ?_
  rintro e w4 ⟨rfl, hb4⟩
  have hT4 := hT3.below hb4
  have B4 := B3.trans (hb4.mono B3.size)
  go_wp2_with fail
  refine (c3.out _ hT4).mono ?_
  rintro e w5 ⟨rfl, hb5⟩
  have B5 := B4.trans (hb5.mono B4.size)
  go_wp2_with fail
  refine (c4.out _).mono ?_
  rintro e w6 ⟨rfl, hb6⟩
  have B6 := B5.trans (hb6.mono B5.size)
  go_wp2
  go_ret
  exact ⟨ret_bool (by simp), B6⟩
end Go.Proofs.YthmcgfiaimnplaaDoor.names

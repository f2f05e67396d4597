/-
  RunesPlays: Check, Span, Number and Column of the program and of the document answer the same.
-/
import Derived.Test.YthmcgfiaimnplaaDoorRefNumW
import Derived.Test.YthmcgfiaimnplaaDoorNumW
import Derived.Test.YthmcgfiaimnplaaDoorColW
set_option linter.unusedSimpArgs false
set_option linter.unusedVariables false
namespace Go.Proofs.YthmcgfiaimnplaaDoor.plays
open Go.RowKit Go.Lib

set_option maxHeartbeats 2000000 in
theorem walk (s : ByteArray) (a : Int) (w : World) (hT : Tabs w) (hs : s.size ≤ maxLen) (hr : s.size ≤ 1152921504606846976) :
    Calls Tryd.prog 3 #[.string s, .int .i64 a] w fun e w' => e = .returned (.bool true) ∧ Below w.heap.size w w' := by
  have c0 : Hid (∀ W, Tabs W → Calls Tryd.prog 9 #[] W fun e w' => e = .returned (.bool true) ∧ Below W.heap.size W w') := awake_any
  have c1 : Hid (∀ W, Tabs W → Calls Tryd.prog 10 #[.string s] W fun e w' => e = .returned (.tuple #[.int .i64 (chk s).1, .int .i64 (chk s).2]) ∧ Below W.heap.size W w') := check_any s
  have c2 : Hid (∀ W, Calls Tryd.prog 11 #[.string s] W fun e w' => e = .returned (.tuple #[.int .i64 (chk s).1, .int .i64 (chk s).2]) ∧ Below W.heap.size W w') := fun W => refCheck_any s W hs
  have c3 : Hid (∀ W, Tabs W → Calls Tryd.prog 12 #[.string s, .int .i64 a] W fun e w' => e = .returned (.tuple #[.int .i64 (spanI s a).1, .int .i64 (spanI s a).2]) ∧ Below W.heap.size W w') := fun W h => span_any s a W h hs
  have c4 : Hid (∀ W, Calls Tryd.prog 13 #[.string s, .int .i64 a] W fun e w' => e = .returned (.tuple #[.int .i64 (spanI s a).1, .int .i64 (spanI s a).2]) ∧ Below W.heap.size W w') := fun W => refSpan_any s a W hs
  have c5 : Hid (∀ W, Tabs W → Calls Tryd.prog 14 #[.string s, .int .i64 a] W fun e w' => e = .returned (.tuple #[.int .u64 (numI s a).1, .int .i64 (numI s a).2.1, .int .i64 (numI s a).2.2]) ∧ Below W.heap.size W w') := fun W h => number_any s a W h hs
  have c6 : Hid (∀ W, Calls Tryd.prog 15 #[.string s, .int .i64 a] W fun e w' => e = .returned (.tuple #[.int .u64 (numI s a).1, .int .i64 (numI s a).2.1, .int .i64 (numI s a).2.2]) ∧ Below W.heap.size W w') := fun W => refNumber_any s a W hs
  have c7 : Hid (∀ W, Calls Tryd.prog 16 #[.string s, .int .i64 a] W fun e w' => e = .returned (.tuple #[.int .i64 (colI s a).1, .int .i64 (colI s a).2.1, .int .i64 (colI s a).2.2]) ∧ Below W.heap.size W w') := fun W => column_any s a W hr
  have c8 : Hid (∀ W, Calls Tryd.prog 17 #[.string s, .int .i64 a] W fun e w' => e = .returned (.tuple #[.int .i64 (colI s a).1, .int .i64 (colI s a).2.1, .int .i64 (colI s a).2.2]) ∧ Below W.heap.size W w') := fun W => refColumn_any s a W hr
  generalize chk s = C at *
  generalize spanI s a = S at *
  generalize numI s a = N at *
  generalize colI s a = L at *
  obtain ⟨C1, C2⟩ := C
  obtain ⟨S1, S2⟩ := S
  obtain ⟨N1, N2, N3⟩ := N
  obtain ⟨L1, L2, L3⟩ := L
  simp only at c1 c2 c3 c4 c5 c6 c7 c8
  go_enter Tryd.func3, Tryd.ntmps3
  go_wp2_with (first
    | (go_at_call 9; refine (c0.out _ hT).mono ?_; rintro e w0 ⟨rfl, hb0⟩; have hT0 := hT.below hb0; have B0 := hb0)
    | (go_at_call 10; refine (c1.out _ hT0).mono ?_; rintro e w1 ⟨rfl, hb1⟩; have hT1 := hT0.below hb1; have B1 := B0.trans (hb1.mono B0.size))
    | (go_at_call 11; refine (c2.out _).mono ?_; rintro e w2 ⟨rfl, hb2⟩; have hT2 := hT1.below hb2; have B2 := B1.trans (hb2.mono B1.size))
    | (go_at_call 12; refine (c3.out _ hT2).mono ?_; rintro e w3 ⟨rfl, hb3⟩; have hT3 := hT2.below hb3; have B3 := B2.trans (hb3.mono B2.size))
    | (go_at_call 13; refine (c4.out _).mono ?_; rintro e w4 ⟨rfl, hb4⟩; have hT4 := hT3.below hb4; have B4 := B3.trans (hb4.mono B3.size))
    | (go_at_call 14; refine (c5.out _ hT4).mono ?_; rintro e w5 ⟨rfl, hb5⟩; have B5 := B4.trans (hb5.mono B4.size))
    | (go_at_call 15; refine (c6.out _).mono ?_; rintro e w6 ⟨rfl, hb6⟩; have B6 := B5.trans (hb6.mono B5.size))
    | (go_at_call 16; refine (c7.out _).mono ?_; rintro e w7 ⟨rfl, hb7⟩; have B7 := B6.trans (hb7.mono B6.size))
    | (go_at_call 17; refine (c8.out _).mono ?_; rintro e w8 ⟨rfl, hb8⟩; have B8 := B7.trans (hb8.mono B7.size)))
  go_ret
  exact ⟨ret_bool (by simp), B8⟩
end Go.Proofs.YthmcgfiaimnplaaDoor.plays

/-
  ArithTexts, walked.
-/
import Derived.Test.YteoomihembloaaaDoorArRfT
import Derived.Test.YteoomihembloaaaDoorArRdW
import Derived.Test.YteoomihembloaaaDoorArAwk
set_option linter.unusedSimpArgs false
set_option linter.unusedVariables false
namespace Go.Proofs.YteoomihembloaaaDoor
open Go.RowKit Go.Lib

set_option maxRecDepth 100000 in
set_option maxHeartbeats 4000000 in
theorem texts.walk (s : ByteArray) (n : Int) (w : World) (hTT : Tb4 w ∧ Tabs w) (hs : s.size ≤ maxLen) (hn : i6 n) :
    Calls Tryd.prog 4 #[.string s, .int .i64 n] w fun e w' => e = .returned (.bool true) ∧ Below w.heap.size w w' := by
  obtain ⟨h4, hT⟩ := hTT
  have HT4 : Hid (∀ W, Below w.heap.size w W → Tb4 W ∧ Tabs W) := fun W h => ⟨h4.below h, hT.below h⟩
  have cw : Hid (∀ W, Tb4 W ∧ Tabs W → Calls Tryd.prog 9 #[] W fun e w' => e = .returned (.bool true) ∧ Below W.heap.size W w') := fun W h => awake_any W h.1.g
  have c1 : Hid (∀ W, Tb4 W ∧ Tabs W → Calls Tryd.prog 12 #[.string s] W fun e w' => e = .returned (.tuple #[.int .i64 (rdA s).1, .int .i64 (rdA s).2]) ∧ Below W.heap.size W w') := fun W h => read_any s W h.2 hs
  have c2 : Hid (∀ W, Calls Tryd.prog 13 #[.string s] W fun e w' => e = .returned (.tuple #[.int .i64 (rdA s).1, .int .i64 (rdA s).2]) ∧ Below W.heap.size W w') := fun W => refRead_any s W hs
  have c3 : Hid (∀ W, Tb4 W ∧ Tabs W → Calls Tryd.prog 14 #[.int .i64 n] W fun e w' => e = .returned (.string (tx8 (itoa n))) ∧ Below W.heap.size W w') := fun W h => text_any n W h.1.p hn
  have c4 : Hid (∀ W, Calls Tryd.prog 15 #[.int .i64 n] W fun e w' => e = .returned (.string (tx8 (itoa n))) ∧ Below W.heap.size W w') := fun W => refText_any n W hn
  generalize rdA s = r at *
  obtain ⟨r1, r2⟩ := r
  simp only at c1 c2
  generalize tx8 (itoa n) = T at *
  have hb : Below w.heap.size w w := Below.refl _ _
  clear h4 hT hs hn
  go_enter Tryd.func4, Tryd.ntmps4
  go_wp2_with (first
    | (go_at_call 9; refine (cw.out _ (HT4.out _ hb)).mono ?_; rintro e w2 ⟨rfl, hc⟩; replace hb := hb.trans (hc.mono hb.size); clear hc)
    | (go_at_call 12; refine (c1.out _ (HT4.out _ hb)).mono ?_; rintro e w2 ⟨rfl, hc⟩; replace hb := hb.trans (hc.mono hb.size); clear hc)
    | (go_at_call 13; refine (c2.out _).mono ?_; rintro e w2 ⟨rfl, hc⟩; replace hb := hb.trans (hc.mono hb.size); clear hc)
    | (go_at_call 14; refine (c3.out _ (HT4.out _ hb)).mono ?_; rintro e w2 ⟨rfl, hc⟩; replace hb := hb.trans (hc.mono hb.size); clear hc)
    | (go_at_call 15; refine (c4.out _).mono ?_; rintro e w2 ⟨rfl, hc⟩; replace hb := hb.trans (hc.mono hb.size); clear hc))
  go_ret
  exact ⟨rfl, hb⟩
end Go.Proofs.YteoomihembloaaaDoor

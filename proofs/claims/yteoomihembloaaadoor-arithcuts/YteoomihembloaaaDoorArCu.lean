/-
  Quotients and rests of numbers of 64 bits, plain; ArithCuts, walked.
-/
import Derived.Test.YteoomihembloaaaDoorArAwk
import Derived.Test.YteoomihembloaaaDoorArFrame
set_option linter.unusedSimpArgs false
set_option linter.unusedVariables false
namespace Go.Proofs.YteoomihembloaaaDoor
open Go.RowKit Go.Lib

theorem retB {a b : Bool} (h : a = b) : Ending.returned (.bool a) = .returned (.bool b) := by rw [h]
theorem cut_back (a b : Int) (ha : i6 a) : wrap64 (wrap64 (wrap64 (a.tdiv b) * b) + a.tmod b) = a := by
  have h : B6 (wrap64 (wrap64 (wrap64 (a.tdiv b) * b) + a.tmod b)) = B6 a := by
    simp only [b6_w6, b6_add, b6_mul]
    rw [← b6_mul, ← b6_add]
    congr 1
    have := Int.tdiv_mul_add_tmod a b
    exact this
  exact b6_inj (w6_in _) ha h
theorem cut_sign (a b : Int) (h : a.tmod b ≠ 0) : decide (a.tmod b < 0) = decide (a < 0) := by
  by_cases ha : a < 0
  · have h1 : a.tmod b = - (-a).tmod b := by rw [Int.neg_tmod]; omega
    have h2 := Int.tmod_nonneg b (a := -a) (by omega)
    rw [decide_eq_true ha, decide_eq_true (by omega)]
  · have h2 := Int.tmod_nonneg b (a := a) (by omega)
    rw [decide_eq_false ha, decide_eq_false (by omega)]
theorem cut_near (a b : Int) (hb : b ≠ 0) : (a.tmod b).natAbs < b.natAbs := by
  rw [Int.natAbs_tmod]
  exact Nat.mod_lt _ (by omega)

set_option maxRecDepth 100000 in
set_option maxHeartbeats 8000000 in
theorem cuts.walk (a b : Int) (w : World) (hT : Tb4 w) (ha : i6 a) (hb6 : i6 b) :
    Calls Tryd.prog 6 #[.int .i64 a, .int .i64 b] w fun e w' => e = .returned (.bool true) ∧ Below w.heap.size w w' := by
  have hG := hT.g
  have cw : Hid (∀ W, GrpCells W → Calls Tryd.prog 9 #[] W fun e w' => e = .returned (.bool true) ∧ Below W.heap.size W w') := awake_any
  have HG : Hid (∀ W, Below w.heap.size w W → GrpCells W) := fun W h => hG.below h
  have hb : Below w.heap.size w w := Below.refl _ _
  clear hG hT
  by_cases hz : b = 0
  · subst hz
    have e8 : apR 8 [a, 0] = (0, 12) := by simp [apR]
    have e9 : apR 9 [a, 0] = (0, 12) := by simp [apR]
    have c8 : Hid (∀ W, GrpCells W → Calls Tryd.prog 10 #[.int .i64 8, .slice (some ⟨W.heap.size, 0, none⟩) 2 2] (W.alloc (.cells #[.int .i64 a, .int .i64 0] 2)) fun e w' => e = .returned (.tuple #[.int .i64 0, .int .i64 12]) ∧ Below W.heap.size W w') := fun W hW => by
      have := app_new2 8 a 0 W hW; rw [e8] at this; exact this
    have c9 : Hid (∀ W, GrpCells W → Calls Tryd.prog 10 #[.int .i64 9, .slice (some ⟨W.heap.size, 0, none⟩) 2 2] (W.alloc (.cells #[.int .i64 a, .int .i64 0] 2)) fun e w' => e = .returned (.tuple #[.int .i64 0, .int .i64 12]) ∧ Below W.heap.size W w') := fun W hW => by
      have := app_new2 9 a 0 W hW; rw [e9] at this; exact this
    clear e8 e9
    go_enter Tryd.func6, Tryd.ntmps6
    go_wp2_with (first
      | (go_at_call 9; refine (cw.out _ (HG.out _ hb)).mono ?_; rintro e w2 ⟨rfl, hc⟩; replace hb := hb.trans (hc.mono hb.size); clear hc)
      | (go_at_call_of 10 (Value.int .i64 8); refine (c8.out _ (HG.out _ hb)).mono ?_; rintro e w2 ⟨rfl, hc⟩; replace hb := hb.trans (hc.mono hb.size); clear hc)
      | (go_at_call_of 10 (Value.int .i64 9); refine (c9.out _ (HG.out _ hb)).mono ?_; rintro e w2 ⟨rfl, hc⟩; replace hb := hb.trans (hc.mono hb.size); clear hc))
    go_ret
    exact ⟨rfl, hb⟩
  · have e8 : apR 8 [a, b] = (wrap64 (a.tdiv b), 0) := by simp [apR, ap2, hz]
    have e9 : apR 9 [a, b] = (a.tmod b, 0) := by simp [apR, ap2, hz]
    have hq := cut_back a b ha
    have hs := cut_sign a b
    have hn := cut_near a b hz
    have hri := tmod_in b ha
    have c8 : Hid (∀ W, GrpCells W → Calls Tryd.prog 10 #[.int .i64 8, .slice (some ⟨W.heap.size, 0, none⟩) 2 2] (W.alloc (.cells #[.int .i64 a, .int .i64 b] 2)) fun e w' => e = .returned (.tuple #[.int .i64 (wrap64 (a.tdiv b)), .int .i64 0]) ∧ Below W.heap.size W w') := fun W hW => by
      have := app_new2 8 a b W hW; rw [e8] at this; exact this
    have c9 : Hid (∀ W, GrpCells W → Calls Tryd.prog 10 #[.int .i64 9, .slice (some ⟨W.heap.size, 0, none⟩) 2 2] (W.alloc (.cells #[.int .i64 a, .int .i64 b] 2)) fun e w' => e = .returned (.tuple #[.int .i64 (a.tmod b), .int .i64 0]) ∧ Below W.heap.size W w') := fun W hW => by
      have := app_new2 9 a b W hW; rw [e9] at this; exact this
    clear e8 e9
    generalize wrap64 (a.tdiv b) = q at *
    generalize a.tmod b = r at *
    have hz' : (b == 0) = false := by simpa using hz
    have HS : Hid (r ≠ 0 → decide (r < 0) = decide (a < 0)) := hs
    have HN : Hid (r.natAbs < b.natAbs ∧ i6 r ∧ i6 b) := ⟨hn, hri, hb6⟩
    clear hs hn hri ha hz hb6
    go_enter Tryd.func6, Tryd.ntmps6
    go_wp2_with (first
      | (go_at_call 9; refine (cw.out _ (HG.out _ hb)).mono ?_; rintro e w2 ⟨rfl, hc⟩; replace hb := hb.trans (hc.mono hb.size); clear hc)
      | (go_at_call_of 10 (Value.int .i64 8); refine (c8.out _ (HG.out _ hb)).mono ?_; rintro e w2 ⟨rfl, hc⟩; replace hb := hb.trans (hc.mono hb.size); clear hc)
      | (go_at_call_of 10 (Value.int .i64 9); refine (c9.out _ (HG.out _ hb)).mono ?_; rintro e w2 ⟨rfl, hc⟩; replace hb := hb.trans (hc.mono hb.size); clear hc))
    all_goals
      have hN := HN.out
      have hS := HS.out
      unfold i6 at hN
      first
      | (go_ret
         refine ⟨retB ?_, hb⟩
         simp only [IntKind.wrap_u64, decide_eq_true_eq]
         omega)
      | (exfalso
         rename_i h1 h2
         have := hS h1
         rw [this] at h2
         simp at h2)
end Go.Proofs.YteoomihembloaaaDoor

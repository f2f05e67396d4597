/-
  The two tables, as they lie in memory.
-/
import Derived.Test.YthecbkmpoamacaaRuD
import Derived.Test.YthecbkmpoamacaaChecked
import Derived.WalkKit
import Derived.Deep.Slices
import Derived.SizedLaws
import Derived.Below
import Derived.Laws.NewBlocks
import Derived.Lib.QuietBelow
set_option linter.unusedSimpArgs false
set_option linter.unusedVariables false
namespace Go.Proofs.Ythecbkmpoamacaa
open Go.RowKit

theorem wp_row {P : Program} {o : Oper} {a : Act} {w : World} {K : Act → World → Prop} {Q : Exit → Act → World → Prop} {n : Nat} {cells : Array Value} {e : TypeId}
    (h : ∀ w1 : World, (execOp a.eval o).run P w1 = .ok (.value (.slice (some ⟨w1.heap.size, 0, none⟩) n n)) (w1.alloc (.cells cells e)))
    (hn : K (a.put o.dst (.slice (some ⟨w.heap.size, 0, none⟩) n n)) (w.alloc (.cells cells e))) : Oper.wp P o a w K Q := by
  unfold Oper.wp
  rw [h w, Oper.upon_value]
  exact hn

set_option maxRecDepth 40000 in
set_option maxHeartbeats 4000000 in
theorem rtable_any (w : World) :
    Calls Try.prog 13 #[] w fun e w' => e = .returned (.slice (some ⟨w.heap.size, 0, none⟩) 44 44) ∧ w' = w.alloc (.cells rCells 44) := by
  go_enter Try.func13, Try.ntmps13
  go_wp2_with fail
  refine wp_row (n := 44) (cells := rCells) (e := 44) (fun w1 => by kernel_rfl) ?_
  rename_i K1 h1 K2 h2
  apply h2
  go_wp2_with fail
  go_ret
  exact ⟨rfl, rfl⟩

set_option maxRecDepth 40000 in
set_option maxHeartbeats 4000000 in
theorem table_any (w : World) :
    Calls Try.prog 11 #[] w fun e w' => ∃ b, e = .returned (.slice (some ⟨b, 0, none⟩) 44 44) ∧ w.heap.size ≤ b ∧ (∀ k, w'.cell? ⟨b, k, none⟩ = (pCells w.heap.size)[k]?) ∧ Below w.heap.size w w' := by
  go_enter Try.func11, Try.ntmps11
  go_wp2_with fail
  refine wp_row (n := 44) (cells := pCells w.heap.size) (e := 38) (fun w1 => by kernel_rfl) ?_
  rename_i K1 h1 K2 h2
  apply h2
  go_wp2_with fail
  go_ret
  refine ⟨_, rfl, ?_, ?_, ?_⟩
  · repeat first | exact Nat.le_refl _ | refine Nat.le_succ_of_le ?_
  · intro k
    refine World.cell?_alloc_at _ _ _ _ ?_
    simp only [World.size_alloc]
  · refine Below.alloc ?_ ?_ _
    · repeat' first | exact Below.refl _ _ | refine Below.alloc ?_ ?_ _
      all_goals first | omega | (simp only [World.size_alloc]; omega)
    · first | omega | (simp only [World.size_alloc]; omega)
end Go.Proofs.Ythecbkmpoamacaa

/-
  The law's own apply, and awake.
-/
import Derived.Test.YtkgfcamlfnlpoaaDoorArW
import Derived.Lib.QuietBelow
set_option linter.unusedSimpArgs false
set_option linter.unusedVariables false
namespace Go.Proofs.YtkgfcamlfnlpoaaDoor
open Go.RowKit Go.Lib

/-- What the law's apply answers. -/
def apL (op : Int) (l : List Int) : Int := if (apR op l).2 = 0 then (apR op l).1 else 24301

theorem Ags.fresh (w : World) (l : List Int) (c : Nat) (t : TypeId) (h : l ≠ []) : Ags (w.alloc (.cells (l.map (Value.int .i64)).toArray t)) (.slice (some ⟨w.heap.size, 0, none⟩) l.length c) l := by
  refine ⟨_, _, rfl, .inr ⟨w.heap.size, 0, rfl, fun i x hx => ?_⟩⟩
  have hb : (w.alloc (.cells (l.map (Value.int .i64)).toArray t)).heap[w.heap.size]? = some (.cells (l.map (Value.int .i64)).toArray t) := by
    show (w.heap.push _)[w.heap.size]? = _
    simp
  unfold World.cell?
  rw [hb]
  simp [hx]
theorem below_fresh {w : World} (o : Obj) (m : Nat) : Below w.heap.size w ((w.alloc o).drewN m) :=
  let h := (Below.refl w.heap.size w).alloc (Nat.le_refl _) o
  ⟨h.os, h.tape, h.output, h.size, h.block⟩

theorem app_new2 (op a b : Int) (w : World) (hG : GrpCells w) :
    Calls Tryd.prog 30 #[.int .i64 op, .slice (some ⟨w.heap.size, 0, none⟩) 2 2] (w.alloc (.cells #[.int .i64 a, .int .i64 b] 2)) fun e w' => e = .returned (.tuple #[.int .i64 (apR op [a, b]).1, .int .i64 (apR op [a, b]).2]) ∧ Below w.heap.size w w' := by
  refine (apply_any op _ [a, b] _ (hG.below ((Below.refl _ _).alloc (Nat.le_refl _) _)) (Ags.fresh w [a, b] 2 2 (by simp))).mono ?_
  rintro e w' ⟨he, m, rfl⟩
  exact ⟨he, below_fresh _ m⟩
end Go.Proofs.YtkgfcamlfnlpoaaDoor

/-
  The law's own apply, and awake.
-/
import Derived.Test.YtpdohdmpjaklgaaDoorMArW
import Derived.Lib.QuietBelow
set_option linter.unusedSimpArgs false
set_option linter.unusedVariables false
namespace Go.Proofs.YtpdohdmpjaklgaaDoor
open Go.RowKit Go.Lib

/-- What the law's apply answers. -/
def apL (op : Int) (l : List Int) : Int := if (apR op l).2 = 0 then (apR op l).1 else 24301

theorem Ags.fresh (w : World) (l : List Int) (c : Nat) (t : TypeId) (h : l ≠ []) : Ags (w.alloc (.cells (l.map (Value.int .i64)).toArray t)) (.slice (some ⟨w.heap.size, 0, none⟩) l.length c) l := by
  refine ⟨_, _, rfl, .inr ⟨w.heap.size, 0, rfl, fun i x hx => ?_⟩⟩
  have hb : (w.alloc (.cells (l.map (Value.int .i64)).toArray t)).heap[w.heap.size]? = some (.cells (l.map (Value.int .i64)).toArray t) := by
    show (w.heap.push _)[w.heap.size]? = _
    simp
  unfold World.cell?
  rw [hb]
  simp [hx]
theorem below_fresh {w : World} (o : Obj) (m : Nat) : Below w.heap.size w ((w.alloc o).drewN m) :=
  let h := (Below.refl w.heap.size w).alloc (Nat.le_refl _) o
  ⟨h.os, h.tape, h.output, h.size, h.block⟩

end Go.Proofs.YtpdohdmpjaklgaaDoor

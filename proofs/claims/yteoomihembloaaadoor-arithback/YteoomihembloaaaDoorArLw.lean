/-
  The law's own apply, and awake.
-/
import Derived.Test.YteoomihembloaaaDoorArW
import Derived.Lib.QuietBelow
set_option linter.unusedSimpArgs false
set_option linter.unusedVariables false
namespace Go.Proofs.YteoomihembloaaaDoor
open Go.RowKit Go.Lib

/-- What the law's apply answers. -/
def apL (op : Int) (l : List Int) : Int := if (apR op l).2 = 0 then (apR op l).1 else 24301

theorem apl_any (op : Int) (v : Value) (l : List Int) (w : World) (hG : GrpCells w) (hA : Ags w v l) :
    Calls Tryd.prog 16 #[.int .i64 op, v] w fun e w' => e = .returned (.int .i64 (apL op l)) ∧ ∃ m, w' = w.drewN m := by
  have ca : Hid (∀ W, GrpCells W → Ags W v l → Calls Tryd.prog 10 #[.int .i64 op, v] W fun e w' => e = .returned (.tuple #[.int .i64 (apR op l).1, .int .i64 (apR op l).2]) ∧ ∃ m, w' = W.drewN m) := fun W h1 h2 => apply_any op v l W h1 h2
  have HR : Hid (apL op l = if (apR op l).2 = 0 then (apR op l).1 else 24301) := rfl
  generalize apL op l = R at *
  generalize apR op l = r at *
  obtain ⟨r1, r2⟩ := r
  simp only at ca HR
  have hA' := hA
  obtain ⟨a, c, rfl, _⟩ := hA'
  go_enter Tryd.func16, Tryd.ntmps16
  go_wp2_with (go_at_call 10; refine (ca.out _ hG hA).mono ?_; rintro e w2 ⟨rfl, m, rfl⟩)
  all_goals
    go_ret
    exact ⟨retI (by rw [HR.out]; simp_all), _, rfl⟩

theorem Ags.fresh (w : World) (l : List Int) (c : Nat) (t : TypeId) (h : l ≠ []) : Ags (w.alloc (.cells (l.map (Value.int .i64)).toArray t)) (.slice (some ⟨w.heap.size, 0, none⟩) l.length c) l := by
  refine ⟨_, _, rfl, .inr ⟨w.heap.size, 0, rfl, fun i x hx => ?_⟩⟩
  have hb : (w.alloc (.cells (l.map (Value.int .i64)).toArray t)).heap[w.heap.size]? = some (.cells (l.map (Value.int .i64)).toArray t) := by
    show (w.heap.push _)[w.heap.size]? = _
    simp
  unfold World.cell?
  rw [hb]
  simp [hx]
theorem below_fresh {w : World} (o : Obj) (m : Nat) : Below w.heap.size w ((w.alloc o).drewN m) :=
  let h := (Below.refl w.heap.size w).alloc (Nat.le_refl _) o
  ⟨h.os, h.tape, h.output, h.size, h.block⟩

/-- The law's apply of numbers that are written in the call. -/
theorem apl_new1 (op a : Int) (w : World) (hG : GrpCells w) :
    Calls Tryd.prog 16 #[.int .i64 op, .slice (some ⟨w.heap.size, 0, none⟩) 1 1] (w.alloc (.cells #[.int .i64 a] 2)) fun e w' => e = .returned (.int .i64 (apL op [a])) ∧ Below w.heap.size w w' := by
  refine (apl_any op _ [a] _ (hG.below ((Below.refl _ _).alloc (Nat.le_refl _) _)) (Ags.fresh w [a] 1 2 (by simp))).mono ?_
  rintro e w' ⟨he, m, rfl⟩
  exact ⟨he, below_fresh _ m⟩
theorem apl_new2 (op a b : Int) (w : World) (hG : GrpCells w) :
    Calls Tryd.prog 16 #[.int .i64 op, .slice (some ⟨w.heap.size, 0, none⟩) 2 2] (w.alloc (.cells #[.int .i64 a, .int .i64 b] 2)) fun e w' => e = .returned (.int .i64 (apL op [a, b])) ∧ Below w.heap.size w w' := by
  refine (apl_any op _ [a, b] _ (hG.below ((Below.refl _ _).alloc (Nat.le_refl _) _)) (Ags.fresh w [a, b] 2 2 (by simp))).mono ?_
  rintro e w' ⟨he, m, rfl⟩
  exact ⟨he, below_fresh _ m⟩
theorem apl_new3 (op a b c : Int) (w : World) (hG : GrpCells w) :
    Calls Tryd.prog 16 #[.int .i64 op, .slice (some ⟨w.heap.size, 0, none⟩) 3 3] (w.alloc (.cells #[.int .i64 a, .int .i64 b, .int .i64 c] 2)) fun e w' => e = .returned (.int .i64 (apL op [a, b, c])) ∧ Below w.heap.size w w' := by
  refine (apl_any op _ [a, b, c] _ (hG.below ((Below.refl _ _).alloc (Nat.le_refl _) _)) (Ags.fresh w [a, b, c] 3 2 (by simp))).mono ?_
  rintro e w' ⟨he, m, rfl⟩
  exact ⟨he, below_fresh _ m⟩
theorem app_new2 (op a b : Int) (w : World) (hG : GrpCells w) :
    Calls Tryd.prog 10 #[.int .i64 op, .slice (some ⟨w.heap.size, 0, none⟩) 2 2] (w.alloc (.cells #[.int .i64 a, .int .i64 b] 2)) fun e w' => e = .returned (.tuple #[.int .i64 (apR op [a, b]).1, .int .i64 (apR op [a, b]).2]) ∧ Below w.heap.size w w' := by
  refine (apply_any op _ [a, b] _ (hG.below ((Below.refl _ _).alloc (Nat.le_refl _) _)) (Ags.fresh w [a, b] 2 2 (by simp))).mono ?_
  rintro e w' ⟨he, m, rfl⟩
  exact ⟨he, below_fresh _ m⟩
end Go.Proofs.YteoomihembloaaaDoor

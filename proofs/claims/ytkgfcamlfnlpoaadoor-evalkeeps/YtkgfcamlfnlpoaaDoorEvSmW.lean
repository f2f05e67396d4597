/-
  The comparison of two bindings, and of two environments, walked; awake.
-/
import Derived.Test.YtkgfcamlfnlpoaaDoorEvGetW
import Derived.Laws.StructEq
import Derived.Lib.QuietBelow
set_option linter.unusedSimpArgs false
set_option linter.unusedVariables false
namespace Go.Proofs.YtkgfcamlfnlpoaaDoor
open Go.RowKit Go.Lib Go.Sort
theorem str_bind : Tryd.prog.underlying 51 = some (.struct (Tryd.prog.fieldsOf 51)) := by kernel_rfl
theorem sto_bind : Tryd.prog.stoodInHeld 51 = false := by kernel_rfl
theorem fld_bind : (Tryd.prog.fieldsOf 51).toList.map (fun f => (f.name, f.type, f.offset)) = [("Name", 9, 0), ("N", 2, 1)] := by kernel_rfl
theorem toList_iff (a b : ByteArray) : a.toList = b.toList ↔ a = b := by
  have := eq_toList a b
  by_cases h : a = b
  · subst h; simp
  · rw [decide_eq_false h] at this
    simp at this
    simp [h, this]
theorem neq_bind (a b : ByteArray) (m n : Int) (w : World) : (binOp .neq 51 (.agg #[.string a, .int .i64 m]) (.agg #[.string b, .int .i64 n])).run Tryd.prog w = .ok (.bool (!decide ((a, m) = (b, n)))) w := by
  rw [run_neq_struct, run_equalIn_struct w 9999 51 _ _ str_bind sto_bind]
  have h := fld_bind
  generalize (Tryd.prog.fieldsOf 51).toList = fs at *
  rcases fs with _ | ⟨f, _ | ⟨g, _ | ⟨x, r⟩⟩⟩
  · simp at h
  · simp at h
  · simp at h
    obtain ⟨⟨h1, h2, h3⟩, h4, h5, h6⟩ := h
    simp [Op.eqFields, go_sem, h1, h2, h3, h4, h5, h6, toList_iff]
    by_cases e1 : a = b
    · by_cases e2 : m = n <;> simp [e1, e2]
    · simp [e1]
  · simp at h

end Go.Proofs.YtkgfcamlfnlpoaaDoor

/-
  What the walks of apart.. share.
-/
import Derived.Test.YtkdcjkhpbbcncaaDoorApRows
set_option linter.unusedSimpArgs false
set_option linter.unusedVariables false
namespace Go.Proofs.YtkdcjkhpbbcncaaDoor
open Go.RowKit

theorem ap_fit {m t : Nat} (h : (m + 12) * 24 ≤ 140737488355328) (ht : t < 12) : m + t + 1 ≤ maxLen ∧ (m + t + 1) * 24 ≤ 140737488355328 := by
  unfold maxLen
  omega
theorem ap_fit2 {k n : Nat} (h : n * 24 ≤ 140737488355328) (hk : k < n) : k + 1 ≤ maxLen ∧ (k + 1) * 24 ≤ 140737488355328 := by
  unfold maxLen
  omega
theorem ap_nx {a c k : Nat} (h : a = 1000000 + (c + 12 * k) + 12) : a = 1000000 + c + 12 * (k + 1) := by omega
theorem ap_nx2 {a c k : Nat} (h : a = 1000000 + c + 12 * k + 12) : a = 1000000 + c + 12 * (k + 1) := by omega
theorem rw_fro {w : World} {base : Nat} {e : TypeId} {size n g cap : Nat} {xs : List Value} (h : w.ownsRow base e size (.slice (some ⟨g, 0, none⟩) n cap) n xs) (i : Nat) : w.frozen? ⟨g, i, none⟩ = false := by
  obtain ⟨_, _, _, cur, _, h1, _⟩ := rw_block h (b := g) rfl
  simp [World.frozen?, h1]
theorem rw_cell {w : World} {base : Nat} {e : TypeId} {size n g cap : Nat} {xs : List Value} (h : w.ownsRow base e size (.slice (some ⟨g, 0, none⟩) n cap) n xs) {i : Nat} (hi : i < n * size) : ∃ u, w.cell? ⟨g, i, none⟩ = some u ∧ xs[i]? = some u := by
  have hl := h.1
  have hx : xs[i]? = some (xs[i]'(by omega)) := List.getElem?_eq_getElem (by omega)
  exact ⟨_, (rdr_own h).cell (b := g) rfl hx, hx⟩
end Go.Proofs.YtkdcjkhpbbcncaaDoor

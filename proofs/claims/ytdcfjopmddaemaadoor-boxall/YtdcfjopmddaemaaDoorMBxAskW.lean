/-
  What asLit, Lit and Op answer; awake.
-/
import Derived.Test.YtdcfjopmddaemaaDoorMBxSplW
set_option linter.unusedSimpArgs false
set_option linter.unusedVariables false
namespace Go.Proofs.YtdcfjopmddaemaaDoor
open Go.RowKit

def isLit : Tm → Bool
  | .lit _ => true
  | _ => false

theorem tv_iface (t : Tm) : tv t = .nilIface ∧ nT t = 0 ∧ isLit t = false ∨ (∃ n, t = .lit n) ∨ ∃ u x, tv t = .iface u x ∧ nT t = 0 ∧ isLit t = false ∧ (Oth t → u ≠ 77) := by
  cases t with
  | nil => exact .inl ⟨rfl, rfl, rfl⟩
  | lit n => exact .inr (.inl ⟨n, rfl⟩)
  | other u x => exact .inr (.inr ⟨u, x, rfl, rfl, rfl, fun h => h.1⟩)
  | var s => exact .inr (.inr ⟨_, _, rfl, rfl, rfl, fun _ => by decide⟩)
  | un op a => exact .inr (.inr ⟨_, _, rfl, rfl, rfl, fun _ => by decide⟩)
  | bin op a b => exact .inr (.inr ⟨_, _, rfl, rfl, rfl, fun _ => by decide⟩)
  | ifs c a b => exact .inr (.inr ⟨_, _, rfl, rfl, rfl, fun _ => by decide⟩)

set_option maxRecDepth 20000 in
set_option maxHeartbeats 400000 in
theorem asLit_any (t : Tm) (hO : Oth t) (w : World) : Calls Tryd.prog 67 #[tv t] w fun e w' => e = .returned (.tuple #[.agg #[.int .i64 (nT t)], .bool (isLit t)]) ∧ Below w.heap.size w w' := by
  rcases tv_iface t with ⟨h, h2, h3⟩ | ⟨n, rfl⟩ | ⟨u, x, h, h2, h3, h4⟩
  · rw [h, h2, h3]
    clear h h2 h3
    have h1 := tnLit
    go_enter Tryd.func67, Tryd.ntmps67
    go_wp2
    refine bodyPost_ret (v := .tuple #[.agg #[.int .i64 0], .bool false]) (by simp [results, Tryd.results67, go_sem]) rfl ⟨rfl, ?_⟩
    repeat (first | exact Below.refl _ _ | refine Below.alloc ?_ (by simp <;> omega) _ | refine Below.drew ?_ | refine Below.setCell ?_ (by simp <;> omega) _)
  · unfold tv nT isLit
    have h1 := taLit
    go_enter Tryd.func67, Tryd.ntmps67
    go_wp2
    refine bodyPost_ret (v := .tuple #[.agg #[.int .i64 n], .bool true]) (by simp [results, Tryd.results67, go_sem]) rfl ⟨rfl, ?_⟩
    repeat (first | exact Below.refl _ _ | refine Below.alloc ?_ (by simp <;> omega) _ | refine Below.drew ?_ | refine Below.setCell ?_ (by simp <;> omega) _)
  · have h5 := h4 hO
    rw [h, h2, h3]
    clear h h2 h3 h4 hO
    have h1 := taLit
    go_enter Tryd.func67, Tryd.ntmps67
    go_wp2
    refine bodyPost_ret (v := .tuple #[.agg #[.int .i64 0], .bool false]) (by simp [results, Tryd.results67, go_sem]) rfl ⟨rfl, ?_⟩
    repeat (first | exact Below.refl _ _ | refine Below.alloc ?_ (by simp <;> omega) _ | refine Below.drew ?_ | refine Below.setCell ?_ (by simp <;> omega) _)

set_option maxRecDepth 20000 in
set_option maxHeartbeats 400000 in
theorem lit_any (t : Tm) (hO : Oth t) (w : World) : Calls Tryd.prog 46 #[tv t] w fun e w' => e = .returned (.tuple #[.int .i64 (nT t), .bool (isLit t)]) ∧ Below w.heap.size w w' := by
  have cA := asLit_any t hO
  have HA : Hid (∀ w, Calls Tryd.prog 67 #[tv t] w fun e w' => e = .returned (.tuple #[.agg #[.int .i64 (nT t)], .bool (isLit t)]) ∧ Below w.heap.size w w') := cA
  clear cA
  generalize tv t = v at *
  generalize nT t = n at *
  generalize isLit t = b at *
  go_enter Tryd.func46, Tryd.ntmps46
  go_wp2_with fail
  refine (HA.out _).mono ?_
  rintro e w2 ⟨rfl, hb2⟩
  go_wp2_with fail
  go_ret2
  exact ⟨rfl, hb2.alloc hb2.size _⟩

set_option maxRecDepth 20000 in
set_option maxHeartbeats 400000 in
theorem op_any (t : Tm) (hO : Oth t) (w : World) : Calls Tryd.prog 47 #[tv t] w fun e w' => e = .returned (.int .i64 (opT t)) ∧ Below w.heap.size w w' := by
  have HS : Hid (∀ w, Calls Tryd.prog 68 #[tv t] w fun e w' => ∃ ao n c, e = .returned (.tuple #[.agg #[.int .i64 (opT t), .int .i64 (nT t), .string (nameT t), .slice none 0 0], .slice ao n c]) ∧ Below w.heap.size w w') := fun w => by
    refine (split_any t hO w).mono ?_
    rintro e w' ⟨g, rfl, h1, h2, h3⟩
    unfold pvT
    split
    · exact ⟨_, _, _, rfl, h3⟩
    · exact ⟨_, _, _, rfl, h3⟩
  generalize tv t = v at *
  generalize nT t = n at *
  generalize opT t = op at *
  generalize nameT t = nm at *
  go_enter Tryd.func47, Tryd.ntmps47
  go_wp2_with fail
  refine (HS.out _).mono ?_
  rintro e w2 ⟨ao, k, c, rfl, hb2⟩
  go_wp2_with fail
  go_ret
  exact ⟨rfl, hb2.alloc hb2.size _⟩

set_option maxRecDepth 20000 in
set_option maxHeartbeats 400000 in
theorem awk3_any (w : World) : Calls Tryd.prog 21 #[] w fun e w' => e = .returned (.bool true) ∧ Below w.heap.size w w' := by
  have cL : Hid (∀ w, Calls Tryd.prog 46 #[.iface 77 (.agg #[.int .i64 5])] w fun e w' => e = .returned (.tuple #[.int .i64 5, .bool true]) ∧ Below w.heap.size w w') := fun w => lit_any (.lit 5) trivial w
  have cO : Hid (∀ w, Calls Tryd.prog 47 #[.iface 80 (.agg #[.string ⟨#[97]⟩])] w fun e w' => e = .returned (.int .i64 2) ∧ Below w.heap.size w w') := fun w => op_any (.var ⟨#[97]⟩) trivial w
  go_enter Tryd.func21, Tryd.ntmps21
  go_wp2_with fail
  refine (cL.out _).mono ?_
  rintro e w2 ⟨rfl, hb2⟩
  go_wp2_with fail
  refine (cO.out _).mono ?_
  rintro e w3 ⟨rfl, hb3⟩
  go_wp2_with fail
  go_ret
  exact ⟨rfl, hb2.trans (hb3.mono hb2.size)⟩
end Go.Proofs.YtdcfjopmddaemaaDoor

/-
  A term is alike to itself.
-/
import Derived.Test.YtdcfjopmddaemaaDoorMBxAskW
set_option linter.unusedSimpArgs false
set_option linter.unusedVariables false
namespace Go.Proofs.YtdcfjopmddaemaaDoor
open Go.RowKit

theorem eqLit (n : Int) (w : World) : (binOp .eql 77 (.agg #[.int .i64 n]) (.agg #[.int .i64 n])).run Tryd.prog w = .ok (.bool true) w := by simp [go_sem]
theorem eqVar (s : ByteArray) (w : World) : (binOp .eql 80 (.agg #[.string s]) (.agg #[.string s])).run Tryd.prog w = .ok (.bool true) w := by simp [go_sem]
theorem bcell {W w1 : World} (hb : Below W.heap.size W w1) : ∀ b o, b < W.heap.size → w1.cell? ⟨b, o, none⟩ = W.cell? ⟨b, o, none⟩ := fun b o h => hb.cell (p := ⟨b, o, none⟩) h

/-- No part is nil or of another type. -/
def Five : Tm → Prop
  | .lit _ => True
  | .var _ => True
  | .un _ a => Five a
  | .bin _ a b => Five a ∧ Five b
  | .ifs c a b => Five c ∧ Five a ∧ Five b
  | _ => False

set_option maxRecDepth 20000 in
set_option maxHeartbeats 2000000 in
theorem alike_same (t : Tm) : Five t → ∀ (w : World), Calls Tryd.prog 27 #[tv t, tv t] w fun e w' => e = .returned (.bool true) ∧ Below w.heap.size w w' := by
  induction t with
  | nil => intro h; exact h.elim
  | other u x => intro h; exact h.elim
  | lit n =>
    intro _ w
    unfold tv
    have h0 := taLit
    have he := eqLit n
    go_enter Tryd.func27, Tryd.ntmps27
    go_wp2_with fail
    go_ret
    exact ⟨rfl, by repeat (first | exact Below.refl _ _ | refine Below.alloc ?_ (by simp <;> omega) _)⟩
  | var s =>
    intro _ w
    unfold tv
    have h0 := taLit
    have h1 := taVar
    have he := eqVar s
    go_enter Tryd.func27, Tryd.ntmps27
    go_wp2_with fail
    go_ret
    exact ⟨rfl, by repeat (first | exact Below.refl _ _ | refine Below.alloc ?_ (by simp <;> omega) _)⟩
  | un op a iha =>
    intro h w
    unfold tv
    have h0 := taLit
    have h1 := taVar
    have h2 := taUn
    have sa := st_one (tv_one a)
    have qa := tv_cells a
    unfold Value.cells at qa
    have Ia : Hid (∀ w, Calls Tryd.prog 27 #[tv a, tv a] w fun e w' => e = .returned (.bool true) ∧ Below w.heap.size w w') := iha h
    clear iha h
    generalize tv a = va at *
    go_enter Tryd.func27, Tryd.ntmps27
    go_wp2_with fail
    refine (Ia.out _).mono ?_
    rintro e wz0 ⟨rfl, hb0⟩
    have bz0 : Below w.heap.size w wz0 := (((Below.refl _ _).alloc (Nat.le_refl _) _).alloc (by simp) _).trans (hb0.mono (by simp only [World.size_alloc]; omega))
    have hz0 : w.heap.size + 2 ≤ wz0.heap.size := by have := hb0.size; simp at this; omega
    go_wp2_with fail
    go_ret
    exact ⟨rfl, bz0⟩
  | bin op a b iha ihb =>
    intro h w
    unfold tv
    have h0 := taLit
    have h1 := taVar
    have h2 := taUn
    have h3 := taBin
    have sa := st_one (tv_one a)
    have qa := tv_cells a
    unfold Value.cells at qa
    have sb := st_one (tv_one b)
    have qb := tv_cells b
    unfold Value.cells at qb
    have Ia : Hid (∀ w, Calls Tryd.prog 27 #[tv a, tv a] w fun e w' => e = .returned (.bool true) ∧ Below w.heap.size w w') := iha h.1
    have Ib : Hid (∀ w, Calls Tryd.prog 27 #[tv b, tv b] w fun e w' => e = .returned (.bool true) ∧ Below w.heap.size w w') := ihb h.2
    clear iha ihb h
    generalize tv a = va at *
    generalize tv b = vb at *
    go_enter Tryd.func27, Tryd.ntmps27
    go_wp2_with fail
    refine (Ia.out _).mono ?_
    rintro e wz0 ⟨rfl, hb0⟩
    have bz0 : Below w.heap.size w wz0 := (((Below.refl _ _).alloc (Nat.le_refl _) _).alloc (by simp) _).trans (hb0.mono (by simp only [World.size_alloc]; omega))
    have hz0 : w.heap.size + 2 ≤ wz0.heap.size := by have := hb0.size; simp at this; omega
    have k0_0_0 : wz0.cell? ⟨w.heap.size, 0, none⟩ = some (.int .i64 op) := (hb0.cell (p := ⟨w.heap.size, 0, none⟩) (by simp <;> omega)).trans (by simp)
    have k0_0_1 : wz0.cell? ⟨w.heap.size, 1, none⟩ = some (va) := (hb0.cell (p := ⟨w.heap.size, 1, none⟩) (by simp <;> omega)).trans (by simp)
    have k0_0_2 : wz0.cell? ⟨w.heap.size, 2, none⟩ = some (vb) := (hb0.cell (p := ⟨w.heap.size, 2, none⟩) (by simp <;> omega)).trans (by simp)
    have k0_1_0 : wz0.cell? ⟨w.heap.size + 1, 0, none⟩ = some (.int .i64 op) := (hb0.cell (p := ⟨w.heap.size + 1, 0, none⟩) (by simp <;> omega)).trans (by simp)
    have k0_1_1 : wz0.cell? ⟨w.heap.size + 1, 1, none⟩ = some (va) := (hb0.cell (p := ⟨w.heap.size + 1, 1, none⟩) (by simp <;> omega)).trans (by simp)
    have k0_1_2 : wz0.cell? ⟨w.heap.size + 1, 2, none⟩ = some (vb) := (hb0.cell (p := ⟨w.heap.size + 1, 2, none⟩) (by simp <;> omega)).trans (by simp)
    go_wp2_with fail
    refine (Ib.out _).mono ?_
    rintro e wz1 ⟨rfl, hb1⟩
    have bz1 := bz0.trans (hb1.mono bz0.size)
    have hz1 := Nat.le_trans hz0 hb1.size
    go_wp2_with fail
    go_ret
    exact ⟨rfl, bz1⟩
  | ifs c a b ihc iha ihb =>
    intro h w
    unfold tv
    have h0 := taLit
    have h1 := taVar
    have h2 := taUn
    have h3 := taBin
    have h4 := taIf
    have sc := st_one (tv_one c)
    have qc := tv_cells c
    unfold Value.cells at qc
    have sa := st_one (tv_one a)
    have qa := tv_cells a
    unfold Value.cells at qa
    have sb := st_one (tv_one b)
    have qb := tv_cells b
    unfold Value.cells at qb
    have Ic : Hid (∀ w, Calls Tryd.prog 27 #[tv c, tv c] w fun e w' => e = .returned (.bool true) ∧ Below w.heap.size w w') := ihc h.1
    have Ia : Hid (∀ w, Calls Tryd.prog 27 #[tv a, tv a] w fun e w' => e = .returned (.bool true) ∧ Below w.heap.size w w') := iha h.2.1
    have Ib : Hid (∀ w, Calls Tryd.prog 27 #[tv b, tv b] w fun e w' => e = .returned (.bool true) ∧ Below w.heap.size w w') := ihb h.2.2
    clear ihc iha ihb h
    generalize tv c = vc at *
    generalize tv a = va at *
    generalize tv b = vb at *
    go_enter Tryd.func27, Tryd.ntmps27
    go_wp2_with fail
    refine (Ic.out _).mono ?_
    rintro e wz0 ⟨rfl, hb0⟩
    have bz0 : Below w.heap.size w wz0 := (((Below.refl _ _).alloc (Nat.le_refl _) _).alloc (by simp) _).trans (hb0.mono (by simp only [World.size_alloc]; omega))
    have hz0 : w.heap.size + 2 ≤ wz0.heap.size := by have := hb0.size; simp at this; omega
    have k0_0_0 : wz0.cell? ⟨w.heap.size, 0, none⟩ = some (vc) := (hb0.cell (p := ⟨w.heap.size, 0, none⟩) (by simp <;> omega)).trans (by simp)
    have k0_0_1 : wz0.cell? ⟨w.heap.size, 1, none⟩ = some (va) := (hb0.cell (p := ⟨w.heap.size, 1, none⟩) (by simp <;> omega)).trans (by simp)
    have k0_0_2 : wz0.cell? ⟨w.heap.size, 2, none⟩ = some (vb) := (hb0.cell (p := ⟨w.heap.size, 2, none⟩) (by simp <;> omega)).trans (by simp)
    have k0_1_0 : wz0.cell? ⟨w.heap.size + 1, 0, none⟩ = some (vc) := (hb0.cell (p := ⟨w.heap.size + 1, 0, none⟩) (by simp <;> omega)).trans (by simp)
    have k0_1_1 : wz0.cell? ⟨w.heap.size + 1, 1, none⟩ = some (va) := (hb0.cell (p := ⟨w.heap.size + 1, 1, none⟩) (by simp <;> omega)).trans (by simp)
    have k0_1_2 : wz0.cell? ⟨w.heap.size + 1, 2, none⟩ = some (vb) := (hb0.cell (p := ⟨w.heap.size + 1, 2, none⟩) (by simp <;> omega)).trans (by simp)
    go_wp2_with fail
    refine (Ia.out _).mono ?_
    rintro e wz1 ⟨rfl, hb1⟩
    have bz1 := bz0.trans (hb1.mono bz0.size)
    have hz1 := Nat.le_trans hz0 hb1.size
    have k1_0_0 : wz1.cell? ⟨w.heap.size, 0, none⟩ = some (vc) := (hb1.cell (p := ⟨w.heap.size, 0, none⟩) (by show w.heap.size < wz0.heap.size; omega)).trans k0_0_0
    have k1_0_1 : wz1.cell? ⟨w.heap.size, 1, none⟩ = some (va) := (hb1.cell (p := ⟨w.heap.size, 1, none⟩) (by show w.heap.size < wz0.heap.size; omega)).trans k0_0_1
    have k1_0_2 : wz1.cell? ⟨w.heap.size, 2, none⟩ = some (vb) := (hb1.cell (p := ⟨w.heap.size, 2, none⟩) (by show w.heap.size < wz0.heap.size; omega)).trans k0_0_2
    have k1_1_0 : wz1.cell? ⟨w.heap.size + 1, 0, none⟩ = some (vc) := (hb1.cell (p := ⟨w.heap.size + 1, 0, none⟩) (by show w.heap.size + 1 < wz0.heap.size; omega)).trans k0_1_0
    have k1_1_1 : wz1.cell? ⟨w.heap.size + 1, 1, none⟩ = some (va) := (hb1.cell (p := ⟨w.heap.size + 1, 1, none⟩) (by show w.heap.size + 1 < wz0.heap.size; omega)).trans k0_1_1
    have k1_1_2 : wz1.cell? ⟨w.heap.size + 1, 2, none⟩ = some (vb) := (hb1.cell (p := ⟨w.heap.size + 1, 2, none⟩) (by show w.heap.size + 1 < wz0.heap.size; omega)).trans k0_1_2
    go_wp2_with fail
    refine (Ib.out _).mono ?_
    rintro e wz2 ⟨rfl, hb2⟩
    have bz2 := bz1.trans (hb2.mono bz1.size)
    have hz2 := Nat.le_trans hz1 hb2.size
    go_wp2_with fail
    go_ret
    exact ⟨rfl, bz2⟩
end Go.Proofs.YtdcfjopmddaemaaDoor

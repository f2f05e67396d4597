/-
  What near answers of a value and itself.
-/
import Derived.Test.YteaipdmbdcmmeabBxPure
import Derived.LaidEqlPtr
set_option linter.unusedSimpArgs false
set_option linter.unusedVariables false
namespace Go.Proofs.Yteaipdmbdcmmeab
open Go.RowKit

theorem taPtr (u : TypeId) (x : Value) (w : World) : (Instr.typeAssert (.iface u x) 33 53 true).run Try.prog w = .ok (.tuple #[if u = 53 then x else .pointer none, .bool (decide (u = 53))]) w := by
  by_cases h : u = 53
  · subst h; rw [if_pos rfl]; kernel_rfl
  · have hz : (zeroValue 53).run Try.prog w = .ok (.pointer none) w := by kernel_rfl
    rw [if_neg h, show decide (u = 53) = false from decide_eq_false h]
    simp [Instr.typeAssert, go_sem, h, hz]
theorem tnPtr (w : World) : (Instr.typeAssert .nilIface 33 53 true).run Try.prog w = .ok (.tuple #[.pointer none, .bool false]) w := by kernel_rfl
theorem taFrn (u : TypeId) (x : Value) (w : World) : (Instr.typeAssert (.iface u x) 33 54 true).run Try.prog w = .ok (.tuple #[if u = 54 then x else .agg #[.int .i64 0], .bool (decide (u = 54))]) w := by
  by_cases h : u = 54
  · subst h; rw [if_pos rfl]; kernel_rfl
  · have hz : (zeroValue 54).run Try.prog w = .ok (.agg #[.int .i64 0]) w := by kernel_rfl
    rw [if_neg h, show decide (u = 54) = false from decide_eq_false h]
    simp [Instr.typeAssert, go_sem, h, hz]
theorem tnFrn (w : World) : (Instr.typeAssert .nilIface 33 54 true).run Try.prog w = .ok (.tuple #[.agg #[.int .i64 0], .bool false]) w := by kernel_rfl

theorem eqLit (n : Int) (w : World) : (binOp .eql 43 (.agg #[.int .i64 n]) (.agg #[.int .i64 n])).run Try.prog w = .ok (.bool true) w := by simp [go_sem]
theorem eqVar (s : ByteArray) (w : World) : (binOp .eql 45 (.agg #[.string s]) (.agg #[.string s])).run Try.prog w = .ok (.bool true) w := by simp [go_sem]
theorem eqFrn (n : Int) (w : World) : (binOp .eql 54 (.agg #[.int .i64 n]) (.agg #[.int .i64 n])).run Try.prog w = .ok (.bool true) w := by simp [go_sem]

theorem eqPtr (p : Addr) (w : World) : (binOp .eql 53 (.pointer (some p)) (.pointer (some p))).run Try.prog w = .ok (.bool true) w := by
  obtain ⟨j, hj⟩ := Option.isSome_iff_exists.1 (show (Try.prog.info? 43).isSome = true by kernel_rfl)
  exact run_eql_ptr_same w p Try.underlying53 hj
set_option maxRecDepth 20000 in
set_option maxHeartbeats 1000000 in
theorem near_same (t : Tm) (hK : Kn t) (w : World) : Calls Try.prog 10 #[tv t, tv t] w fun e w' => e = .returned (.bool true) ∧ Below w.heap.size w w' := by
  have h0 := taLit
  have h1 := taVar
  have h2 := taUn
  have h3 := taBin
  have h4 := taIf
  have h5 := taPtr
  have h6 := taFrn
  cases t with
  | nil =>
    unfold tv
    clear h0 h1 h2 h3 h4 h5 h6
    have h0 := tnLit
    have h1 := tnVar
    have h2 := tnUn
    have h3 := tnBin
    have h4 := tnIf
    have h5 := tnPtr
    have h6 := tnFrn
    go_enter Try.func10, Try.ntmps10
    go_wp2
    go_ret
    exact ⟨rfl, by repeat (first | exact Below.refl _ _ | refine Below.alloc ?_ (by simp <;> omega) _)⟩
  | lit n =>
    unfold tv
    have he := eqLit n
    go_enter Try.func10, Try.ntmps10
    go_wp2
    go_ret
    exact ⟨rfl, by repeat (first | exact Below.refl _ _ | refine Below.alloc ?_ (by simp <;> omega) _)⟩
  | var s =>
    unfold tv
    have he := eqVar s
    go_enter Try.func10, Try.ntmps10
    go_wp2
    go_ret
    exact ⟨rfl, by repeat (first | exact Below.refl _ _ | refine Below.alloc ?_ (by simp <;> omega) _)⟩
  | un op a =>
    unfold tv
    have s0 := st_one (tv_one a)
    have q0 := tv_cells a
    unfold Value.cells at q0
    generalize tv a = va at *
    go_enter Try.func10, Try.ntmps10
    go_wp2
    go_ret
    exact ⟨rfl, by repeat (first | exact Below.refl _ _ | refine Below.alloc ?_ (by simp <;> omega) _)⟩
  | bin op a b =>
    unfold tv
    have s0 := st_one (tv_one a)
    have q0 := tv_cells a
    have s1 := st_one (tv_one b)
    have q1 := tv_cells b
    unfold Value.cells at q0 q1
    generalize tv a = va at *
    generalize tv b = vb at *
    go_enter Try.func10, Try.ntmps10
    go_wp2
    go_ret
    exact ⟨rfl, by repeat (first | exact Below.refl _ _ | refine Below.alloc ?_ (by simp <;> omega) _)⟩
  | ifs c a b =>
    unfold tv
    have s0 := st_one (tv_one a)
    have q0 := tv_cells a
    have s1 := st_one (tv_one b)
    have q1 := tv_cells b
    have s2 := st_one (tv_one c)
    have q2 := tv_cells c
    unfold Value.cells at q0 q1 q2
    generalize tv a = va at *
    generalize tv b = vb at *
    generalize tv c = vc at *
    go_enter Try.func10, Try.ntmps10
    go_wp2
    go_ret
    exact ⟨rfl, by repeat (first | exact Below.refl _ _ | refine Below.alloc ?_ (by simp <;> omega) _)⟩
  | other u x =>
    unfold tv
    rcases hK with ⟨rfl, p, rfl⟩ | ⟨rfl, n, rfl⟩
    · unfold PTR
      have he := eqPtr p
      go_enter Try.func10, Try.ntmps10
      go_wp2
      go_ret
      exact ⟨rfl, by repeat (first | exact Below.refl _ _ | refine Below.alloc ?_ (by simp <;> omega) _)⟩
    · unfold FRN
      have he := eqFrn n
      go_enter Try.func10, Try.ntmps10
      go_wp2
      go_ret
      exact ⟨rfl, by repeat (first | exact Below.refl _ _ | refine Below.alloc ?_ (by simp <;> omega) _)⟩
end Go.Proofs.Yteaipdmbdcmmeab

/-
  Must, caught by a deferred recover; values of several kinds; EnvMust, walked.
-/
import Derived.Test.YtpdohdmpjaklgaaEvGeW
import Derived.Recover
import Derived.Defers
import Derived.Laws.Pointers
set_option linter.unusedSimpArgs false
set_option linter.unusedVariables false
namespace Go.Proofs.Ytpdohdmpjaklgaa
open Go.RowKit

theorem elemTAE (w : World) : (elemOf 15).run Try.prog w = .ok 46 w := by kernel_rfl
theorem tpI64 (u : TypeId) (x : Value) (w : World) (h : u ≠ 2) : ∃ o, (Instr.typeAssert (.iface u x) 20 2 false).run Try.prog w = .halt (.panic (.iface 15 (.pointer (some ⟨w.heap.size, 0, none⟩)))) (w.alloc o) := by
  refine ⟨.cells #[typeHandle Try.prog 20, typeHandle Try.prog u, typeHandle Try.prog 2, strVal ""] 46, ?_⟩
  simp [Instr.typeAssert, go_sem, h, runtimePanic, elemTAE]
theorem tnpI64 (w : World) : ∃ o, (Instr.typeAssert .nilIface 20 2 false).run Try.prog w = .halt (.panic (.iface 15 (.pointer (some ⟨w.heap.size, 0, none⟩)))) (w.alloc o) := by
  refine ⟨.cells #[typeHandle Try.prog 20, .pointer none, typeHandle Try.prog 2, strVal ""] 46, ?_⟩
  simp [Instr.typeAssert, go_sem, runtimePanic, elemTAE]
theorem tyI64 (x : Value) (w : World) : (Instr.typeAssert (.iface 2 x) 20 2 false).run Try.prog w = .ok x w := by kernel_rfl
theorem rtTAE (x : Value) (w : World) : (Instr.typeAssert (.iface 15 x) 20 28 true).run Try.prog w = .ok (.tuple #[.iface 15 x, .bool true]) w := by kernel_rfl
/-- Nil, or of another type. -/
def NotT (T : TypeId) (v : Value) : Prop := v = .nilIface ∨ ∃ u x, v = .iface u x ∧ u ≠ T
/-- A runtime error, not yet caught. -/
def rte (p : Addr) : Value := .iface 15 (.pointer (some p))

set_option maxRecDepth 20000 in
set_option maxHeartbeats 400000 in
theorem asserted_yes (n : Int) (w : World) : Calls Try.prog 11 #[.iface 2 (.int .i64 n)] w fun e w' => e = .returned (.int .i64 n) ∧ Below w.heap.size w w' := by
  have h1 := tyI64
  go_enter Try.func11, Try.ntmps11
  go_wp2
  go_ret
  exact ⟨rfl, Below.refl _ _⟩
set_option maxRecDepth 20000 in
set_option maxHeartbeats 400000 in
theorem asserted_no (v : Value) (w : World) (h : NotT 2 v) : Calls Try.prog 11 #[v] w fun e w' => ∃ p, e = .panicked [{ v := rte p, recovered := false }] ∧ Below w.heap.size w w' := by
  rcases h with rfl | ⟨u, x, rfl, h⟩
  · obtain ⟨o, h1⟩ := tnpI64 w
    go_enter Try.func11, Try.ntmps11
    go_wp2
    exact ⟨rfl, _, rfl, (Below.refl _ _).alloc (Nat.le_refl _) _⟩
  · obtain ⟨o, h1⟩ := tpI64 u x w h
    go_enter Try.func11, Try.ntmps11
    go_wp2
    exact ⟨rfl, _, rfl, (Below.refl _ _).alloc (Nat.le_refl _) _⟩
set_option maxRecDepth 20000 in
set_option maxHeartbeats 400000 in
theorem must_yes (n : Int) (w : World) : Calls Try.prog 9 #[.iface 2 (.int .i64 n)] w fun e w' => e = .returned (.int .i64 n) ∧ Below w.heap.size w w' := by
  go_enter Try.func9, Try.ntmps9
  go_wp2_with fail
  refine (asserted_yes n _).mono ?_
  rintro e w2 ⟨rfl, hb2⟩
  go_wp2_with fail
  go_ret
  exact ⟨rfl, hb2⟩
set_option maxRecDepth 20000 in
set_option maxHeartbeats 400000 in
theorem must_no (v : Value) (w : World) (h : NotT 2 v) : Calls Try.prog 9 #[v] w fun e w' => ∃ p, e = .panicked [{ v := rte p, recovered := false }] ∧ Below w.heap.size w w' := by
  have HN : Hid (NotT 2 v) := h
  clear h
  go_enter Try.func9, Try.ntmps9
  go_wp2_with fail
  refine (asserted_no v _ HN.out).mono ?_
  rintro e w2 ⟨p, rfl, hb2⟩
  go_wp2_with fail
  exact ⟨rfl, p, rfl, hb2⟩

theorem catch_panicking (p : Addr) (x pv : Value) (u : TypeId) (older : List PanicEntry) (w : World) (hc : w.cell? p = some x) (hz : w.frozen? p = false) :
    CallsD Try.prog 8 #[.pointer (some p)] (.panicking ({ v := .iface u pv, recovered := false } :: older)) w fun e u' w' =>
      e = .returned (.tuple #[]) ∧ u' = .panicking ({ v := .iface u pv, recovered := true } :: older) ∧ w' = w.setCell p (.iface u pv) := by
  refine callsD_of_wpS Try.func8 rfl fun c₀ cs hu => ?_
  apply wpS_region
  simp [wpOpsS, go_sem, recoverD, hu, Try.ntmps8, Exit.thenS, hc, hz, bodyPostS, results, Try.results8 ]
theorem catch_idle (p : Addr) (x : Value) (w : World) (hc : w.cell? p = some x) (hz : w.frozen? p = false) :
    CallsD Try.prog 8 #[.pointer (some p)] .returning w fun e u' w' => e = .returned (.tuple #[]) ∧ u' = .returning ∧ w' = w.setCell p .nilIface := by
  refine callsD_of_wpS Try.func8 rfl fun c₀ cs hu => ?_
  apply wpS_region
  simp [wpOpsS, go_sem, recoverD, hu, Try.ntmps8, Exit.thenS, hc, hz, bodyPostS, results, Try.results8 ]
  cases c₀
  simp_all

set_option maxRecDepth 20000 in
set_option maxHeartbeats 400000 in
theorem caught_yes (n : Int) (w : World) : Calls Try.prog 5 #[.iface 2 (.int .i64 n)] w fun e w' => e = .returned (.tuple #[.int .i64 n, .nilIface]) ∧ Below w.heap.size w w' := by
  have hmf : ∀ (fn : Fn) (first cap : Array Value) (w : World), (Instr.makeFunc fn first cap).run Try.prog w = .ok (.func fn first cap) w := fun _ _ _ _ => rfl
  go_enter_defers Try.func5, Try.ntmps5
  go_wp2_with fail
  refine (must_yes n _).mono ?_
  rintro e w2 ⟨rfl, hb2⟩
  have hcl : w2.cell? ⟨w.heap.size, 0, none⟩ = some .nilIface := (hb2.cell (p := ⟨w.heap.size, 0, none⟩) (by simp)).trans (by simp)
  have hfr : w2.frozen? ⟨w.heap.size, 0, none⟩ = false := (hb2.frozen (p := ⟨w.heap.size, 0, none⟩) (by simp)).trans (by simp)
  have hbw : Below w.heap.size w w2 := ((Below.refl _ _).alloc (Nat.le_refl _) _).trans (hb2.mono (by simp))
  go_wp2_with fail
  refine leaves_cons (f := 8) (args := #[.pointer (some ⟨w.heap.size, 0, none⟩)]) (by simp) (by simp [go_sem]) ?_
  refine (catch_idle ⟨w.heap.size, 0, none⟩ .nilIface _ ?_ ?_).mono ?_
  · simp [go_sem, hcl]
  · simp [go_sem, hfr]
  rintro e u' w'' ⟨rfl, rfl, rfl⟩
  simp [Leaves, settle, results, Try.results5, go_sem, hcl]
  exact (hbw.setCell (Nat.le_refl _) _).setCell (Nat.le_refl _) _
set_option maxRecDepth 20000 in
set_option maxHeartbeats 400000 in
theorem caught_no (v : Value) (w : World) (h : NotT 2 v) : Calls Try.prog 5 #[v] w fun e w' => (∃ p, e = .returned (.tuple #[.int .i64 0, rte p])) ∧ Below w.heap.size w w' := by
  have hmf : ∀ (fn : Fn) (first cap : Array Value) (w : World), (Instr.makeFunc fn first cap).run Try.prog w = .ok (.func fn first cap) w := fun _ _ _ _ => rfl
  have HN : Hid (NotT 2 v) := h
  clear h
  go_enter_defers Try.func5, Try.ntmps5
  go_wp2_with fail
  refine (must_no v _ HN.out).mono ?_
  rintro e w2 ⟨p, rfl, hb2⟩
  have hcl : w2.cell? ⟨w.heap.size, 0, none⟩ = some .nilIface := (hb2.cell (p := ⟨w.heap.size, 0, none⟩) (by simp)).trans (by simp)
  have hfr : w2.frozen? ⟨w.heap.size, 0, none⟩ = false := (hb2.frozen (p := ⟨w.heap.size, 0, none⟩) (by simp)).trans (by simp)
  have hbw : Below w.heap.size w w2 := ((Below.refl _ _).alloc (Nat.le_refl _) _).trans (hb2.mono (by simp))
  go_wp2_with fail
  refine leaves_cons (f := 8) (args := #[.pointer (some ⟨w.heap.size, 0, none⟩)]) (by simp) (by simp [go_sem]) ?_
  unfold rte
  refine (catch_panicking ⟨w.heap.size, 0, none⟩ .nilIface _ _ [] _ ?_ ?_).mono ?_
  · simp [go_sem, hcl]
  · simp [go_sem, hfr]
  rintro e u' w'' ⟨rfl, rfl, rfl⟩
  simp [Leaves, settle, results, Try.results5, go_sem, hcl]
  exact hbw.setCell (Nat.le_refl _) _
end Go.Proofs.Ytpdohdmpjaklgaa

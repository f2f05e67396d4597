/-
  What the two Musts do, caught by a deferred recover.
-/
import Derived.Test.YteaipdmbdcmmeabBxAskW
import Derived.Test.YteaipdmbdcmmeabBxPure
import Derived.Recover
import Derived.Defers
import Derived.Laws.Pointers
set_option linter.unusedSimpArgs false
set_option linter.unusedVariables false
namespace Go.Proofs.Yteaipdmbdcmmeab
open Go.RowKit

def TAE : TypeId := 15
theorem elemTAE (w : World) : (elemOf 15).run Try.prog w = .ok 75 w := by kernel_rfl
theorem tpLit (u : TypeId) (x : Value) (w : World) (h : u ≠ 43) : (Instr.typeAssert (.iface u x) 33 43 false).run Try.prog w = .halt (.panic (.iface 15 (.pointer (some ⟨w.heap.size, 0, none⟩)))) (w.alloc (.cells #[typeHandle Try.prog 33, typeHandle Try.prog u, typeHandle Try.prog 43, strVal ""] 75)) := by
  simp [Instr.typeAssert, go_sem, h, runtimePanic, elemTAE]
theorem tnpLit (w : World) : (Instr.typeAssert .nilIface 33 43 false).run Try.prog w = .halt (.panic (.iface 15 (.pointer (some ⟨w.heap.size, 0, none⟩)))) (w.alloc (.cells #[typeHandle Try.prog 33, .pointer none, typeHandle Try.prog 43, strVal ""] 75)) := by
  simp [Instr.typeAssert, go_sem, runtimePanic, elemTAE]
theorem tyLit (x : Value) (w : World) : (Instr.typeAssert (.iface 43 x) 33 43 false).run Try.prog w = .ok x w := by kernel_rfl
theorem tpVar (u : TypeId) (x : Value) (w : World) (h : u ≠ 45) : (Instr.typeAssert (.iface u x) 33 45 false).run Try.prog w = .halt (.panic (.iface 15 (.pointer (some ⟨w.heap.size, 0, none⟩)))) (w.alloc (.cells #[typeHandle Try.prog 33, typeHandle Try.prog u, typeHandle Try.prog 45, strVal ""] 75)) := by
  simp [Instr.typeAssert, go_sem, h, runtimePanic, elemTAE]
theorem tnpVar (w : World) : (Instr.typeAssert .nilIface 33 45 false).run Try.prog w = .halt (.panic (.iface 15 (.pointer (some ⟨w.heap.size, 0, none⟩)))) (w.alloc (.cells #[typeHandle Try.prog 33, .pointer none, typeHandle Try.prog 45, strVal ""] 75)) := by
  simp [Instr.typeAssert, go_sem, runtimePanic, elemTAE]
theorem tyVar (x : Value) (w : World) : (Instr.typeAssert (.iface 45 x) 33 45 false).run Try.prog w = .ok x w := by kernel_rfl
theorem fldLit (n : Int) (w : World) : (Instr.field 43 (.agg #[.int .i64 n]) 0).run Try.prog w = .ok (.int .i64 n) w := by kernel_rfl
theorem fldVar (b : ByteArray) (w : World) : (Instr.field 45 (.agg #[.string b]) 0).run Try.prog w = .ok (.string b) w := by kernel_rfl
theorem rtTAE (x : Value) (w : World) : (Instr.typeAssert (.iface 15 x) 20 69 true).run Try.prog w = .ok (.tuple #[.iface 15 x, .bool true]) w := by kernel_rfl

/-- Nil, or of another type. -/
def NotT (T : TypeId) (v : Value) : Prop := v = .nilIface ∨ ∃ u x, v = .iface u x ∧ u ≠ T
/-- A runtime error, not yet caught. -/
def rte (p : Addr) : Value := .iface 15 (.pointer (some p))

set_option maxRecDepth 20000 in
set_option maxHeartbeats 400000 in
theorem mustLit_yes (n : Int) (w : World) : Calls Try.prog 21 #[.iface 43 (.agg #[.int .i64 n])] w fun e w' => e = .returned (.agg #[.int .i64 n]) ∧ Below w.heap.size w w' := by
  have h1 := tyLit
  go_enter Try.func21, Try.ntmps21
  go_wp2
  refine bodyPost_ret (v := .agg #[.int .i64 n]) (by simp [results, Try.results21, go_sem]) rfl ⟨rfl, ?_⟩
  repeat (first | exact Below.refl _ _ | refine Below.alloc ?_ (by simp <;> omega) _ | refine Below.setCell ?_ (by simp <;> omega) _)
set_option maxRecDepth 20000 in
set_option maxHeartbeats 400000 in
theorem mustLit_no (v : Value) (w : World) (h : NotT 43 v) : Calls Try.prog 21 #[v] w fun e w' => ∃ p, e = .panicked [{ v := rte p, recovered := false }] ∧ Below w.heap.size w w' := by
  rcases h with rfl | ⟨u, x, rfl, h⟩
  · have h1 := tnpLit
    go_enter Try.func21, Try.ntmps21
    go_wp2
    refine ⟨rfl, _, rfl, ?_⟩
    repeat (first | exact Below.refl _ _ | refine Below.alloc ?_ (by simp <;> omega) _ | refine Below.setCell ?_ (by simp <;> omega) _)
  · have h1 := tpLit
    go_enter Try.func21, Try.ntmps21
    go_wp2
    refine ⟨rfl, _, rfl, ?_⟩
    repeat (first | exact Below.refl _ _ | refine Below.alloc ?_ (by simp <;> omega) _ | refine Below.setCell ?_ (by simp <;> omega) _)
set_option maxRecDepth 20000 in
set_option maxHeartbeats 400000 in
theorem MustLit_yes (n : Int) (w : World) : Calls Try.prog 19 #[.iface 43 (.agg #[.int .i64 n])] w fun e w' => e = .returned (.int .i64 n) ∧ Below w.heap.size w w' := by
  have h1 := fldLit n
  go_enter Try.func19, Try.ntmps19
  go_wp2_with fail
  refine (mustLit_yes n _).mono ?_
  rintro e w2 ⟨rfl, hb2⟩
  go_wp2_with fail
  go_ret
  exact ⟨rfl, hb2⟩
set_option maxRecDepth 20000 in
set_option maxHeartbeats 400000 in
theorem MustLit_no (v : Value) (w : World) (h : NotT 43 v) : Calls Try.prog 19 #[v] w fun e w' => ∃ p, e = .panicked [{ v := rte p, recovered := false }] ∧ Below w.heap.size w w' := by
  have HN : Hid (NotT 43 v) := h
  clear h
  go_enter Try.func19, Try.ntmps19
  go_wp2_with fail
  refine (mustLit_no v _ HN.out).mono ?_
  rintro e w2 ⟨p, rfl, hb2⟩
  go_wp2_with fail
  exact ⟨rfl, p, rfl, hb2⟩

set_option maxRecDepth 20000 in
set_option maxHeartbeats 400000 in
theorem mustVar_yes (s : ByteArray) (w : World) : Calls Try.prog 20 #[.iface 45 (.agg #[.string s])] w fun e w' => e = .returned (.agg #[.string s]) ∧ Below w.heap.size w w' := by
  have h1 := tyVar
  go_enter Try.func20, Try.ntmps20
  go_wp2
  refine bodyPost_ret (v := .agg #[.string s]) (by simp [results, Try.results20, go_sem]) rfl ⟨rfl, ?_⟩
  repeat (first | exact Below.refl _ _ | refine Below.alloc ?_ (by simp <;> omega) _ | refine Below.setCell ?_ (by simp <;> omega) _)
set_option maxRecDepth 20000 in
set_option maxHeartbeats 400000 in
theorem mustVar_no (v : Value) (w : World) (h : NotT 45 v) : Calls Try.prog 20 #[v] w fun e w' => ∃ p, e = .panicked [{ v := rte p, recovered := false }] ∧ Below w.heap.size w w' := by
  rcases h with rfl | ⟨u, x, rfl, h⟩
  · have h1 := tnpVar
    go_enter Try.func20, Try.ntmps20
    go_wp2
    refine ⟨rfl, _, rfl, ?_⟩
    repeat (first | exact Below.refl _ _ | refine Below.alloc ?_ (by simp <;> omega) _ | refine Below.setCell ?_ (by simp <;> omega) _)
  · have h1 := tpVar
    go_enter Try.func20, Try.ntmps20
    go_wp2
    refine ⟨rfl, _, rfl, ?_⟩
    repeat (first | exact Below.refl _ _ | refine Below.alloc ?_ (by simp <;> omega) _ | refine Below.setCell ?_ (by simp <;> omega) _)
set_option maxRecDepth 20000 in
set_option maxHeartbeats 400000 in
theorem MustVar_yes (s : ByteArray) (w : World) : Calls Try.prog 18 #[.iface 45 (.agg #[.string s])] w fun e w' => e = .returned (.string s) ∧ Below w.heap.size w w' := by
  have h1 := fldVar s
  go_enter Try.func18, Try.ntmps18
  go_wp2_with fail
  refine (mustVar_yes s _).mono ?_
  rintro e w2 ⟨rfl, hb2⟩
  go_wp2_with fail
  go_ret
  exact ⟨rfl, hb2⟩
set_option maxRecDepth 20000 in
set_option maxHeartbeats 400000 in
theorem MustVar_no (v : Value) (w : World) (h : NotT 45 v) : Calls Try.prog 18 #[v] w fun e w' => ∃ p, e = .panicked [{ v := rte p, recovered := false }] ∧ Below w.heap.size w w' := by
  have HN : Hid (NotT 45 v) := h
  clear h
  go_enter Try.func18, Try.ntmps18
  go_wp2_with fail
  refine (mustVar_no v _ HN.out).mono ?_
  rintro e w2 ⟨p, rfl, hb2⟩
  go_wp2_with fail
  exact ⟨rfl, p, rfl, hb2⟩

theorem catch_panicking (p : Addr) (x pv : Value) (u : TypeId) (older : List PanicEntry) (w : World) (hc : w.cell? p = some x) (hz : w.frozen? p = false) :
    CallsD Try.prog 17 #[.pointer (some p)] (.panicking ({ v := .iface u pv, recovered := false } :: older)) w fun e u' w' =>
      e = .returned (.tuple #[]) ∧ u' = .panicking ({ v := .iface u pv, recovered := true } :: older) ∧ w' = w.setCell p (.iface u pv) := by
  refine callsD_of_wpS Try.func17 rfl fun c₀ cs hu => ?_
  apply wpS_region
  simp [wpOpsS, go_sem, recoverD, hu, Try.ntmps17, Exit.thenS, hc, hz, bodyPostS, results, Try.results17 ]
theorem catch_idle (p : Addr) (x : Value) (w : World) (hc : w.cell? p = some x) (hz : w.frozen? p = false) :
    CallsD Try.prog 17 #[.pointer (some p)] .returning w fun e u' w' => e = .returned (.tuple #[]) ∧ u' = .returning ∧ w' = w.setCell p .nilIface := by
  refine callsD_of_wpS Try.func17 rfl fun c₀ cs hu => ?_
  apply wpS_region
  simp [wpOpsS, go_sem, recoverD, hu, Try.ntmps17, Exit.thenS, hc, hz, bodyPostS, results, Try.results17 ]
  cases c₀
  simp_all

set_option maxRecDepth 20000 in
set_option maxHeartbeats 400000 in
theorem caught_lit_yes (n : Int) (w : World) : Calls Try.prog 12 #[.iface 43 (.agg #[.int .i64 n]), .bool false] w fun e w' => e = .returned (.tuple #[.int .i64 n, .string ⟨#[]⟩, .nilIface]) ∧ Below w.heap.size w w' := by
  have hmf : ∀ (fn : Fn) (first cap : Array Value) (w : World), (Instr.makeFunc fn first cap).run Try.prog w = .ok (.func fn first cap) w := fun _ _ _ _ => rfl
  go_enter_defers Try.func12, Try.ntmps12
  go_wp2_with fail
  refine (MustLit_yes n _).mono ?_
  rintro e w2 ⟨rfl, hb2⟩
  have hcl : w2.cell? ⟨w.heap.size, 0, none⟩ = some .nilIface := (hb2.cell (p := ⟨w.heap.size, 0, none⟩) (by simp)).trans (by simp)
  have hfr : w2.frozen? ⟨w.heap.size, 0, none⟩ = false := (hb2.frozen (p := ⟨w.heap.size, 0, none⟩) (by simp)).trans (by simp)
  have hbw : Below w.heap.size w w2 := ((Below.refl _ _).alloc (Nat.le_refl _) _).trans (hb2.mono (by simp))
  go_wp2_with fail
  refine leaves_cons (f := 17) (args := #[.pointer (some ⟨w.heap.size, 0, none⟩)]) (by simp) (by simp [go_sem]) ?_
  refine (catch_idle ⟨w.heap.size, 0, none⟩ .nilIface _ ?_ ?_).mono ?_
  · simp [go_sem, hcl]
  · simp [go_sem, hfr]
  rintro e u' w'' ⟨rfl, rfl, rfl⟩
  simp [Leaves, settle, results, Try.results12, go_sem, hcl]
  exact (hbw.setCell (Nat.le_refl _) _).setCell (Nat.le_refl _) _

set_option maxRecDepth 20000 in
set_option maxHeartbeats 400000 in
theorem caught_lit_no (v : Value) (w : World) (h : NotT 43 v) : Calls Try.prog 12 #[v, .bool false] w fun e w' => (∃ p, e = .returned (.tuple #[.int .i64 0, .string ⟨#[]⟩, rte p])) ∧ Below w.heap.size w w' := by
  have hmf : ∀ (fn : Fn) (first cap : Array Value) (w : World), (Instr.makeFunc fn first cap).run Try.prog w = .ok (.func fn first cap) w := fun _ _ _ _ => rfl
  have HN : Hid (NotT 43 v) := h
  clear h
  go_enter_defers Try.func12, Try.ntmps12
  go_wp2_with fail
  refine (MustLit_no v _ HN.out).mono ?_
  rintro e w2 ⟨p, rfl, hb2⟩
  have hcl : w2.cell? ⟨w.heap.size, 0, none⟩ = some .nilIface := (hb2.cell (p := ⟨w.heap.size, 0, none⟩) (by simp)).trans (by simp)
  have hfr : w2.frozen? ⟨w.heap.size, 0, none⟩ = false := (hb2.frozen (p := ⟨w.heap.size, 0, none⟩) (by simp)).trans (by simp)
  have hbw : Below w.heap.size w w2 := ((Below.refl _ _).alloc (Nat.le_refl _) _).trans (hb2.mono (by simp))
  go_wp2_with fail
  refine leaves_cons (f := 17) (args := #[.pointer (some ⟨w.heap.size, 0, none⟩)]) (by simp) (by simp [go_sem]) ?_
  unfold rte
  refine (catch_panicking ⟨w.heap.size, 0, none⟩ .nilIface _ _ [] _ ?_ ?_).mono ?_
  · simp [go_sem, hcl]
  · simp [go_sem, hfr]
  rintro e u' w'' ⟨rfl, rfl, rfl⟩
  simp [Leaves, settle, results, Try.results12, go_sem, hcl]
  exact hbw.setCell (Nat.le_refl _) _

set_option maxRecDepth 20000 in
set_option maxHeartbeats 400000 in
theorem caught_var_yes (s : ByteArray) (w : World) : Calls Try.prog 12 #[.iface 45 (.agg #[.string s]), .bool true] w fun e w' => e = .returned (.tuple #[.int .i64 0, .string s, .nilIface]) ∧ Below w.heap.size w w' := by
  have hmf : ∀ (fn : Fn) (first cap : Array Value) (w : World), (Instr.makeFunc fn first cap).run Try.prog w = .ok (.func fn first cap) w := fun _ _ _ _ => rfl
  go_enter_defers Try.func12, Try.ntmps12
  go_wp2_with fail
  refine (MustVar_yes s _).mono ?_
  rintro e w2 ⟨rfl, hb2⟩
  have hcl : w2.cell? ⟨w.heap.size, 0, none⟩ = some .nilIface := (hb2.cell (p := ⟨w.heap.size, 0, none⟩) (by simp)).trans (by simp)
  have hfr : w2.frozen? ⟨w.heap.size, 0, none⟩ = false := (hb2.frozen (p := ⟨w.heap.size, 0, none⟩) (by simp)).trans (by simp)
  have hbw : Below w.heap.size w w2 := ((Below.refl _ _).alloc (Nat.le_refl _) _).trans (hb2.mono (by simp))
  go_wp2_with fail
  refine leaves_cons (f := 17) (args := #[.pointer (some ⟨w.heap.size, 0, none⟩)]) (by simp) (by simp [go_sem]) ?_
  refine (catch_idle ⟨w.heap.size, 0, none⟩ .nilIface _ ?_ ?_).mono ?_
  · simp [go_sem, hcl]
  · simp [go_sem, hfr]
  rintro e u' w'' ⟨rfl, rfl, rfl⟩
  simp [Leaves, settle, results, Try.results12, go_sem, hcl]
  exact (hbw.setCell (Nat.le_refl _) _).setCell (Nat.le_refl _) _

set_option maxRecDepth 20000 in
set_option maxHeartbeats 400000 in
theorem caught_var_no (v : Value) (w : World) (h : NotT 45 v) : Calls Try.prog 12 #[v, .bool true] w fun e w' => (∃ p, e = .returned (.tuple #[.int .i64 0, .string ⟨#[]⟩, rte p])) ∧ Below w.heap.size w w' := by
  have hmf : ∀ (fn : Fn) (first cap : Array Value) (w : World), (Instr.makeFunc fn first cap).run Try.prog w = .ok (.func fn first cap) w := fun _ _ _ _ => rfl
  have HN : Hid (NotT 45 v) := h
  clear h
  go_enter_defers Try.func12, Try.ntmps12
  go_wp2_with fail
  refine (MustVar_no v _ HN.out).mono ?_
  rintro e w2 ⟨p, rfl, hb2⟩
  have hcl : w2.cell? ⟨w.heap.size, 0, none⟩ = some .nilIface := (hb2.cell (p := ⟨w.heap.size, 0, none⟩) (by simp)).trans (by simp)
  have hfr : w2.frozen? ⟨w.heap.size, 0, none⟩ = false := (hb2.frozen (p := ⟨w.heap.size, 0, none⟩) (by simp)).trans (by simp)
  have hbw : Below w.heap.size w w2 := ((Below.refl _ _).alloc (Nat.le_refl _) _).trans (hb2.mono (by simp))
  go_wp2_with fail
  refine leaves_cons (f := 17) (args := #[.pointer (some ⟨w.heap.size, 0, none⟩)]) (by simp) (by simp [go_sem]) ?_
  unfold rte
  refine (catch_panicking ⟨w.heap.size, 0, none⟩ .nilIface _ _ [] _ ?_ ?_).mono ?_
  · simp [go_sem, hcl]
  · simp [go_sem, hfr]
  rintro e u' w'' ⟨rfl, rfl, rfl⟩
  simp [Leaves, settle, results, Try.results12, go_sem, hcl]
  exact hbw.setCell (Nat.le_refl _) _

set_option maxRecDepth 20000 in
set_option maxHeartbeats 400000 in
theorem broken_any (p : Addr) (w : World) : Calls Try.prog 13 #[rte p] w fun e w' => e = .returned (.bool true) ∧ w' = w := by
  have h1 := rtTAE
  unfold rte
  go_enter Try.func13, Try.ntmps13
  go_wp2
  go_ret
  exact ⟨rfl, rfl⟩

def isVar : Tm → Bool
  | .var _ => true
  | _ => false
theorem not_lit {t : Tm} (hK : Kn t) (h : isLit t = false) : NotT 43 (tv t) := by
  cases t with
  | nil => exact .inl rfl
  | lit n => simp [isLit] at h
  | other u x => exact .inr ⟨u, x, rfl, hK.oth.1⟩
  | var s => exact .inr ⟨_, _, rfl, by decide⟩
  | un op a => exact .inr ⟨_, _, rfl, by decide⟩
  | bin op a b => exact .inr ⟨_, _, rfl, by decide⟩
  | ifs c a b => exact .inr ⟨_, _, rfl, by decide⟩
theorem not_var {t : Tm} (hK : Kn t) (h : isVar t = false) : NotT 45 (tv t) := by
  cases t with
  | nil => exact .inl rfl
  | var s => simp [isVar] at h
  | other u x => exact .inr ⟨u, x, rfl, hK.oth.2.1⟩
  | lit s => exact .inr ⟨_, _, rfl, by decide⟩
  | un op a => exact .inr ⟨_, _, rfl, by decide⟩
  | bin op a b => exact .inr ⟨_, _, rfl, by decide⟩
  | ifs c a b => exact .inr ⟨_, _, rfl, by decide⟩
theorem mkT_kinds (x : Cl) (ts : List Tm) (p : Addr) : (x.kind = 1 → mkT x ts p = .lit x.n) ∧ (x.kind = 2 → mkT x ts p = .var x.name) ∧ (¬ x.kind = 1 → isLit (mkT x ts p) = false) ∧ (¬ x.kind = 2 → isVar (mkT x ts p) = false) := by
  refine ⟨fun h => by unfold mkT; rw [if_pos h], fun h => by unfold mkT; rw [if_neg (by omega), if_pos h], fun h => ?_, fun h => ?_⟩
  · unfold mkT; rw [if_neg h]; repeat' split
    all_goals rfl
  · unfold mkT
    by_cases h1 : x.kind = 1
    · rw [if_pos h1]; rfl
    · rw [if_neg h1, if_neg h]; repeat' split
      all_goals rfl
end Go.Proofs.Yteaipdmbdcmmeab

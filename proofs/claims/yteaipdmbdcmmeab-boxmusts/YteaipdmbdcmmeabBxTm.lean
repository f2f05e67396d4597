/-
  Terms: their kinds, their values, and what split, asLit, Lit, Op and Parts make of them.
-/
import Derived.Test.YteaipdmbdcmmeabProg
import Derived.Test.YteaipdmbdcmmeabChecked
import Derived.WalkKit
import Derived.Below
import Derived.Deep.DeepFit
import Derived.Deep.AppendLies
import Derived.Laws.AppendOwnNone
import Derived.Deep.OwnRows
import Derived.Defers
set_option linter.unusedSimpArgs false
set_option linter.unusedVariables false
namespace Go.Proofs.Yteaipdmbdcmmeab
open Go.RowKit

inductive Tm where
  | nil
  | lit (n : Int)
  | var (s : ByteArray)
  | un (op : Int) (a : Tm)
  | bin (op : Int) (a b : Tm)
  | ifs (c a b : Tm)
  | other (u : TypeId) (x : Value)

def tv : Tm → Value
  | .nil => .nilIface
  | .lit n => .iface 43 (.agg #[.int .i64 n])
  | .var s => .iface 45 (.agg #[.string s])
  | .un op a => .iface 48 (.agg #[.int .i64 op, tv a])
  | .bin op a b => .iface 50 (.agg #[.int .i64 op, tv a, tv b])
  | .ifs c a b => .iface 52 (.agg #[tv c, tv a, tv b])
  | .other u x => .iface u x

theorem taLit (u : TypeId) (x : Value) (w : World) : (Instr.typeAssert (.iface u x) 33 43 true).run Try.prog w = .ok (.tuple #[if u = 43 then x else .agg #[.int .i64 0], .bool (decide (u = 43))]) w := by
  by_cases h : u = 43
  · subst h; rw [if_pos rfl]; kernel_rfl
  · have hz : (zeroValue 43).run Try.prog w = .ok (.agg #[.int .i64 0]) w := by kernel_rfl
    rw [if_neg h, show decide (u = 43) = false from decide_eq_false h]
    simp [Instr.typeAssert, go_sem, h, hz]
theorem tnLit (w : World) : (Instr.typeAssert .nilIface 33 43 true).run Try.prog w = .ok (.tuple #[.agg #[.int .i64 0], .bool false]) w := by kernel_rfl
theorem taVar (u : TypeId) (x : Value) (w : World) : (Instr.typeAssert (.iface u x) 33 45 true).run Try.prog w = .ok (.tuple #[if u = 45 then x else .agg #[.string ⟨#[]⟩], .bool (decide (u = 45))]) w := by
  by_cases h : u = 45
  · subst h; rw [if_pos rfl]; kernel_rfl
  · have hz : (zeroValue 45).run Try.prog w = .ok (.agg #[.string ⟨#[]⟩]) w := by kernel_rfl
    rw [if_neg h, show decide (u = 45) = false from decide_eq_false h]
    simp [Instr.typeAssert, go_sem, h, hz]
theorem tnVar (w : World) : (Instr.typeAssert .nilIface 33 45 true).run Try.prog w = .ok (.tuple #[.agg #[.string ⟨#[]⟩], .bool false]) w := by kernel_rfl
theorem taUn (u : TypeId) (x : Value) (w : World) : (Instr.typeAssert (.iface u x) 33 48 true).run Try.prog w = .ok (.tuple #[if u = 48 then x else .agg #[.int .i64 0, .nilIface], .bool (decide (u = 48))]) w := by
  by_cases h : u = 48
  · subst h; rw [if_pos rfl]; kernel_rfl
  · have hz : (zeroValue 48).run Try.prog w = .ok (.agg #[.int .i64 0, .nilIface]) w := by kernel_rfl
    rw [if_neg h, show decide (u = 48) = false from decide_eq_false h]
    simp [Instr.typeAssert, go_sem, h, hz]
theorem tnUn (w : World) : (Instr.typeAssert .nilIface 33 48 true).run Try.prog w = .ok (.tuple #[.agg #[.int .i64 0, .nilIface], .bool false]) w := by kernel_rfl
theorem taBin (u : TypeId) (x : Value) (w : World) : (Instr.typeAssert (.iface u x) 33 50 true).run Try.prog w = .ok (.tuple #[if u = 50 then x else .agg #[.int .i64 0, .nilIface, .nilIface], .bool (decide (u = 50))]) w := by
  by_cases h : u = 50
  · subst h; rw [if_pos rfl]; kernel_rfl
  · have hz : (zeroValue 50).run Try.prog w = .ok (.agg #[.int .i64 0, .nilIface, .nilIface]) w := by kernel_rfl
    rw [if_neg h, show decide (u = 50) = false from decide_eq_false h]
    simp [Instr.typeAssert, go_sem, h, hz]
theorem tnBin (w : World) : (Instr.typeAssert .nilIface 33 50 true).run Try.prog w = .ok (.tuple #[.agg #[.int .i64 0, .nilIface, .nilIface], .bool false]) w := by kernel_rfl
theorem taIf (u : TypeId) (x : Value) (w : World) : (Instr.typeAssert (.iface u x) 33 52 true).run Try.prog w = .ok (.tuple #[if u = 52 then x else .agg #[.nilIface, .nilIface, .nilIface], .bool (decide (u = 52))]) w := by
  by_cases h : u = 52
  · subst h; rw [if_pos rfl]; kernel_rfl
  · have hz : (zeroValue 52).run Try.prog w = .ok (.agg #[.nilIface, .nilIface, .nilIface]) w := by kernel_rfl
    rw [if_neg h, show decide (u = 52) = false from decide_eq_false h]
    simp [Instr.typeAssert, go_sem, h, hz]
theorem tnIf (w : World) : (Instr.typeAssert .nilIface 33 52 true).run Try.prog w = .ok (.tuple #[.agg #[.nilIface, .nilIface, .nilIface], .bool false]) w := by kernel_rfl
end Go.Proofs.Yteaipdmbdcmmeab

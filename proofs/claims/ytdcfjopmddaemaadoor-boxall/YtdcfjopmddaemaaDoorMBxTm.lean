/-
  Terms: their kinds, their values, and what split, asLit, Lit, Op and Parts make of them.
-/
import Derived.Test.YtdcfjopmddaemaaDoorProg
import Derived.Test.YtdcfjopmddaemaaDoorChecked
import Derived.WalkKit
import Derived.Below
import Derived.Deep.DeepFit
import Derived.Deep.AppendLies
import Derived.Laws.AppendOwnNone
import Derived.Deep.OwnRows
import Derived.Defers
set_option linter.unusedSimpArgs false
set_option linter.unusedVariables false
namespace Go.Proofs.YtdcfjopmddaemaaDoor
open Go.RowKit

inductive Tm where
  | nil
  | lit (n : Int)
  | var (s : ByteArray)
  | un (op : Int) (a : Tm)
  | bin (op : Int) (a b : Tm)
  | ifs (c a b : Tm)
  | other (u : TypeId) (x : Value)

def tv : Tm → Value
  | .nil => .nilIface
  | .lit n => .iface 77 (.agg #[.int .i64 n])
  | .var s => .iface 80 (.agg #[.string s])
  | .un op a => .iface 85 (.agg #[.int .i64 op, tv a])
  | .bin op a b => .iface 87 (.agg #[.int .i64 op, tv a, tv b])
  | .ifs c a b => .iface 89 (.agg #[tv c, tv a, tv b])
  | .other u x => .iface u x

theorem taLit (u : TypeId) (x : Value) (w : World) : (Instr.typeAssert (.iface u x) 45 77 true).run Tryd.prog w = .ok (.tuple #[if u = 77 then x else .agg #[.int .i64 0], .bool (decide (u = 77))]) w := by
  by_cases h : u = 77
  · subst h; rw [if_pos rfl]; kernel_rfl
  · have hz : (zeroValue 77).run Tryd.prog w = .ok (.agg #[.int .i64 0]) w := by kernel_rfl
    rw [if_neg h, show decide (u = 77) = false from decide_eq_false h]
    simp [Instr.typeAssert, go_sem, h, hz]
theorem tnLit (w : World) : (Instr.typeAssert .nilIface 45 77 true).run Tryd.prog w = .ok (.tuple #[.agg #[.int .i64 0], .bool false]) w := by kernel_rfl
theorem taVar (u : TypeId) (x : Value) (w : World) : (Instr.typeAssert (.iface u x) 45 80 true).run Tryd.prog w = .ok (.tuple #[if u = 80 then x else .agg #[.string ⟨#[]⟩], .bool (decide (u = 80))]) w := by
  by_cases h : u = 80
  · subst h; rw [if_pos rfl]; kernel_rfl
  · have hz : (zeroValue 80).run Tryd.prog w = .ok (.agg #[.string ⟨#[]⟩]) w := by kernel_rfl
    rw [if_neg h, show decide (u = 80) = false from decide_eq_false h]
    simp [Instr.typeAssert, go_sem, h, hz]
theorem tnVar (w : World) : (Instr.typeAssert .nilIface 45 80 true).run Tryd.prog w = .ok (.tuple #[.agg #[.string ⟨#[]⟩], .bool false]) w := by kernel_rfl
theorem taUn (u : TypeId) (x : Value) (w : World) : (Instr.typeAssert (.iface u x) 45 85 true).run Tryd.prog w = .ok (.tuple #[if u = 85 then x else .agg #[.int .i64 0, .nilIface], .bool (decide (u = 85))]) w := by
  by_cases h : u = 85
  · subst h; rw [if_pos rfl]; kernel_rfl
  · have hz : (zeroValue 85).run Tryd.prog w = .ok (.agg #[.int .i64 0, .nilIface]) w := by kernel_rfl
    rw [if_neg h, show decide (u = 85) = false from decide_eq_false h]
    simp [Instr.typeAssert, go_sem, h, hz]
theorem tnUn (w : World) : (Instr.typeAssert .nilIface 45 85 true).run Tryd.prog w = .ok (.tuple #[.agg #[.int .i64 0, .nilIface], .bool false]) w := by kernel_rfl
theorem taBin (u : TypeId) (x : Value) (w : World) : (Instr.typeAssert (.iface u x) 45 87 true).run Tryd.prog w = .ok (.tuple #[if u = 87 then x else .agg #[.int .i64 0, .nilIface, .nilIface], .bool (decide (u = 87))]) w := by
  by_cases h : u = 87
  · subst h; rw [if_pos rfl]; kernel_rfl
  · have hz : (zeroValue 87).run Tryd.prog w = .ok (.agg #[.int .i64 0, .nilIface, .nilIface]) w := by kernel_rfl
    rw [if_neg h, show decide (u = 87) = false from decide_eq_false h]
    simp [Instr.typeAssert, go_sem, h, hz]
theorem tnBin (w : World) : (Instr.typeAssert .nilIface 45 87 true).run Tryd.prog w = .ok (.tuple #[.agg #[.int .i64 0, .nilIface, .nilIface], .bool false]) w := by kernel_rfl
theorem taIf (u : TypeId) (x : Value) (w : World) : (Instr.typeAssert (.iface u x) 45 89 true).run Tryd.prog w = .ok (.tuple #[if u = 89 then x else .agg #[.nilIface, .nilIface, .nilIface], .bool (decide (u = 89))]) w := by
  by_cases h : u = 89
  · subst h; rw [if_pos rfl]; kernel_rfl
  · have hz : (zeroValue 89).run Tryd.prog w = .ok (.agg #[.nilIface, .nilIface, .nilIface]) w := by kernel_rfl
    rw [if_neg h, show decide (u = 89) = false from decide_eq_false h]
    simp [Instr.typeAssert, go_sem, h, hz]
theorem tnIf (w : World) : (Instr.typeAssert .nilIface 45 89 true).run Tryd.prog w = .ok (.tuple #[.agg #[.nilIface, .nilIface, .nilIface], .bool false]) w := by kernel_rfl
end Go.Proofs.YtdcfjopmddaemaaDoor

namespace Go.Proofs.YtdcfjopmddaemaaDoor
open Go.RowKit
theorem Tryd.infoTerm : (Tryd.prog.info? 45).map (fun i => (i.zero, i.size, i.bytes)) = some (some .nilIface, 1, 16) := by kernel_rfl
end Go.Proofs.YtdcfjopmddaemaaDoor

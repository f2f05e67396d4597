/-
  Terms: their kinds, their values, and what split, asLit, Lit, Op and Parts make of them.
-/
import Derived.Test.YtiobcipmieefaaaDoorProg
import Derived.Test.YtiobcipmieefaaaDoorChecked
import Derived.WalkKit
import Derived.Below
import Derived.Deep.DeepFit
import Derived.Deep.AppendLies
import Derived.Laws.AppendOwnNone
import Derived.Deep.OwnRows
import Derived.Defers
set_option linter.unusedSimpArgs false
set_option linter.unusedVariables false
namespace Go.Proofs.YtiobcipmieefaaaDoor
open Go.RowKit

inductive Tm where
  | nil
  | lit (n : Int)
  | var (s : ByteArray)
  | un (op : Int) (a : Tm)
  | bin (op : Int) (a b : Tm)
  | ifs (c a b : Tm)
  | other (u : TypeId) (x : Value)

def tv : Tm → Value
  | .nil => .nilIface
  | .lit n => .iface 52 (.agg #[.int .i64 n])
  | .var s => .iface 74 (.agg #[.string s])
  | .un op a => .iface 88 (.agg #[.int .i64 op, tv a])
  | .bin op a b => .iface 91 (.agg #[.int .i64 op, tv a, tv b])
  | .ifs c a b => .iface 94 (.agg #[tv c, tv a, tv b])
  | .other u x => .iface u x

theorem taLit (u : TypeId) (x : Value) (w : World) : (Instr.typeAssert (.iface u x) 25 52 true).run Tryd.prog w = .ok (.tuple #[if u = 52 then x else .agg #[.int .i64 0], .bool (decide (u = 52))]) w := by
  by_cases h : u = 52
  · subst h; rw [if_pos rfl]; kernel_rfl
  · have hz : (zeroValue 52).run Tryd.prog w = .ok (.agg #[.int .i64 0]) w := by kernel_rfl
    rw [if_neg h, show decide (u = 52) = false from decide_eq_false h]
    simp [Instr.typeAssert, go_sem, h, hz]
theorem tnLit (w : World) : (Instr.typeAssert .nilIface 25 52 true).run Tryd.prog w = .ok (.tuple #[.agg #[.int .i64 0], .bool false]) w := by kernel_rfl
theorem taVar (u : TypeId) (x : Value) (w : World) : (Instr.typeAssert (.iface u x) 25 74 true).run Tryd.prog w = .ok (.tuple #[if u = 74 then x else .agg #[.string ⟨#[]⟩], .bool (decide (u = 74))]) w := by
  by_cases h : u = 74
  · subst h; rw [if_pos rfl]; kernel_rfl
  · have hz : (zeroValue 74).run Tryd.prog w = .ok (.agg #[.string ⟨#[]⟩]) w := by kernel_rfl
    rw [if_neg h, show decide (u = 74) = false from decide_eq_false h]
    simp [Instr.typeAssert, go_sem, h, hz]
theorem tnVar (w : World) : (Instr.typeAssert .nilIface 25 74 true).run Tryd.prog w = .ok (.tuple #[.agg #[.string ⟨#[]⟩], .bool false]) w := by kernel_rfl
theorem taUn (u : TypeId) (x : Value) (w : World) : (Instr.typeAssert (.iface u x) 25 88 true).run Tryd.prog w = .ok (.tuple #[if u = 88 then x else .agg #[.int .i64 0, .nilIface], .bool (decide (u = 88))]) w := by
  by_cases h : u = 88
  · subst h; rw [if_pos rfl]; kernel_rfl
  · have hz : (zeroValue 88).run Tryd.prog w = .ok (.agg #[.int .i64 0, .nilIface]) w := by kernel_rfl
    rw [if_neg h, show decide (u = 88) = false from decide_eq_false h]
    simp [Instr.typeAssert, go_sem, h, hz]
theorem tnUn (w : World) : (Instr.typeAssert .nilIface 25 88 true).run Tryd.prog w = .ok (.tuple #[.agg #[.int .i64 0, .nilIface], .bool false]) w := by kernel_rfl
theorem taBin (u : TypeId) (x : Value) (w : World) : (Instr.typeAssert (.iface u x) 25 91 true).run Tryd.prog w = .ok (.tuple #[if u = 91 then x else .agg #[.int .i64 0, .nilIface, .nilIface], .bool (decide (u = 91))]) w := by
  by_cases h : u = 91
  · subst h; rw [if_pos rfl]; kernel_rfl
  · have hz : (zeroValue 91).run Tryd.prog w = .ok (.agg #[.int .i64 0, .nilIface, .nilIface]) w := by kernel_rfl
    rw [if_neg h, show decide (u = 91) = false from decide_eq_false h]
    simp [Instr.typeAssert, go_sem, h, hz]
theorem tnBin (w : World) : (Instr.typeAssert .nilIface 25 91 true).run Tryd.prog w = .ok (.tuple #[.agg #[.int .i64 0, .nilIface, .nilIface], .bool false]) w := by kernel_rfl
theorem taIf (u : TypeId) (x : Value) (w : World) : (Instr.typeAssert (.iface u x) 25 94 true).run Tryd.prog w = .ok (.tuple #[if u = 94 then x else .agg #[.nilIface, .nilIface, .nilIface], .bool (decide (u = 94))]) w := by
  by_cases h : u = 94
  · subst h; rw [if_pos rfl]; kernel_rfl
  · have hz : (zeroValue 94).run Tryd.prog w = .ok (.agg #[.nilIface, .nilIface, .nilIface]) w := by kernel_rfl
    rw [if_neg h, show decide (u = 94) = false from decide_eq_false h]
    simp [Instr.typeAssert, go_sem, h, hz]
theorem tnIf (w : World) : (Instr.typeAssert .nilIface 25 94 true).run Tryd.prog w = .ok (.tuple #[.agg #[.nilIface, .nilIface, .nilIface], .bool false]) w := by kernel_rfl
end Go.Proofs.YtiobcipmieefaaaDoor

namespace Go.Proofs.YtiobcipmieefaaaDoor
open Go.RowKit
theorem Tryd.infoTerm : (Tryd.prog.info? 25).map (fun i => (i.zero, i.size, i.bytes)) = some (some .nilIface, 1, 16) := by kernel_rfl
end Go.Proofs.YtiobcipmieefaaaDoor

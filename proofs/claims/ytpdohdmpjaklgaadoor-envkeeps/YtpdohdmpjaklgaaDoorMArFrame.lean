/-
  The tables of a row over arith, read off its list; a world in which they lie: a witness.
-/
import Derived.Test.YtpdohdmpjaklgaaDoorMFrame
import Derived.Test.YtpdohdmpjaklgaaDoorMArW
import Derived.Test.YtpdohdmpjaklgaaDoorRows
import Derived.Lib.LaidTab
set_option linter.unusedSimpArgs false
set_option linter.unusedVariables false
namespace Go.Proofs.YtpdohdmpjaklgaaDoor
open Go.RowKit Go.Lib
open Go.Sort (grow)

/-- The numbers' table. -/
def Pows (w : World) : Prop := TabIs Tryd.prog w "internal/strconv.uint64pow10" .u64 pow10Tab
theorem gPow : Tryd.prog.globalNamed "internal/strconv.uint64pow10" = some 1 := by kernel_rfl
theorem Pows.below {w w' : World} (h : Pows w) (hb : Below w.heap.size w w') : Pows w' := by
  unfold Pows TabIs World.var? at *
  rw [gPow] at *
  simp only [Option.bind_eq_bind, Option.bind_some] at *
  cases hk : w.heap[ 1 ]? with
  | none => rw [hk] at h; cases h
  | some o =>
    rw [hb.block _ (lt_of_block hk), hk]
    rw [hk] at h
    exact h
theorem below_grow {w : World} (k : Nat) (os : Array Obj) : Below w.heap.size w (grow (w.drewN k) os) :=
  ⟨rfl, rfl, rfl, by simp [grow, World.drewN], fun i hi => by simp [grow, World.drewN, Array.getElem?_append_left hi]⟩

theorem gPowType : (Tryd.prog.globals[ 1 ]?).map (·.type) = some 136 := by kernel_rfl
theorem c_pow : Tryd.prog.cellsOf 136 = 20 := by kernel_rfl
theorem c_u64 : Tryd.prog.cellsOf 87 = 1 := by kernel_rfl
theorem powData_eq : Rows.laid_internal_strconv_uint64pow10 = (tabData .u64 pow10Tab : DataW Unit) := by kernel_rfl
theorem pows_of_reads {w : World} (h : VarReads Tryd.prog w "internal/strconv.uint64pow10" (tabData .u64 pow10Tab)) : Pows w := by
  obtain ⟨g, t, cs, fuel, p, hg, hty, hvar, hd⟩ := h
  obtain rfl := Option.some.inj (gPow.symm.trans hg)
  obtain rfl := Option.some.inj (gPowType.symm.trans hty)
  unfold Pows TabIs
  rw [hvar, ← cells_of_tab Tryd.underlying136 Tryd.underlying87 c_u64 c_pow hd]
def deVals (d : DataW Unit) : Array Value := match d with
  | .agg l => (l.map fun x => match x with | .lit (.int k z) => Value.int k z | _ => Value.int .u8 0).toArray
  | _ => #[]
end Go.Proofs.YtpdohdmpjaklgaaDoor

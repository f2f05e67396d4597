/-
  What Apply answers, for every operator and every list of numbers.
-/
import Derived.Test.YtpdohdmpjaklgaaDoorProg
import Derived.Test.YtpdohdmpjaklgaaDoorMArPure
import Derived.WalkKit
import Derived.Deep.DeepFit
import Derived.Lib.OthersKept
import Derived.BigQuiet
set_option linter.unusedSimpArgs false
set_option linter.unusedVariables false
namespace Go.Proofs.YtpdohdmpjaklgaaDoor
open Go.RowKit Go.Lib

theorem retI {k : IntKind} {a b : Int} (h : a = b) : Ending.returned (.int k a) = .returned (.int k b) := by rw [h]
theorem retII {k l : IntKind} {a b c d : Int} (h : a = c) (h' : b = d) : Ending.returned (.tuple #[.int k a, .int l b]) = .returned (.tuple #[.int k c, .int l d]) := by rw [h, h']

theorem shl_run (a k : Int) (h0 : 0 ≤ k) (h1 : k < 64) : Op.shift .shl .i64 a .i64 k = pure (.int .i64 (wrap64 (a * 2 ^ k.toNat))) := by
  have e : min k.toNat 64 = k.toNat := by omega
  simp only [Op.shift, IntKind.bits, e]
  rw [if_neg (by omega), IntWalk.i64_left]
theorem shr_run (a k : Int) (h0 : 0 ≤ k) (h1 : k < 64) : Op.shift .shr .i64 a .i64 k = pure (.int .i64 (a / 2 ^ k.toNat)) := by
  have e : min k.toNat 64 = k.toNat := by omega
  simp only [Op.shift, IntKind.bits, e]
  rw [if_neg (by omega), Int.fdiv_eq_ediv_of_nonneg _ (Int.le_of_lt (Int.pow_pos (by decide)))]

/-! ### The groups -/
def grps : List Int := [0, 0, 0, 1, 1, 2, 2, 2, 3, 3, 4, 4, 4, 5, 5, 6, 6, 7]
/-! ### Apply -/
theorem Calls.same {P : Program} {f : FuncId} {args : Array Value} {w : World} {v : Value} (h : Calls P f args w fun e w' => e = .returned v ∧ w' = w) : Calls P f args w fun e w' => e = .returned v ∧ ∃ m, w' = w.drewN m :=
  h.mono fun _ _ ⟨he, hw⟩ => ⟨he, 0, by rw [hw]; rfl⟩
/-- A list of numbers, read. -/
def Ags (w : World) (v : Value) (l : List Int) : Prop :=
  ∃ (a : Option Addr) (c : Nat), v = .slice a l.length c ∧ (l = [] ∨ ∃ b o, a = some ⟨b, o, none⟩ ∧ ∀ i x, l[i]? = some x → w.cell? ⟨b, o + i, none⟩ = some (.int .i64 x))

def arK (op : Int) : Int := if op = 3 ∨ op = 4 then 1 else if 5 ≤ op ∧ op ≤ 16 then 2 else if op = 17 then 3 else 0
def arE (op : Int) : Int := if op < 1 ∨ 17 < op then 2 else 0
end Go.Proofs.YtpdohdmpjaklgaaDoor

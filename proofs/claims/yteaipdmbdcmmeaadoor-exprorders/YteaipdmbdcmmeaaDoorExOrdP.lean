/-
  The order of two places, as the program and the document tell it.
-/
import Derived.Test.YteaipdmbdcmmeaaDoorExCurW
import Derived.Test.YteaipdmbdcmmeaaDoorExSplPure
set_option linter.unusedSimpArgs false
set_option linter.unusedVariables false
namespace Go.Proofs.YteaipdmbdcmmeaaDoor
open Go.RowKit Go.Lib

def szA (fr : List Nat) (i : Nat) : Int := (i : Int) + 1 - (fr.getD i 0 : Nat)
/-- Kids against kids, as long as nothing has been found. -/
def ordK (F : Int → Int → Int) : Int → List Int → List Int → Int
  | c, k :: ks, m :: ms => if c = 0 then ordK F (F k m) ks ms else c
  | c, _, _ => c
def heads (x y : Nd) : Int := orL [cmp3 x.op y.op, cmp3 x.n y.n, ordI x.name y.name]
def headC (m n : Int) (x y : Nd) : Int := orL [cmp3 m n, cmp3 x.op y.op, cmp3 x.n y.n, ordI x.name y.name]
def ordF (a : List Nd) (fa : List Nat) (b : List Nd) (fb : List Nat) : Nat → Nat → Nat → Int
  | 0, _, _ => 0
  | f + 1, i, j => ordK (fun p q => ordF a fa b fb f p.toNat q.toNat) (headC (szA fa i) (szA fb j) (a.getD i nd0) (b.getD j nd0)) (a.getD i nd0).kids (b.getD j nd0).kids

theorem headC_lt {m n : Int} (x y : Nd) (h : m < n) : headC m n x y = -1 := by
  unfold headC orL; rw [show cmp3 m n = -1 from by unfold cmp3; rw [if_pos h]]; rfl
theorem headC_gt {m n : Int} (x y : Nd) (h : n < m) : headC m n x y = 1 := by
  unfold headC orL; rw [show cmp3 m n = 1 from by unfold cmp3; rw [if_neg (by omega), if_pos h]]; rfl
theorem headC_eq {m n : Int} (x y : Nd) (h : m = n) : headC m n x y = heads x y := by
  unfold headC heads; subst h
  conv => lhs; unfold orL
  rw [cmp3_self, if_pos rfl]

theorem ordK_nz (F : Int → Int → Int) {c : Int} (h : c ≠ 0) (ks ms : List Int) : ordK F c ks ms = c := by
  cases ks <;> cases ms <;> simp [ordK, h]
theorem ordK_nil (F : Int → Int → Int) (c : Int) (ms : List Int) : ordK F c [] ms = c := by
  cases ms <;> simp [ordK]
theorem ordK_zero (F : Int → Int → Int) (k m : Int) (ks ms : List Int) : ordK F 0 (k :: ks) (m :: ms) = ordK F (F k m) ks ms := by simp [ordK]
end Go.Proofs.YteaipdmbdcmmeaaDoor

/-
  Numbers of 64 bits: what the operators make of them, plain.
-/
import Derived.RowKit
import Derived.Laws.Entries
set_option linter.unusedSimpArgs false
set_option linter.unusedVariables false
namespace Go.Proofs.YtdcfjopmddaemaaDoor
open Go.RowKit

/-- A number of 64 bits, with a sign. -/
def i6 (n : Int) : Prop := -9223372036854775808 ≤ n ∧ n ≤ 9223372036854775807
def B6 (n : Int) : BitVec 64 := BitVec.ofInt 64 n

theorem w6_def (n : Int) : wrap64 n = (n + 9223372036854775808) % 18446744073709551616 - 9223372036854775808 := rfl
theorem w6_in (n : Int) : i6 (wrap64 n) := by unfold i6; rw [w6_def]; omega
theorem w6_id {n : Int} (h : i6 n) : wrap64 n = n := by unfold i6 at h; rw [w6_def]; omega
theorem w6_bv (n : Int) : wrap64 n = (B6 n).toInt := by
  unfold B6
  rw [BitVec.toInt_ofInt, w6_def, Int.bmod_def]
  simp only [Nat.reducePow]
  omega
theorem b6_id {n : Int} (h : i6 n) : (B6 n).toInt = n := by rw [← w6_bv, w6_id h]
theorem b6_w6 (n : Int) : B6 (wrap64 n) = B6 n := by rw [w6_bv]; exact BitVec.ofInt_toInt
theorem b6_inj {a b : Int} (ha : i6 a) (hb : i6 b) (h : B6 a = B6 b) : a = b := by rw [← b6_id ha, ← b6_id hb, h]
theorem b6_add (a b : Int) : B6 (a + b) = B6 a + B6 b := BitVec.ofInt_add ..
theorem b6_mul (a b : Int) : B6 (a * b) = B6 a * B6 b := BitVec.ofInt_mul ..
theorem b6_neg (a : Int) : B6 (-a) = - B6 a := by unfold B6; exact BitVec.ofInt_neg
theorem b6_sub (a b : Int) : B6 (a - b) = B6 a - B6 b := by rw [Int.sub_eq_add_neg, b6_add, b6_neg, BitVec.sub_eq_add_neg]
theorem toInt_in (x : BitVec 64) : i6 x.toInt := by
  have h1 := BitVec.toInt_lt (x := x)
  have h2 := BitVec.le_toInt (x := x)
  simp at h1 h2
  unfold i6; omega
theorem wrap_toNat (x : BitVec 64) : IntKind.i64.wrap (x.toNat : Int) = x.toInt := by
  rw [BitVec.toInt_eq_toNat_cond]
  have := x.isLt
  simp only [IntKind.wrap, IntKind.bits, IntKind.signed]
  simp at *
  split <;> split <;> omega

theorem bits_and (a b : Int) : bits .and .i64 a b = (B6 a &&& B6 b).toInt := wrap_toNat _
theorem bits_or (a b : Int) : bits .or .i64 a b = (B6 a ||| B6 b).toInt := wrap_toNat _
theorem bits_xor (a b : Int) : bits .xor .i64 a b = (B6 a ^^^ B6 b).toInt := wrap_toNat _
theorem b6_toInt (x : BitVec 64) : B6 x.toInt = x := BitVec.ofInt_toInt
theorem b6_m1 : B6 (-1) = BitVec.allOnes 64 := by decide
theorem bits_not (a : Int) : bits .xor .i64 (-1) a = (~~~ B6 a).toInt := by
  rw [bits_xor, b6_m1, BitVec.allOnes_xor]

/-- The operators with one number. -/
def ap1 (op a : Int) : Int := if op = 3 then wrap64 (-a) else bits .xor .i64 (-1) a
/-- By how much is shifted. -/
def by6 (b : Int) : Int := bits .and .i64 b 63
/-- The operators with two numbers. -/
def ap2 (op a b : Int) : Int :=
  if op = 5 then wrap64 (a + b)
  else if op = 6 then wrap64 (a - b)
  else if op = 7 then wrap64 (a * b)
  else if op = 8 then wrap64 (a.tdiv b)
  else if op = 9 then a.tmod b
  else if op = 10 then bits .and .i64 a b
  else if op = 11 then bits .or .i64 a b
  else if op = 12 then bits .xor .i64 a b
  else if op = 13 then wrap64 (a * 2 ^ (by6 b).toNat)
  else if op = 14 then a / 2 ^ (by6 b).toNat
  else if op = 15 then (if a = b then 1 else 0)
  else (if a < b then 1 else 0)
/-- What Apply answers. -/
def apR (op : Int) (l : List Int) : Int × Int :=
  match l with
  | [a] => if op = 3 ∨ op = 4 then (ap1 op a, 0) else (0, 2)
  | [a, b] => if 5 ≤ op ∧ op ≤ 16 then (if (op = 8 ∨ op = 9) ∧ b = 0 then (0, 12) else (ap2 op a b, 0)) else (0, 2)
  | [c, a, b] => if op = 17 then (if c = 0 then b else a, 0) else (0, 2)
  | _ => (0, 2)

theorem by6_eq (b : Int) : by6 b = b % 64 := by
  unfold by6
  rw [bits_and]
  have h63 : B6 63 = 63#64 := by decide
  rw [h63, BitVec.toInt_eq_toNat_of_lt]
  · rw [BitVec.toNat_and]
    have e : (63#64).toNat = 2 ^ 6 - 1 := by decide
    rw [e, Nat.and_two_pow_sub_one_eq_mod]
    unfold B6
    rw [BitVec.toNat_ofInt]
    simp only [Nat.reducePow]
    omega
  · rw [BitVec.toNat_and]
    have e : (63#64).toNat = 2 ^ 6 - 1 := by decide
    rw [e, Nat.and_two_pow_sub_one_eq_mod]
    omega
theorem by6_in (b : Int) : 0 ≤ by6 b ∧ by6 b < 64 := by rw [by6_eq]; omega

theorem ap1_in (op a : Int) : i6 (ap1 op a) := by
  unfold ap1; split
  · exact w6_in _
  · rw [bits_not]; exact toInt_in _
theorem tmod_in {a : Int} (b : Int) (ha : i6 a) : i6 (a.tmod b) := by
  have h := Int.natAbs_tmod a b
  have h2 := Nat.mod_le a.natAbs b.natAbs
  have h3 : 0 ≤ a → 0 ≤ a.tmod b := fun h => Int.tmod_nonneg b h
  unfold i6 at *
  by_cases hm : a = -9223372036854775808
  · have : (a.tmod b).natAbs ≤ 9223372036854775808 := by omega
    have : a.tmod b ≤ 0 := by
      have h4 : a.tmod b = - (-a).tmod b := by rw [Int.neg_tmod]; omega
      have := Int.tmod_nonneg b (a := -a) (by omega)
      omega
    omega
  · omega
theorem ediv_in {a : Int} (k : Nat) (ha : i6 a) : i6 (a / 2 ^ k) := by
  have hp : (0 : Int) < 2 ^ k := Int.pow_pos (by decide)
  unfold i6 at *
  have h1 : (-9223372036854775808 : Int) ≤ a / 2 ^ k := by
    rw [Int.le_ediv_iff_mul_le hp]
    have : (1 : Int) ≤ 2 ^ k := by omega
    have : (9223372036854775808 : Int) * 1 ≤ 9223372036854775808 * 2 ^ k := Int.mul_le_mul_of_nonneg_left this (by omega)
    omega
  have h2 : a / 2 ^ k ≤ 9223372036854775807 := by
    by_cases h : 0 ≤ a
    · have := Int.ediv_le_self (2 ^ k) h; omega
    · have := Int.ediv_neg_of_neg_of_pos (a := a) (by omega) hp; omega
  exact ⟨h1, h2⟩
theorem ap2_in {op a b : Int} (ha : i6 a) (hb : i6 b) : i6 (ap2 op a b) := by
  have i0 : i6 0 := by unfold i6; omega
  have i1 : i6 1 := by unfold i6; omega
  have cc (p : Prop) [Decidable p] (x y : Int) (hx : i6 x) (hy : i6 y) : i6 (if p then x else y) := by
    by_cases h : p
    · rw [if_pos h]; exact hx
    · rw [if_neg h]; exact hy
  unfold ap2
  refine cc _ _ _ (w6_in _) (cc _ _ _ (w6_in _) (cc _ _ _ (w6_in _) (cc _ _ _ (w6_in _) (cc _ _ _ (tmod_in b ha) (cc _ _ _ ?_ (cc _ _ _ ?_ (cc _ _ _ ?_ (cc _ _ _ (w6_in _) (cc _ _ _ (ediv_in _ ha) (cc _ _ _ (cc _ _ _ i1 i0) (cc _ _ _ i1 i0)))))))))))
  · rw [bits_and]; exact toInt_in _
  · rw [bits_or]; exact toInt_in _
  · rw [bits_xor]; exact toInt_in _
end Go.Proofs.YtdcfjopmddaemaaDoor

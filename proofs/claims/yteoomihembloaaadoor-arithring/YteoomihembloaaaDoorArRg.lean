/-
  Sums, products and bits of numbers of 64 bits, plain.
-/
import Derived.Test.YteoomihembloaaaDoorArLw
set_option linter.unusedSimpArgs false
set_option linter.unusedVariables false
namespace Go.Proofs.YteoomihembloaaaDoor
open Go.RowKit

theorem al_add (a b : Int) : apL 5 [a, b] = wrap64 (a + b) := by simp [apL, apR, ap2]
theorem al_sub (a b : Int) : apL 6 [a, b] = wrap64 (a - b) := by simp [apL, apR, ap2]
theorem al_mul (a b : Int) : apL 7 [a, b] = wrap64 (a * b) := by simp [apL, apR, ap2]
theorem al_and (a b : Int) : apL 10 [a, b] = (B6 a &&& B6 b).toInt := by simp [apL, apR, ap2, bits_and]
theorem al_or (a b : Int) : apL 11 [a, b] = (B6 a ||| B6 b).toInt := by simp [apL, apR, ap2, bits_or]
theorem al_xor (a b : Int) : apL 12 [a, b] = (B6 a ^^^ B6 b).toInt := by simp [apL, apR, ap2, bits_xor]
theorem al_neg (a : Int) : apL 3 [a] = wrap64 (-a) := by simp [apL, apR, ap1]
theorem al_not (a : Int) : apL 4 [a] = (~~~ B6 a).toInt := by simp [apL, apR, ap1, bits_not]

theorem nat_and_or (n x y : Nat) (h : x ≤ n) : (x &&& y) + (x ||| y) = x + y := by
  induction n using Nat.strongRecOn generalizing x y with
  | _ n ih =>
    by_cases hx : x = 0
    · subst hx; simp
    · have h2 := ih (x / 2) (by omega) (x / 2) (y / 2) (Nat.le_refl _)
      have a1 := Nat.and_div_two (a := x) (b := y)
      have a2 := Nat.or_div_two (a := x) (b := y)
      have b1 : (x &&& y) % 2 = (x % 2) * (y % 2) := by
        have := Nat.and_mod_two_pow (a := x) (b := y) (n := 1)
        simp only [Nat.pow_one] at this
        rw [this]
        rcases Nat.mod_two_eq_zero_or_one x with h | h <;> rcases Nat.mod_two_eq_zero_or_one y with h' | h' <;> rw [h, h'] <;> rfl
      have b2 : (x ||| y) % 2 = (x % 2) + (y % 2) - (x % 2) * (y % 2) := by
        have := Nat.or_mod_two_pow (a := x) (b := y) (n := 1)
        simp only [Nat.pow_one] at this
        rw [this]
        rcases Nat.mod_two_eq_zero_or_one x with h | h <;> rcases Nat.mod_two_eq_zero_or_one y with h' | h' <;> rw [h, h'] <;> rfl
      rcases Nat.mod_two_eq_zero_or_one x with h | h <;> rcases Nat.mod_two_eq_zero_or_one y with h' | h' <;> rw [h, h'] at b1 b2 <;> omega
theorem bv_and_or (x y : BitVec 64) : (x &&& y) + (x ||| y) = x + y := by
  apply BitVec.eq_of_toNat_eq
  rw [BitVec.toNat_add, BitVec.toNat_add, BitVec.toNat_and, BitVec.toNat_or, nat_and_or _ _ _ (Nat.le_refl _)]
theorem bv_xor (x y : BitVec 64) : x ^^^ y = (x ||| y) &&& ~~~(x &&& y) := by
  ext i h
  simp
  cases x[i] <;> cases y[i] <;> rfl

/-- What the law asks of three numbers, with a name for each result. -/
structure RingOk (a b c S T U D NB M V Mc NA AN X1 NoA NoB XO OR : Int) : Prop where
  s1 : apL 5 [a, b] = S
  s2 : apL 5 [b, a] = S
  t1 : apL 5 [S, c] = T
  u1 : apL 5 [b, c] = U
  t2 : apL 5 [a, U] = T
  d1 : apL 6 [a, b] = D
  nb : apL 3 [b] = NB
  d2 : apL 5 [a, NB] = D
  z : apL 6 [a, a] = 0
  m1 : apL 7 [a, b] = M
  m2 : apL 7 [b, a] = M
  v1 : apL 7 [a, U] = V
  mc : apL 7 [a, c] = Mc
  v2 : apL 5 [M, Mc] = V
  n1 : apL 7 [a, -1] = NA
  n2 : apL 3 [a] = NA
  an : apL 10 [a, b] = AN
  x1 : apL 4 [AN] = X1
  na : apL 4 [a] = NoA
  nob : apL 4 [b] = NoB
  x2 : apL 11 [NoA, NoB] = X1
  xo : apL 12 [a, b] = XO
  or_ : apL 11 [a, b] = OR
  xo2 : apL 10 [OR, X1] = XO
  no : apL 6 [NA, 1] = NoA
  ao : apL 5 [AN, OR] = S

theorem ring_ok (a b c : Int) : ∃ S T U D NB M V Mc NA AN X1 NoA NoB XO OR, RingOk a b c S T U D NB M V Mc NA AN X1 NoA NoB XO OR := by
  refine ⟨_, _, _, _, _, _, _, _, _, _, _, _, _, _, _, ⟨rfl, ?_, rfl, rfl, ?_, rfl, rfl, ?_, ?_, rfl, ?_, rfl, rfl, ?_, rfl, ?_, rfl, rfl, rfl, rfl, ?_, rfl, rfl, ?_, ?_, ?_⟩⟩
  · rw [al_add, al_add, Int.add_comm]
  · rw [al_add, al_add, al_add, al_add]
    refine b6_inj (w6_in _) (w6_in _) ?_
    simp only [b6_w6, b6_add]
    rw [BitVec.add_assoc]
  · rw [al_add, al_sub, al_neg]
    refine b6_inj (w6_in _) (w6_in _) ?_
    simp only [b6_w6, b6_add, b6_neg, b6_sub]
    rw [BitVec.sub_eq_add_neg]
  · rw [al_sub, Int.sub_self]; exact w6_id (by unfold i6; omega)
  · rw [al_mul, al_mul, Int.mul_comm]
  · rw [al_add, al_mul, al_mul, al_mul, al_add]
    refine b6_inj (w6_in _) (w6_in _) ?_
    simp only [b6_w6, b6_add, b6_mul]
    rw [BitVec.mul_add]
  · rw [al_mul, al_neg]
    congr 1; omega
  · rw [al_or, al_not, al_not, al_not, al_and]
    simp only [b6_toInt]
    rw [BitVec.not_and]
  · rw [al_and, al_xor, al_or, al_not, al_and]
    simp only [b6_toInt]
    rw [← bv_xor]
  · rw [al_sub, al_not, al_mul]
    refine b6_inj (w6_in _) (toInt_in _) ?_
    simp only [b6_w6, b6_sub, b6_mul, b6_toInt]
    have e1 : B6 (-1) = -1#64 := by decide
    have e2 : B6 1 = 1#64 := by decide
    rw [e1, e2, BitVec.mul_neg, BitVec.mul_one, BitVec.neg_eq_not_add, BitVec.add_sub_cancel]
  · rw [al_add, al_add, al_and, al_or]
    refine b6_inj (w6_in _) (w6_in _) ?_
    simp only [b6_w6, b6_add, b6_toInt]
    rw [bv_and_or]
end Go.Proofs.YteoomihembloaaaDoor

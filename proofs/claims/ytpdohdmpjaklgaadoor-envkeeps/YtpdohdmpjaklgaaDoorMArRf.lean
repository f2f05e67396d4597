/-
  The document's arithmetic: division bit by bit, shifts by doubling and halving.
-/
import Derived.Test.YtpdohdmpjaklgaaDoorMArAwk
import Derived.Laws.Bits64
set_option linter.unusedSimpArgs false
set_option linter.unusedVariables false
namespace Go.Proofs.YtpdohdmpjaklgaaDoor
open Go.RowKit Go.Lib

theorem retB' {a b : Bool} (h : a = b) : Ending.returned (.bool a) = .returned (.bool b) := by rw [h]

/-- One more than an int that a slot holds. -/
def iOf : Value → Nat
  | .int _ n => (n + 1).toNat
  | _ => 0

theorem size_any (a : Int) (w : World) (ha : i6 a) :
    Calls Tryd.prog 52 #[.int .i64 a] w fun e w' => e = .returned (.int .u64 (a.natAbs : Int)) ∧ w' = w := by
  unfold i6 at ha
  go_enter Tryd.func52, Tryd.ntmps52
  go_wp2
  all_goals
    go_ret
    refine ⟨retI ?_, by first | rfl | trivial⟩
    try simp only [IntKind.wrap_u64]
    omega

theorem signed_any (n : Nat) (m : Bool) (w : World) (hn : n < 18446744073709551616) :
    Calls Tryd.prog 74 #[.int .u64 (n : Int), .bool m] w fun e w' => e = .returned (.int .i64 (wrap64 (if m then -(n : Int) else n))) ∧ w' = w := by
  obtain ⟨r, hr⟩ : ∃ r, wrap64 (if m then -(n : Int) else n) = r := ⟨_, rfl⟩
  have HR : Hid (wrap64 (if m then -(n : Int) else n) = r) := hr
  rw [hr]
  clear hr
  cases m
  all_goals
    go_enter Tryd.func74, Tryd.ntmps74
    go_wp2
    go_ret
    have hR := HR.out
    simp only [Bool.false_eq_true, if_false, if_true] at hR
    refine ⟨retI ?_, by first | rfl | trivial⟩
    first
    | exact hR
    | (rw [← hR]
       simp only [IntKind.wrap_u64, w6_def]
       omega)

theorem dv_step (A B j : Nat) (hA : A < 18446744073709551616) (hB : 0 < B) (hB2 : B < 18446744073709551616) (q r x : Nat) (hq : q = A / 2 ^ (j + 1) / B) (hr : r = A / 2 ^ (j + 1) % B) (hx : x = A / 2 ^ j) :
    r < B ∧ q * 2 + 1 < 18446744073709551616 + 1 ∧ (B ≤ r * 2 + x % 2 → A / 2 ^ j / B = q * 2 + 1 ∧ A / 2 ^ j % B = r * 2 + x % 2 - B) ∧ (¬ B ≤ r * 2 + x % 2 → A / 2 ^ j / B = q * 2 ∧ A / 2 ^ j % B = r * 2 + x % 2) := by
  have h1 : A / 2 ^ (j + 1) = x / 2 := by rw [hx, Nat.div_div_eq_div_mul, Nat.pow_succ]
  rw [h1] at hq hr
  have hrB : r < B := by rw [hr]; exact Nat.mod_lt _ hB
  have hd := Nat.div_add_mod (x / 2) B
  rw [← hq, ← hr] at hd
  have hx2 : x = B * (q * 2) + (r * 2 + x % 2) := by
    have e : B * (q * 2) = 2 * (B * q) := by rw [← Nat.mul_assoc, Nat.mul_comm]
    rw [e]; omega
  have hxA : x ≤ A := by rw [hx]; exact Nat.div_le_self _ _
  have hqx : q ≤ x / 2 := by rw [hq]; exact Nat.div_le_self _ _
  refine ⟨hrB, by omega, fun h => ?_, fun h => ?_⟩
  · rw [← hx]
    have e : x = (r * 2 + x % 2 - B) + B * (q * 2 + 1) := by
      rw [Nat.mul_add, Nat.mul_one]; omega
    have hl : r * 2 + x % 2 - B < B := by omega
    constructor
    · conv => lhs; rw [e]
      rw [Nat.add_mul_div_left _ _ hB, Nat.div_eq_of_lt hl]; omega
    · conv => lhs; rw [e]
      rw [Nat.add_mul_mod_self_left, Nat.mod_eq_of_lt hl]
  · rw [← hx]
    have e : x = (r * 2 + x % 2) + B * (q * 2) := by omega
    have hl : r * 2 + x % 2 < B := by omega
    constructor
    · conv => lhs; rw [e]
      rw [Nat.add_mul_div_left _ _ hB, Nat.div_eq_of_lt hl]; omega
    · conv => lhs; rw [e]
      rw [Nat.add_mul_mod_self_left, Nat.mod_eq_of_lt hl]

theorem shru_run (x k : Nat) (hk : k < 64) : Op.shift .shr .u64 (x : Int) .u64 (k : Int) = pure (.int .u64 ((x / 2 ^ k : Nat) : Int)) := by
  have e : min (k : Int).toNat 64 = k := by omega
  simp only [Op.shift, IntKind.bits, e]
  rw [if_neg (by omega), Int.fdiv_eq_ediv_of_nonneg _ (Int.le_of_lt (Int.pow_pos (by decide)))]
  simp

theorem half_step (x : Int) (hx : i6 x) : (x.tmod 2 = -1 → wrap64 ((wrap64 (x - 1)).tdiv 2) = x / 2) ∧ (x.tmod 2 ≠ -1 → x.tdiv 2 = x / 2) := by
  unfold i6 at hx
  have hm : x.tmod 2 = -1 ↔ x < 0 ∧ x % 2 = 1 := by
    by_cases h : 0 ≤ x
    · rw [Int.tmod_eq_emod_of_nonneg h]; omega
    · have : x.tmod 2 = - ((-x) % 2) := by rw [← Int.tmod_eq_emod_of_nonneg (by omega), Int.neg_tmod]; omega
      omega
  have hd : ∀ y : Int, y.tdiv 2 = if 0 ≤ y then y / 2 else - ((-y) / 2) := by
    intro y
    split
    · rename_i h; rw [Int.tdiv_eq_ediv_of_nonneg h]
    · rename_i h; rw [← Int.tdiv_eq_ediv_of_nonneg (by omega), Int.neg_tdiv]; omega
  constructor
  · intro h
    have h' := hm.1 h
    have e1 : wrap64 (x - 1) = x - 1 := w6_id (by unfold i6; omega)
    rw [e1, hd (x - 1), if_neg (by omega), w6_id (by unfold i6; omega)]
    omega
  · intro h
    have h' : ¬ (x < 0 ∧ x % 2 = 1) := fun c => h (hm.2 c)
    rw [hd x]
    split <;> omega

theorem tdiv_abs (a b : Int) (hb : b ≠ 0) : a.tdiv b = if (decide (a < 0) != decide (b < 0)) = true then -((a.natAbs / b.natAbs : Nat) : Int) else ((a.natAbs / b.natAbs : Nat) : Int) := by
  by_cases ha : a < 0 <;> by_cases h : b < 0
  · have e := Int.neg_tdiv_neg (a := a) (b := b)
    rw [← e, Int.tdiv_eq_ediv_of_nonneg (by omega)]
    have e1 : -a = (a.natAbs : Int) := by omega
    have e2 : -b = (b.natAbs : Int) := by omega
    rw [e1, e2]; simp [ha, h]
  · have e : a.tdiv b = -((-a).tdiv b) := by rw [Int.neg_tdiv]; omega
    rw [e, Int.tdiv_eq_ediv_of_nonneg (by omega)]
    have e1 : -a = (a.natAbs : Int) := by omega
    have e2 : b = (b.natAbs : Int) := by omega
    conv => lhs; rw [e1, e2]
    simp [ha, h]
  · have e : a.tdiv b = -(a.tdiv (-b)) := by rw [Int.tdiv_neg]; omega
    rw [e, Int.tdiv_eq_ediv_of_nonneg (by omega)]
    have e1 : a = (a.natAbs : Int) := by omega
    have e2 : -b = (b.natAbs : Int) := by omega
    conv => lhs; rw [e2, e1]
    simp [ha, h]
  · rw [Int.tdiv_eq_ediv_of_nonneg (by omega)]
    have e1 : a = (a.natAbs : Int) := by omega
    have e2 : b = (b.natAbs : Int) := by omega
    conv => lhs; rw [e1, e2]
    simp [ha, h]
theorem tmod_abs (a b : Int) : a.tmod b = if a < 0 then -((a.natAbs % b.natAbs : Nat) : Int) else ((a.natAbs % b.natAbs : Nat) : Int) := by
  have h := Int.natAbs_tmod a b
  by_cases ha : a < 0
  · have h1 : a.tmod b = - (-a).tmod b := by rw [Int.neg_tmod]; omega
    have h2 := Int.tmod_nonneg b (a := -a) (by omega)
    rw [if_pos ha]; omega
  · have h2 := Int.tmod_nonneg b (a := a) (by omega)
    rw [if_neg ha]; omega

theorem i6_abs {a : Int} (h : i6 a) : a.natAbs < 18446744073709551616 := by unfold i6 at h; omega

end Go.Proofs.YtpdohdmpjaklgaaDoor

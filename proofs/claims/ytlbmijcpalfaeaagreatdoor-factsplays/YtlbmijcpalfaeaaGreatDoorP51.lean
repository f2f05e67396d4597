/-
  ArRf, ArPl, ArIn, FpA, FkP, FpT, FpP, FpQ, FkR, RuAp, FpC, FkG, EwLt, FaLw, FkS, FkC, FkT, FkV, FpL, PgF, PgG, FpW, EwTb, FactsplaysK.
-/
import Derived.Test.YtlbmijcpalfaeaaGreatDoorCards
import Derived.Test.YtlbmijcpalfaeaaGreatDoorTie
import Derived.Test.YtlbmijcpalfaeaaGreatDoorP46
import Derived.Test.YtlbmijcpalfaeaaGreatDoorP50
import GoSem.ClaimSeven
import Derived.LaidByTextLater
import Derived.SevenTiedAt
import Derived.LaidSub
import Derived.LaidOnce
import Derived.Laws.Bits64
import Derived.Laws.StructEq
import Derived.Laws.Rows
import Derived.Lib.LaidTab
import Derived.WideKeyArgs
set_option linter.unusedSimpArgs false
set_option linter.unusedVariables false
namespace Go.Proofs.YtlbmijcpalfaeaaGreatDoor
open Go.RowKit Go.Lib

/-- One more than an int that a slot holds. -/
def iOf : Value → Nat
  | .int _ n => (n + 1).toNat
  | _ => 0

theorem size_any (a : Int) (w : World) (ha : i6 a) :
    Calls Tryz.prog 83 #[.int .i64 a] w fun e w' => e = .returned (.int .u64 (a.natAbs : Int)) ∧ w' = w := by
  unfold i6 at ha
  go_enter Tryz.func83, Tryz.ntmps83
  go_wp2
  all_goals
    go_ret
    refine ⟨retI ?_, by first | rfl | trivial⟩
    try simp only [IntKind.wrap_u64]
    omega

theorem signed_any (n : Nat) (m : Bool) (w : World) (hn : n < 18446744073709551616) :
    Calls Tryz.prog 84 #[.int .u64 (n : Int), .bool m] w fun e w' => e = .returned (.int .i64 (wrap64 (if m then -(n : Int) else n))) ∧ w' = w := by
  obtain ⟨r, hr⟩ : ∃ r, wrap64 (if m then -(n : Int) else n) = r := ⟨_, rfl⟩
  have HR : Hid (wrap64 (if m then -(n : Int) else n) = r) := hr
  rw [hr]
  clear hr
  cases m
  all_goals
    go_enter Tryz.func84, Tryz.ntmps84
    go_wp2
    go_ret
    have hR := HR.out
    simp only [Bool.false_eq_true, if_false, if_true] at hR
    refine ⟨retI ?_, by first | rfl | trivial⟩
    first
    | exact hR
    | (rw [← hR]
       simp only [IntKind.wrap_u64, w6_def]
       omega)

theorem yes_any (b : Bool) (w : World) :
    Calls Tryz.prog 87 #[.bool b] w fun e w' => e = .returned (.int .i64 (if b then 1 else 0)) ∧ w' = w := by
  cases b
  all_goals
    go_enter Tryz.func87, Tryz.ntmps87
    go_wp2
    go_ret
    exact ⟨rfl, by first | rfl | trivial⟩

theorem dv_step (A B j : Nat) (hA : A < 18446744073709551616) (hB : 0 < B) (hB2 : B < 18446744073709551616) (q r x : Nat) (hq : q = A / 2 ^ (j + 1) / B) (hr : r = A / 2 ^ (j + 1) % B) (hx : x = A / 2 ^ j) :
    r < B ∧ q * 2 + 1 < 18446744073709551616 + 1 ∧ (B ≤ r * 2 + x % 2 → A / 2 ^ j / B = q * 2 + 1 ∧ A / 2 ^ j % B = r * 2 + x % 2 - B) ∧ (¬ B ≤ r * 2 + x % 2 → A / 2 ^ j / B = q * 2 ∧ A / 2 ^ j % B = r * 2 + x % 2) := by
  have h1 : A / 2 ^ (j + 1) = x / 2 := by rw [hx, Nat.div_div_eq_div_mul, Nat.pow_succ]
  rw [h1] at hq hr
  have hrB : r < B := by rw [hr]; exact Nat.mod_lt _ hB
  have hd := Nat.div_add_mod (x / 2) B
  rw [← hq, ← hr] at hd
  have hx2 : x = B * (q * 2) + (r * 2 + x % 2) := by
    have e : B * (q * 2) = 2 * (B * q) := by rw [← Nat.mul_assoc, Nat.mul_comm]
    rw [e]; omega
  have hxA : x ≤ A := by rw [hx]; exact Nat.div_le_self _ _
  have hqx : q ≤ x / 2 := by rw [hq]; exact Nat.div_le_self _ _
  refine ⟨hrB, by omega, fun h => ?_, fun h => ?_⟩
  · rw [← hx]
    have e : x = (r * 2 + x % 2 - B) + B * (q * 2 + 1) := by
      rw [Nat.mul_add, Nat.mul_one]; omega
    have hl : r * 2 + x % 2 - B < B := by omega
    constructor
    · conv => lhs; rw [e]
      rw [Nat.add_mul_div_left _ _ hB, Nat.div_eq_of_lt hl]; omega
    · conv => lhs; rw [e]
      rw [Nat.add_mul_mod_self_left, Nat.mod_eq_of_lt hl]
  · rw [← hx]
    have e : x = (r * 2 + x % 2) + B * (q * 2) := by omega
    have hl : r * 2 + x % 2 < B := by omega
    constructor
    · conv => lhs; rw [e]
      rw [Nat.add_mul_div_left _ _ hB, Nat.div_eq_of_lt hl]; omega
    · conv => lhs; rw [e]
      rw [Nat.add_mul_mod_self_left, Nat.mod_eq_of_lt hl]

set_option maxRecDepth 100000 in
set_option maxHeartbeats 4000000 in
theorem divide_any (A B : Nat) (w : World) (hA : A < 18446744073709551616) (hB : 0 < B) (hB2 : B < 18446744073709551616) :
    Calls Tryz.prog 82 #[.int .u64 (A : Int), .int .u64 (B : Int)] w fun e w' => e = .returned (.tuple #[.int .u64 ((A / B : Nat) : Int), .int .u64 ((A % B : Nat) : Int)]) ∧ w' = w := by
  go_enter Tryz.func82, Tryz.ntmps82
  go_wp2
  go_loopw [6, 7, 8] (fun q r i w' => w' = w ∧ ∃ j : Nat, j ≤ 64 ∧ i = .int .i64 ((j : Int) - 1) ∧ q = .int .u64 ((A / 2 ^ j / B : Nat) : Int) ∧ r = .int .u64 ((A / 2 ^ j % B : Nat) : Int)) (fun _ _ i _ => iOf i)
  case atStart =>
    refine ⟨rfl, 64, by omega, rfl, ?_, ?_⟩
    · have : A / 2 ^ 64 = 0 := Nat.div_eq_of_lt (by omega)
      rw [this]; simp
    · have : A / 2 ^ 64 = 0 := Nat.div_eq_of_lt (by omega)
      rw [this]; simp
  case round =>
    obtain ⟨rfl, j, hj, rfl, rfl, rfl⟩ := hrel
    cases j with
    | zero =>
      have e0 : A / 2 ^ 0 = A := by simp
      rw [e0]
      go_wp2
      go_ret2
      exact ⟨rfl, by first | rfl | trivial⟩
    | succ j =>
      obtain ⟨q, hq⟩ : ∃ q, q = A / 2 ^ (j + 1) / B := ⟨_, rfl⟩
      obtain ⟨r, hr⟩ : ∃ r, r = A / 2 ^ (j + 1) % B := ⟨_, rfl⟩
      obtain ⟨x, hx⟩ : ∃ x, x = A / 2 ^ j := ⟨_, rfl⟩
      have hd := dv_step A B j hA hB hB2 q r x hq hr hx
      have HX : Hid (((A : Int) / 2 ^ j).tmod 2 = ((x % 2 : Nat) : Int)) := by
        show ((A : Int) / 2 ^ j).tmod 2 = ((x % 2 : Nat) : Int)
        have e : ((A : Int) / 2 ^ j) = (x : Int) := by rw [hx]; simp
        rw [e, Int.tmod_eq_emod_of_nonneg (by omega)]; omega
      rw [← hq, ← hr]
      have HD : Hid (r < B ∧ q * 2 + 1 < 18446744073709551616 + 1 ∧ (B ≤ r * 2 + x % 2 → A / 2 ^ j / B = q * 2 + 1 ∧ A / 2 ^ j % B = r * 2 + x % 2 - B) ∧ (¬ B ≤ r * 2 + x % 2 → A / 2 ^ j / B = q * 2 ∧ A / 2 ^ j % B = r * 2 + x % 2)) := hd
      have hji : (((j + 1 : Nat) : Int) - 1) = (j : Int) := by omega
      rw [hji]
      have hj63 : j < 64 := by omega
      clear hq hr hx hd hji
      go_wp2
      all_goals
        have hD := HD.out
        have eX := HX.out
        clear HD HX
        obtain ⟨hD1, hD2, hD3, hD4⟩ := hD
        simp only [eX, IntKind.wrap_u64, beq_iff_eq, beq_eq_false_iff_ne, ne_eq] at *
        by_cases hB' : B ≤ r * 2 + x % 2
        · obtain ⟨f1, f2⟩ := hD3 hB'
          refine ⟨⟨trivial, j, by omega, rfl, congrArg (Value.int .u64) ?_, congrArg (Value.int .u64) ?_⟩, by simp only [iOf]; omega⟩
          · rw [f1]; omega
          · rw [f2]; omega
        · obtain ⟨f1, f2⟩ := hD4 hB'
          refine ⟨⟨trivial, j, by omega, rfl, congrArg (Value.int .u64) ?_, congrArg (Value.int .u64) ?_⟩, by simp only [iOf]; omega⟩
          · rw [f1]; omega
          · rw [f2]; omega

set_option maxHeartbeats 4000000 in
theorem doubled_any (a : Int) (n : Nat) (w : World) (ha : i6 a) (hn : n < 64) :
    Calls Tryz.prog 85 #[.int .i64 a, .int .i64 (n : Int)] w fun e w' => e = .returned (.int .i64 (wrap64 (a * 2 ^ n))) ∧ w' = w := by
  have h0 : wrap64 (a * 2 ^ 0) = a := by simp; exact w6_id ha
  have HS : Hid (∀ i : Nat, wrap64 (wrap64 (a * 2 ^ i) + wrap64 (a * 2 ^ i)) = wrap64 (a * 2 ^ (i + 1))) := fun i => by
    refine b6_inj (w6_in _) (w6_in _) ?_
    have e : a * 2 ^ (i + 1) = a * 2 ^ i + a * 2 ^ i := by rw [Int.pow_succ, ← Int.mul_assoc]; omega
    rw [e]
    simp only [b6_w6, b6_add]
  clear ha
  go_enter Tryz.func85, Tryz.ntmps85
  go_wp2
  go_loopw [0, 5] (fun x i w' => w' = w ∧ ∃ j : Nat, j ≤ n ∧ i = .int .i64 (j : Int) ∧ x = .int .i64 (wrap64 (a * 2 ^ j))) (fun _ i _ => n + 1 - iOf i)
  case atStart => exact ⟨rfl, 0, by omega, rfl, by rw [h0]⟩
  case round =>
    obtain ⟨rfl, j, hj, rfl, rfl⟩ := hrel
    have HJ := HS.out j
    obtain ⟨x, hx⟩ : ∃ x, wrap64 (a * 2 ^ j) = x := ⟨_, rfl⟩
    obtain ⟨y, hy⟩ : ∃ y, wrap64 (a * 2 ^ (j + 1)) = y := ⟨_, rfl⟩
    rw [hx, hy] at HJ
    have HY : Hid (wrap64 (a * 2 ^ (j + 1)) = y) := hy
    have HXX : Hid (wrap64 (a * 2 ^ j) = x) := hx
    rw [hx]
    clear h0 hx hy HS
    by_cases hjn : j < n
    · go_wp2
      exact ⟨⟨trivial, j + 1, by omega, by simp, by rw [HY.out, HJ]⟩, by simp only [iOf]; omega⟩
    · obtain rfl : j = n := by omega
      go_wp2
      go_ret
      exact ⟨retI HXX.out.symm, by first | rfl | trivial⟩

theorem half_step (x : Int) (hx : i6 x) : (x.tmod 2 = -1 → wrap64 ((wrap64 (x - 1)).tdiv 2) = x / 2) ∧ (x.tmod 2 ≠ -1 → x.tdiv 2 = x / 2) := by
  unfold i6 at hx
  have hm : x.tmod 2 = -1 ↔ x < 0 ∧ x % 2 = 1 := by
    by_cases h : 0 ≤ x
    · rw [Int.tmod_eq_emod_of_nonneg h]; omega
    · have : x.tmod 2 = - ((-x) % 2) := by rw [← Int.tmod_eq_emod_of_nonneg (by omega), Int.neg_tmod]; omega
      omega
  have hd : ∀ y : Int, y.tdiv 2 = if 0 ≤ y then y / 2 else - ((-y) / 2) := by
    intro y
    split
    · rename_i h; rw [Int.tdiv_eq_ediv_of_nonneg h]
    · rename_i h; rw [← Int.tdiv_eq_ediv_of_nonneg (by omega), Int.neg_tdiv]; omega
  constructor
  · intro h
    have h' := hm.1 h
    have e1 : wrap64 (x - 1) = x - 1 := w6_id (by unfold i6; omega)
    rw [e1, hd (x - 1), if_neg (by omega), w6_id (by unfold i6; omega)]
    omega
  · intro h
    have h' : ¬ (x < 0 ∧ x % 2 = 1) := fun c => h (hm.2 c)
    rw [hd x]
    split <;> omega

set_option maxHeartbeats 4000000 in
theorem halved_any (a : Int) (n : Nat) (w : World) (ha : i6 a) (hn : n < 64) :
    Calls Tryz.prog 86 #[.int .i64 a, .int .i64 (n : Int)] w fun e w' => e = .returned (.int .i64 (a / 2 ^ n)) ∧ w' = w := by
  have HI : Hid (∀ i : Nat, i6 (a / 2 ^ i)) := fun i => ediv_in i ha
  have HS : Hid (∀ i : Nat, a / 2 ^ i / 2 = a / 2 ^ (i + 1)) := fun i => by
    rw [Int.pow_succ, Int.ediv_ediv_of_nonneg (Int.le_of_lt (Int.pow_pos (by decide)))]
  clear ha
  go_enter Tryz.func86, Tryz.ntmps86
  go_wp2
  go_loopw [0, 5] (fun x i w' => w' = w ∧ ∃ j : Nat, j ≤ n ∧ i = .int .i64 (j : Int) ∧ x = .int .i64 (a / 2 ^ j)) (fun _ i _ => n + 1 - iOf i)
  case atStart => exact ⟨rfl, 0, by omega, rfl, by simp⟩
  case round =>
    obtain ⟨rfl, j, hj, rfl, rfl⟩ := hrel
    have HJ := HS.out j
    have hi := HI.out j
    obtain ⟨x, hx⟩ : ∃ x, a / 2 ^ j = x := ⟨_, rfl⟩
    obtain ⟨y, hy⟩ : ∃ y, a / 2 ^ (j + 1) = y := ⟨_, rfl⟩
    rw [hx, hy] at HJ
    rw [hx] at hi
    have hst := half_step x hi
    rw [HJ] at hst
    have hi' := hi
    unfold i6 at hi'
    have HY : Hid (a / 2 ^ (j + 1) = y) := hy
    have HXX : Hid (a / 2 ^ j = x) := hx
    have HST : Hid ((x.tmod 2 = -1 → wrap64 ((wrap64 (x - 1)).tdiv 2) = y) ∧ (x.tmod 2 ≠ -1 → x.tdiv 2 = y)) := hst
    rw [hx]
    clear hx hy HS HI hi HJ hst
    by_cases hjn : j < n
    · go_wp2
      all_goals
        simp only [beq_iff_eq, beq_eq_false_iff_ne, ne_eq] at *
        first
        | exact ⟨⟨trivial, j + 1, by omega, by simp, by rw [HY.out, HST.out.1 (by assumption)]⟩, by simp only [iOf]; omega⟩
        | exact ⟨⟨trivial, j + 1, by omega, by simp, by rw [HY.out, HST.out.2 (by assumption)]⟩, by simp only [iOf]; omega⟩
    · obtain rfl : j = n := by omega
      go_wp2
      go_ret
      exact ⟨retI HXX.out.symm, by first | rfl | trivial⟩

theorem tdiv_abs (a b : Int) (hb : b ≠ 0) : a.tdiv b = if (decide (a < 0) != decide (b < 0)) = true then -((a.natAbs / b.natAbs : Nat) : Int) else ((a.natAbs / b.natAbs : Nat) : Int) := by
  by_cases ha : a < 0 <;> by_cases h : b < 0
  · have e := Int.neg_tdiv_neg (a := a) (b := b)
    rw [← e, Int.tdiv_eq_ediv_of_nonneg (by omega)]
    have e1 : -a = (a.natAbs : Int) := by omega
    have e2 : -b = (b.natAbs : Int) := by omega
    rw [e1, e2]; simp [ha, h]
  · have e : a.tdiv b = -((-a).tdiv b) := by rw [Int.neg_tdiv]; omega
    rw [e, Int.tdiv_eq_ediv_of_nonneg (by omega)]
    have e1 : -a = (a.natAbs : Int) := by omega
    have e2 : b = (b.natAbs : Int) := by omega
    conv => lhs; rw [e1, e2]
    simp [ha, h]
  · have e : a.tdiv b = -(a.tdiv (-b)) := by rw [Int.tdiv_neg]; omega
    rw [e, Int.tdiv_eq_ediv_of_nonneg (by omega)]
    have e1 : a = (a.natAbs : Int) := by omega
    have e2 : -b = (b.natAbs : Int) := by omega
    conv => lhs; rw [e2, e1]
    simp [ha, h]
  · rw [Int.tdiv_eq_ediv_of_nonneg (by omega)]
    have e1 : a = (a.natAbs : Int) := by omega
    have e2 : b = (b.natAbs : Int) := by omega
    conv => lhs; rw [e1, e2]
    simp [ha, h]
theorem tmod_abs (a b : Int) : a.tmod b = if a < 0 then -((a.natAbs % b.natAbs : Nat) : Int) else ((a.natAbs % b.natAbs : Nat) : Int) := by
  have h := Int.natAbs_tmod a b
  by_cases ha : a < 0
  · have h1 : a.tmod b = - (-a).tmod b := by rw [Int.neg_tmod]; omega
    have h2 := Int.tmod_nonneg b (a := -a) (by omega)
    rw [if_pos ha]; omega
  · have h2 := Int.tmod_nonneg b (a := a) (by omega)
    rw [if_neg ha]; omega

theorem i6_abs {a : Int} (h : i6 a) : a.natAbs < 18446744073709551616 := by unfold i6 at h; omega

set_option maxRecDepth 100000 in
set_option maxHeartbeats 4000000 in
theorem two_any (op a b : Int) (w : World) (ha : i6 a) (hb : i6 b) (ho : 5 ≤ op ∧ op ≤ 16) (hz : (op = 8 ∨ op = 9) → b ≠ 0) :
    Calls Tryz.prog 60 #[.int .i64 op, .int .i64 a, .int .i64 b] w fun e w' => e = .returned (.int .i64 (ap2 op a b)) ∧ w' = w := by
  have hcs : op = 5 ∨ op = 6 ∨ op = 7 ∨ op = 8 ∨ op = 9 ∨ op = 10 ∨ op = 11 ∨ op = 12 ∨ op = 13 ∨ op = 14 ∨ op = 15 ∨ op = 16 := by omega
  clear ho
  rcases hcs with rfl | rfl | rfl | rfl | rfl | rfl | rfl | rfl | rfl | rfl | rfl | rfl
  iterate 3
    · go_enter Tryz.func60, Tryz.ntmps60
      go_wp2
      go_ret
      exact ⟨retI (by simp [ap2]), by first | rfl | trivial⟩
  · have hb0 := hz (.inl rfl)
    have cs : Hid (∀ x W, i6 x → Calls Tryz.prog 83 #[.int .i64 x] W fun e w' => e = .returned (.int .u64 (x.natAbs : Int)) ∧ w' = W) := fun x W hx => size_any x W hx
    have hqi : a.natAbs / b.natAbs < 18446744073709551616 := Nat.lt_of_le_of_lt (Nat.div_le_self _ _) (i6_abs ha)
    have cd : Hid (∀ W, Calls Tryz.prog 82 #[.int .u64 (a.natAbs : Int), .int .u64 (b.natAbs : Int)] W fun e w' => e = .returned (.tuple #[.int .u64 ((a.natAbs / b.natAbs : Nat) : Int), .int .u64 ((a.natAbs % b.natAbs : Nat) : Int)]) ∧ w' = W) := fun W => divide_any a.natAbs b.natAbs W (i6_abs ha) (by omega) (i6_abs hb)
    have e8 : ap2 8 a b = wrap64 (if (decide (a < 0) != decide (b < 0)) = true then -((a.natAbs / b.natAbs : Nat) : Int) else ((a.natAbs / b.natAbs : Nat) : Int)) := by
      have : ap2 8 a b = wrap64 (a.tdiv b) := by simp [ap2]
      rw [this, tdiv_abs a b hb0]
    generalize ap2 8 a b = R at *
    have cg : Hid (∀ W, Calls Tryz.prog 84 #[.int .u64 ((a.natAbs / b.natAbs : Nat) : Int), .bool (decide (a < 0) != decide (b < 0))] W fun e w' => e = .returned (.int .i64 R) ∧ w' = W) := fun W => by
      have := signed_any (a.natAbs / b.natAbs) (decide (a < 0) != decide (b < 0)) W hqi
      rw [← e8] at this
      exact this
    have HA : Hid (i6 a) := ha
    have HB : Hid (i6 b) := hb
    obtain ⟨A, hA⟩ : ∃ A, a.natAbs = A := ⟨_, rfl⟩
    obtain ⟨B, hB⟩ : ∃ B, b.natAbs = B := ⟨_, rfl⟩
    rw [hA, hB] at cd cg
    have csa : Hid (∀ W, Calls Tryz.prog 83 #[.int .i64 a] W fun e w' => e = .returned (.int .u64 (A : Int)) ∧ w' = W) := fun W => by
      have := cs.out a W ha; rw [hA] at this; exact this
    have csb : Hid (∀ W, Calls Tryz.prog 83 #[.int .i64 b] W fun e w' => e = .returned (.int .u64 (B : Int)) ∧ w' = W) := fun W => by
      have := cs.out b W hb; rw [hB] at this; exact this
    generalize A / B = Q at *
    generalize A % B = M at *
    clear hA hB e8 hqi cs ha hb hb0 hz
    go_enter Tryz.func60, Tryz.ntmps60
    go_wp2_with (first | (go_at_call_of 83 (Value.int .i64 a); refine (csa.out _).mono ?_; rintro e w2 ⟨rfl, hw⟩; obtain rfl := hw.symm) | (go_at_call_of 83 (Value.int .i64 b); refine (csb.out _).mono ?_; rintro e w2 ⟨rfl, hw⟩; obtain rfl := hw.symm) | (go_at_call 82; refine (cd.out _).mono ?_; rintro e w2 ⟨rfl, hw⟩; obtain rfl := hw.symm) | (go_at_call 84; refine (cg.out _).mono ?_; rintro e w2 ⟨rfl, hw⟩; obtain rfl := hw.symm))
    go_ret
    exact ⟨rfl, by first | rfl | trivial⟩
  · have hb0 := hz (.inr rfl)
    have cs : Hid (∀ x W, i6 x → Calls Tryz.prog 83 #[.int .i64 x] W fun e w' => e = .returned (.int .u64 (x.natAbs : Int)) ∧ w' = W) := fun x W hx => size_any x W hx
    have hqi : a.natAbs % b.natAbs < 18446744073709551616 := Nat.lt_of_le_of_lt (Nat.mod_le _ _) (i6_abs ha)
    have cd : Hid (∀ W, Calls Tryz.prog 82 #[.int .u64 (a.natAbs : Int), .int .u64 (b.natAbs : Int)] W fun e w' => e = .returned (.tuple #[.int .u64 ((a.natAbs / b.natAbs : Nat) : Int), .int .u64 ((a.natAbs % b.natAbs : Nat) : Int)]) ∧ w' = W) := fun W => divide_any a.natAbs b.natAbs W (i6_abs ha) (by omega) (i6_abs hb)
    have e8 : ap2 9 a b = wrap64 (if decide (a < 0) = true then -((a.natAbs % b.natAbs : Nat) : Int) else ((a.natAbs % b.natAbs : Nat) : Int)) := by
      have : ap2 9 a b = a.tmod b := by simp [ap2]
      rw [this]
      have h2 := tmod_abs a b
      have h3 := tmod_in b ha
      simp only [decide_eq_true_eq]
      rw [← h2, w6_id h3]
    generalize ap2 9 a b = R at *
    have cg : Hid (∀ W, Calls Tryz.prog 84 #[.int .u64 ((a.natAbs % b.natAbs : Nat) : Int), .bool (decide (a < 0))] W fun e w' => e = .returned (.int .i64 R) ∧ w' = W) := fun W => by
      have := signed_any (a.natAbs % b.natAbs) (decide (a < 0)) W hqi
      rw [← e8] at this
      exact this
    have HA : Hid (i6 a) := ha
    have HB : Hid (i6 b) := hb
    obtain ⟨A, hA⟩ : ∃ A, a.natAbs = A := ⟨_, rfl⟩
    obtain ⟨B, hB⟩ : ∃ B, b.natAbs = B := ⟨_, rfl⟩
    rw [hA, hB] at cd cg
    have csa : Hid (∀ W, Calls Tryz.prog 83 #[.int .i64 a] W fun e w' => e = .returned (.int .u64 (A : Int)) ∧ w' = W) := fun W => by
      have := cs.out a W ha; rw [hA] at this; exact this
    have csb : Hid (∀ W, Calls Tryz.prog 83 #[.int .i64 b] W fun e w' => e = .returned (.int .u64 (B : Int)) ∧ w' = W) := fun W => by
      have := cs.out b W hb; rw [hB] at this; exact this
    generalize A / B = Q at *
    generalize A % B = M at *
    clear hA hB e8 hqi cs ha hb hb0 hz
    go_enter Tryz.func60, Tryz.ntmps60
    go_wp2_with (first | (go_at_call_of 83 (Value.int .i64 a); refine (csa.out _).mono ?_; rintro e w2 ⟨rfl, hw⟩; obtain rfl := hw.symm) | (go_at_call_of 83 (Value.int .i64 b); refine (csb.out _).mono ?_; rintro e w2 ⟨rfl, hw⟩; obtain rfl := hw.symm) | (go_at_call 82; refine (cd.out _).mono ?_; rintro e w2 ⟨rfl, hw⟩; obtain rfl := hw.symm) | (go_at_call 84; refine (cg.out _).mono ?_; rintro e w2 ⟨rfl, hw⟩; obtain rfl := hw.symm))
    go_ret
    exact ⟨rfl, by first | rfl | trivial⟩
  iterate 3
    · go_enter Tryz.func60, Tryz.ntmps60
      go_wp2
      go_ret
      exact ⟨retI (by simp [ap2]), by first | rfl | trivial⟩
  · have hby := by6_in b
    obtain ⟨k, hk⟩ : ∃ k : Nat, bits .and .i64 b 63 = (k : Int) := ⟨(by6 b).toNat, by have : bits .and .i64 b 63 = by6 b := rfl; omega⟩
    have hk' : by6 b = (k : Int) := hk
    have e : ap2 13 a b = wrap64 (a * 2 ^ k) := by simp [ap2, hk']
    rw [e]
    have cd : Hid (∀ W, Calls Tryz.prog 85 #[.int .i64 a, .int .i64 (k : Int)] W fun e w' => e = .returned (.int .i64 (wrap64 (a * 2 ^ k))) ∧ w' = W) := fun W => doubled_any a k W ha (by omega)
    generalize wrap64 (a * 2 ^ k) = R at *
    clear hby hk' e ha hb hz
    go_enter Tryz.func60, Tryz.ntmps60
    go_wp2_with (go_at_call 85; refine (cd.out _).mono ?_; rintro e w2 ⟨rfl, hw⟩; obtain rfl := hw.symm)
    go_ret
    exact ⟨rfl, by first | rfl | trivial⟩
  · have hby := by6_in b
    obtain ⟨k, hk⟩ : ∃ k : Nat, bits .and .i64 b 63 = (k : Int) := ⟨(by6 b).toNat, by have : bits .and .i64 b 63 = by6 b := rfl; omega⟩
    have hk' : by6 b = (k : Int) := hk
    have e : ap2 14 a b = a / 2 ^ k := by simp [ap2, hk']
    rw [e]
    have cd : Hid (∀ W, Calls Tryz.prog 86 #[.int .i64 a, .int .i64 (k : Int)] W fun e w' => e = .returned (.int .i64 (a / 2 ^ k)) ∧ w' = W) := fun W => halved_any a k W ha (by omega)
    generalize a / 2 ^ k = R at *
    clear hby hk' e ha hb hz
    go_enter Tryz.func60, Tryz.ntmps60
    go_wp2_with (go_at_call 86; refine (cd.out _).mono ?_; rintro e w2 ⟨rfl, hw⟩; obtain rfl := hw.symm)
    go_ret
    exact ⟨rfl, by first | rfl | trivial⟩
  · have e : ap2 15 a b = if (a == b) = true then 1 else 0 := by simp [ap2]
    rw [e]
    have cd : Hid (∀ W, Calls Tryz.prog 87 #[.bool (a == b)] W fun e w' => e = .returned (.int .i64 (if (a == b) = true then 1 else 0)) ∧ w' = W) := fun W => yes_any (a == b) W
    obtain ⟨R, hR⟩ : ∃ R : Int, (if (a == b) = true then 1 else 0) = R := ⟨_, rfl⟩
    rw [hR] at cd ⊢
    clear e ha hb hz hR
    go_enter Tryz.func60, Tryz.ntmps60
    go_wp2_with (go_at_call 87; refine (cd.out _).mono ?_; rintro e w2 ⟨rfl, hw⟩; obtain rfl := hw.symm)
    go_ret
    exact ⟨rfl, by first | rfl | trivial⟩
  · have e : ap2 16 a b = if decide (a < b) = true then 1 else 0 := by simp [ap2]
    rw [e]
    have cd : Hid (∀ W, Calls Tryz.prog 87 #[.bool (decide (a < b))] W fun e w' => e = .returned (.int .i64 (if decide (a < b) = true then 1 else 0)) ∧ w' = W) := fun W => yes_any (decide (a < b)) W
    obtain ⟨R, hR⟩ : ∃ R : Int, (if decide (a < b) = true then 1 else 0) = R := ⟨_, rfl⟩
    rw [hR] at cd ⊢
    clear e ha hb hz hR
    go_enter Tryz.func60, Tryz.ntmps60
    go_wp2_with (go_at_call 87; refine (cd.out _).mono ?_; rintro e w2 ⟨rfl, hw⟩; obtain rfl := hw.symm)
    go_ret
    exact ⟨rfl, by first | rfl | trivial⟩

theorem refArityA_any (op : Int) (w : World) :
    Calls Tryz.prog 36 #[.int .i64 op] w fun e w' => e = .returned (.int .i64 (if op < 1 ∨ 17 < op then -1 else aaK op)) ∧ w' = w := by
  obtain ⟨R, hR⟩ : ∃ R : Int, (if op < 1 ∨ 17 < op then -1 else aaK op) = R := ⟨_, rfl⟩
  have HR : Hid ((if op < 1 ∨ 17 < op then -1 else aaK op) = R) := hR
  rw [hR]
  clear hR
  go_enter Tryz.func36, Tryz.ntmps36
  go_wp2
  all_goals
    go_ret
    have hR := HR.out
    simp only [beq_iff_eq, beq_eq_false_iff_ne, ne_eq] at *
    refine ⟨retI ?_, by first | rfl | trivial⟩
    rw [← hR]
    unfold aaK
    (repeat' split) <;> omega

/-- WHAT THE DOCUMENT's APPLY ANSWERS. -/
theorem refApply_bad (op : Int) (v : Value) (l : List Int) (w : World) (hA : Ags w v l) (h : (op < 3 ∨ 17 < op) ∨ (l.length : Int) ≠ aaK op) :
    Calls Tryz.prog 38 #[.int .i64 op, v] w fun e w' => e = .returned (.tuple #[.int .i64 0, .int .i64 2]) ∧ w' = w := by
  obtain ⟨R, hR⟩ : ∃ R : Int, (if op < 1 ∨ 17 < op then -1 else aaK op) = R := ⟨_, rfl⟩
  have ca : Hid (∀ W, Calls Tryz.prog 36 #[.int .i64 op] W fun e w' => e = .returned (.int .i64 R) ∧ w' = W) := fun W => by
    have := refArityA_any op W; rw [hR] at this; exact this
  have hc : R ≤ 0 ∨ R ≠ (l.length : Int) := by
    rw [← hR]
    by_cases h1 : op < 1 ∨ 17 < op
    · rw [if_pos h1]; left; omega
    · rw [if_neg h1]
      rcases h with h | h
      · left; unfold aaK; rw [if_neg (by omega), if_neg (by omega), if_neg (by omega)]; omega
      · right; exact fun c => h c.symm
  obtain ⟨a, c, rfl, _⟩ := hA
  generalize l.length = N at *
  have HC : Hid (R ≤ 0 ∨ R ≠ (N : Int)) := hc
  clear h hR hc
  go_enter Tryz.func38, Tryz.ntmps38
  by_cases h0 : R ≤ 0
  · go_wp2_with (go_at_call 36; refine (ca.out _).mono ?_; rintro e w2 ⟨rfl, hw⟩; obtain rfl := hw.symm)
    go_ret2
    exact ⟨rfl, by first | rfl | trivial⟩
  · have hn : (R != (N : Int)) = true := by have := HC.out; simp; omega
    have h0' : 0 < R := by omega
    clear h0
    go_wp2_with (go_at_call 36; refine (ca.out _).mono ?_; rintro e w2 ⟨rfl, hw⟩; obtain rfl := hw.symm)
    go_ret2
    exact ⟨rfl, by first | rfl | trivial⟩
end Go.Proofs.YtlbmijcpalfaeaaGreatDoor

set_option linter.unusedSimpArgs false
set_option linter.unusedVariables false
namespace Go.Proofs.YtlbmijcpalfaeaaGreatDoor
open Go.RowKit Go.Lib

set_option maxRecDepth 100000 in
set_option maxHeartbeats 4000000 in
theorem refApply_one (op : Int) (v : Value) (x : Int) (w : World) (hA : Ags w v [x]) (h : op = 3 ∨ op = 4) :
    Calls Tryz.prog 38 #[.int .i64 op, v] w fun e w' => e = .returned (.tuple #[.int .i64 (ap1 op x), .int .i64 0]) ∧ w' = w := by
  have ca : Hid (∀ W, Calls Tryz.prog 36 #[.int .i64 op] W fun e w' => e = .returned (.int .i64 1) ∧ w' = W) := fun W => by
    have := refArityA_any op W
    rw [if_neg (by omega), show aaK op = 1 by unfold aaK; rw [if_pos h] ] at this
    exact this
  obtain ⟨a, c, rfl, hx⟩ := hA
  obtain hx | ⟨b, o, rfl, hx⟩ := hx
  · simp at hx
  have h0 := hx 0 x rfl
  rw [Nat.add_zero] at h0
  simp only [List.length_cons, List.length_nil, Nat.zero_add]
  clear hx
  have e3 : ap1 3 x = wrap64 (-x) := by simp [ap1]
  have e4 : ap1 4 x = wrap64 (-1 - x) := by
    have : ap1 4 x = (~~~ B6 x).toInt := by simp [ap1, bits_not]
    rw [this]
    refine b6_inj (toInt_in _) (w6_in _) ?_
    have e1 : B6 (-1) = -1#64 := by decide
    rw [b6_toInt, b6_w6, b6_sub, e1]
    have e2 := BitVec.neg_eq_not_add (x := B6 x)
    have e3 : (-1#64) - B6 x = -(B6 x) - 1#64 := by rw [BitVec.sub_eq_add_neg, BitVec.sub_eq_add_neg, BitVec.add_comm]
    rw [e3, e2, BitVec.add_sub_cancel]
  rcases h with rfl | rfl
  · rw [e3]
    clear e3 e4
    go_enter Tryz.func38, Tryz.ntmps38
    go_wp2_with (go_at_call 36; refine (ca.out _).mono ?_; rintro e w2 ⟨rfl, hw⟩; obtain rfl := hw.symm)
    go_ret2
    exact ⟨retII (by simp) rfl, by first | rfl | trivial⟩
  · rw [e4]
    clear e3 e4
    go_enter Tryz.func38, Tryz.ntmps38
    go_wp2_with (go_at_call 36; refine (ca.out _).mono ?_; rintro e w2 ⟨rfl, hw⟩; obtain rfl := hw.symm)
    go_ret2
    exact ⟨retII (by simp) rfl, by first | rfl | trivial⟩

set_option maxRecDepth 100000 in
set_option maxHeartbeats 4000000 in
theorem refApply_three (v : Value) (x y z : Int) (w : World) (hA : Ags w v [x, y, z]) :
    Calls Tryz.prog 38 #[.int .i64 17, v] w fun e w' => e = .returned (.tuple #[.int .i64 (if x = 0 then z else y), .int .i64 0]) ∧ w' = w := by
  have ca : Hid (∀ W, Calls Tryz.prog 36 #[.int .i64 17] W fun e w' => e = .returned (.int .i64 3) ∧ w' = W) := fun W => refArityA_any 17 W
  obtain ⟨r, hr⟩ : ∃ r, (if x = 0 then z else y) = r := ⟨_, rfl⟩
  have HR : Hid ((if x = 0 then z else y) = r) := hr
  rw [hr]
  obtain ⟨a, c, rfl, hx⟩ := hA
  obtain hx | ⟨b, o, rfl, hx⟩ := hx
  · simp at hx
  have h0 := hx 0 x rfl
  have h1 := hx 1 y rfl
  have h2 := hx 2 z rfl
  rw [Nat.add_zero] at h0
  simp only [List.length_cons, List.length_nil, Nat.zero_add]
  clear hx hr
  go_enter Tryz.func38, Tryz.ntmps38
  go_wp2_with (go_at_call 36; refine (ca.out _).mono ?_; rintro e w2 ⟨rfl, hw⟩; obtain rfl := hw.symm)
  all_goals
    go_ret2
    have hR := HR.out
    refine ⟨retII ?_ rfl, by first | rfl | trivial⟩
    rw [← hR]
    simp_all

set_option maxRecDepth 100000 in
set_option maxHeartbeats 4000000 in
theorem refApply_two (op : Int) (v : Value) (x y : Int) (w : World) (hA : Ags w v [x, y]) (h : 5 ≤ op ∧ op ≤ 16) (hx6 : i6 x) (hy6 : i6 y) :
    Calls Tryz.prog 38 #[.int .i64 op, v] w fun e w' => e = .returned (.tuple #[.int .i64 (apR op [x, y]).1, .int .i64 (apR op [x, y]).2]) ∧ ∃ m, w' = w.drewN m := by
  have ca : Hid (∀ W, Calls Tryz.prog 36 #[.int .i64 op] W fun e w' => e = .returned (.int .i64 2) ∧ w' = W) := fun W => by
    have := refArityA_any op W
    rw [if_neg (by omega), show aaK op = 2 by unfold aaK; rw [if_neg (by omega), if_pos h] ] at this
    exact this
  obtain ⟨a, c, rfl, hx⟩ := hA
  obtain hx | ⟨b, o, rfl, hx⟩ := hx
  · simp at hx
  have h0 := hx 0 x rfl
  have h1 := hx 1 y rfl
  rw [Nat.add_zero] at h0
  simp only [List.length_cons, List.length_nil, Nat.zero_add]
  clear hx
  have g3 : (op == 3) = false := by rw [beq_eq_false_iff_ne]; omega
  have g4 : (op == 4) = false := by rw [beq_eq_false_iff_ne]; omega
  have g17 : (op == 17) = false := by rw [beq_eq_false_iff_ne]; omega
  by_cases hz : (op = 8 ∨ op = 9) ∧ y = 0
  · have e : apR op [x, y] = (0, 12) := by simp only [apR]; rw [if_pos h, if_pos hz]
    rw [e]
    obtain ⟨h89, rfl⟩ := hz
    clear hx6 hy6 h
    rcases h89 with rfl | rfl
    all_goals
      clear g3 g4 g17
      go_enter Tryz.func38, Tryz.ntmps38
      go_wp2_with (go_at_call 36; refine (ca.out _).mono ?_; rintro e w2 ⟨rfl, hw⟩; obtain rfl := hw.symm)
      go_ret2
      exact ⟨rfl, 0, rfl⟩
  · have e : apR op [x, y] = (ap2 op x y, 0) := by simp only [apR]; rw [if_pos h, if_neg hz]
    rw [e]
    have ct : Hid (∀ W, Calls Tryz.prog 60 #[.int .i64 op, .int .i64 x, .int .i64 y] W fun e w' => e = .returned (.int .i64 (ap2 op x y)) ∧ w' = W) := fun W => two_any op x y W hx6 hy6 h (fun h8 c => hz ⟨h8, c⟩)
    generalize ap2 op x y = R at *
    simp only
    have hzz : ((op == 8 || op == 9) && y == 0) = false := by
      rw [Bool.eq_false_iff]; intro c; apply hz; simpa using c
    by_cases h8 : op = 8 ∨ op = 9
    · have hy : (y == 0) = false := by rw [beq_eq_false_iff_ne]; intro c; exact hz ⟨h8, c⟩
      clear e hz hzz hx6 hy6 h
      rcases h8 with rfl | rfl
      all_goals
        clear g3 g4 g17
        go_enter Tryz.func38, Tryz.ntmps38
        go_wp2_with (go_at_call 36; refine (ca.out _).mono ?_; rintro e w2 ⟨rfl, hw⟩; obtain rfl := hw.symm)
        go_quiet ((go_at_call 60; exact Calls.quiet_of (Calls.same (ct.out _))))
        go_wp2
        go_ret2
        exact ⟨rfl, _, rfl⟩
    · have g8 : (op == 8) = false := by rw [beq_eq_false_iff_ne]; omega
      have g9 : (op == 9) = false := by rw [beq_eq_false_iff_ne]; omega
      clear e hz hzz hx6 hy6 h h8
      go_enter Tryz.func38, Tryz.ntmps38
      go_wp2_with (go_at_call 36; refine (ca.out _).mono ?_; rintro e w2 ⟨rfl, hw⟩; obtain rfl := hw.symm)
      go_quiet ((go_at_call 60; exact Calls.quiet_of (Calls.same (ct.out _))))
      go_wp2
      go_ret2
      exact ⟨rfl, _, rfl⟩

/-- WHAT THE DOCUMENT's APPLY ANSWERS. -/
theorem refApply_any (op : Int) (v : Value) (l : List Int) (w : World) (hA : Ags w v l) (hl : ∀ x ∈ l, i6 x) :
    Calls Tryz.prog 38 #[.int .i64 op, v] w fun e w' => e = .returned (.tuple #[.int .i64 (apR op l).1, .int .i64 (apR op l).2]) ∧ ∃ m, w' = w.drewN m := by
  by_cases hb : (op < 3 ∨ 17 < op) ∨ (l.length : Int) ≠ aaK op
  · have e : apR op l = (0, 2) := by
      unfold aaK at hb
      unfold apR
      split
      · rw [if_neg]; intro h; rw [if_pos h] at hb; simp at hb; omega
      · rw [if_neg]; intro h; rw [if_neg (by omega), if_pos h] at hb; simp at hb; omega
      · rw [if_neg]; intro h; rw [if_neg (by omega), if_neg (by omega), if_pos h] at hb; simp at hb; omega
      · rfl
    rw [e]; exact Calls.same (refApply_bad op v l w hA hb)
  have hr : ¬ (op < 3 ∨ 17 < op) := fun c => hb (.inl c)
  have hn : (l.length : Int) = aaK op := Decidable.byContradiction fun c => hb (.inr c)
  by_cases h34 : op = 3 ∨ op = 4
  · have e : aaK op = 1 := by unfold aaK; rw [if_pos (by omega)]
    rw [e] at hn
    match l, hn, hA with
    | [x], _, hA =>
      have e2 : apR op [x] = (ap1 op x, 0) := by simp only [apR]; rw [if_pos (by omega)]
      rw [e2]; exact Calls.same (refApply_one op v x w hA h34)
  by_cases h17 : op = 17
  · subst h17
    match l, hn, hA with
    | [x, y, z], _, hA => exact Calls.same (refApply_three v x y z w hA)
  · have e : aaK op = 2 := by unfold aaK; rw [if_neg (by omega), if_pos (by omega)]
    rw [e] at hn
    match l, hn, hA, hl with
    | [x, y], _, hA, hl => exact refApply_two op v x y w hA (by omega) (hl x (by simp)) (hl y (by simp))
end Go.Proofs.YtlbmijcpalfaeaaGreatDoor

set_option linter.unusedSimpArgs false
set_option linter.unusedVariables false
namespace Go.Proofs.YtlbmijcpalfaeaaGreatDoor

theorem apR_in {op : Int} {l : List Int} (hl : ∀ x ∈ l, i6 x) : i6 (apR op l).1 := by
  have z : i6 0 := by unfold i6; omega
  unfold apR
  split
  · split
    · exact ap1_in _ _
    · exact z
  · split
    · split
      · exact z
      · exact ap2_in (hl _ (by simp)) (hl _ (by simp))
    · exact z
  · split
    · split <;> exact hl _ (by simp)
    · exact z
  · exact z
end Go.Proofs.YtlbmijcpalfaeaaGreatDoor

set_option linter.unusedSimpArgs false
set_option linter.unusedVariables false
namespace Go.Proofs.YtlbmijcpalfaeaaGreatDoor
open Go.RowKit Go.Lib

set_option maxRecDepth 20000 in
set_option maxHeartbeats 4000000 in
theorem given_op (w : World) (op n : Int) (nm : ByteArray) (ka : Option Addr) (kc : Nat) (ks : List Int) (vl : Value) (fs : List Fc) (hK : Ints w w.heap.size (.slice ka ks.length kc) ks) (hF : FcS w vl fs) (hk : ∀ k ∈ ks, 0 ≤ k ∧ k < (fs.length : Int)) (hi6 : ∀ k, i6 (fAt fs k).n) (hk3 : ks.length ≤ 1000) (o1 : op ≠ 1) (o2 : op ≠ 2) :
    Calls Tryz.prog 26 #[.agg #[.int .i64 op, .int .i64 n, .string nm, .slice ka ks.length kc], vl] w fun e w' => e = .returned (.tuple #[.int .i64 (cnsF fs op ks).2, .bool (cnsF fs op ks).1]) ∧ Below w.heap.size w w' := by
  obtain ⟨i0, hi0, hz0, hz1, hz2⟩ := info_parts Tryz.infoL2'
  obtain ⟨w1, hw1⟩ : ∃ w1, w.alloc (.cells #[.int .i64 op, .int .i64 n, .string nm, .slice ka ks.length kc] 41) = w1 := ⟨_, rfl⟩
  have hb1 : Below w.heap.size w w1 := by rw [← hw1]; exact (Below.refl _ _).alloc (Nat.le_refl _) _
  have hs1 : w1.heap.size = w.heap.size + 1 := by rw [← hw1]; simp
  have hn1 : w1.heap[w.heap.size]? = some (.cells #[.int .i64 op, .int .i64 n, .string nm, .slice ka ks.length kc] 41 (0, 0)) := by rw [← hw1, Deep.blk_alloc_new]
  have HW1 := Sld.mk hw1
  have ALL : Sld (∀ W, Below w1.heap.size w1 W → Ints W W.heap.size (.slice ka ks.length kc) ks ∧ FcS W vl fs ∧ W.heap[w.heap.size]? = some (.cells #[.int .i64 op, .int .i64 n, .string nm, .slice ka ks.length kc] 41 (0, 0)) ∧ Below w.heap.size w W) := ⟨fun W hW => by
    have hbb := hb1.trans (hW.mono hb1.size)
    exact ⟨hK.below hbb hbb.size, hF.below hbb, (hW.block _ (lt_of_block hn1)).trans hn1, hbb⟩⟩
  have H6 := Sld.mk hi6
  have g1 : (op == 1) = false := by simp [o1]
  have g2 : (op == 2) = false := by simp [o2]
  obtain ⟨la, lc, hvl, hlc1, hlc2, _⟩ := id hF
  subst hvl
  unfold maxLen at hlc2
  obtain ⟨ao', cap', hve, hv1, ⟨hkm, _⟩, _⟩ := id hK
  simp only [Value.slice.injEq, true_and] at hve
  obtain ⟨rfl, rfl⟩ := hve
  unfold maxLen at hkm
  have hkcI : (ks.length : Int) ≤ (kc : Int) := by omega
  have hkmI : (kc : Int) ≤ 9223372036854775807 := by omega
  have HK : Sld (∀ k ∈ ks, 0 ≤ k ∧ k < (fs.length : Int)) := ⟨hk⟩
  have HST : Sld (∀ j, j < ks.length → (fAt fs (ks.getD j 0)).c = false → cnsF fs op ks = (false, 0)) := ⟨fun j hj h => cns_stop hj h⟩
  have HAL : Sld ((∀ k ∈ ks, (fAt fs k).c = true) → cnsF fs op ks = (decide ((apR op (ks.map fun k => (fAt fs k).n)).2 = 0), (apR op (ks.map fun k => (fAt fs k).n)).1)) := ⟨cns_all⟩
  obtain ⟨⟨R1, R2⟩, hR⟩ : ∃ R, cnsF fs op ks = R := ⟨_, rfl⟩
  rw [hR] at HST HAL ⊢
  simp only
  obtain ⟨y0, _, _, y3, _⟩ := blk4' hn1
  clear hw1 hb1 hn1 hK hF hR hk hi6 o1 o2
  go_enter Tryz.func26, Tryz.ntmps26
  go_wp2_with fail
  rw [HW1.out]
  go_loopw [6, 7] (fun v q wr => ∃ j : Nat, j ≤ ks.length ∧ q = .int .i64 j ∧ (∀ k ∈ ks.take j, (fAt fs k).c = true) ∧ wr.ownsRow w1.heap.size 2 1 v j (((ks.take j).map fun k => (fAt fs k).n).map (Value.int .i64)) ∧ Below w1.heap.size w1 wr) (fun _ q _ => ks.length - (RowKit.intOf q).toNat)
  case atStart => exact ⟨0, by omega, rfl, by simp, World.ownsRow_nil _ _ _ _, Below.refl _ _⟩
  case round =>
    obtain ⟨j, hj, rfl, hall, hown, hBr⟩ := hrel
    obtain ⟨gI, gF, gn, gB⟩ := ALL.out wr hBr
    obtain ⟨e0r, _, _, e3r, _⟩ := blk4' gn
    have HGB : Sld (Below w.heap.size w wr) := ⟨gB⟩
    have HBR : Sld (Below w1.heap.size w1 wr) := ⟨hBr⟩
    have hszr : w1.heap.size ≤ wr.heap.size := hBr.size
    have HALL : Sld (∀ k ∈ ks.take j, (fAt fs k).c = true) := ⟨hall⟩
    obtain ⟨va, vc, rfl⟩ := row_form' hown
    have HOWN : Sld (wr.ownsRow w1.heap.size 2 1 (.slice va j vc) j (((ks.take j).map fun k => (fAt fs k).n).map (Value.int .i64))) := ⟨hown⟩
    clear hBr hall hown gB gn
    by_cases hjl : j < ks.length
    · obtain ⟨kb, ko, rfl, hcj⟩ : ∃ b o, ka = some ⟨b, o, none⟩ ∧ wr.cell? ⟨b, o + j, none⟩ = some (.int .i64 (ks.getD j 0)) := by
        obtain ⟨ao2, cap2, hve, _, _, hc⟩ := gI
        simp only [Value.slice.injEq, true_and] at hve
        obtain ⟨rfl, rfl⟩ := hve
        rcases hc with hc | ⟨b, o, h1, _, h3⟩
        · rw [hc] at hjl; simp at hjl
        · exact ⟨b, o, h1, h3 j hjl⟩
      obtain ⟨hy0, hy1⟩ := HK.out (ks.getD j 0) (by simp [hjl])
      have HTK : Sld (ks.take (j + 1) = ks.take j ++ [ks.getD j 0]) := ⟨by
        rw [List.take_succ_eq_append_getElem hjl]; simp [hjl]⟩
      have hstop := HST.out j hjl
      have hjI : (j : Int) < (ks.length : Int) := by omega
      generalize ks.getD j 0 = y at *
      obtain ⟨y, rfl⟩ : ∃ z : Nat, y = (z : Int) := ⟨y.toNat, by omega⟩
      obtain ⟨gg, hla, gR⟩ : ∃ g, la = some ⟨g, 0, none⟩ ∧ FcR wr g fs := by
        obtain ⟨ao2, cap2, h1, _, _, h2⟩ := gF
        injection h1 with h1 _ _
        rcases h2 with h2 | ⟨g, h2, h3⟩
        · subst h2; simp at hy1; omega
        · exact ⟨g, h1.trans h2, h3⟩
      subst hla
      obtain ⟨f0, f1, f2⟩ := gR.at_ y (by omega)
      have hfa : fAt fs (y : Int) = fs.getD y fc0 := by unfold fAt; rw [Int.toNat_natCast]
      have HFA : Sld (fAt fs (y : Int) = fs.getD y fc0) := ⟨hfa⟩
      rw [hfa] at hstop
      obtain ⟨F, hF⟩ : ∃ F, fs.getD y fc0 = F := ⟨_, rfl⟩
      rw [hF] at f0 f1 f2 hstop HFA
      clear hF hfa gI gF gR
      obtain ⟨ft, fc, fn⟩ := F
      simp only at f0 f1 f2 hstop HFA
      have hyI : (y : Int) < (fs.length : Int) := by omega
      cases fc with
      | false =>
        obtain ⟨rfl, rfl⟩ := Prod.mk.inj (hstop rfl)
        clear hstop HST HAL
        go_wp2_with fail
        go_ret2
        exact ⟨rfl, HGB.out⟩
      | true =>
        clear hstop
        have hown2 := HOWN.out
        go_wp2_with (at_builtin; refine wpList_append_lies _ rfl (.tmp 35) (.tmp 45) 72 rfl w1.heap.size 2 i0 (.int .i64 0) 1 8 Tryz.underlying72 hi0 hz0 hz1 hz2 rfl (by decide) _ _ _ (by simp [Act.eval, Act.put]) (hown2.alloc _) ⟨wr.heap.size, 0, none⟩ 1 1 [.int .i64 fn] (by simp [Act.eval, Act.put]) rfl (cell_news_one wr _ _) (by simp [Value.oneCell']) (by omega) (by unfold maxLen; omega) (by omega) (by simp; omega) _ rfl ?_; intro g6 cap6 w8 hown6 hg6 hat6 hl6)
        have hB6 : Below w1.heap.size w1 w8 := by
          have b1 := HBR.out.trans (((Below.refl wr.heap.size wr).alloc (Nat.le_refl _) (.cells #[.int .i64 fn] 2)).mono (by omega))
          exact b1.grown hg6 (by rw [World.size_alloc]; omega) (fun j hj => by have := (own_block' hown2 j hj).1; omega)
        refine ⟨⟨j + 1, by omega, by go_num, ?_, ?_, hB6⟩, by simp [RowKit.intOf]; omega⟩
        · rw [HTK.out]
          intro k hk
          rcases List.mem_append.1 hk with hk | hk
          · exact HALL.out k hk
          · simp at hk; subst hk; rw [HFA.out]
        · rw [HTK.out, List.map_append, List.map_append]
          simp only [List.map_cons, List.map_nil, HFA.out]
          exact hown6
    · have hje : j = ks.length := by omega
      subst hje
      have hta : ks.take ks.length = ks := List.take_length
      have hal := HALL.out
      have how := HOWN.out
      rw [hta] at hal how
      obtain ⟨hR1, hR2⟩ := Prod.mk.inj (HAL.out hal)
      have hAg : Ags wr (.slice va ks.length vc) (ks.map fun k => (fAt fs k).n) := by
        refine ⟨va, vc, by rw [List.length_map], ?_⟩
        rcases how.2 with ⟨h0, h1⟩ | ⟨g, cp, cur, hve, _⟩
        · left; simp [List.length_eq_zero_iff.1 h1]
        · right
          have hva : va = some ⟨g, 0, none⟩ := by cases hve; rfl
          refine ⟨g, 0, hva, fun q x hq => ?_⟩
          have := how.cells (g := g) (by rw [hva]; rfl) q (.int .i64 x) (by rw [List.getElem?_map, hq]; rfl)
          have e0 : (⟨g, 0, none⟩ : Addr).add q = ⟨g, 0 + q, none⟩ := by rw [Go.WideShapes.add_plain]
          rw [e0] at this
          exact this
      have cA := refApply_any op _ _ wr hAg (by intro x hx; obtain ⟨k, _, rfl⟩ := List.mem_map.1 hx; exact H6.out k)
      clear how hAg HOWN hta hal HALL HST HAL gI gF
      generalize (ks.map fun k => (fAt fs k).n) = args at *
      generalize apR op args = R at *
      obtain ⟨r, er⟩ := R
      simp only at hR1 hR2 cA
      subst hR2
      have HR1 : Sld (R1 = decide (er = 0)) := ⟨hR1⟩
      have HCA : Sld (Calls Tryz.prog 38 #[.int .i64 op, .slice va ks.length vc] wr fun e w' => e = .returned (.tuple #[.int .i64 R2, .int .i64 er]) ∧ ∃ m, w' = wr.drewN m) := ⟨cA⟩
      clear cA hR1
      go_wp2_with fail
      refine HCA.out.mono ?_
      rintro e w' ⟨rfl, m, rfl⟩
      have HB2 : Sld (Below w.heap.size w (wr.drewN m)) := ⟨HGB.out.trans ⟨rfl, rfl, rfl, Nat.le_refl _, fun _ _ => rfl⟩⟩
      have hR1' : R1 = (er == 0) := by rw [HR1.out]; cases h : decide (er = 0) <;> simp_all
      subst hR1'
      clear HR1 HCA HGB HBR
      go_wp2_with fail
      go_ret2
      exact ⟨rfl, HB2.out⟩

set_option maxRecDepth 20000 in
set_option maxHeartbeats 4000000 in
theorem total_ref (w : World) (op n : Int) (nm : ByteArray) (ka : Option Addr) (kc : Nat) (ks : List Int) (vl : Value) (fs : List Fc) (hK : Ints w w.heap.size (.slice ka ks.length kc) ks) (hF : FcS w vl fs) (hk : ∀ k ∈ ks, 0 ≤ k ∧ k < (fs.length : Int)) (h2 : op = 8 ∨ op = 9 → 1 < ks.length) (hk3 : ks.length ≤ 1000) :
    Calls Tryz.prog 27 #[.agg #[.int .i64 op, .int .i64 n, .string nm, .slice ka ks.length kc], vl] w fun e w' => e = .returned (.bool (totF fs op ks)) ∧ Below w.heap.size w w' := by
  obtain ⟨w1, hw1⟩ : ∃ w1, w.alloc (.cells #[.int .i64 op, .int .i64 n, .string nm, .slice ka ks.length kc] 41) = w1 := ⟨_, rfl⟩
  have hb1 : Below w.heap.size w w1 := by rw [← hw1]; exact (Below.refl _ _).alloc (Nat.le_refl _) _
  have hs1 : w1.heap.size = w.heap.size + 1 := by rw [← hw1]; simp
  have hn1 : w1.heap[w.heap.size]? = some (.cells #[.int .i64 op, .int .i64 n, .string nm, .slice ka ks.length kc] 41 (0, 0)) := by
    rw [← hw1, Deep.blk_alloc_new]
  have HW1 : Sld (w.alloc (.cells #[.int .i64 op, .int .i64 n, .string nm, .slice ka ks.length kc] 41) = w1) := ⟨hw1⟩
  have ALL : Sld (Ints w1 w1.heap.size (.slice ka ks.length kc) ks ∧ FcS w1 vl fs) := ⟨hK.below hb1 hb1.size, hF.below hb1⟩
  have HB1 : Sld (Below w.heap.size w w1) := ⟨hb1⟩
  obtain ⟨ao', cap', hve, hv1, ⟨hkm, _⟩, _⟩ := id hK
  simp only [Value.slice.injEq, true_and] at hve
  obtain ⟨rfl, rfl⟩ := hve
  unfold maxLen at hkm
  obtain ⟨la, lc, hvl, hlc1, hlc2, _⟩ := id hF
  subst hvl
  unfold maxLen at hlc2
  have hkcI : (ks.length : Int) ≤ (kc : Int) := by omega
  have hkmI : (kc : Int) ≤ 9223372036854775807 := by omega
  have HK : Sld (∀ k ∈ ks, 0 ≤ k ∧ k < (fs.length : Int)) := ⟨hk⟩
  have HST : Sld (∀ j, j < ks.length → (fAt fs (ks.getD j 0)).t = false → totF fs op ks = false) := ⟨fun j hj h => tot_stop hj h⟩
  have HAL : Sld ((∀ k ∈ ks, (fAt fs k).t = true) → totF fs op ks = ((op != 8 && op != 9) || ((fAt fs (ks.getD 1 0)).c && (fAt fs (ks.getD 1 0)).n != 0))) := ⟨tot_all⟩
  have H2 : Sld (op = 8 ∨ op = 9 → 1 < ks.length) := ⟨h2⟩
  have KID : Sld (∀ j, j < ks.length → ∃ b o, ka = some ⟨b, o, none⟩ ∧ w1.cell? ⟨b, o + j, none⟩ = some (.int .i64 (ks.getD j 0))) := ⟨fun j hjl => by
    obtain ⟨ao2, cap2, hve, _, _, hc⟩ := ALL.out.1
    simp only [Value.slice.injEq, true_and] at hve
    obtain ⟨rfl, rfl⟩ := hve
    rcases hc with hc | ⟨b, o, h1, _, h3⟩
    · rw [hc] at hjl; simp at hjl
    · exact ⟨b, o, h1, h3 j hjl⟩⟩
  obtain ⟨R, hR⟩ : ∃ R, totF fs op ks = R := ⟨_, rfl⟩
  rw [hR] at HST HAL ⊢
  obtain ⟨y0, _, _, y3, _⟩ := blk4' hn1
  clear hw1 hb1 hn1 hK hF hR hk h2
  go_enter Tryz.func27, Tryz.ntmps27
  go_wp2_with fail
  rw [HW1.out]
  go_loopw [5] (fun q wr => ∃ j : Nat, j ≤ ks.length ∧ q = .int .i64 j ∧ (∀ k ∈ ks.take j, (fAt fs k).t = true) ∧ wr = w1) (fun q _ => ks.length - (RowKit.intOf q).toNat)
  case atStart => exact ⟨0, by omega, rfl, by simp, rfl⟩
  case round =>
    obtain ⟨j, hj, rfl, hall, rfl⟩ := hrel
    have HALL : Sld (∀ k ∈ ks.take j, (fAt fs k).t = true) := ⟨hall⟩
    clear hall
    by_cases hjl : j < ks.length
    · obtain ⟨kb, ko, rfl, hcj⟩ := KID.out j hjl
      obtain ⟨hy0, hy1⟩ := HK.out (ks.getD j 0) (by simp [hjl])
      have HTK : Sld (ks.take (j + 1) = ks.take j ++ [ks.getD j 0]) := ⟨by
        rw [List.take_succ_eq_append_getElem hjl]; simp [hjl]⟩
      have hstop := HST.out j hjl
      have hjI : (j : Int) < (ks.length : Int) := by omega
      generalize ks.getD j 0 = y at *
      obtain ⟨y, rfl⟩ : ∃ z : Nat, y = (z : Int) := ⟨y.toNat, by omega⟩
      obtain ⟨gg, hla, gR⟩ : ∃ g, la = some ⟨g, 0, none⟩ ∧ FcR wr g fs := by
        obtain ⟨ao2, cap2, h1, _, _, h2⟩ := ALL.out.2
        injection h1 with h1 _ _
        rcases h2 with h2 | ⟨g, h2, h3⟩
        · subst h2; simp at hy1; omega
        · exact ⟨g, h1.trans h2, h3⟩
      subst hla
      obtain ⟨f0, f1, f2⟩ := gR.at_ y (by omega)
      have hfa : fAt fs (y : Int) = fs.getD y fc0 := by unfold fAt; rw [Int.toNat_natCast]
      have HFA : Sld (fAt fs (y : Int) = fs.getD y fc0) := ⟨hfa⟩
      rw [hfa] at hstop
      obtain ⟨F, hF⟩ : ∃ F, fs.getD y fc0 = F := ⟨_, rfl⟩
      rw [hF] at f0 f1 f2 hstop HFA
      clear hF hfa
      obtain ⟨ft, fc, fn⟩ := F
      simp only at f0 f1 f2 hstop HFA
      have hyI : (y : Int) < (fs.length : Int) := by omega
      cases ft with
      | false =>
        obtain rfl := hstop rfl
        clear hstop HST HAL
        go_wp2_with fail
        go_ret
        exact ⟨rfl, HB1.out⟩
      | true =>
        clear hstop
        go_wp2_with fail
        refine ⟨⟨j + 1, by omega, by go_num, ?_, by first | rfl | trivial⟩, by simp [RowKit.intOf]; omega⟩
        rw [HTK.out]
        intro k hk
        rcases List.mem_append.1 hk with hk | hk
        · exact HALL.out k hk
        · simp at hk; subst hk; rw [HFA.out]
    · have hje : j = ks.length := by omega
      subst hje
      have hta : ks.take ks.length = ks := List.take_length
      have hal := HALL.out
      rw [hta] at hal
      have hR := HAL.out hal
      clear hal hta HALL HAL HST
      by_cases ho : op = 8 ∨ op = 9
      · have hl2 := H2.out ho
        obtain ⟨kb, ko, rfl, hcj⟩ := KID.out 1 hl2
        obtain ⟨hy0, hy1⟩ := HK.out (ks.getD 1 0) (by simp [hl2])
        have hl2I : (1 : Int) < (ks.length : Int) := by omega
        have g : (op != 8 && op != 9) = false := by simp; omega
        rw [g, Bool.false_or] at hR
        generalize ks.getD 1 0 = y at *
        obtain ⟨y, rfl⟩ : ∃ z : Nat, y = (z : Int) := ⟨y.toNat, by omega⟩
        obtain ⟨gg, hla, gR⟩ : ∃ g, la = some ⟨g, 0, none⟩ ∧ FcR wr g fs := by
          obtain ⟨ao2, cap2, h1, _, _, h2⟩ := ALL.out.2
          injection h1 with h1 _ _
          rcases h2 with h2 | ⟨g, h2, h3⟩
          · subst h2; simp at hy1; omega
          · exact ⟨g, h1.trans h2, h3⟩
        subst hla
        obtain ⟨f0, f1, f2⟩ := gR.at_ y (by omega)
        have hfa : fAt fs (y : Int) = fs.getD y fc0 := by unfold fAt; rw [Int.toNat_natCast]
        rw [hfa] at hR
        obtain ⟨F, hF⟩ : ∃ F, fs.getD y fc0 = F := ⟨_, rfl⟩
        rw [hF] at f0 f1 f2 hR
        obtain ⟨ft, fc, fn⟩ := F
        simp only at f0 f1 f2 hR
        have hyI : (y : Int) < (fs.length : Int) := by omega
        have HBA : Sld (∀ o, Below w.heap.size w (wr.alloc o)) := ⟨fun o => HB1.out.alloc HB1.out.size _⟩
        clear hF hfa g
        rcases ho with rfl | rfl
        all_goals
          cases fc
          all_goals
            simp only [Bool.false_and, Bool.true_and] at hR
            subst hR
            go_wp2_with fail
            go_ret
            exact ⟨rfl, HBA.out _⟩
      · have g8 : (op != 8) = true := by simp; omega
        have g9 : (op != 9) = true := by simp; omega
        rw [g8, g9] at hR
        simp only [Bool.and_self, Bool.true_or] at hR
        subst hR
        go_wp2_with fail
        go_ret
        exact ⟨rfl, HB1.out⟩
end Go.Proofs.YtlbmijcpalfaeaaGreatDoor

set_option linter.unusedSimpArgs false
set_option linter.unusedVariables false
namespace Go.Proofs.YtlbmijcpalfaeaaGreatDoor
open Go.RowKit

instance : DecidableEq Fc := fun a b => decidable_of_iff (a.t = b.t ∧ a.c = b.c ∧ a.n = b.n) ⟨fun ⟨h1, h2, h3⟩ => by cases a; cases b; simp_all, fun h => by subst h; exact ⟨rfl, rfl, rfl⟩⟩
/-- What is known behind one node more. -/
def gw1 (fs : List Fc) (is : Fc) (x : Nd) : Fc :=
  if ((tdF fs x).c && (!is.c || decide ((tdF fs x).n < is.n))) = true then ⟨is.t || (tdF fs x).t, true, (tdF fs x).n⟩ else ⟨is.t || (tdF fs x).t, is.c, is.n⟩
/-- What is known of a class behind a step. -/
def gwF (fs : List Fc) (was : Fc) (nodes : List Nd) : Fc := if was.c = true then was else nodes.foldl (gw1 fs) was
/-- What is known of all classes behind a step. -/
def stF (cs : List Cls) (fs : List Fc) : List Fc := (List.range cs.length).map fun i => gwF fs (fs.getD i fc0) (cs.getD i cls0).nodes
theorem stF_len (cs : List Cls) (fs : List Fc) : (stF cs fs).length = cs.length := by simp [stF]
theorem stF_at (cs : List Cls) (fs : List Fc) {i : Nat} (hi : i < cs.length) : (stF cs fs).getD i fc0 = gwF fs (fs.getD i fc0) (cs.getD i cls0).nodes := by
  unfold stF
  rw [List.getD_eq_getElem?_getD, List.getElem?_map, List.getElem?_range hi]
  rfl
theorem gw_fold (fs : List Fc) : ∀ (nodes : List Nd) (is : Fc), (is.t = true → (nodes.foldl (gw1 fs) is).t = true) ∧ (is.c = true → (nodes.foldl (gw1 fs) is).c = true) ∧ ((nodes.foldl (gw1 fs) is).c = false → (nodes.foldl (gw1 fs) is).n = is.n) := by
  intro nodes
  induction nodes with
  | nil => intro is; exact ⟨id, id, fun _ => rfl⟩
  | cons x r ih =>
    intro is
    rw [List.foldl_cons]
    obtain ⟨h1, h2, h3⟩ := ih (gw1 fs is x)
    refine ⟨fun h => h1 ?_, fun h => h2 ?_, fun h => ?_⟩
    · unfold gw1; split <;> simp [h]
    · unfold gw1; split <;> simp [h]
    · rw [h3 h]
      unfold gw1
      split
      · rename_i hc
        have : (gw1 fs is x).c = true := by unfold gw1; rw [if_pos hc]
        rw [h2 this] at h; cases h
      · rfl
/-- How much is left to be known. -/
def rkF (f : Fc) : Nat := (if f.c = true then 0 else 1) + (if f.t = true then 0 else 1)
def rkL (fs : List Fc) : Nat := (fs.map rkF).sum
theorem gwF_rk (fs : List Fc) (was : Fc) (nodes : List Nd) : rkF (gwF fs was nodes) ≤ rkF was ∧ (gwF fs was nodes ≠ was → rkF (gwF fs was nodes) < rkF was) := by
  unfold gwF
  split
  · exact ⟨Nat.le_refl _, fun h => absurd rfl h⟩
  · rename_i hc
    have hc' : was.c = false := by simpa using hc
    obtain ⟨h1, h2, h3⟩ := gw_fold fs nodes was
    generalize nodes.foldl (gw1 fs) was = r at *
    obtain ⟨wt, wc, wn⟩ := was
    obtain ⟨rt, rc, rn⟩ := r
    simp only at h1 h2 h3 hc'
    subst hc'
    cases rc with
    | true => cases rt <;> cases wt <;> simp_all [rkF]
    | false =>
      have := h3 rfl
      subst this
      cases rt <;> cases wt <;> simp_all [rkF]
theorem rk_sum : ∀ (a b : List Fc), a.length = b.length → (∀ i, i < b.length → rkF (a.getD i fc0) ≤ rkF (b.getD i fc0) ∧ (a.getD i fc0 ≠ b.getD i fc0 → rkF (a.getD i fc0) < rkF (b.getD i fc0))) → rkL a ≤ rkL b ∧ (a ≠ b → rkL a < rkL b) := by
  intro a
  induction a with
  | nil =>
    intro b hl _
    have : b = [] := List.length_eq_zero_iff.1 (by simpa using hl.symm)
    subst this
    exact ⟨Nat.le_refl _, fun h => absurd rfl h⟩
  | cons x r ih =>
    intro b hl h
    cases b with
    | nil => simp at hl
    | cons y s =>
      obtain ⟨h1, h2⟩ := ih s (by simpa using hl) (fun i hi => by have := h (i + 1) (by simpa using hi); simpa using this)
      obtain ⟨h3, h4⟩ := h 0 (by simp)
      simp only [List.getD_cons_zero] at h3 h4
      have e1 : rkL (x :: r) = rkF x + rkL r := by simp [rkL]
      have e2 : rkL (y :: s) = rkF y + rkL s := by simp [rkL]
      rw [e1, e2]
      refine ⟨by omega, fun hne => ?_⟩
      by_cases hxy : x = y
      · have hrs : r ≠ s := fun e => hne (by rw [hxy, e])
        have := h2 hrs
        omega
      · have := h4 hxy
        omega
theorem stF_rk (cs : List Cls) (fs : List Fc) (hl : fs.length = cs.length) : rkL (stF cs fs) ≤ rkL fs ∧ (stF cs fs ≠ fs → rkL (stF cs fs) < rkL fs) := by
  refine rk_sum _ _ (by rw [stF_len, hl]) fun i hi => ?_
  rw [stF_at cs fs (by omega)]
  exact gwF_rk fs _ _
/-- What is known behind so many steps. -/
def clI (cs : List Cls) : Nat → List Fc
  | 0 => List.replicate cs.length fc0
  | t + 1 => stF cs (clI cs t)
theorem clI_len (cs : List Cls) : ∀ t, (clI cs t).length = cs.length := by
  intro t
  cases t with
  | zero => simp [clI]
  | succ t => exact stF_len _ _
theorem clI_fix {cs : List Cls} {t : Nat} (h : stF cs (clI cs t) = clI cs t) : ∀ k, clI cs (t + k) = clI cs t := by
  intro k
  induction k with
  | zero => rfl
  | succ k ih => show stF cs (clI cs (t + k)) = _; rw [ih, h]
/-- What is known in the end. -/
def ClF (cs : List Cls) (fs : List Fc) : Prop := ∃ t, fs = clI cs t ∧ stF cs fs = fs
theorem ClF.one {cs : List Cls} {a b : List Fc} (ha : ClF cs a) (hb : ClF cs b) : a = b := by
  obtain ⟨t, rfl, h1⟩ := ha
  obtain ⟨u, rfl, h2⟩ := hb
  rcases Nat.le_total t u with h | h
  · have := clI_fix h1 (u - t)
    rw [show t + (u - t) = u by omega] at this
    exact this.symm
  · have := clI_fix h2 (t - u)
    rw [show u + (t - u) = t by omega] at this
    exact this
theorem ClF.len {cs : List Cls} {fs : List Fc} (h : ClF cs fs) : fs.length = cs.length := by
  obtain ⟨t, rfl, _⟩ := h
  exact clI_len cs t
/-- What the nodes of a sound picture are like, as a node's telling asks. -/
def NdOk (n : Nat) (x : Nd) : Prop := (∀ k ∈ x.kids, 0 ≤ k ∧ k < (n : Int)) ∧ (x.op = 8 ∨ x.op = 9 → 1 < x.kids.length) ∧ x.kids.length ≤ 1000
theorem ofB_nd {cs : List Cls} {roots : List Int} (h : ofB cs roots = true) : ∀ c ∈ cs, ∀ x ∈ c.nodes, NdOk cs.length x := by
  intro c hc x hx
  unfold ofB at h
  simp only [Bool.and_eq_true] at h
  obtain ⟨⟨⟨h1, _⟩, h2⟩, _⟩ := h
  unfold bdP at h1
  simp only [Bool.and_eq_true] at h1
  obtain ⟨_, h3⟩ := (bdL_iff cs.length cs 0 (by omega)).1 h1.2
  have hk := (h3 c hc).2.2 x hx
  obtain ⟨i, hi, e⟩ := List.getElem_of_mem hc
  have hm : (x, (i : Int)) ∈ cellsL cs := mem_cells.2 ⟨by omega, by omega, by
    unfold clA
    rw [Int.toNat_natCast, List.getD_eq_getElem?_getD, List.getElem?_eq_getElem hi, e]
    exact hx⟩
  have hf : formB x = true := by
    unfold allF at h2
    exact (List.all_eq_true.1 h2) _ hm
  refine ⟨fun k hkk => ?_, fun ho => ?_, by have := formB_kids hf; omega⟩
  · unfold inR at hk
    have := (List.all_eq_true.1 hk) k hkk
    unfold inC at this
    simpa using this
  · unfold formB fitB at hf
    simp only [Bool.and_eq_true, decide_eq_true_eq] at hf
    have hp := hf.1.1.2
    rcases ho with ho | ho <;> rw [ho] at hp <;> simp [aritI] at hp <;> omega
end Go.Proofs.YtlbmijcpalfaeaaGreatDoor

set_option linter.unusedSimpArgs false
set_option linter.unusedVariables false
namespace Go.Proofs.YtlbmijcpalfaeaaGreatDoor
open Go.RowKit Go.Lib

theorem tdF_in {fs : List Fc} (h : ∀ k, i6 (fAt fs k).n) {x : Nd} (hx : i6 x.n) : i6 (tdF fs x).n := by
  unfold tdF
  split
  · exact hx
  · split
    · exact ⟨by decide, by decide⟩
    · show i6 (cnsF fs x.op x.kids).2
      unfold cnsF
      split
      · exact apR_in fun y hy => by
          obtain ⟨k, _, rfl⟩ := List.mem_map.1 hy
          exact h k
      · exact ⟨by decide, by decide⟩
theorem i6_at {fs : List Fc} (h : ∀ f ∈ fs, i6 f.n) (k : Int) : i6 (fAt fs k).n := by
  unfold fAt
  by_cases hk : k.toNat < fs.length
  · rw [List.getD_eq_getElem?_getD, List.getElem?_eq_getElem hk]
    exact h _ (List.getElem_mem hk)
  · rw [List.getD_eq_getElem?_getD, List.getElem?_eq_none (by omega)]
    exact ⟨by decide, by decide⟩
theorem ftR_in : ∀ (l : List Nd) (fs : List Fc), (∀ f ∈ fs, i6 f.n) → (∀ x ∈ l, i6 x.n) → ∀ f ∈ ftR fs l, i6 f.n := by
  intro l
  induction l with
  | nil => intro fs h _; exact h
  | cons x r ih =>
    intro fs h hx
    refine ih _ (fun f hf => ?_) (fun y hy => hx y (by simp [hy]))
    rcases List.mem_append.1 hf with hf | hf
    · exact h f hf
    · simp at hf; subst hf; exact tdF_in (i6_at h) (hx x (by simp))

theorem fcX_app {xs : List Value} {fs : List Fc} (h : FcX xs fs) (hl : xs.length = fs.length * 3) (f : Fc) : FcX (xs ++ [.bool f.t, .bool f.c, .int .i64 f.n]) (fs ++ [f]) := by
  intro j hj
  rw [List.length_append, List.length_singleton] at hj
  by_cases e : j < fs.length
  · have e1 : (fs ++ [f]).getD j fc0 = fs.getD j fc0 := by rw [List.getD_eq_getElem?_getD, List.getD_eq_getElem?_getD, List.getElem?_append_left e]
    rw [e1, List.getElem?_append_left (by omega), List.getElem?_append_left (by omega), List.getElem?_append_left (by omega)]
    exact h j e
  · have ej : j = fs.length := by omega
    subst ej
    have e1 : (fs ++ [f]).getD fs.length fc0 = f := by rw [List.getD_eq_getElem?_getD, List.getElem?_append_right (Nat.le_refl _)]; simp
    rw [e1, List.getElem?_append_right (by omega), List.getElem?_append_right (by omega), List.getElem?_append_right (by omega), hl]
    refine ⟨?_, ?_, ?_⟩
    · rw [Nat.sub_self]; rfl
    · rw [show fs.length * 3 + 1 - fs.length * 3 = 1 by omega]; rfl
    · rw [show fs.length * 3 + 2 - fs.length * 3 = 2 by omega]; rfl

set_option maxRecDepth 20000 in
set_option maxHeartbeats 4000000 in
theorem given_any (w : World) (x : Nd) (ka : Option Addr) (kc : Nat) (vl : Value) (fs : List Fc) (hK : Ints w w.heap.size (.slice ka x.kids.length kc) x.kids) (hF : FcS w vl fs) (hk : ∀ k ∈ x.kids, 0 ≤ k ∧ k < (fs.length : Int)) (hi6 : ∀ k, i6 (fAt fs k).n) (hk3 : x.kids.length ≤ 1000) :
    Calls Tryz.prog 26 #[.agg #[.int .i64 x.op, .int .i64 x.n, .string x.name, .slice ka x.kids.length kc], vl] w fun e w' => e = .returned (.tuple #[.int .i64 (tdF fs x).n, .bool (tdF fs x).c]) ∧ Below w.heap.size w w' := by
  obtain ⟨op, n, nm, ks⟩ := x
  simp only at hK hk hk3 ⊢
  by_cases o1 : op = 1
  · have e : tdF fs ⟨op, n, nm, ks⟩ = ⟨true, true, n⟩ := by unfold tdF; rw [if_pos o1]
    rw [e]
    subst o1
    clear e hK hF hk hi6
    go_enter Tryz.func26, Tryz.ntmps26
    go_wp2_with fail
    go_ret2
    exact ⟨rfl, (Below.refl _ _).alloc (Nat.le_refl _) _⟩
  · by_cases o2 : op = 2
    · have e : tdF fs ⟨op, n, nm, ks⟩ = ⟨true, false, 0⟩ := by unfold tdF; rw [if_neg o1, if_pos o2]
      rw [e]
      subst o2
      clear e hK hF hk hi6 o1
      go_enter Tryz.func26, Tryz.ntmps26
      go_wp2_with fail
      go_ret2
      exact ⟨rfl, (Below.refl _ _).alloc (Nat.le_refl _) _⟩
    · have e : tdF fs ⟨op, n, nm, ks⟩ = ⟨totF fs op ks, (cnsF fs op ks).1, (cnsF fs op ks).2⟩ := by unfold tdF; rw [if_neg o1, if_neg o2]
      rw [e]
      exact given_op w op n nm ka kc ks vl fs hK hF hk hi6 hk3 o1 o2
theorem total_any (w : World) (x : Nd) (ka : Option Addr) (kc : Nat) (vl : Value) (fs : List Fc) (hK : Ints w w.heap.size (.slice ka x.kids.length kc) x.kids) (hF : FcS w vl fs) (hk : ∀ k ∈ x.kids, 0 ≤ k ∧ k < (fs.length : Int)) (h2 : x.op = 8 ∨ x.op = 9 → 1 < x.kids.length) (h1 : x.op = 1 ∨ x.op = 2 → x.kids = []) (hk3 : x.kids.length ≤ 1000) :
    Calls Tryz.prog 27 #[.agg #[.int .i64 x.op, .int .i64 x.n, .string x.name, .slice ka x.kids.length kc], vl] w fun e w' => e = .returned (.bool (tdF fs x).t) ∧ Below w.heap.size w w' := by
  obtain ⟨op, n, nm, ks⟩ := x
  simp only at hK hk hk3 h1 h2 ⊢
  have e : (tdF fs ⟨op, n, nm, ks⟩).t = totF fs op ks := by
    unfold tdF
    by_cases o1 : op = 1
    · rw [if_pos o1]
      have hks := h1 (.inl o1)
      subst o1; subst hks
      rfl
    · rw [if_neg o1]
      by_cases o2 : op = 2
      · rw [if_pos o2]
        have hks := h1 (.inr o2)
        subst o2; subst hks
        rfl
      · rw [if_neg o2]
  rw [e]
  exact total_ref w op n nm ka kc ks vl fs hK hF hk h2 hk3

set_option maxRecDepth 100000 in
set_option maxHeartbeats 8000000 in
theorem terms_any (w : World) (ao : Option Addr) (cap : Nat) (l : List Nd) (fr : List Nat) (hR : Rd w ao cap l) (hbg : begL l = some fr) (hn6 : ∀ x ∈ l, i6 x.n) :
    Calls Tryz.prog 15 #[.slice ao l.length cap] w fun e w' => (∃ v xs, e = .returned v ∧ w'.ownsRow w.heap.size 29 3 v l.length xs ∧ FcX xs (ft l)) ∧ Below w.heap.size w w' := by
  obtain ⟨i0, hi0, hz0, hz1, hz2⟩ := info_parts Tryz.infoFact
  obtain ⟨hl0, h64, hbr, _⟩ := begL_some hbg
  have hbo := begOk_of hbr
  obtain ⟨hc1, hc2⟩ := hR.bound
  unfold maxLen at hc2
  have HR := Sld.mk hR
  have HFM : Sld (∀ i, i < l.length → tdF ((ft l).take i) (l.getD i nd0) = fA l i ∧ (∀ k ∈ (l.getD i nd0).kids, 0 ≤ k ∧ k < (i : Int)) ∧ ((l.getD i nd0).op = 8 ∨ (l.getD i nd0).op = 9 → 1 < (l.getD i nd0).kids.length) ∧ ((l.getD i nd0).op = 1 ∨ (l.getD i nd0).op = 2 → (l.getD i nd0).kids = []) ∧ (l.getD i nd0).kids.length ≤ 1000) := ⟨fun i hi => by
    have hf := (hbo.at_ i hi).1
    have h3 := formB_kids hf
    unfold formB fitB at hf
    simp only [Bool.and_eq_true, decide_eq_true_eq] at hf
    have hp := hf.1.1.2
    refine ⟨fA_told hbo hi, hbo.kidsUp i hi, fun ho => by rw [arity_two (hbo.at_ i hi).1 ho]; omega, fun ho => ?_, by omega⟩
    have e1 : aritI 1 = 0 := rfl
    have e2 : aritI 2 = 0 := rfl
    have : (l.getD i nd0).kids.length = 0 := by
      rcases ho with ho | ho
      · rw [ho, e1] at hp; omega
      · rw [ho, e2] at hp; omega
    exact List.length_eq_zero_iff.1 this⟩
  have HFL : Sld ((ft l).length = l.length) := ⟨ft_len l⟩
  have H6 : Sld (∀ i k, i6 (fAt ((ft l).take i) k).n) := ⟨fun i k => i6_at (fun f hf => ftR_in l [] (by simp) hn6 f (List.mem_of_mem_take hf)) k⟩
  clear hR hbg hbr hbo hn6
  go_enter Tryz.func15, Tryz.ntmps15
  go_wp2_with fail
  go_loopw [3, 4] (fun v i wr => ∃ k : Nat, ∃ xs : List Value, k ≤ l.length ∧ i = .int .i64 k ∧ wr.ownsRow w.heap.size 29 3 v k xs ∧ FcX xs ((ft l).take k) ∧ Sld (Below w.heap.size w wr)) (fun _ i _ => l.length - (RowKit.intOf i).toNat)
  case atStart => exact ⟨0, [], Nat.zero_le _, rfl, World.ownsRow_nil _ _ _ _, by rw [List.take_zero]; exact FcX.nil _, ⟨Below.refl _ _⟩⟩
  case round =>
    obtain ⟨k, xs, hk, rfl, hown, hx, HB⟩ := hrel
    obtain ⟨va, vc, rfl⟩ := row_form' hown
    have HOWN := Sld.mk hown
    have HXS := Sld.mk hx
    by_cases hlt : k < l.length
    · obtain ⟨b, o, kv, rfl, hbk, hna⟩ := Rd.cell (HR.out.below HB.out HB.out.size) hlt
      obtain ⟨hf1, hf2, hf3, hf4, hf5⟩ := HFM.out k hlt
      obtain ⟨c0, c1, c2, c3, hki⟩ := hna
      obtain ⟨ka, kc, rfl, hkl, hkm, hkc⟩ := id hki
      have htl : ((ft l).take k).length = k := by rw [List.length_take, HFL.out]; omega
      have HFS : Sld (∀ V, Below wr.heap.size wr V → FcS V (.slice va k vc) ((ft l).take k)) := ⟨fun V hV => by
        have := fcS_own (fs := (ft l).take k) (v := .slice va k vc) (by rw [htl]; exact hown) hx
        exact this.below hV⟩
      have CG : Sld (Calls Tryz.prog 26 #[.agg #[.int .i64 (l.getD k nd0).op, .int .i64 (l.getD k nd0).n, .string (l.getD k nd0).name, .slice ka (l.getD k nd0).kids.length kc], .slice va k vc] wr fun e w' => e = .returned (.tuple #[.int .i64 (fA l k).n, .bool (fA l k).c]) ∧ Below wr.heap.size wr w') := ⟨by
        have := given_any wr (l.getD k nd0) ka kc (.slice va k vc) ((ft l).take k) hki (HFS.out wr (Below.refl _ _)) (fun q hq => by have := hf2 q hq; omega) (H6.out k) hf5
        rw [hf1] at this
        exact this⟩
      have CT : Sld (∀ V, Below wr.heap.size wr V → Calls Tryz.prog 27 #[.agg #[.int .i64 (l.getD k nd0).op, .int .i64 (l.getD k nd0).n, .string (l.getD k nd0).name, .slice ka (l.getD k nd0).kids.length kc], .slice va k vc] V fun e w' => e = .returned (.bool (fA l k).t) ∧ Below V.heap.size V w') := ⟨fun V hV => by
        have := total_any V (l.getD k nd0) ka kc (.slice va k vc) ((ft l).take k) (hki.below hV hV.size) (HFS.out V hV) (fun q hq => by have := hf2 q hq; omega) hf3 hf4 hf5
        rw [hf1] at this
        exact this⟩
      have HC : Sld (∀ V, Below wr.heap.size wr V → V.cell? ⟨b, o + k * 4, none⟩ = some (.int .i64 (l.getD k nd0).op) ∧ V.cell? ⟨b, o + k * 4 + 1, none⟩ = some (.int .i64 (l.getD k nd0).n) ∧ V.cell? ⟨b, o + k * 4 + 2, none⟩ = some (.string (l.getD k nd0).name) ∧ V.cell? ⟨b, o + k * 4 + 3, none⟩ = some (.slice ka (l.getD k nd0).kids.length kc)) := ⟨fun V hV => ⟨(hV.cell (p := ⟨b, _, none⟩) hbk).trans c0, (hV.cell (p := ⟨b, _, none⟩) hbk).trans c1, (hV.cell (p := ⟨b, _, none⟩) hbk).trans c2, (hV.cell (p := ⟨b, _, none⟩) hbk).trans c3⟩⟩
      have HTK : Sld ((ft l).take (k + 1) = (ft l).take k ++ [fA l k]) := ⟨by
        have hkl' : k < (ft l).length := by rw [HFL.out]; exact hlt
        rw [List.take_succ_eq_append_getElem hkl']
        unfold fA
        rw [List.getD_eq_getElem?_getD, List.getElem?_eq_getElem hkl']; rfl⟩
      have hltI : (k : Int) < (l.length : Int) := by omega
      generalize hFk : fA l k = Fk at *
      obtain ⟨ftt, fcc, fnn⟩ := Fk
      simp only at CG CT
      generalize (l.getD k nd0).op = xo at *
      generalize (l.getD k nd0).n = xn at *
      generalize (l.getD k nd0).name = xm at *
      generalize (l.getD k nd0).kids.length = xl at *
      clear hki hown hx hf1 hf2 hf3 hf4
      go_wp2_with fail
      refine CG.out.mono ?_
      rintro e w2 ⟨rfl, hb2⟩
      obtain ⟨d0, d1, d2, d3⟩ := HC.out w2 hb2
      have B2 := Sld.mk hb2
      have C2 := Sld.mk (CT.out w2 hb2)
      clear hb2 CG c0 c1 c2 c3
      go_wp2_with fail
      refine C2.out.mono ?_
      rintro e w3 ⟨rfl, hb3⟩
      have hb13 : Below wr.heap.size wr w3 := B2.out.trans (hb3.mono B2.out.size)
      have hown3 := ownsRow_below HOWN.out hb13
      have HOA : Sld ((w3.alloc (.cells #[.bool ftt, .bool fcc, .int .i64 fnn] 29)).ownsRow w.heap.size 29 3 (.slice va k vc) k xs) := ⟨hown3.alloc _⟩
      have HB3 : Sld (Below w.heap.size w (w3.alloc (.cells #[.bool ftt, .bool fcc, .int .i64 fnn] 29))) := ⟨(HB.out.trans (hb13.mono HB.out.size)).alloc (HB.out.trans (hb13.mono HB.out.size)).size _⟩
      have hsz : w.heap.size ≤ w3.heap.size := (HB.out.trans (hb13.mono HB.out.size)).size
      clear hb3 hb13 hown3 C2
      go_wp2_with (at_builtin; refine wpList_append_own _ rfl _ _ 34 rfl w.heap.size 29 i0 (.agg #[.bool false, .bool false, .int .i64 0]) 3 16 Tryz.underlying34 hi0 hz0 hz1 hz2 rfl (by decide) _ _ _ rfl HOA.out ⟨w3.heap.size, 0, none⟩ 1 1 [.bool ftt, .bool fcc, .int .i64 fnn] rfl (by simp) (by intro j u hj; rcases j with _ | _ | _ | j <;> simp at hj <;> subst hj <;> simp [Go.WideShapes.add_plain]) (by simp [Value.oneCell']) (by unfold maxLen; omega) (by omega) (by simp; omega) ?_; intro v' w18 hown hgrow _)
      have hbe : Below w.heap.size w w18 := HB3.out.grown hgrow HB3.out.size (fun q hq => (rw_block HOA.out hq).1)
      refine ⟨⟨k + 1, _, by omega, by go_num, hown, ?_, ⟨hbe⟩⟩, by simp [RowKit.intOf]; omega⟩
      rw [HTK.out]
      exact fcX_app HXS.out (by rw [List.length_take, HFL.out]; have := HOWN.out.1; omega) ⟨ftt, fcc, fnn⟩
    · have hke : k = l.length := by omega
      subst hke
      have hta : (ft l).take l.length = ft l := by rw [← HFL.out, List.take_length]
      rw [hta] at HXS
      clear hown hx
      go_wp2_with fail
      go_ret
      exact ⟨⟨_, xs, rfl, HOWN.out, HXS.out⟩, HB.out⟩
end Go.Proofs.YtlbmijcpalfaeaaGreatDoor

set_option linter.unusedSimpArgs false
set_option linter.unusedVariables false
namespace Go.Proofs.YtlbmijcpalfaeaaGreatDoor
open Go.RowKit

/-- What a fact says of constants alone. -/
def cpF (f : Fc) : Fc := ⟨false, f.c, f.n⟩
theorem cpF_at (fs : List Fc) (i : Nat) : (fs.map cpF).getD i fc0 = cpF (fs.getD i fc0) := by
  rw [List.getD_eq_getElem?_getD, List.getD_eq_getElem?_getD, List.getElem?_map]
  cases fs[i]? <;> rfl
theorem fAt_cp (fs : List Fc) (k : Int) : fAt (fs.map cpF) k = cpF (fAt fs k) := cpF_at fs k.toNat
theorem cnsF_cp {fs gs : List Fc} (h : fs.map cpF = gs.map cpF) (op : Int) (ks : List Int) : cnsF fs op ks = cnsF gs op ks := by
  have hk : ∀ k, cpF (fAt fs k) = cpF (fAt gs k) := fun k => by rw [← fAt_cp, ← fAt_cp, h]
  have hc : ∀ k, (fAt fs k).c = (fAt gs k).c := fun k => (congrArg Fc.c (hk k) :)
  have hn : ∀ k, (fAt fs k).n = (fAt gs k).n := fun k => (congrArg Fc.n (hk k) :)
  unfold cnsF
  simp only [hc, hn]
theorem tdF_cp {fs gs : List Fc} (h : fs.map cpF = gs.map cpF) (x : Nd) : (tdF fs x).c = (tdF gs x).c ∧ (tdF fs x).n = (tdF gs x).n := by
  unfold tdF
  split
  · exact ⟨rfl, rfl⟩
  · split
    · exact ⟨rfl, rfl⟩
    · rw [cnsF_cp h]; exact ⟨rfl, rfl⟩

/-- One node more, of constants alone. -/
def g1F (l : List Fc) (is : Fc) (x : Nd) : Fc := if ((tdF l x).c && (!is.c || decide ((tdF l x).n < is.n))) = true then ⟨false, true, (tdF l x).n⟩ else is
theorem gw1_cp {fs l : List Fc} (h : fs.map cpF = l.map cpF) (is : Fc) (x : Nd) : cpF (gw1 fs is x) = g1F l (cpF is) x := by
  obtain ⟨h1, h2⟩ := tdF_cp h x
  unfold gw1 g1F
  rw [← h1, ← h2]
  show cpF (if ((tdF fs x).c && (!is.c || decide ((tdF fs x).n < is.n))) = true then _ else _) = if ((tdF fs x).c && (!is.c || decide ((tdF fs x).n < is.n))) = true then _ else _
  split <;> rfl
theorem fold_cp {fs l : List Fc} (h : fs.map cpF = l.map cpF) : ∀ (nodes : List Nd) (is : Fc), cpF (nodes.foldl (gw1 fs) is) = nodes.foldl (g1F l) (cpF is) := by
  intro nodes
  induction nodes with
  | nil => intro is; rfl
  | cons x r ih => intro is; rw [List.foldl_cons, List.foldl_cons, ih, gw1_cp h]
/-- A class's constant behind a step of the document's. -/
def gcF (l : List Fc) (was : Fc) (nodes : List Nd) : Fc := if was.c = true then was else nodes.foldl (g1F l) was
theorem gwF_cp {fs l : List Fc} (h : fs.map cpF = l.map cpF) (was : Fc) (nodes : List Nd) : cpF (gwF fs was nodes) = gcF l (cpF was) nodes := by
  unfold gwF gcF
  by_cases hc : was.c = true
  · rw [if_pos hc, if_pos (show (cpF was).c = true from hc)]
  · rw [if_neg hc, if_neg (show ¬(cpF was).c = true from hc), fold_cp h]
def scF (cs : List Cls) (l : List Fc) : List Fc := (List.range cs.length).map fun i => gcF l (l.getD i fc0) (cs.getD i cls0).nodes
theorem stF_cp (cs : List Cls) (fs : List Fc) : (stF cs fs).map cpF = scF cs (fs.map cpF) := by
  unfold stF scF
  rw [List.map_map]
  refine List.map_congr_left fun i _ => ?_
  show cpF (gwF fs _ _) = _
  rw [gwF_cp (l := fs.map cpF) (by rw [List.map_map]; refine List.map_congr_left fun f _ => rfl), cpF_at]
def rcI (cs : List Cls) : Nat → List Fc
  | 0 => List.replicate cs.length fc0
  | t + 1 => scF cs (rcI cs t)
theorem clI_cp (cs : List Cls) : ∀ t, (clI cs t).map cpF = rcI cs t := by
  intro t
  induction t with
  | zero => simp [clI, rcI, cpF, fc0]
  | succ t ih => show (stF cs (clI cs t)).map cpF = scF cs (rcI cs t); rw [stF_cp, ih]
theorem rcI_fix {cs : List Cls} {t : Nat} (h : scF cs (rcI cs t) = rcI cs t) : ∀ k, rcI cs (t + k) = rcI cs t := by
  intro k
  induction k with
  | zero => rfl
  | succ k ih => show scF cs (rcI cs (t + k)) = _; rw [ih, h]
/-- The constants in the end. -/
def RcF (cs : List Cls) (l : List Fc) : Prop := ∃ t, l = rcI cs t ∧ scF cs l = l
theorem RcF.one {cs : List Cls} {a b : List Fc} (ha : RcF cs a) (hb : RcF cs b) : a = b := by
  obtain ⟨t, rfl, h1⟩ := ha
  obtain ⟨u, rfl, h2⟩ := hb
  rcases Nat.le_total t u with h | h
  · have := rcI_fix h1 (u - t)
    rw [show t + (u - t) = u by omega] at this
    exact this.symm
  · have := rcI_fix h2 (t - u)
    rw [show u + (t - u) = t by omega] at this
    exact this
theorem ClF.rc {cs : List Cls} {fs : List Fc} (h : ClF cs fs) : RcF cs (fs.map cpF) := by
  obtain ⟨t, rfl, h1⟩ := h
  exact ⟨t, clI_cp cs t, by rw [← stF_cp, h1]⟩

/-- What never traps by these facts is known never to. -/
def ToC (cs : List Cls) (R : List Fc) : Prop := ∀ i, i < cs.length → ∀ x ∈ (cs.getD i cls0).nodes, (tdF R x).t = true → (R.getD i fc0).t = true
theorem totF_mono {fs gs : List Fc} (h : fs.map cpF = gs.map cpF) (hm : ∀ i, (fs.getD i fc0).t = true → (gs.getD i fc0).t = true) (op : Int) (ks : List Int) (ht : totF fs op ks = true) : totF gs op ks = true := by
  have hk : ∀ k, cpF (fAt fs k) = cpF (fAt gs k) := fun k => by rw [← fAt_cp, ← fAt_cp, h]
  have hc : ∀ k, (fAt fs k).c = (fAt gs k).c := fun k => (congrArg Fc.c (hk k) :)
  have hn : ∀ k, (fAt fs k).n = (fAt gs k).n := fun k => (congrArg Fc.n (hk k) :)
  unfold totF at ht ⊢
  rw [Bool.and_eq_true] at ht ⊢
  refine ⟨?_, by rw [← hc, ← hn]; exact ht.2⟩
  rw [List.all_eq_true] at ht ⊢
  exact fun k hkk => hm k.toNat (ht.1 k hkk)
theorem totF_mono2 {fs gs : List Fc} (hc : ∀ i, (fs.getD i fc0).c = true → (gs.getD i fc0).c = true ∧ (gs.getD i fc0).n = (fs.getD i fc0).n) (hm : ∀ i, (fs.getD i fc0).t = true → (gs.getD i fc0).t = true) (op : Int) (ks : List Int) (ht : totF fs op ks = true) : totF gs op ks = true := by
  unfold totF at ht ⊢
  rw [Bool.and_eq_true] at ht ⊢
  refine ⟨?_, ?_⟩
  · have h1 := ht.1
    rw [List.all_eq_true] at h1 ⊢
    exact fun k hkk => hm k.toNat (h1 k hkk)
  · have h2 := ht.2
    rw [Bool.or_eq_true] at h2 ⊢
    rcases h2 with h2 | h2
    · exact .inl h2
    · right
      rw [Bool.and_eq_true] at h2 ⊢
      obtain ⟨a, b⟩ := hc (ks.getD 1 0).toNat h2.1
      exact ⟨a, by have := h2.2; show ((gs.getD (ks.getD 1 0).toNat fc0).n != 0) = true; rw [b]; exact this⟩
theorem tdF_mono2 {fs gs : List Fc} (hc : ∀ i, (fs.getD i fc0).c = true → (gs.getD i fc0).c = true ∧ (gs.getD i fc0).n = (fs.getD i fc0).n) (hm : ∀ i, (fs.getD i fc0).t = true → (gs.getD i fc0).t = true) (x : Nd) (ht : (tdF fs x).t = true) : (tdF gs x).t = true := by
  unfold tdF at ht ⊢
  split at ht
  · rename_i h1; rw [if_pos h1]
  · rename_i h1
    rw [if_neg h1]
    split at ht
    · rename_i h2; rw [if_pos h2]
    · rename_i h2
      rw [if_neg h2]
      exact totF_mono2 hc hm _ _ ht
theorem tdF_mono {fs gs : List Fc} (h : fs.map cpF = gs.map cpF) (hm : ∀ i, (fs.getD i fc0).t = true → (gs.getD i fc0).t = true) (x : Nd) (ht : (tdF fs x).t = true) : (tdF gs x).t = true := by
  unfold tdF at ht ⊢
  split at ht
  · rename_i h1; rw [if_pos h1]
  · rename_i h1
    rw [if_neg h1]
    split at ht
    · rename_i h2; rw [if_pos h2]
    · rename_i h2
      rw [if_neg h2]
      exact totF_mono h hm _ _ ht
/-- What the document's second pass leaves. -/
structure RtF (cs : List Cls) (R : List Fc) : Prop where
  len : R.length = cs.length
  rc : RcF cs (R.map cpF)
  closed : ToC cs R
  least : ∀ F : List Fc, F.map cpF = R.map cpF → ToC cs F → ∀ i, (R.getD i fc0).t = true → (F.getD i fc0).t = true

theorem gw_t (fs : List Fc) : ∀ (nodes : List Nd) (is : Fc), (nodes.foldl (gw1 fs) is).t = true → is.t = true ∨ ∃ x ∈ nodes, (tdF fs x).t = true := by
  intro nodes
  induction nodes with
  | nil => intro is h; exact .inl h
  | cons x r ih =>
    intro is h
    rw [List.foldl_cons] at h
    rcases ih _ h with h | ⟨y, hy, h⟩
    · have e : (gw1 fs is x).t = (is.t || (tdF fs x).t) := by unfold gw1; split <;> rfl
      rw [e, Bool.or_eq_true] at h
      rcases h with h | h
      · exact .inl h
      · exact .inr ⟨x, by simp, h⟩
    · exact .inr ⟨y, by simp [hy], h⟩
theorem gw_in (fs : List Fc) : ∀ (nodes : List Nd) (is : Fc) (x : Nd), x ∈ nodes → (tdF fs x).t = true → (nodes.foldl (gw1 fs) is).t = true := by
  intro nodes
  induction nodes with
  | nil => intro is x h; simp at h
  | cons y r ih =>
    intro is x hx ht
    rw [List.foldl_cons]
    rcases List.mem_cons.1 hx with rfl | hx
    · refine (gw_fold fs r _).1 ?_
      unfold gw1; split <;> simp [ht]
    · exact ih _ x hx ht
theorem gw_c (fs : List Fc) : ∀ (nodes : List Nd) (is : Fc), (nodes.foldl (gw1 fs) is).c = true → is.c = true ∨ ∃ x ∈ nodes, (tdF fs x).c = true := by
  intro nodes
  induction nodes with
  | nil => intro is h; exact .inl h
  | cons x r ih =>
    intro is h
    rw [List.foldl_cons] at h
    rcases ih _ h with h | ⟨y, hy, h⟩
    · unfold gw1 at h
      split at h
      · rename_i hc
        rw [Bool.and_eq_true] at hc
        exact .inr ⟨x, by simp, hc.1⟩
      · exact .inl h
    · exact .inr ⟨y, by simp [hy], h⟩
/-- What is constant never traps. -/
def CtF (fs : List Fc) : Prop := ∀ i, (fs.getD i fc0).c = true → (fs.getD i fc0).t = true
theorem tdF_ct {fs : List Fc} (h : CtF fs) {n : Nat} {x : Nd} (hx : NdOk n x) (hc : (tdF fs x).c = true) : (tdF fs x).t = true := by
  unfold tdF at hc ⊢
  split at hc
  · rename_i h1; rw [if_pos h1]
  · rename_i h1
    rw [if_neg h1]
    split at hc
    · cases hc
    · rename_i h2
      rw [if_neg h2]
      show totF fs x.op x.kids = true
      have hc' : (cnsF fs x.op x.kids).1 = true := hc
      unfold cnsF at hc'
      split at hc'
      · rename_i hall
        have hz : (apR x.op (x.kids.map fun k => (fAt fs k).n)).2 = 0 := by simpa using hc'
        unfold totF
        rw [Bool.and_eq_true]
        rw [List.all_eq_true] at hall
        refine ⟨List.all_eq_true.2 fun k hk => h k.toNat (hall k hk), ?_⟩
        by_cases ho : x.op = 8 ∨ x.op = 9
        · have hl := hx.2.1 ho
          rw [Bool.or_eq_true]
          right
          match hks : x.kids with
          | [] => rw [hks] at hl; simp at hl
          | [a] => rw [hks] at hl; simp at hl
          | [a, b] =>
            rw [hks] at hz hall
            have hb := hall b (by simp)
            rw [Bool.and_eq_true]
            refine ⟨hb, ?_⟩
            simp only [List.map_cons, List.map_nil, apR] at hz
            rw [if_pos (by omega)] at hz
            by_cases hn : (fAt fs b).n = 0
            · rw [if_pos ⟨ho, hn⟩] at hz; cases hz
            · simpa using hn
          | a :: b :: c :: r =>
            rw [hks] at hz
            cases r with
            | nil =>
              simp only [List.map_cons, List.map_nil, apR] at hz
              rw [if_neg (by omega)] at hz; cases hz
            | cons d r => simp only [List.map_cons, apR] at hz; cases hz
        · have : (x.op != 8 && x.op != 9) = true := by
            rw [Bool.and_eq_true]
            constructor <;> simp <;> omega
          rw [this]; rfl
      · cases hc'
theorem clI_ct {cs : List Cls} (hok : ∀ c ∈ cs, ∀ x ∈ c.nodes, NdOk cs.length x) : ∀ t, CtF (clI cs t) := by
  intro t
  induction t with
  | zero =>
    intro i h
    have : (clI cs 0).getD i fc0 = fc0 := by
      show (List.replicate cs.length fc0).getD i fc0 = fc0
      rw [List.getD_eq_getElem?_getD, List.getElem?_replicate]; split <;> rfl
    rw [this] at h; cases h
  | succ t ih =>
    intro i h
    by_cases hi : i < cs.length
    · rw [show clI cs (t + 1) = stF cs (clI cs t) from rfl, stF_at cs _ hi] at h ⊢
      unfold gwF at h ⊢
      split at h
      · rename_i hc; rw [if_pos hc]; exact ih i hc
      · rename_i hc
        rw [if_neg hc]
        rcases gw_c _ _ _ h with h | ⟨x, hx, h⟩
        · exact absurd h hc
        · exact gw_in _ _ _ x hx (tdF_ct ih (hok _ (by rw [List.getD_eq_getElem?_getD, List.getElem?_eq_getElem hi]; exact List.getElem_mem hi) x hx) h)
    · have : (clI cs (t + 1)).getD i fc0 = fc0 := by
        rw [List.getD_eq_getElem?_getD, List.getElem?_eq_none (by rw [clI_len]; omega)]; rfl
      rw [this] at h; cases h
theorem ClF.closed {cs : List Cls} {fs : List Fc} (hok : ∀ c ∈ cs, ∀ x ∈ c.nodes, NdOk cs.length x) (h : ClF cs fs) : ToC cs fs := by
  obtain ⟨t, rfl, h1⟩ := h
  intro i hi x hx ht
  have e := stF_at cs (clI cs t) hi
  rw [h1] at e
  rw [e]
  unfold gwF
  split
  · rename_i hc; exact clI_ct hok t i hc
  · exact gw_in _ _ _ x hx ht
/-- What the program knows of totals after t steps, the document knows in the end. -/
theorem clI_sub {cs : List Cls} {F R : List Fc} (hF : ClF cs F) (hR : RtF cs R) (hcp : R.map cpF = F.map cpF) : ∀ t i, ((clI cs t).getD i fc0).t = true → (R.getD i fc0).t = true := by
  obtain ⟨T, eF, hfix⟩ := hF
  have per : ∀ t k i, ((clI cs t).getD i fc0).c = true → (clI cs (t + k)).getD i fc0 = (clI cs t).getD i fc0 := by
    intro t k
    induction k with
    | zero => intro i _; rfl
    | succ k ih =>
      intro i hc
      have e := ih i hc
      by_cases hi : i < cs.length
      · show (stF cs (clI cs (t + k))).getD i fc0 = _
        rw [stF_at cs _ hi]
        unfold gwF
        rw [if_pos (by rw [e]; exact hc), e]
      · rw [List.getD_eq_getElem?_getD, List.getElem?_eq_none (by rw [clI_len]; omega)] at hc
        cases hc
  have hfixT : stF cs (clI cs T) = clI cs T := by rw [← eF]; exact hfix
  have perF : ∀ t i, ((clI cs t).getD i fc0).c = true → F.getD i fc0 = (clI cs t).getD i fc0 := by
    intro t i hc
    rw [eF]
    rcases Nat.le_total t T with h | h
    · have := per t (T - t) i hc
      rw [show t + (T - t) = T by omega] at this
      exact this
    · have := clI_fix hfixT (t - T)
      rw [show T + (t - T) = t by omega] at this
      rw [this]
  intro t
  induction t with
  | zero =>
    intro i h
    have : (clI cs 0).getD i fc0 = fc0 := by
      show (List.replicate cs.length fc0).getD i fc0 = fc0
      rw [List.getD_eq_getElem?_getD, List.getElem?_replicate]; split <;> rfl
    rw [this] at h; cases h
  | succ t ih =>
    intro i h
    by_cases hi : i < cs.length
    · rw [show clI cs (t + 1) = stF cs (clI cs t) from rfl, stF_at cs _ hi] at h
      unfold gwF at h
      split at h
      · exact ih i h
      · rcases gw_t _ _ _ h with h | ⟨x, hx, h⟩
        · exact ih i h
        · refine hR.closed i hi x hx (tdF_mono2 (fun j hj => ?_) ih x h)
          have e1 := perF t j hj
          have e2 : cpF (R.getD j fc0) = cpF (F.getD j fc0) := by rw [← cpF_at, ← cpF_at, hcp]
          have e3 : (R.getD j fc0).c = (F.getD j fc0).c := (congrArg Fc.c e2 :)
          have e4 : (R.getD j fc0).n = (F.getD j fc0).n := (congrArg Fc.n e2 :)
          rw [e3, e4, e1]
          exact ⟨hj, rfl⟩
    · rw [List.getD_eq_getElem?_getD, List.getElem?_eq_none (by rw [clI_len]; omega)] at h
      cases h
theorem fc_eq {a b : Fc} (h : cpF a = cpF b) (ht : a.t = b.t) : a = b := by
  obtain ⟨a1, a2, a3⟩ := a
  obtain ⟨b1, b2, b3⟩ := b
  simp only [cpF, Fc.mk.injEq] at h ht ⊢
  exact ⟨ht, h.2.1, h.2.2⟩
theorem RtF.eq {cs : List Cls} {R F : List Fc} (hok : ∀ c ∈ cs, ∀ x ∈ c.nodes, NdOk cs.length x) (hR : RtF cs R) (hF : ClF cs F) : R = F := by
  have hcp : R.map cpF = F.map cpF := hR.rc.one hF.rc
  have h1 := hR.least F hcp.symm (hF.closed hok)
  have h2 : ∀ i, (F.getD i fc0).t = true → (R.getD i fc0).t = true := by
    obtain ⟨t, e, _⟩ := id hF
    intro i hi
    exact clI_sub hF hR hcp t i (by rw [← e]; exact hi)
  refine List.ext_getElem (by rw [hR.len, hF.len]) fun i hi1 hi2 => ?_
  have eR : R.getD i fc0 = R[i] := by rw [List.getD_eq_getElem?_getD, List.getElem?_eq_getElem hi1]; rfl
  have eF : F.getD i fc0 = F[i] := by rw [List.getD_eq_getElem?_getD, List.getElem?_eq_getElem hi2]; rfl
  rw [← eR, ← eF]
  refine fc_eq ?_ ?_
  · rw [← cpF_at, ← cpF_at, hcp]
  · have a := h1 i
    have b := h2 i
    cases hx : (R.getD i fc0).t <;> cases hy : (F.getD i fc0).t <;> simp_all
end Go.Proofs.YtlbmijcpalfaeaaGreatDoor

set_option linter.unusedSimpArgs false
set_option linter.unusedVariables false
namespace Go.Proofs.YtlbmijcpalfaeaaGreatDoor
open Go.RowKit

/-- One cell more of the first pass. -/
def c1F (L : List Fc) (s : List Fc × Bool) (c : Nd × Int) : List Fc × Bool :=
  if (L.getD c.2.toNat fc0).c = true then s
  else if ((tdF L c.1).c && (!(s.1.getD c.2.toNat fc0).c || decide ((tdF L c.1).n < (s.1.getD c.2.toNat fc0).n))) = true then (s.1.set c.2.toNat ⟨false, true, (tdF L c.1).n⟩, true) else s
theorem getD_setF (l : List Fc) (i j : Nat) (f : Fc) (hi : i < l.length) : (l.set i f).getD j fc0 = if j = i then f else l.getD j fc0 := by
  rw [List.getD_eq_getElem?_getD, List.getD_eq_getElem?_getD, List.getElem?_set]
  by_cases h : i = j
  · subst h; rw [if_pos rfl, if_pos hi, if_pos rfl]; rfl
  · rw [if_neg h, if_neg (fun e => h e.symm)]
theorem c1F_len (L : List Fc) (s : List Fc × Bool) (c : Nd × Int) : (c1F L s c).1.length = s.1.length := by
  unfold c1F; split
  · rfl
  · split
    · simp
    · rfl
theorem c1_len (L : List Fc) : ∀ (cells : List (Nd × Int)) (s : List Fc × Bool), (cells.foldl (c1F L) s).1.length = s.1.length := by
  intro cells
  induction cells with
  | nil => intro s; rfl
  | cons c r ih => intro s; rw [List.foldl_cons, ih, c1F_len]
theorem c1_at (L : List Fc) (j : Nat) : ∀ (cells : List (Nd × Int)) (s : List Fc × Bool), (∀ c ∈ cells, 0 ≤ c.2 ∧ c.2 < (s.1.length : Int)) → (L.getD j fc0).c = false →
    (cells.foldl (c1F L) s).1.getD j fc0 = ((cells.filter fun c => decide (c.2 = (j : Int))).map (·.1)).foldl (g1F L) (s.1.getD j fc0) := by
  intro cells
  induction cells with
  | nil => intro s _ _; rfl
  | cons c r ih =>
    intro s hb hc
    obtain ⟨h0, h1⟩ := hb c (by simp)
    rw [List.foldl_cons, ih _ (fun d hd => by rw [c1F_len]; exact hb d (by simp [hd])) hc]
    by_cases e : c.2 = (j : Int)
    · have et : c.2.toNat = j := by omega
      rw [List.filter_cons, if_pos (decide_eq_true e), List.map_cons, List.foldl_cons]
      congr 1
      unfold c1F g1F
      rw [et, if_neg (by rw [hc]; simp)]
      split
      · rename_i h
        show (s.1.set j _).getD j fc0 = _
        rw [getD_setF _ _ _ _ (by omega), if_pos rfl]
      · rfl
    · rw [List.filter_cons, if_neg (by simpa using e)]
      congr 1
      unfold c1F
      split
      · rfl
      · split
        · show (s.1.set c.2.toNat _).getD j fc0 = _
          rw [getD_setF _ _ _ _ (by omega), if_neg (by omega)]
        · rfl
theorem c1_keep (L : List Fc) (j : Nat) : ∀ (cells : List (Nd × Int)) (s : List Fc × Bool), (∀ c ∈ cells, 0 ≤ c.2 ∧ c.2 < (s.1.length : Int)) → (L.getD j fc0).c = true →
    (cells.foldl (c1F L) s).1.getD j fc0 = s.1.getD j fc0 := by
  intro cells
  induction cells with
  | nil => intro s _ _; rfl
  | cons c r ih =>
    intro s hb hc
    obtain ⟨h0, h1⟩ := hb c (by simp)
    rw [List.foldl_cons, ih _ (fun d hd => by rw [c1F_len]; exact hb d (by simp [hd])) hc]
    unfold c1F
    split
    · rfl
    · rename_i hn
      split
      · show (s.1.set c.2.toNat _).getD j fc0 = _
        rw [getD_setF _ _ _ _ (by omega), if_neg (fun e => hn (by rw [← e]; exact hc))]
      · rfl
theorem cellsF_filter : ∀ (cs : List Cls) (q j : Nat), ((cellsF q cs).filter fun c => decide (c.2 = ((q + j : Nat) : Int))).map (·.1) = (cs.getD j cls0).nodes := by
  intro cs
  induction cs with
  | nil => intro q j; rfl
  | cons c r ih =>
    intro q j
    rw [cellsF, List.filter_append, List.map_append]
    cases j with
    | zero =>
      have h1 : ((c.nodes.map fun x => (x, (q : Int))).filter fun d => decide (d.2 = ((q + 0 : Nat) : Int))).map (·.1) = c.nodes := by
        rw [List.filter_eq_self.2 (by intro d hd; obtain ⟨x, _, rfl⟩ := List.mem_map.1 hd; simp), List.map_map]
        exact (List.map_congr_left (g := id) (fun x _ => rfl)).trans (List.map_id c.nodes)
      have h2 : ((cellsF (q + 1) r).filter fun d => decide (d.2 = ((q + 0 : Nat) : Int))) = [] := by
        rw [List.filter_eq_nil_iff]
        rintro ⟨x, z⟩ hd
        obtain ⟨i, _, hz, _⟩ := (mem_cellsF r (q + 1)).1 hd
        intro hd2
        have h3 : z = ((q + 0 : Nat) : Int) := of_decide_eq_true hd2
        omega
      rw [h1, h2]; simp
    | succ j =>
      have h1 : ((c.nodes.map fun x => (x, (q : Int))).filter fun d => decide (d.2 = ((q + (j + 1) : Nat) : Int))) = [] := by
        rw [List.filter_eq_nil_iff]
        intro d hd
        obtain ⟨x, _, rfl⟩ := List.mem_map.1 hd
        simp; omega
      rw [h1]
      have := ih (q + 1) j
      rw [show q + 1 + j = q + (j + 1) by omega] at this
      rw [this]; simp
theorem cellsL_in (cs : List Cls) : ∀ c ∈ cellsL cs, 0 ≤ c.2 ∧ c.2 < (cs.length : Int) := fun ⟨x, z⟩ h => by
  have := mem_cells.1 h
  exact ⟨this.1, this.2.1⟩
/-- The first pass over all cells is a step. -/
theorem c1_all {cs : List Cls} {L : List Fc} (hl : L.length = cs.length) : ((cellsL cs).foldl (c1F L) (L, false)).1 = scF cs L := by
  have hin := cellsL_in cs
  refine List.ext_getElem (by rw [c1_len, hl]; simp [scF]) fun i h1 h2 => ?_
  have hi : i < cs.length := by rw [c1_len, hl] at h1; exact h1
  have e1 : ((cellsL cs).foldl (c1F L) (L, false)).1[i] = ((cellsL cs).foldl (c1F L) (L, false)).1.getD i fc0 := by rw [List.getD_eq_getElem?_getD, List.getElem?_eq_getElem h1]; rfl
  have e2 : (scF cs L)[i] = gcF L (L.getD i fc0) (cs.getD i cls0).nodes := by unfold scF; simp
  rw [e1, e2]
  unfold gcF
  have hb : ∀ c ∈ cellsL cs, 0 ≤ c.2 ∧ c.2 < (((L, false) : List Fc × Bool).1.length : Int) := by show ∀ c ∈ cellsL cs, 0 ≤ c.2 ∧ c.2 < (L.length : Int); rw [hl]; exact hin
  by_cases hc : (L.getD i fc0).c = true
  · rw [if_pos hc, c1_keep L i _ _ hb hc]
  · have hc' : (L.getD i fc0).c = false := by simpa using hc
    rw [if_neg hc, c1_at L i _ _ hb hc']
    have := cellsF_filter cs 0 i
    rw [Nat.zero_add] at this
    show (((cellsF 0 cs).filter fun c => decide (c.2 = (i : Int))).map (·.1)).foldl (g1F L) (L.getD i fc0) = _
    rw [this]
theorem c1_false (L : List Fc) : ∀ (cells : List (Nd × Int)) (s : List Fc × Bool), (cells.foldl (c1F L) s).2 = false → s.2 = false ∧ (cells.foldl (c1F L) s).1 = s.1 := by
  intro cells
  induction cells with
  | nil => intro s h; exact ⟨h, rfl⟩
  | cons c r ih =>
    intro s h
    rw [List.foldl_cons] at h ⊢
    obtain ⟨h1, h2⟩ := ih _ h
    rw [h2]
    unfold c1F at h1 ⊢
    split
    · rename_i hc; rw [if_pos hc] at h1; exact ⟨h1, rfl⟩
    · rename_i hc
      rw [if_neg hc] at h1
      split
      · rename_i hd; rw [if_pos hd] at h1; cases h1
      · rename_i hd; rw [if_neg hd] at h1; exact ⟨h1, rfl⟩
theorem g1_rk (l : List Fc) : ∀ (nodes : List Nd) (is : Fc), is.c = false → is.t = false → rkF (nodes.foldl (g1F l) is) ≤ rkF is ∧ (nodes.foldl (g1F l) is ≠ is → rkF (nodes.foldl (g1F l) is) < rkF is) := by
  have keep : ∀ (nodes : List Nd) (is : Fc), is.c = true → (nodes.foldl (g1F l) is).c = true := by
    intro nodes
    induction nodes with
    | nil => intro is h; exact h
    | cons x r ih => intro is h; rw [List.foldl_cons]; refine ih _ ?_; unfold g1F; split <;> simp [h]
  intro nodes
  induction nodes with
  | nil => intro is _ _; exact ⟨Nat.le_refl _, fun h => absurd rfl h⟩
  | cons x r ih =>
    intro is hc ht
    rw [List.foldl_cons]
    by_cases hg : g1F l is x = is
    · rw [hg]; exact ih is hc ht
    · have h1 : (g1F l is x).c = true := by
        unfold g1F at hg ⊢
        split
        · rfl
        · rename_i h; rw [if_neg h] at hg; exact absurd rfl hg
      have h2 := keep r _ h1
      have e : rkF is = 2 := by unfold rkF; rw [hc, ht]; rfl
      have e2 : rkF (r.foldl (g1F l) (g1F l is x)) ≤ 1 := by unfold rkF; rw [h2]; simp; split <;> omega
      rw [e]
      exact ⟨by omega, fun _ => by omega⟩
theorem scF_rk {cs : List Cls} {L : List Fc} (hl : L.length = cs.length) (ht : ∀ i, (L.getD i fc0).t = false) : rkL (scF cs L) ≤ rkL L ∧ (scF cs L ≠ L → rkL (scF cs L) < rkL L) := by
  refine rk_sum _ _ (by simp [scF, hl]) fun i hi => ?_
  have e : (scF cs L).getD i fc0 = gcF L (L.getD i fc0) (cs.getD i cls0).nodes := by
    unfold scF
    rw [List.getD_eq_getElem?_getD, List.getElem?_map, List.getElem?_range (by omega)]; rfl
  rw [e]
  unfold gcF
  split
  · exact ⟨Nat.le_refl _, fun h => absurd rfl h⟩
  · rename_i hc
    exact g1_rk L _ _ (by simpa using hc) (ht i)
theorem c1_rk {cs : List Cls} {L : List Fc} (hl : L.length = cs.length) (ht : ∀ i, (L.getD i fc0).t = false) (h : ((cellsL cs).foldl (c1F L) (L, false)).2 = true) : scF cs L ≠ L := by
  intro he
  -- a set makes a class constant, which none of L's stays
  have key : ∀ (cells : List (Nd × Int)) (s : List Fc × Bool), (∀ c ∈ cells, 0 ≤ c.2 ∧ c.2 < (s.1.length : Int)) → (s.2 = true → ∃ j, (L.getD j fc0).c = false ∧ (s.1.getD j fc0).c = true) → (cells.foldl (c1F L) s).2 = true → ∃ j, (L.getD j fc0).c = false ∧ ((cells.foldl (c1F L) s).1.getD j fc0).c = true := by
    intro cells
    induction cells with
    | nil => intro s _ h1 h2; exact h1 h2
    | cons c r ih =>
      intro s hb h1 h2
      obtain ⟨hb0, hb1⟩ := hb c (by simp)
      rw [List.foldl_cons] at h2 ⊢
      refine ih _ (fun d hd => by rw [c1F_len]; exact hb d (by simp [hd])) (fun h3 => ?_) h2
      unfold c1F at h3 ⊢
      split
      · rename_i hc; rw [if_pos hc] at h3; exact h1 h3
      · rename_i hc
        rw [if_neg hc] at h3
        split
        · rename_i hd
          refine ⟨c.2.toNat, by simpa using hc, ?_⟩
          show ((s.1.set c.2.toNat _).getD c.2.toNat fc0).c = true
          rw [getD_setF _ _ _ _ (by omega), if_pos rfl]
        · rename_i hd; rw [if_neg hd] at h3; exact h1 h3
  obtain ⟨j, h1, h2⟩ := key (cellsL cs) (L, false) (by show ∀ c ∈ cellsL cs, 0 ≤ c.2 ∧ c.2 < (L.length : Int); rw [hl]; exact cellsL_in cs) (fun h => by cases h) h
  rw [c1_all hl, he, h1] at h2
  cases h2

/-- One cell more of the second pass. -/
def c2F (s : List Fc × Bool) (c : Nd × Int) : List Fc × Bool :=
  if (s.1.getD c.2.toNat fc0).t = true then s
  else if (tdF s.1 c.1).t = true then (s.1.set c.2.toNat ⟨true, (s.1.getD c.2.toNat fc0).c, (s.1.getD c.2.toNat fc0).n⟩, true) else s
/-- What stays in the second pass. -/
structure C2I (cs : List Cls) (L R : List Fc) : Prop where
  len : R.length = cs.length
  cp : R.map cpF = L
  least : ∀ F : List Fc, F.map cpF = L → ToC cs F → ∀ i, (R.getD i fc0).t = true → (F.getD i fc0).t = true
theorem c2F_inv {cs : List Cls} {L : List Fc} {s : List Fc × Bool} {c : Nd × Int} (h : C2I cs L s.1) (hc : c ∈ cellsL cs) : C2I cs L (c2F s c).1 ∧ rkL (c2F s c).1 ≤ rkL s.1 ∧ ((c2F s c).2 = true → s.2 = true ∨ rkL (c2F s c).1 < rkL s.1) ∧ ((c2F s c).2 = false → s.2 = false ∧ (c2F s c).1 = s.1 ∧ ((tdF s.1 c.1).t = true → (s.1.getD c.2.toNat fc0).t = true)) := by
  obtain ⟨x, z⟩ := c
  obtain ⟨hz0, hz1, hx⟩ := mem_cells.1 hc
  unfold c2F
  simp only
  split
  · rename_i ht; exact ⟨h, Nat.le_refl _, fun h => .inl h, fun h => ⟨h, rfl, fun _ => ht⟩⟩
  · rename_i hn
    have hn' : (s.1.getD z.toNat fc0).t = false := by simpa using hn
    split
    · rename_i htd
      have hzl : z.toNat < s.1.length := by rw [h.len]; omega
      have hcp : (s.1.set z.toNat ⟨true, (s.1.getD z.toNat fc0).c, (s.1.getD z.toNat fc0).n⟩).map cpF = L := by
        rw [← h.cp]
        refine List.ext_getElem (by simp) fun i h1 h2 => ?_
        rw [List.getElem_map, List.getElem_map, List.getElem_set]
        split
        · rename_i e
          subst e
          have : s.1.getD z.toNat fc0 = s.1[z.toNat] := by rw [List.getD_eq_getElem?_getD, List.getElem?_eq_getElem hzl]; rfl
          rw [this]; rfl
        · rfl
      have hrk := rk_sum (s.1.set z.toNat ⟨true, (s.1.getD z.toNat fc0).c, (s.1.getD z.toNat fc0).n⟩) s.1 (by simp) (fun i hi => by
        rw [getD_setF _ _ _ _ hzl]
        split
        · rename_i e
          subst e
          generalize s.1.getD z.toNat fc0 = f at *
          obtain ⟨ft, fc, fn⟩ := f
          simp only at hn'
          subst hn'
          cases fc <;> simp [rkF]
        · exact ⟨Nat.le_refl _, fun h => absurd rfl h⟩)
      refine ⟨⟨by simp [h.len], hcp, fun F hF hFc i hi => ?_⟩, hrk.1, fun _ => .inr (hrk.2 fun e => ?_), fun h => by cases h⟩
      · rw [getD_setF _ _ _ _ hzl] at hi
        by_cases e : i = z.toNat
        · subst e
          exact hFc z.toNat (by omega) x hx (tdF_mono (by rw [h.cp, hF]) (h.least F hF hFc) x htd)
        · rw [if_neg e] at hi; exact h.least F hF hFc i hi
      · have : ((s.1.set z.toNat ⟨true, (s.1.getD z.toNat fc0).c, (s.1.getD z.toNat fc0).n⟩).getD z.toNat fc0).t = (s.1.getD z.toNat fc0).t := congrArg (fun l => (l.getD z.toNat fc0).t) e
        rw [getD_setF _ _ _ _ hzl, if_pos rfl, hn'] at this
        cases this
    · rename_i htd
      exact ⟨h, Nat.le_refl _, fun h => .inl h, fun h => ⟨h, rfl, fun h2 => absurd h2 htd⟩⟩
/-- Behind so many cells of the second pass. -/
structure C2S (cs : List Cls) (L R0 : List Fc) (i : Nat) (R : List Fc) (m : Bool) : Prop where
  inv : C2I cs L R
  le : rkL R ≤ rkL R0
  more : m = true → rkL R < rkL R0
  none : m = false → R = R0 ∧ ∀ c ∈ (cellsL cs).take i, (tdF R0 c.1).t = true → (R0.getD c.2.toNat fc0).t = true
theorem C2S.step {cs : List Cls} {L R0 R : List Fc} {i : Nat} {m : Bool} (h : C2S cs L R0 i R m) (hi : i < (cellsL cs).length) : C2S cs L R0 (i + 1) (c2F (R, m) (cellsL cs)[i]).1 (c2F (R, m) (cellsL cs)[i]).2 := by
  obtain ⟨h1, h2, h3, h4⟩ := c2F_inv (s := (R, m)) h.inv (List.getElem_mem hi)
  refine ⟨h1, Nat.le_trans h2 h.le, fun hm => ?_, fun hm => ?_⟩
  · rcases h3 hm with h5 | h5
    · exact Nat.lt_of_le_of_lt h2 (h.more h5)
    · exact Nat.lt_of_lt_of_le h5 h.le
  · obtain ⟨h5, h6, h7⟩ := h4 hm
    obtain ⟨h8, h9⟩ := h.none h5
    have e : R = R0 := h8
    refine ⟨by rw [h6]; exact e, fun c hc => ?_⟩
    rw [List.take_succ_eq_append_getElem hi] at hc
    rcases List.mem_append.1 hc with hc | hc
    · exact h9 c hc
    · simp at hc; subst hc; rw [← e]; exact h7
theorem C2S.closed {cs : List Cls} {L R0 R : List Fc} (h : C2S cs L R0 (cellsL cs).length R false) : ToC cs R := by
  obtain ⟨h1, h2⟩ := h.none rfl
  rw [List.take_length] at h2
  rw [h1]
  intro j hj x hx ht
  have := h2 (x, (j : Int)) (mem_cells.2 ⟨by omega, by omega, by rw [Int.toNat_natCast]; exact hx⟩) ht
  rw [Int.toNat_natCast] at this
  exact this
end Go.Proofs.YtlbmijcpalfaeaaGreatDoor

set_option linter.unusedSimpArgs false
set_option linter.unusedVariables false
namespace Go.Proofs.YtlbmijcpalfaeaaGreatDoor
open Go.RowKit Go.Lib

/-- How much is left to be known, as a row in memory tells it. -/
def isT : Option Value → Bool
  | some (.bool true) => true
  | _ => false
def rkC (w : World) (g o : Nat) : Nat := (if isT (w.cell? ⟨g, o + 1, none⟩) = true then 0 else 1) + (if isT (w.cell? ⟨g, o, none⟩) = true then 0 else 1)
def moB : Value → Nat
  | .bool true => 1
  | _ => 0
def rkV (w : World) (v : Value) (n : Nat) : Nat := match v with
  | .slice (some ⟨g, _, _⟩) _ _ => ((List.range n).map fun i => rkC w g (i * 3)).sum
  | _ => 0
theorem rkV_eq {w : World} {g c m : Nat} {fs : List Fc} (h : FcR w g fs) : rkV w (.slice (some ⟨g, 0, none⟩) m c) fs.length = rkL fs := by
  show ((List.range fs.length).map fun i => rkC w g (i * 3)).sum = (fs.map rkF).sum
  have e : (List.range fs.length).map (fun i => rkC w g (i * 3)) = fs.map rkF := by
    refine List.ext_getElem (by simp) fun i h1 h2 => ?_
    have hi : i < fs.length := by simpa using h1
    rw [List.getElem_map, List.getElem_map, List.getElem_range]
    have := h.at_ i hi
    have eg : fs.getD i fc0 = fs[i] := by rw [List.getD_eq_getElem?_getD, List.getElem?_eq_getElem hi]; rfl
    rw [eg] at this
    unfold rkC rkF
    rw [this.c0, this.c1]
    generalize fs[i] = f
    obtain ⟨a, b, c⟩ := f
    cases a <;> cases b <;> rfl
  rw [e]
theorem fcX_zero (n : Nat) : FcX (madeCells (Value.agg #[.bool false, .bool false, .int .i64 0]).cells (n * 3)).toList (List.replicate n fc0) := by
  intro j hj
  rw [List.length_replicate] at hj
  have e : (List.replicate n fc0).getD j fc0 = fc0 := by rw [List.getD_eq_getElem?_getD, List.getElem?_replicate]; split <;> rfl
  have key : ∀ q, q < 3 → (madeCells (Value.agg #[.bool false, .bool false, .int .i64 0]).cells (n * 3)).toList[j * 3 + q]? = some ((#[Value.bool false, .bool false, .int .i64 0])[q % 3]!) := by
    intro q hq
    unfold madeCells
    rw [Array.getElem?_toList, Array.getElem?_map, Array.getElem?_range, if_pos (by omega)]
    show some ((#[Value.bool false, .bool false, .int .i64 0])[(j * 3 + q) % 3]!) = _
    rw [show (j * 3 + q) % 3 = q % 3 by omega]
  rw [e]
  have k0 := key 0 (by omega)
  rw [Nat.add_zero] at k0
  exact ⟨k0, key 1 (by omega), key 2 (by omega)⟩
theorem ownsRow_base {w : World} {b b' : Nat} {e : TypeId} {s n : Nat} {v : Value} {xs : List Value} (h : w.ownsRow b e s v n xs) (hb : b' ≤ b) : w.ownsRow b' e s v n xs :=
  ⟨h.1, h.2.imp id fun ⟨g, cap, cur, h1, h2, h3⟩ => ⟨g, cap, cur, h1, by omega, h3⟩⟩
theorem rkV_fcS {w : World} {v : Value} {fs : List Fc} (h : FcS w v fs) : rkV w v fs.length = rkL fs := by
  obtain ⟨ao, cap, rfl, _, _, h3⟩ := h
  rcases h3 with h3 | ⟨g, rfl, hr⟩
  · subst h3
    cases ao <;> rfl
  · exact rkV_eq hr
end Go.Proofs.YtlbmijcpalfaeaaGreatDoor

set_option linter.unusedSimpArgs false
set_option linter.unusedVariables false
namespace Go.Proofs.YtlbmijcpalfaeaaGreatDoor
open Go.RowKit

theorem append_srcR {P : Program} (w : World) {ops : Array Oper} {rest : List Oper} {o : Oper} {a : Act} {Q : Exit → Act → World → Prop} (hgd : o.guard = none) (s x : Operand) (t : TypeId)
    (ho : o.op = .call { callee := .builtin .append, args := #[s, x], argTypes := #[t, t] })
    (base : Nat) (e : TypeId) (i : TypeInfo) (z : Value) (size bytes : Nat) (ht : P.underlying t = some (.slice e)) (hi : P.info? e = some i) (hz : i.zero = some z)
    (hsize : i.size = size) (hby : i.bytes = bytes) (hzs : z.cells.size = size) (hsz : 0 < size)
    (v : Value) (n : Nat) (xs : List Value) (hs : a.eval s = v) (hown : w.ownsRow base e size v n xs)
    (ao : Option Addr) (m c : Nat) (news : List Value) (hx : a.eval x = .slice ao m c) (hnone : ao = none → m = 0 ∧ c = 0) (hl : news.length = m * size) (hnews : ∀ ad, ao = some ad → ∀ j u, news[j]? = some u → w.cell? (ad.add j) = some u) (h1 : ∀ u ∈ news, u.oneCell' = true)
    (h63 : n + m ≤ maxLen) (hbytes : (n + m) * bytes ≤ 140737488355328) (hbase : base ≤ w.heap.size)
    (h : ∀ v' w', w'.ownsRow base e size v' (n + m) (xs ++ news) → w.grownBy w' v.ownBlock → wpList P ops Q rest (a.put o.dst v') w') : wpList P ops Q (o :: rest) a w := by
  cases ao with
  | none =>
    obtain ⟨rfl, rfl⟩ := hnone rfl
    have hn : news = [] := List.length_eq_zero_iff.1 (by omega)
    subst hn
    exact wpList_append_own_none hgd s x t ho base e i size ht hi v n xs hs hown hx (h v w (by simpa using hown) (World.grownBy.refl _ _))
  | some ad => exact wpList_append_own w hgd s x t ho base e i z size bytes ht hi hz hsize hby hzs hsz v n xs hs hown ad m c news hx hl (hnews ad rfl) h1 h63 hbytes hbase (fun v' w' h2 h3 _ => h v' w' h2 h3)
end Go.Proofs.YtlbmijcpalfaeaaGreatDoor

set_option linter.unusedSimpArgs false
set_option linter.unusedVariables false
namespace Go.Proofs.YtlbmijcpalfaeaaGreatDoor
open Go.RowKit Go.Lib

theorem g1F_in {l : List Fc} (h : ∀ k, i6 (fAt l k).n) : ∀ (nodes : List Nd) (is : Fc), (∀ x ∈ nodes, i6 x.n) → i6 is.n → i6 (nodes.foldl (g1F l) is).n := by
  intro nodes
  induction nodes with
  | nil => intro is _ hi; exact hi
  | cons x r ih =>
    intro is hx hi
    rw [List.foldl_cons]
    refine ih _ (fun y hy => hx y (by simp [hy])) ?_
    unfold g1F
    split
    · exact tdF_in h (hx x (by simp))
    · exact hi
theorem rcI_in {cs : List Cls} (hn : ∀ c ∈ cs, ∀ x ∈ c.nodes, i6 x.n) : ∀ t k, i6 (fAt (rcI cs t) k).n := by
  intro t
  induction t with
  | zero =>
    intro k
    unfold fAt
    show i6 ((List.replicate cs.length fc0).getD k.toNat fc0).n
    rw [List.getD_eq_getElem?_getD, List.getElem?_replicate]
    split <;> exact ⟨by decide, by decide⟩
  | succ t ih =>
    refine fun k => i6_at (fun f hf => ?_) k
    obtain ⟨i, hi, rfl⟩ := List.mem_map.1 hf
    have hi' : i < cs.length := by simpa using hi
    unfold gcF
    split
    · exact ih (i : Int)
    · exact g1F_in ih _ _ (hn _ (by rw [List.getD_eq_getElem?_getD, List.getElem?_eq_getElem hi']; exact List.getElem_mem hi')) (ih (i : Int))
theorem rcI_len (cs : List Cls) : ∀ t, (rcI cs t).length = cs.length := by
  intro t
  cases t with
  | zero => simp [rcI]
  | succ t => simp [rcI, scF]
theorem rcI_t (cs : List Cls) : ∀ t i, ((rcI cs t).getD i fc0).t = false := by
  intro t i
  rw [← clI_cp, cpF_at]; rfl
theorem rcI_cp (cs : List Cls) (t : Nat) : (rcI cs t).map cpF = rcI cs t := by
  rw [← clI_cp, List.map_map]
  exact List.map_congr_left fun f _ => rfl

/-- What the document's Cells asks of the cells. -/
def CeOk (cs : List Cls) : Prop := ∀ c ∈ cellsL cs, NdOk cs.length c.1 ∧ (c.1.op = 1 ∨ c.1.op = 2 → c.1.kids = []) ∧ i6 c.1.n
/-- Between two passes of the first kind. -/
structure P1M (w : World) (cs : List Cls) (m : Bool) (L : List Fc) (v : Value) (wr : World) : Prop where
  ex : ∃ xs, wr.ownsRow w.heap.size 29 3 v cs.length xs ∧ FcX xs L
  it : ∃ t, L = rcI cs t
  stop : m = false → scF cs L = L
  below : Below w.heap.size w wr
theorem P1M.len {w wr : World} {cs : List Cls} {m : Bool} {L : List Fc} {v : Value} (h : P1M w cs m L v wr) : L.length = cs.length := by
  obtain ⟨t, rfl⟩ := h.it; exact rcI_len cs t
theorem P1M.rd {w wr : World} {cs : List Cls} {m : Bool} {L : List Fc} {v : Value} (h : P1M w cs m L v wr) : FcS wr v L := by
  obtain ⟨xs, h1, h2⟩ := h.ex
  exact fcS_own (by rw [h.len]; exact h1) h2
/-- Within a pass of the first kind. -/
structure P1N (w : World) (cs : List Cls) (v5 v7 : Value) (L S : List Fc) (wr : World) : Prop where
  ex : ∃ xs, wr.ownsRow w.heap.size 29 3 v7 cs.length xs ∧ FcX xs S
  dr : FcS wr v5 L
  ne : ∀ a b, v7.ownBlock = some a → v5.ownBlock = some b → a ≠ b
  below : Below w.heap.size w wr
theorem fcS_oth {w w' : World} {v : Value} {fs : List Fc} (h : FcS w v fs) (hb : ∀ b, v.ownBlock = some b → w'.heap[b]? = w.heap[b]?) : FcS w' v fs := by
  obtain ⟨ao, cap, rfl, h1, h2, h3⟩ := h
  refine ⟨ao, cap, rfl, h1, h2, h3.imp id fun ⟨g, e, hr⟩ => ?_⟩
  subst e
  have hbl := hb g rfl
  have hc : ∀ o, w'.cell? ⟨g, o, none⟩ = w.cell? ⟨g, o, none⟩ := fun o => World.cell?_of_block (a := ⟨g, o, none⟩) hbl
  have hl := hr.lt
  refine ⟨g, rfl, ?_, fun i hi => ⟨(hc _).trans (hr.at_ i hi).c0, (hc _).trans (hr.at_ i hi).c1, (hc _).trans (hr.at_ i hi).c2⟩⟩
  rcases Nat.lt_or_ge g w'.heap.size with h | h
  · exact h
  · rw [Array.getElem?_eq_none h, Array.getElem?_eq_getElem hl] at hbl; cases hbl
theorem P1N.up {w wr w' : World} {cs : List Cls} {v5 v7 : Value} {L S : List Fc} (h : P1N w cs v5 v7 L S wr) (hb : Below wr.heap.size wr w') : P1N w cs v5 v7 L S w' := by
  obtain ⟨xs, h1, h2⟩ := h.ex
  exact ⟨⟨xs, ownsRow_below h1 hb, h2⟩, h.dr.below hb, h.ne, h.below.trans (hb.mono h.below.size)⟩
/-- Three cells of a row of facts set. -/
theorem fcX_set {xs : List Value} {fs : List Fc} (h : FcX xs fs) (hl : xs.length = fs.length * 3) {q : Nat} (hq : q < fs.length) (f : Fc) : FcX (((xs.set (q * 3) (.bool f.t)).set (q * 3 + 1) (.bool f.c)).set (q * 3 + 2) (.int .i64 f.n)) (fs.set q f) := by
  intro j hj
  rw [List.length_set] at hj
  rw [getD_setF _ _ _ _ hq]
  by_cases e : j = q
  · subst e
    rw [if_pos rfl]
    refine ⟨?_, ?_, ?_⟩
    · rw [List.getElem?_set_ne (by omega), List.getElem?_set_ne (by omega), List.getElem?_set_self (by omega)]
    · rw [List.getElem?_set_ne (by omega), List.getElem?_set_self (by simp; omega)]
    · rw [List.getElem?_set_self (by simp; omega)]
  · rw [if_neg e]
    obtain ⟨h0, h1, h2⟩ := h j hj
    refine ⟨?_, ?_, ?_⟩
    · rw [List.getElem?_set_ne (by omega), List.getElem?_set_ne (by omega), List.getElem?_set_ne (by omega)]; exact h0
    · rw [List.getElem?_set_ne (by omega), List.getElem?_set_ne (by omega), List.getElem?_set_ne (by omega)]; exact h1
    · rw [List.getElem?_set_ne (by omega), List.getElem?_set_ne (by omega), List.getElem?_set_ne (by omega)]; exact h2
theorem fcX_set0 {xs : List Value} {fs : List Fc} (h : FcX xs fs) (hl : xs.length = fs.length * 3) {q : Nat} (hq : q < fs.length) : FcX (xs.set (q * 3) (.bool true)) (fs.set q ⟨true, (fs.getD q fc0).c, (fs.getD q fc0).n⟩) := by
  intro j hj
  rw [List.length_set] at hj
  rw [getD_setF _ _ _ _ hq]
  obtain ⟨h0, h1, h2⟩ := h j hj
  by_cases e : j = q
  · subst e
    rw [if_pos rfl]
    refine ⟨?_, ?_, ?_⟩
    · rw [List.getElem?_set_self (by omega)]
    · rw [List.getElem?_set_ne (by omega)]; exact h1
    · rw [List.getElem?_set_ne (by omega)]; exact h2
  · rw [if_neg e]
    refine ⟨?_, ?_, ?_⟩
    · rw [List.getElem?_set_ne (by omega)]; exact h0
    · rw [List.getElem?_set_ne (by omega)]; exact h1
    · rw [List.getElem?_set_ne (by omega)]; exact h2
theorem P1N.store {w wr : World} {cs : List Cls} {v5 : Value} {g7 c7 : Nat} {L S : List Fc} (h : P1N w cs v5 (.slice (some ⟨g7, 0, none⟩) cs.length c7) L S wr) (hS : S.length = cs.length) {q : Nat} (hq : q < cs.length) (f : Fc) :
    P1N w cs v5 (.slice (some ⟨g7, 0, none⟩) cs.length c7) L (S.set q f) (((wr.setCell ⟨g7, q * 3, none⟩ (.bool f.t)).setCell ⟨g7, q * 3 + 1, none⟩ (.bool f.c)).setCell ⟨g7, q * 3 + 2, none⟩ (.int .i64 f.n)) := by
  obtain ⟨xs, h1, h2⟩ := h.ex
  have hl := h1.1
  have hg := (rw_block h1 (b := g7) rfl).1
  have p1 := own_put (i := q * 3) (u := .bool f.t) h1 (by omega)
  have p2 := own_put (i := q * 3 + 1) (u := .bool f.c) p1 (by simp; omega)
  have p3 := own_put (i := q * 3 + 2) (u := .int .i64 f.n) p2 (by simp; omega)
  have hB : ∀ (W : World) (o : Nat) (v : Value), Below w.heap.size w W → Below w.heap.size w (W.setCell ⟨g7, o, none⟩ v) := fun W o v hW => hW.setCell (p := ⟨g7, o, none⟩) hg v
  refine ⟨⟨_, p3, fcX_set h2 (by rw [hS]; exact hl) (by omega) f⟩, fcS_oth h.dr fun b' hb' => ?_, h.ne, hB _ _ _ (hB _ _ _ (hB _ _ _ h.below))⟩
  have hne : b' ≠ g7 := fun e => h.ne g7 b' rfl hb' e.symm
  rw [Deep.blk_setCell_other _ _ _ _ hne, Deep.blk_setCell_other _ _ _ _ hne, Deep.blk_setCell_other _ _ _ _ hne]
/-- Within the passes of the second kind. -/
structure P2M (w : World) (cs : List Cls) (R : List Fc) (v : Value) (wr : World) : Prop where
  ex : ∃ xs, wr.ownsRow w.heap.size 29 3 v cs.length xs ∧ FcX xs R
  below : Below w.heap.size w wr
theorem P2M.up {w wr w' : World} {cs : List Cls} {R : List Fc} {v : Value} (h : P2M w cs R v wr) (hb : Below wr.heap.size wr w') : P2M w cs R v w' := by
  obtain ⟨xs, h1, h2⟩ := h.ex
  exact ⟨⟨xs, ownsRow_below h1 hb, h2⟩, h.below.trans (hb.mono h.below.size)⟩
theorem P2M.rd {w wr : World} {cs : List Cls} {R : List Fc} {v : Value} (h : P2M w cs R v wr) (hl : R.length = cs.length) : FcS wr v R := by
  obtain ⟨xs, h1, h2⟩ := h.ex
  exact fcS_own (by rw [hl]; exact h1) h2
theorem P2M.store {w wr : World} {cs : List Cls} {R : List Fc} {g c : Nat} (h : P2M w cs R (.slice (some ⟨g, 0, none⟩) cs.length c) wr) (hl : R.length = cs.length) {q : Nat} (hq : q < cs.length) :
    P2M w cs (R.set q ⟨true, (R.getD q fc0).c, (R.getD q fc0).n⟩) (.slice (some ⟨g, 0, none⟩) cs.length c) (wr.setCell ⟨g, q * 3, none⟩ (.bool true)) := by
  obtain ⟨xs, h1, h2⟩ := h.ex
  have hxl := h1.1
  have hg := (rw_block h1 (b := g) rfl).1
  exact ⟨⟨_, own_put (i := q * 3) (u := .bool true) h1 (by omega), fcX_set0 h2 (by rw [hl]; exact hxl) (by omega)⟩, h.below.setCell (p := ⟨g, q * 3, none⟩) hg _⟩
theorem fcS_at {w : World} {ao : Option Addr} {n c : Nat} {fs : List Fc} (h : FcS w (.slice ao n c) fs) {q : Nat} (hq : q < fs.length) : ∃ g, ao = some ⟨g, 0, none⟩ ∧ g < w.heap.size ∧ FcAt w g (q * 3) (fs.getD q fc0) := by
  obtain ⟨ao2, cap2, h1, _, _, h2⟩ := h
  injection h1 with h1 _ _
  rcases h2 with h2 | ⟨g, h2, h3⟩
  · subst h2; simp at hq
  · exact ⟨g, h1.trans h2, h3.lt, h3.at_ q hq⟩

set_option maxRecDepth 100000 in
set_option maxHeartbeats 16000000 in
theorem cells13_any (w : World) (cs : List Cls) (la : Option Addr) (lc : Nat) (hC : Cels w w.heap.size (.slice la (cellsL cs).length lc) (cellsL cs)) (hok : CeOk cs) (hn : cs.length ≤ 4096) (hn6 : ∀ c ∈ cs, ∀ x ∈ c.nodes, i6 x.n) :
    Calls Tryz.prog 19 #[.int .i64 (cs.length : Nat), .slice la (cellsL cs).length lc] w fun e w' => (∃ v xs R, e = .returned v ∧ w'.ownsRow w.heap.size 29 3 v cs.length xs ∧ FcX xs R ∧ RtF cs R) ∧ Below w.heap.size w w' := by
  obtain ⟨i0, hi0, hz0, hz1, hz2⟩ := info_parts Tryz.infoFact
  have hmk := run_make_full (P := Tryz.prog) w w.heap.size 34 29 i0 (.agg #[.bool false, .bool false, .int .i64 0]) 3 Tryz.underlying34 hi0 hz0 hz1 .i64 .i64 cs.length (by rw [hz2]; omega) (by unfold maxLen; omega) (Nat.le_refl _)
  obtain ⟨w1, hmk, hown1, hg1⟩ := hmk
  have HM0 : Sld (P1M w cs true (rcI cs 0) (.slice (some ⟨w.heap.size, 0, none⟩) cs.length cs.length) w1) := ⟨⟨⟨_, hown1, fcX_zero cs.length⟩, ⟨0, rfl⟩, (fun h => nomatch h), (Below.refl _ _).grown hg1 (Nat.le_refl _) (by simp)⟩⟩
  have HC := Sld.mk hC
  have HOK := Sld.mk hok
  have HIN := Sld.mk (cellsL_in cs)
  have H6 := Sld.mk (rcI_in hn6)
  obtain ⟨hm1, hm2⟩ : (cellsL cs).length ≤ lc ∧ lc ≤ maxLen := by
    obtain ⟨_, _, e, h1, h2, _⟩ := id hC
    injection e with e1 e2 e3
    subst e3; exact ⟨h1, h2⟩
  unfold maxLen at hm2
  clear hC hok hn6 hown1 hg1
  go_enter Tryz.func19, Tryz.ntmps19
  go_wp2_with fail
  go_loopw [5, 6] (fun v b wr => ∃ (L : List Fc) (va : Option Addr) (vc : Nat) (m : Bool), v = .slice va cs.length vc ∧ b = .bool m ∧ Sld (P1M w cs m L (.slice va cs.length vc) wr)) (fun v b wr => rkV wr v cs.length + moB b)
  case atStart => exact ⟨_, _, _, _, rfl, rfl, HM0⟩
  case round =>
    obtain ⟨L, va, vc, m, rfl, rfl, HM⟩ := hrel
    have hLl := HM.out.len
    cases m with
    | false =>
      obtain ⟨tt, htt⟩ := HM.out.it
      have HRC : Sld (RcF cs L) := ⟨⟨tt, htt, HM.out.stop rfl⟩⟩
      have HT0 : Sld (∀ i, (L.getD i fc0).t = false) := ⟨fun i => by rw [htt]; exact rcI_t cs tt i⟩
      have HI0 : Sld (C2I cs L L) := ⟨⟨hLl, by rw [htt]; exact rcI_cp cs tt, fun F _ _ i h => by rw [HT0.out i] at h; cases h⟩⟩
      have HP0 : Sld (P2M w cs L (.slice va cs.length vc) wr) := ⟨⟨HM.out.ex, HM.out.below⟩⟩
      have hnI : (cs.length : Int) ≤ 4096 := by omega
      clear htt HM
      go_wp2_with fail
      go_loopw [12] (fun b wq => ∃ (R : List Fc) (m : Bool), b = .bool m ∧ Sld (P2M w cs R (.slice va cs.length vc) wq) ∧ Sld (C2I cs L R) ∧ Sld (m = false → ToC cs R)) (fun b wq => rkV wq (.slice va cs.length vc) cs.length + moB b)
      case atStart => exact ⟨L, true, rfl, HP0, HI0, ⟨fun h => nomatch h⟩⟩
      case round =>
        obtain ⟨R, m, rfl, HP, HI, HTC⟩ := hrel
        have hRl := HI.out.len
        cases m with
        | false =>
          have HE : Sld (RtF cs R) := ⟨⟨hRl, by rw [HI.out.cp]; exact HRC.out, HTC.out rfl, fun F hF hFc i h => HI.out.least F (by rw [hF, HI.out.cp]) hFc i h⟩⟩
          go_wp2_with fail
          go_ret
          obtain ⟨xs, h1, h2⟩ := HP.out.ex
          first | exact ⟨⟨_, xs, R, rfl, h1, h2, HE.out⟩, HP.out.below⟩ | exact ⟨⟨_, rfl, xs, R, h1, h2, HE.out⟩, HP.out.below⟩ | exact ⟨⟨_, rfl, xs, h1, R, h2, HE.out⟩, HP.out.below⟩ | exact ⟨⟨_, rfl, ⟨xs, h1, R, h2, HE.out⟩⟩, HP.out.below⟩
        | true =>
          have HRK : Sld (rkV wr (.slice va cs.length vc) cs.length + moB (.bool true) = rkL R + 1) := ⟨by
            have := rkV_fcS (HP.out.rd hRl)
            rw [hRl] at this
            rw [this]; rfl⟩
          have HS0 : Sld (C2S cs L R 0 R false) := ⟨⟨HI.out, Nat.le_refl _, (fun h => nomatch h), fun _ => ⟨rfl, by simp⟩⟩⟩
          have HPq := HP
          clear HP HI HTC
          go_wp2_with fail
          go_loopw [12, 13] (fun b i wq => ∃ (k : Nat) (S : List Fc) (m : Bool), k ≤ (cellsL cs).length ∧ i = .int .i64 k ∧ b = .bool m ∧ Sld (P2M w cs S (.slice va cs.length vc) wq) ∧ Sld (C2S cs L R k S m)) (fun _ i _ => (cellsL cs).length - (RowKit.intOf i).toNat)
          case atStart => exact ⟨0, R, false, Nat.zero_le _, rfl, rfl, HPq, HS0⟩
          case round =>
            obtain ⟨k, S, m, hk, rfl, rfl, HP, HS⟩ := hrel
            have hbq := HP.out.below
            have hSl := HS.out.inv.len
            by_cases hlt : k < (cellsL cs).length
            · obtain ⟨b, o, ka, kc, rfl, hbl, hna, hcz⟩ := (HC.out.below hbq hbq.size).cell hlt
              have hmem : (cellsL cs).getD k ce0 ∈ cellsL cs := by rw [getD_atT hlt]; exact List.getElem_mem hlt
              obtain ⟨hz0', hz1'⟩ := HIN.out _ hmem
              obtain ⟨hnd, hleaf, hx6⟩ := HOK.out _ hmem
              have hstep := HS.out.step hlt
              rw [show (cellsL cs)[k] = (cellsL cs).getD k ce0 from (getD_atT hlt).symm] at hstep
              have hltI : (k : Int) < ((cellsL cs).length : Int) := by omega
              generalize (cellsL cs).getD k ce0 = cz at *
              obtain ⟨x, z⟩ := cz
              simp only at hna hcz hz0' hz1' hnd hleaf hx6
              obtain ⟨z, rfl⟩ : ∃ q : Nat, z = (q : Int) := ⟨z.toNat, by omega⟩
              have hzl : z < cs.length := by omega
              obtain ⟨c0, c1, c2, c3, hki⟩ := hna
              obtain ⟨gL, hgL, hgLl, hLz⟩ := fcS_at (HP.out.rd hSl) (q := z) (by rw [hSl]; exact hzl)
              subst hgL
              obtain ⟨l0, l1, l2⟩ := hLz
              have CT : Sld (Calls Tryz.prog 27 #[.agg #[.int .i64 x.op, .int .i64 x.n, .string x.name, .slice ka x.kids.length kc], .slice (some ⟨gL, 0, none⟩) cs.length vc] wr fun e w' => e = .returned (.bool (tdF S x).t) ∧ Below wr.heap.size wr w') := ⟨total_any wr x ka kc _ S hki (HP.out.rd hSl) (by rw [hSl]; exact hnd.1) hnd.2.1 hleaf hnd.2.2⟩
              have HPS : Sld (∀ wz, Below wr.heap.size wr wz → P2M w cs (S.set z ⟨true, (S.getD z fc0).c, (S.getD z fc0).n⟩) (.slice (some ⟨gL, 0, none⟩) cs.length vc) (wz.setCell ⟨gL, z * 3, none⟩ (.bool true))) := ⟨fun wz hz => (HP.out.up hz).store hSl hzl⟩
              have HPU : Sld (∀ wz, Below wr.heap.size wr wz → P2M w cs S (.slice (some ⟨gL, 0, none⟩) cs.length vc) wz) := ⟨fun wz hz => HP.out.up hz⟩
              have HC7 : Sld (∀ wz, Below wr.heap.size wr wz → wz.cell? ⟨gL, z * 3, none⟩ = some (.bool (S.getD z fc0).t) ∧ wz.frozen? ⟨gL, z * 3, none⟩ = false) := ⟨fun wz hz => ⟨(hz.cell (p := ⟨gL, _, none⟩) hgLl).trans l0, by
                obtain ⟨xs, h1, _⟩ := HP.out.ex
                rw [World.frozen?_of_block (a := ⟨gL, z * 3, none⟩) (hz.block _ hgLl)]; exact rw_fro h1 _⟩⟩
              have hzI : (z : Int) < (cs.length : Int) := by omega
              have HSTP := Sld.mk hstep
              generalize hff : (tdF S x).t = f at *
              generalize hfl : (S.getD z fc0).t = flt at *
              have HFF := Sld.mk hff
              have HFL := Sld.mk hfl
              clear hki hbq hmem hnd hleaf hx6 hff hfl hstep l1 l2
              cases flt with
              | true =>
                have HE : Sld (c2F (S, m) (x, (z : Int)) = (S, m)) := ⟨by
                  unfold c2F
                  simp only [Int.toNat_natCast, HFL.out, if_true]⟩
                have HS2 : Sld (C2S cs L R (k + 1) S m) := ⟨by have := HSTP.out; rw [HE.out] at this; exact this⟩
                have HP8 := Sld.mk (HPU.out wr (Below.refl _ _))
                go_wp2_with fail
                exact ⟨⟨k + 1, S, m, by omega, by go_num, rfl, HP8, HS2⟩, by simp [RowKit.intOf]; omega⟩
              | false =>
                cases f with
                | false =>
                  have HE : Sld (c2F (S, m) (x, (z : Int)) = (S, m)) := ⟨by
                    unfold c2F
                    simp only [Int.toNat_natCast, HFL.out, HFF.out, Bool.false_eq_true, if_false]⟩
                  have HS2 : Sld (C2S cs L R (k + 1) S m) := ⟨by have := HSTP.out; rw [HE.out] at this; exact this⟩
                  go_wp2_with fail
                  refine CT.out.mono ?_
                  rintro e w8 ⟨rfl, hb8⟩
                  have HP8 := Sld.mk (HPU.out w8 hb8)
                  clear hb8 CT
                  go_wp2_with fail
                  exact ⟨⟨k + 1, S, m, by omega, by go_num, rfl, HP8, HS2⟩, by simp [RowKit.intOf]; omega⟩
                | true =>
                  have HE : Sld (c2F (S, m) (x, (z : Int)) = (S.set z ⟨true, (S.getD z fc0).c, (S.getD z fc0).n⟩, true)) := ⟨by
                    unfold c2F
                    simp only [Int.toNat_natCast, HFL.out, HFF.out, Bool.false_eq_true, if_false, if_true]⟩
                  have HS2 : Sld (C2S cs L R (k + 1) (S.set z ⟨true, (S.getD z fc0).c, (S.getD z fc0).n⟩) true) := ⟨by have := HSTP.out; rw [HE.out] at this; exact this⟩
                  go_wp2_with fail
                  refine CT.out.mono ?_
                  rintro e w8 ⟨rfl, hb8⟩
                  obtain ⟨s0, sf⟩ := HC7.out w8 hb8
                  have HP8 := Sld.mk (HPS.out w8 hb8)
                  clear hb8 CT
                  go_wp2_with fail
                  exact ⟨⟨k + 1, _, true, by omega, by go_num, rfl, HP8, HS2⟩, by simp [RowKit.intOf]; omega⟩
            · have hke : k = (cellsL cs).length := by omega
              subst hke
              have HTC : Sld (m = false → ToC cs S) := ⟨fun h => by subst h; exact HS.out.closed⟩
              have HI : Sld (C2I cs L S) := ⟨HS.out.inv⟩
              have HLT : Sld (rkV wr (.slice va cs.length vc) cs.length + moB (.bool m) < rkL R + 1) := ⟨by
                have e1 := rkV_fcS (HP.out.rd hSl)
                rw [hSl] at e1
                rw [e1]
                cases m with
                | true =>
                  have := HS.out.more rfl
                  show rkL S + 1 < rkL R + 1
                  omega
                | false =>
                  have := HS.out.le
                  show rkL S + 0 < rkL R + 1
                  omega⟩
              clear hbq
              go_wp2_with fail
              exact ⟨⟨S, m, rfl, HP, HI, HTC⟩, by rw [HRK.out]; exact HLT.out⟩
    | true =>
      obtain ⟨xsL, hoL, hxL⟩ := HM.out.ex
      have HRD := Sld.mk HM.out.rd
      have HBM := Sld.mk HM.out.below
      have HOL := Sld.mk hoL
      have hsz : w.heap.size ≤ wr.heap.size := HM.out.below.size
      have HN : Sld (va = none → cs.length = 0 ∧ vc = 0) := ⟨fun h => by
        subst h
        rcases hoL.2 with ⟨e, h0⟩ | ⟨g, cp, cur, e, _⟩
        · injection e with e1 e2 e3; exact ⟨h0, e3⟩
        · cases e⟩
      have HS : Sld (∀ ad, va = some ad → ∀ j u, xsL[j]? = some u → (wr.alloc (.cells #[] 29)).cell? (ad.add j) = some u) := ⟨fun ad had j u hu => by
        rcases (hoL.alloc (.cells #[] 29)).2 with ⟨e, h0⟩ | ⟨g, cp, cur, e, _⟩
        · injection e with e1 _ _; rw [e1] at had; cases had
        · injection e with e1 _ _
          have := (hoL.alloc (.cells #[] 29)).cells (g := g) (by rw [e1]; rfl) j u hu
          rw [e1] at had; cases had
          exact this⟩
      have H1 : Sld (∀ u ∈ xsL, u.oneCell' = true) := ⟨fun u hu => by
        obtain ⟨j, hj, e⟩ := List.getElem_of_mem hu
        have hl := hoL.1
        rw [hl] at hj
        have hq : j / 3 < L.length := by omega
        obtain ⟨h0, h1, h2⟩ := hxL (j / 3) hq
        have hjj : j = j / 3 * 3 ∨ j = j / 3 * 3 + 1 ∨ j = j / 3 * 3 + 2 := by omega
        have ej : xsL[j]? = some u := by rw [List.getElem?_eq_getElem (by omega), e]
        rcases hjj with hjj | hjj | hjj
        · rw [hjj, h0] at ej; cases ej; rfl
        · rw [hjj, h1] at ej; cases ej; rfl
        · rw [hjj, h2] at ej; cases ej; rfl⟩
      have HLX : Sld (xsL.length = cs.length * 3) := ⟨hoL.1⟩
      have HO : Sld ((wr.alloc (.cells #[] 29)).ownsRow wr.heap.size 29 3 (.slice (some ⟨wr.heap.size, 0, none⟩) 0 0) 0 []) := ⟨World.ownsRow_made wr #[] 0 (Nat.le_refl _) (Nat.zero_le _) rfl⟩
      have HXL := Sld.mk hxL
      have HRK : Sld (rkV wr (.slice va cs.length vc) cs.length + moB (.bool true) = rkL L + 1) := ⟨by
        have := rkV_fcS HRD.out
        rw [hLl] at this
        rw [this]; rfl⟩
      have hnI : (cs.length : Int) ≤ 4096 := by omega
      obtain ⟨tt, htt⟩ := HM.out.it
      have HIT := Sld.mk htt
      have HT0 : Sld (∀ i, (L.getD i fc0).t = false) := ⟨fun i => by rw [htt]; exact rcI_t cs tt i⟩
      have H6L : Sld (∀ k, i6 (fAt L k).n) := ⟨fun k => by rw [htt]; exact H6.out tt k⟩
      clear hoL hxL htt
      go_wp2_with (at_builtin; (refine append_srcR _ rfl _ _ 34 rfl wr.heap.size 29 i0 (.agg #[.bool false, .bool false, .int .i64 0]) 3 16 Tryz.underlying34 hi0 hz0 hz1 hz2 rfl (by decide) _ _ _ rfl HO.out va cs.length vc xsL rfl HN.out HLX.out HS.out H1.out (by unfold maxLen; omega) (by omega) (by simp) ?_; intro v7 w7 hown7 hgrow7))
      rw [Nat.zero_add, List.nil_append] at hown7
      obtain ⟨na, nc, rfl⟩ := row_form' hown7
      have hb7 : Below wr.heap.size wr w7 := ((Below.refl wr.heap.size wr).alloc (Nat.le_refl _) (.cells #[] 29)).grown hgrow7 (by simp) (fun k hk => by have e : some wr.heap.size = some k := hk; cases e; exact Nat.le_refl _)
      have HP0 : Sld (P1N w cs (.slice va cs.length vc) (.slice na cs.length nc) L (((cellsL cs).take 0).foldl (c1F L) (L, false)).1 w7) := ⟨⟨⟨xsL, ownsRow_base hown7 hsz, HXL.out⟩, HRD.out.below hb7, fun a b h1 h2 e => by
        have h3 := (rw_block hown7 h1).1
        have h4 := (rw_block HOL.out h2).2.1
        omega, HBM.out.trans (hb7.mono hsz)⟩⟩
      clear hown7 hgrow7 hb7 HS H1 HO HN HLX HOL HXL
      go_loopw [6, 8] (fun b i wq => ∃ k : Nat, k ≤ (cellsL cs).length ∧ i = .int .i64 k ∧ b = .bool (((cellsL cs).take k).foldl (c1F L) (L, false)).2 ∧ Sld (P1N w cs (.slice va cs.length vc) (.slice na cs.length nc) L (((cellsL cs).take k).foldl (c1F L) (L, false)).1 wq)) (fun _ i _ => (cellsL cs).length - (RowKit.intOf i).toNat)
      case atStart => exact ⟨0, Nat.zero_le _, rfl, rfl, HP0⟩
      case round =>
        obtain ⟨k, hk, rfl, rfl, HP⟩ := hrel
        have hbq := HP.out.below
        have hSl : (((cellsL cs).take k).foldl (c1F L) (L, false)).1.length = cs.length := by rw [c1_len]; exact hLl
        by_cases hlt : k < (cellsL cs).length
        · obtain ⟨b, o, ka, kc, rfl, hbl, hna, hcz⟩ := (HC.out.below hbq hbq.size).cell hlt
          have hmem : (cellsL cs).getD k ce0 ∈ cellsL cs := by rw [getD_atT hlt]; exact List.getElem_mem hlt
          obtain ⟨hz0', hz1'⟩ := HIN.out _ hmem
          obtain ⟨hnd, hleaf, hx6⟩ := HOK.out _ hmem
          have HST : Sld (((cellsL cs).take (k + 1)).foldl (c1F L) (L, false) = c1F L (((cellsL cs).take k).foldl (c1F L) (L, false)) ((cellsL cs).getD k ce0)) := ⟨by
            rw [List.take_succ_eq_append_getElem hlt, List.foldl_append, getD_atT hlt]; rfl⟩
          have hltI : (k : Int) < ((cellsL cs).length : Int) := by omega
          generalize ((cellsL cs).take k).foldl (c1F L) (L, false) = S1 at *
          generalize (cellsL cs).getD k ce0 = cz at *
          obtain ⟨x, z⟩ := cz
          obtain ⟨S, mb⟩ := S1
          simp only at hna hcz hz0' hz1' hnd hleaf hx6 hSl HP
          obtain ⟨z, rfl⟩ : ∃ q : Nat, z = (q : Int) := ⟨z.toNat, by omega⟩
          have hzl : z < cs.length := by omega
          obtain ⟨c0, c1, c2, c3, hki⟩ := hna
          obtain ⟨gL, hgL, hgLl, hLz⟩ := fcS_at HP.out.dr (q := z) (by rw [hLl]; exact hzl)
          subst hgL
          obtain ⟨xsS, hoS, hxS⟩ := HP.out.ex
          have hrS := fcS_own (fs := S) (v := .slice na cs.length nc) (by rw [hSl]; exact hoS) hxS
          obtain ⟨g7, hg7, hg7l, hSz⟩ := fcS_at hrS (q := z) (by rw [hSl]; exact hzl)
          subst hg7
          have hfz := fun o => rw_fro hoS o
          obtain ⟨l0, l1, l2⟩ := hLz
          obtain ⟨s0, s1, s2⟩ := hSz
          have CG : Sld (Calls Tryz.prog 26 #[.agg #[.int .i64 x.op, .int .i64 x.n, .string x.name, .slice ka x.kids.length kc], .slice (some ⟨gL, 0, none⟩) cs.length vc] wr fun e w' => e = .returned (.tuple #[.int .i64 (tdF L x).n, .bool (tdF L x).c]) ∧ Below wr.heap.size wr w') := ⟨given_any wr x ka kc _ L hki HP.out.dr (by rw [hLl]; exact hnd.1) H6L.out hnd.2.2⟩
          have HPS : Sld (∀ wz (f : Fc), Below wr.heap.size wr wz → P1N w cs (.slice (some ⟨gL, 0, none⟩) cs.length vc) (.slice (some ⟨g7, 0, none⟩) cs.length nc) L (S.set z f) (((wz.setCell ⟨g7, z * 3, none⟩ (.bool f.t)).setCell ⟨g7, z * 3 + 1, none⟩ (.bool f.c)).setCell ⟨g7, z * 3 + 2, none⟩ (.int .i64 f.n))) := ⟨fun wz f hz => (HP.out.up hz).store hSl hzl f⟩
          have HPU : Sld (∀ wz, Below wr.heap.size wr wz → P1N w cs (.slice (some ⟨gL, 0, none⟩) cs.length vc) (.slice (some ⟨g7, 0, none⟩) cs.length nc) L S wz) := ⟨fun wz hz => HP.out.up hz⟩
          have HC7 : Sld (∀ wz, Below wr.heap.size wr wz → wz.cell? ⟨g7, z * 3, none⟩ = some (.bool (S.getD z fc0).t) ∧ wz.cell? ⟨g7, z * 3 + 1, none⟩ = some (.bool (S.getD z fc0).c) ∧ wz.cell? ⟨g7, z * 3 + 2, none⟩ = some (.int .i64 (S.getD z fc0).n) ∧ (∀ o, wz.frozen? ⟨g7, o, none⟩ = false)) := ⟨fun wz hz => ⟨(hz.cell (p := ⟨g7, _, none⟩) hg7l).trans s0, (hz.cell (p := ⟨g7, _, none⟩) hg7l).trans s1, (hz.cell (p := ⟨g7, _, none⟩) hg7l).trans s2, fun o => by rw [World.frozen?_of_block (a := ⟨g7, o, none⟩) (hz.block _ hg7l)]; exact hfz o⟩⟩
          have hzI : (z : Int) < (cs.length : Int) := by omega
          generalize hff : tdF L x = f at *
          generalize hfl : L.getD z fc0 = fl at *
          generalize hfs : S.getD z fc0 = fsz at *
          obtain ⟨ft, fc, fn⟩ := f
          obtain ⟨flt, flc, fln⟩ := fl
          obtain ⟨st, sc, sn⟩ := fsz
          simp only at l0 l1 l2 s0 s1 s2 CG HC7
          have HFF := Sld.mk hff
          have HFL := Sld.mk hfl
          have HFS := Sld.mk hfs
          clear hki hoS hxS hrS hfz hbq hmem hnd hleaf hx6 hfl hfs hff s0 s1 s2 l0 l2
          cases flc with
          | true =>
            have HE : Sld (((cellsL cs).take (k + 1)).foldl (c1F L) (L, false) = (S, mb)) := ⟨by
              rw [HST.out]; unfold c1F
              simp only [Int.toNat_natCast, HFF.out, HFL.out, HFS.out]
              simp⟩
            have HP8 := Sld.mk (HPU.out wr (Below.refl _ _))
            go_wp2_with fail
            exact ⟨⟨k + 1, by omega, by go_num, by rw [HE.out], ⟨by rw [HE.out]; exact HP8.out⟩⟩, by simp [RowKit.intOf]; omega⟩
          | false =>
            cases fc with
            | false =>
              have HE : Sld (((cellsL cs).take (k + 1)).foldl (c1F L) (L, false) = (S, mb)) := ⟨by
                rw [HST.out]; unfold c1F
                simp only [Int.toNat_natCast, HFF.out, HFL.out, HFS.out]
                simp⟩
              go_wp2_with fail
              refine CG.out.mono ?_
              rintro e w8 ⟨rfl, hb8⟩
              obtain ⟨s0, s1, s2, sf⟩ := HC7.out w8 hb8
              have HP8 := Sld.mk (HPU.out w8 hb8)
              clear hb8 CG
              go_wp2_with fail
              exact ⟨⟨k + 1, by omega, by go_num, by rw [HE.out], ⟨by rw [HE.out]; exact HP8.out⟩⟩, by simp [RowKit.intOf]; omega⟩
            | true =>
              cases sc with
              | false =>
                have HE : Sld (((cellsL cs).take (k + 1)).foldl (c1F L) (L, false) = (S.set z ⟨false, true, fn⟩, true)) := ⟨by
                  rw [HST.out]; unfold c1F
                  simp only [Int.toNat_natCast, HFF.out, HFL.out, HFS.out]
                  simp⟩
                go_wp2_with fail
                refine CG.out.mono ?_
                rintro e w8 ⟨rfl, hb8⟩
                obtain ⟨s0, s1, s2, sf⟩ := HC7.out w8 hb8
                have HP8 := Sld.mk (HPS.out w8 ⟨false, true, fn⟩ hb8)
                clear hb8 CG
                go_wp2_with fail
                exact ⟨⟨k + 1, by omega, by go_num, by rw [HE.out], ⟨by rw [HE.out]; exact HP8.out⟩⟩, by simp [RowKit.intOf]; omega⟩
              | true =>
                by_cases hlt2 : fn < sn
                · have hx0 := hlt2
                  have HE : Sld (((cellsL cs).take (k + 1)).foldl (c1F L) (L, false) = (S.set z ⟨false, true, fn⟩, true)) := ⟨by
                    rw [HST.out]; unfold c1F
                    simp only [Int.toNat_natCast, HFF.out, HFL.out, HFS.out]
                    simp [hlt2]⟩
                  go_wp2_with fail
                  refine CG.out.mono ?_
                  rintro e w8 ⟨rfl, hb8⟩
                  obtain ⟨s0, s1, s2, sf⟩ := HC7.out w8 hb8
                  have HP8 := Sld.mk (HPS.out w8 ⟨false, true, fn⟩ hb8)
                  clear hb8 CG
                  go_wp2_with fail
                  exact ⟨⟨k + 1, by omega, by go_num, by rw [HE.out], ⟨by rw [HE.out]; exact HP8.out⟩⟩, by simp [RowKit.intOf]; omega⟩
                · have hx0 := hlt2
                  have HE : Sld (((cellsL cs).take (k + 1)).foldl (c1F L) (L, false) = (S, mb)) := ⟨by
                    rw [HST.out]; unfold c1F
                    simp only [Int.toNat_natCast, HFF.out, HFL.out, HFS.out]
                    simp [hlt2]⟩
                  go_wp2_with fail
                  refine CG.out.mono ?_
                  rintro e w8 ⟨rfl, hb8⟩
                  obtain ⟨s0, s1, s2, sf⟩ := HC7.out w8 hb8
                  have HP8 := Sld.mk (HPU.out w8 hb8)
                  clear hb8 CG
                  go_wp2_with fail
                  exact ⟨⟨k + 1, by omega, by go_num, by rw [HE.out], ⟨by rw [HE.out]; exact HP8.out⟩⟩, by simp [RowKit.intOf]; omega⟩
        · have hke : k = (cellsL cs).length := by omega
          subst hke
          rw [List.take_length] at HP ⊢
          have hc1 := c1_all hLl
          have HNX : Sld (P1M w cs ((cellsL cs).foldl (c1F L) (L, false)).2 (scF cs L) (.slice na cs.length nc) wr) := ⟨by
            obtain ⟨xs, h1, h2⟩ := HP.out.ex
            rw [hc1] at h2
            refine ⟨⟨xs, h1, h2⟩, ⟨tt + 1, by rw [HIT.out]; rfl⟩, fun hm => ?_, HP.out.below⟩
            obtain ⟨_, h3⟩ := c1_false L _ _ hm
            rw [hc1] at h3
            have h4 : scF cs L = L := h3
            rw [h4]; exact h4⟩
          have HLT : Sld (rkV wr (.slice na cs.length nc) cs.length + moB (.bool ((cellsL cs).foldl (c1F L) (L, false)).2) < rkL L + 1) := ⟨by
            have e1 := rkV_fcS HNX.out.rd
            have e2 : (scF cs L).length = cs.length := by simp [scF]
            rw [e2] at e1
            rw [e1]
            obtain ⟨h1, h2⟩ := scF_rk hLl HT0.out
            cases hb : ((cellsL cs).foldl (c1F L) (L, false)).2 with
            | true =>
              have := h2 (c1_rk hLl HT0.out hb)
              show rkL (scF cs L) + 1 < rkL L + 1
              omega
            | false => show rkL (scF cs L) + 0 < rkL L + 1; omega⟩
          generalize ((cellsL cs).foldl (c1F L) (L, false)).2 = mz at *
          clear hbq hc1
          go_wp2_with fail
          exact ⟨⟨_, _, _, _, rfl, rfl, HNX⟩, by rw [HRK.out]; exact HLT.out⟩
end Go.Proofs.YtlbmijcpalfaeaaGreatDoor

set_option linter.unusedSimpArgs false
set_option linter.unusedVariables false
namespace Go.Proofs.YtlbmijcpalfaeaaGreatDoor
open Go.RowKit Go.Lib

/-- A fact in a block of its own. -/
def FcB (w : World) (b : Nat) (f : Fc) : Prop := w.heap[b]? = some (.cells #[.bool f.t, .bool f.c, .int .i64 f.n] 29 (0, 0))
theorem FcB.below {w w' : World} {b : Nat} {f : Fc} (h : FcB w b f) {B : Nat} (hb : Below B w w') (hl : b < B) : FcB w' b f := (hb.block b hl).trans h

set_option maxRecDepth 20000 in
set_option maxHeartbeats 4000000 in
theorem grown_any (w : World) (was : Fc) (nodes : List Nd) (na : Option Addr) (nc : Nat) (g c : Nat) (fs : List Fc) (hN : Nodes w w.heap.size (.slice na nodes.length nc) nodes) (hF : FcR w g fs) (m : Nat) (hfm : fs.length ≤ m) (hfc : m ≤ c) (hcm : c ≤ maxLen) (hk : ∀ x ∈ nodes, NdOk fs.length x) (hG : GrpCells w) :
    Calls Tryz.prog 29 #[.agg #[.bool was.t, .bool was.c, .int .i64 was.n], .slice na nodes.length nc, .slice (some ⟨g, 0, none⟩) m c] w fun e w' => e = .returned (.agg #[.bool (gwF fs was nodes).t, .bool (gwF fs was nodes).c, .int .i64 (gwF fs was nodes).n]) ∧ Below w.heap.size w w' := by
  obtain ⟨wt, wc, wn⟩ := was
  simp only
  obtain ⟨W1, hW1⟩ : ∃ W1, (w.alloc (.cells #[.bool wt, .bool wc, .int .i64 wn] 29)).alloc (.cells #[.bool false, .bool false, .int .i64 0] 29) = W1 := ⟨_, rfl⟩
  have hb1 : Below w.heap.size w W1 := by rw [← hW1]; exact ((Below.refl _ _).alloc (Nat.le_refl _) _).alloc (by simp) _
  have hs1 : W1.heap.size = w.heap.size + 2 := by rw [← hW1]; simp
  have hx1 : W1.heap[w.heap.size]? = some (.cells #[.bool wt, .bool wc, .int .i64 wn] 29 (0, 0)) := by rw [← hW1, Deep.blk_alloc_lt _ _ _ (by simp), Deep.blk_alloc_new]
  have hy1 : W1.heap[w.heap.size + 1]? = some (.cells #[.bool false, .bool false, .int .i64 0] 29 (0, 0)) := by
    have := Deep.blk_alloc_new (w.alloc (.cells #[.bool wt, .bool wc, .int .i64 wn] 29)) (.cells #[.bool false, .bool false, .int .i64 0] 29)
    rw [← hW1]
    rw [World.size_alloc] at this
    exact this
  have HW1 := Sld.mk hW1
  have HB1 := Sld.mk hb1
  have HY1 := Sld.mk hy1
  obtain ⟨x0, x1, x2, _⟩ := blk3 hx1
  obtain ⟨y0, y1, y2, yf⟩ := blk3 hy1
  cases wc with
  | true =>
    have HE : Sld (gwF fs ⟨wt, true, wn⟩ nodes = ⟨wt, true, wn⟩) := ⟨by unfold gwF; rw [if_pos rfl]⟩
    clear hW1 hb1 hx1 hy1 hN hF hG hk
    go_enter Tryz.func29, Tryz.ntmps29
    go_wp2_with fail
    have hS := Deep.blk_alloc_new (w.alloc (.cells #[.bool wt, .bool true, .int .i64 wn] 29)) (.cells #[.bool wt, .bool true, .int .i64 wn] 29)
    rw [World.size_alloc] at hS
    obtain ⟨z0, z1, z2, _⟩ := blk3 hS
    refine bodyPost_ret (v := .agg #[.bool wt, .bool true, .int .i64 wn]) (by simp [results, Tryz.results29, go_sem, z0, z1, z2]) rfl ⟨by rw [HE.out], ((Below.refl _ _).alloc (Nat.le_refl _) _).alloc (by simp) _⟩
  | false =>
    have HE : Sld (gwF fs ⟨wt, false, wn⟩ nodes = nodes.foldl (gw1 fs) ⟨wt, false, wn⟩) := ⟨by unfold gwF; rw [if_neg (by simp)]⟩
    obtain ⟨W2, hW2⟩ : ∃ W2, W1.alloc (.cells #[.bool wt, .bool false, .int .i64 wn] 29) = W2 := ⟨_, rfl⟩
    have hb2 : Below w.heap.size w W2 := by rw [← hW2]; exact hb1.alloc hb1.size _
    have hs2 : W2.heap.size = w.heap.size + 3 := by rw [← hW2, World.size_alloc, hs1]
    have hA2 : FcB W2 (w.heap.size + 2) ⟨wt, false, wn⟩ := by
      have := Deep.blk_alloc_new W1 (.cells #[.bool wt, .bool false, .int .i64 wn] 29)
      rw [← hW2]; rw [hs1] at this; exact this
    have hy2 : W2.heap[w.heap.size + 1]? = some (.cells #[.bool false, .bool false, .int .i64 0] 29 (0, 0)) := by
      rw [← hW2, Deep.blk_alloc_lt _ _ _ (by omega)]; exact hy1
    have HW2 := Sld.mk hW2
    have HS1 := Sld.mk hs1
    have HS2 := Sld.mk hs2
    have HY2 := Sld.mk hy2
    have HA2 := Sld.mk hA2
    have HB2 := Sld.mk hb2
    have HN := Sld.mk hN
    have HF := Sld.mk hF
    have HG := Sld.mk hG
    have HK := Sld.mk hk
    obtain ⟨_, _, d1, hn1, hn2, _⟩ := id hN
    injection d1 with d1 d2 d3
    rw [← d3] at hn1 hn2
    unfold maxLen at hn2
    clear d1 d2 d3 hW1 hb1 hx1 hy1 hN hF hG hk hW2 hb2 hA2 hy2 hs1 hs2
    go_enter Tryz.func29, Tryz.ntmps29
    go_wp2_with fail
    rw [HW1.out, HW2.out]
    go_loopw [17] (fun i wr => ∃ q : Nat, q ≤ nodes.length ∧ i = .int .i64 q ∧ Sld (FcB wr (w.heap.size + 1 + 1) ((nodes.take q).foldl (gw1 fs) ⟨wt, false, wn⟩)) ∧ Sld (wr.heap[w.heap.size + 1]? = some (.cells #[.bool false, .bool false, .int .i64 0] 29 (0, 0))) ∧ Sld (Below w.heap.size w wr)) (fun i _ => nodes.length - (RowKit.intOf i).toNat)
    case atStart => exact ⟨0, Nat.zero_le _, rfl, HA2, HY2, HB2⟩
    case round =>
      obtain ⟨q, hq, rfl, HA, HY, HB⟩ := hrel
      by_cases hql : q < nodes.length
      · obtain ⟨b, o, kv, hna, hbl, hAt⟩ : ∃ b o kv, na = some ⟨b, o, none⟩ ∧ b < wr.heap.size ∧ NodeAt wr wr.heap.size b (o + q * 4) (nodes.getD q nd0) kv := by
          obtain ⟨ao, cap, h1, _, _, h2⟩ := HN.out.below HB.out HB.out.size
          injection h1 with h1 _ _
          rcases h2 with h2 | ⟨b, o, h2, hbl, h3⟩
          · subst h2; simp at hql
          · obtain ⟨kv, h4⟩ := h3 q hql
            exact ⟨b, o, kv, h1.trans h2, hbl, h4⟩
        subst hna
        have HST : Sld ((nodes.take (q + 1)).foldl (gw1 fs) ⟨wt, false, wn⟩ = gw1 fs ((nodes.take q).foldl (gw1 fs) ⟨wt, false, wn⟩) (nodes.getD q nd0)) := ⟨by
          rw [List.take_add_one, List.foldl_append, List.getElem?_eq_getElem hql, getD_atT hql]
          rfl⟩
        have hOK : NdOk fs.length (nodes.getD q nd0) := HK.out _ (by rw [getD_atT hql]; exact List.getElem_mem hql)
        generalize (nodes.take q).foldl (gw1 fs) ⟨wt, false, wn⟩ = r at *
        generalize nodes.getD q nd0 = x at *
        obtain ⟨k0, k1, k2, k3, hK⟩ := hAt
        obtain ⟨ka, kc, hkv, _⟩ := id hK
        subst hkv
        obtain ⟨W5, hW5⟩ : ∃ W5, wr.alloc (.cells #[.int .i64 x.op, .int .i64 x.n, .string x.name, .slice ka x.kids.length kc] 41) = W5 := ⟨_, rfl⟩
        have hb5 : Below wr.heap.size wr W5 := by rw [← hW5]; exact (Below.refl _ _).alloc (Nat.le_refl _) _
        have HB5 := Sld.mk hb5
        have HW5 := Sld.mk hW5
        have hb5' : Below w.heap.size w W5 := HB.out.trans (hb5.mono HB.out.size)
        have CT := Sld.mk (told_any W5 x ka kc g c fs (hK.below hb5 hb5.size) (HF.out.below hb5') m hfm hfc hcm hOK.1 hOK.2.1 (HG.out.below hb5') hOK.2.2)
        have hqI : (q : Int) < (nodes.length : Int) := by omega
        replace HST : Sld ((nodes.take (q + 1)).foldl (gw1 fs) ⟨wt, false, wn⟩ = if ((tdF fs x).c && (!r.c || decide ((tdF fs x).n < r.n))) = true then ⟨r.t || (tdF fs x).t, true, (tdF fs x).n⟩ else ⟨r.t || (tdF fs x).t, r.c, r.n⟩) := ⟨HST.out⟩
        generalize tdF fs x = f at *
        generalize x.op = xo at *
        generalize x.n = xn at *
        generalize x.name = xs at *
        generalize x.kids.length = xl at *
        obtain ⟨ft, fc, fn⟩ := f
        obtain ⟨rt, rc, rn⟩ := r
        simp only at CT HST HA
        clear hb5 hW5 hK hb5' hOK
        go_wp2_with fail
        rw [HW5.out]
        refine CT.out.mono ?_
        rintro e w6 ⟨rfl, hb6⟩
        have HB6 : Sld (Below w.heap.size w w6) := ⟨HB.out.trans ((HB5.out.trans (hb6.mono HB5.out.size)).mono HB.out.size)⟩
        obtain ⟨W7, hW7⟩ : ∃ W7, w6.alloc (.cells #[.bool ft, .bool fc, .int .i64 fn] 29) = W7 := ⟨_, rfl⟩
        have hF7 : FcB W7 w6.heap.size ⟨ft, fc, fn⟩ := by rw [← hW7]; exact Deep.blk_alloc_new _ _
        have hAl : w.heap.size + 1 + 1 < wr.heap.size := lt_of_block HA.out
        have hb67 : Below wr.heap.size wr w6 := HB5.out.trans (hb6.mono HB5.out.size)
        have hb7 : Below wr.heap.size wr W7 := by rw [← hW7]; exact hb67.alloc hb67.size _
        have hA7 : FcB W7 (w.heap.size + 1 + 1) ⟨rt, rc, rn⟩ := HA.out.below hb7 hAl
        have hY7 := (hb7.block _ (by omega : w.heap.size + 1 < wr.heap.size)).trans HY.out
        have HB7 : Sld (Below w.heap.size w W7) := ⟨HB.out.trans (hb7.mono HB.out.size)⟩
        have hs67 := hb67.size
        have HW7 := Sld.mk hW7
        have HF7 := Sld.mk hF7
        have HA7 := Sld.mk hA7
        have HY7 := Sld.mk hY7
        have hneI : w.heap.size + 1 + 1 ≠ w6.heap.size := by omega
        obtain ⟨a0, a1, a2, af⟩ := blk3 (show W7.heap[w.heap.size + 1 + 1]? = some (.cells #[.bool rt, .bool rc, .int .i64 rn] 29 (0, 0)) from hA7)
        obtain ⟨f0, f1, f2, ff⟩ := blk3 (show W7.heap[w6.heap.size]? = some (.cells #[.bool ft, .bool fc, .int .i64 fn] 29 (0, 0)) from hF7)
        rw [← hW7] at a0 a1 a2 af f0 f1 f2 ff
        clear hW7 hF7 hA7 hY7 hb7 hb67 hb6 CT
        cases rt with
        | true =>
          obtain ⟨W8, hW8⟩ : ∃ W8, W7.setCell ⟨w.heap.size + 1 + 1, 0, none⟩ (.bool true) = W8 := ⟨_, rfl⟩
          have hA8 : FcB W8 (w.heap.size + 1 + 1) ⟨true, rc, rn⟩ := by
            have := heap_setCell_same W7 (w.heap.size + 1 + 1) 0 _ _ (.bool true) HA7.out
            rw [hW8] at this; simpa [FcB] using this
          have hF8 : FcB W8 w6.heap.size ⟨ft, fc, fn⟩ := by
            unfold FcB; rw [← hW8, Deep.blk_setCell_other _ _ _ _ (by show w6.heap.size ≠ w.heap.size + 1 + 1; omega)]; exact HF7.out
          have hY8 : W8.heap[w.heap.size + 1]? = some (.cells #[.bool false, .bool false, .int .i64 0] 29 (0, 0)) := by
            rw [← hW8, Deep.blk_setCell_other _ _ _ _ (by show w.heap.size + 1 ≠ w.heap.size + 1 + 1; omega)]; exact HY7.out
          have hB8 : Below w.heap.size w W8 := by rw [← hW8]; exact HB7.out.setCell (p := ⟨w.heap.size + 1 + 1, 0, none⟩) (by show w.heap.size ≤ w.heap.size + 1 + 1; omega) _
          have HW8 := Sld.mk hW8
          have HA8 := Sld.mk hA8
          have HY8 := Sld.mk hY8
          have HB8 := Sld.mk hB8
          obtain ⟨b0, b1, b2, bf⟩ := blk3 (show W8.heap[w.heap.size + 1 + 1]? = some (.cells #[.bool true, .bool rc, .int .i64 rn] 29 (0, 0)) from hA8)
          obtain ⟨e0, e1, e2, ef⟩ := blk3 (show W8.heap[w6.heap.size]? = some (.cells #[.bool ft, .bool fc, .int .i64 fn] 29 (0, 0)) from hF8)
          rw [← hW8, ← HW7.out] at b0 b1 b2 bf e0 e1 e2 ef
          clear hW8 hA8 hF8 hY8 hB8
          cases fc with
          | false =>
            simp only [Bool.false_and, Bool.true_or, Bool.false_or, Bool.false_eq_true, if_false] at HST
            go_wp2_with fail
            rw [HW7.out, HW8.out]
            exact ⟨⟨q + 1, by omega, by go_num, ⟨by rw [HST.out]; exact HA8.out⟩, HY8, HB8⟩, by simp [RowKit.intOf]; omega⟩
          | true =>
            cases rc with
            | false =>
              simp only [Bool.true_and, Bool.not_false, Bool.true_or, Bool.false_or, if_true] at HST
              have HE : Sld (FcB ((W8.setCell ⟨w.heap.size + 1 + 1, 1, none⟩ (.bool true)).setCell ⟨w.heap.size + 1 + 1, 2, none⟩ (.int .i64 fn)) (w.heap.size + 1 + 1) ⟨true, true, fn⟩) := ⟨by
                have h1 := heap_setCell_same W8 (w.heap.size + 1 + 1) 1 _ _ (.bool true) HA8.out
                have h2 := heap_setCell_same _ (w.heap.size + 1 + 1) 2 _ _ (.int .i64 fn) h1
                simpa [FcB] using h2⟩
              have HYE : Sld (((W8.setCell ⟨w.heap.size + 1 + 1, 1, none⟩ (.bool true)).setCell ⟨w.heap.size + 1 + 1, 2, none⟩ (.int .i64 fn)).heap[w.heap.size + 1]? = some (.cells #[.bool false, .bool false, .int .i64 0] 29 (0, 0))) := ⟨by
                rw [Deep.blk_setCell_other _ _ _ _ (by show w.heap.size + 1 ≠ w.heap.size + 1 + 1; omega), Deep.blk_setCell_other _ _ _ _ (by show w.heap.size + 1 ≠ w.heap.size + 1 + 1; omega)]; exact HY8.out⟩
              have HBE : Sld (Below w.heap.size w ((W8.setCell ⟨w.heap.size + 1 + 1, 1, none⟩ (.bool true)).setCell ⟨w.heap.size + 1 + 1, 2, none⟩ (.int .i64 fn))) := ⟨(HB8.out.setCell (p := ⟨w.heap.size + 1 + 1, 1, none⟩) (by show w.heap.size ≤ w.heap.size + 1 + 1; omega) _).setCell (p := ⟨w.heap.size + 1 + 1, 2, none⟩) (by show w.heap.size ≤ w.heap.size + 1 + 1; omega) _⟩
              go_wp2_with fail
              go_region
              go_wp2_with fail
              rw [HW7.out, HW8.out]
              exact ⟨⟨q + 1, by omega, by go_num, ⟨by rw [HST.out]; exact HE.out⟩, HYE, ⟨HBE.out.drew⟩⟩, by simp [RowKit.intOf]; omega⟩
            | true =>
              by_cases hlt : fn < rn
              · simp only [Bool.true_and, Bool.not_true, Bool.true_or, Bool.false_or, decide_eq_true hlt, if_true] at HST
                have HE : Sld (FcB ((W8.setCell ⟨w.heap.size + 1 + 1, 1, none⟩ (.bool true)).setCell ⟨w.heap.size + 1 + 1, 2, none⟩ (.int .i64 fn)) (w.heap.size + 1 + 1) ⟨true, true, fn⟩) := ⟨by
                  have h1 := heap_setCell_same W8 (w.heap.size + 1 + 1) 1 _ _ (.bool true) HA8.out
                  have h2 := heap_setCell_same _ (w.heap.size + 1 + 1) 2 _ _ (.int .i64 fn) h1
                  simpa [FcB] using h2⟩
                have HYE : Sld (((W8.setCell ⟨w.heap.size + 1 + 1, 1, none⟩ (.bool true)).setCell ⟨w.heap.size + 1 + 1, 2, none⟩ (.int .i64 fn)).heap[w.heap.size + 1]? = some (.cells #[.bool false, .bool false, .int .i64 0] 29 (0, 0))) := ⟨by
                  rw [Deep.blk_setCell_other _ _ _ _ (by show w.heap.size + 1 ≠ w.heap.size + 1 + 1; omega), Deep.blk_setCell_other _ _ _ _ (by show w.heap.size + 1 ≠ w.heap.size + 1 + 1; omega)]; exact HY8.out⟩
                have HBE : Sld (Below w.heap.size w ((W8.setCell ⟨w.heap.size + 1 + 1, 1, none⟩ (.bool true)).setCell ⟨w.heap.size + 1 + 1, 2, none⟩ (.int .i64 fn))) := ⟨(HB8.out.setCell (p := ⟨w.heap.size + 1 + 1, 1, none⟩) (by show w.heap.size ≤ w.heap.size + 1 + 1; omega) _).setCell (p := ⟨w.heap.size + 1 + 1, 2, none⟩) (by show w.heap.size ≤ w.heap.size + 1 + 1; omega) _⟩
                go_wp2_with fail
                go_region
                go_wp2_with fail
                rw [HW7.out, HW8.out]
                exact ⟨⟨q + 1, by omega, by go_num, ⟨by rw [HST.out]; exact HE.out⟩, HYE, ⟨HBE.out.drew⟩⟩, by simp [RowKit.intOf]; omega⟩
              · simp only [Bool.true_and, Bool.not_true, Bool.true_or, Bool.false_or, decide_eq_false hlt, Bool.false_eq_true, if_false] at HST
                go_wp2_with fail
                rw [HW7.out, HW8.out]
                exact ⟨⟨q + 1, by omega, by go_num, ⟨by rw [HST.out]; exact HA8.out⟩, HY8, HB8⟩, by simp [RowKit.intOf]; omega⟩
        | false =>
          obtain ⟨W8, hW8⟩ : ∃ W8, W7.setCell ⟨w.heap.size + 1 + 1, 0, none⟩ (.bool ft) = W8 := ⟨_, rfl⟩
          have hA8 : FcB W8 (w.heap.size + 1 + 1) ⟨ft, rc, rn⟩ := by
            have := heap_setCell_same W7 (w.heap.size + 1 + 1) 0 _ _ (.bool ft) HA7.out
            rw [hW8] at this; simpa [FcB] using this
          have hF8 : FcB W8 w6.heap.size ⟨ft, fc, fn⟩ := by
            unfold FcB; rw [← hW8, Deep.blk_setCell_other _ _ _ _ (by show w6.heap.size ≠ w.heap.size + 1 + 1; omega)]; exact HF7.out
          have hY8 : W8.heap[w.heap.size + 1]? = some (.cells #[.bool false, .bool false, .int .i64 0] 29 (0, 0)) := by
            rw [← hW8, Deep.blk_setCell_other _ _ _ _ (by show w.heap.size + 1 ≠ w.heap.size + 1 + 1; omega)]; exact HY7.out
          have hB8 : Below w.heap.size w W8 := by rw [← hW8]; exact HB7.out.setCell (p := ⟨w.heap.size + 1 + 1, 0, none⟩) (by show w.heap.size ≤ w.heap.size + 1 + 1; omega) _
          have HW8 := Sld.mk hW8
          have HA8 := Sld.mk hA8
          have HY8 := Sld.mk hY8
          have HB8 := Sld.mk hB8
          obtain ⟨b0, b1, b2, bf⟩ := blk3 (show W8.heap[w.heap.size + 1 + 1]? = some (.cells #[.bool ft, .bool rc, .int .i64 rn] 29 (0, 0)) from hA8)
          obtain ⟨e0, e1, e2, ef⟩ := blk3 (show W8.heap[w6.heap.size]? = some (.cells #[.bool ft, .bool fc, .int .i64 fn] 29 (0, 0)) from hF8)
          rw [← hW8, ← HW7.out] at b0 b1 b2 bf e0 e1 e2 ef
          clear hW8 hA8 hF8 hY8 hB8
          cases fc with
          | false =>
            simp only [Bool.false_and, Bool.true_or, Bool.false_or, Bool.false_eq_true, if_false] at HST
            go_wp2_with fail
            rw [HW7.out, HW8.out]
            exact ⟨⟨q + 1, by omega, by go_num, ⟨by rw [HST.out]; exact HA8.out⟩, HY8, HB8⟩, by simp [RowKit.intOf]; omega⟩
          | true =>
            cases rc with
            | false =>
              simp only [Bool.true_and, Bool.not_false, Bool.true_or, Bool.false_or, if_true] at HST
              have HE : Sld (FcB ((W8.setCell ⟨w.heap.size + 1 + 1, 1, none⟩ (.bool true)).setCell ⟨w.heap.size + 1 + 1, 2, none⟩ (.int .i64 fn)) (w.heap.size + 1 + 1) ⟨ft, true, fn⟩) := ⟨by
                have h1 := heap_setCell_same W8 (w.heap.size + 1 + 1) 1 _ _ (.bool true) HA8.out
                have h2 := heap_setCell_same _ (w.heap.size + 1 + 1) 2 _ _ (.int .i64 fn) h1
                simpa [FcB] using h2⟩
              have HYE : Sld (((W8.setCell ⟨w.heap.size + 1 + 1, 1, none⟩ (.bool true)).setCell ⟨w.heap.size + 1 + 1, 2, none⟩ (.int .i64 fn)).heap[w.heap.size + 1]? = some (.cells #[.bool false, .bool false, .int .i64 0] 29 (0, 0))) := ⟨by
                rw [Deep.blk_setCell_other _ _ _ _ (by show w.heap.size + 1 ≠ w.heap.size + 1 + 1; omega), Deep.blk_setCell_other _ _ _ _ (by show w.heap.size + 1 ≠ w.heap.size + 1 + 1; omega)]; exact HY8.out⟩
              have HBE : Sld (Below w.heap.size w ((W8.setCell ⟨w.heap.size + 1 + 1, 1, none⟩ (.bool true)).setCell ⟨w.heap.size + 1 + 1, 2, none⟩ (.int .i64 fn))) := ⟨(HB8.out.setCell (p := ⟨w.heap.size + 1 + 1, 1, none⟩) (by show w.heap.size ≤ w.heap.size + 1 + 1; omega) _).setCell (p := ⟨w.heap.size + 1 + 1, 2, none⟩) (by show w.heap.size ≤ w.heap.size + 1 + 1; omega) _⟩
              go_wp2_with fail
              go_region
              go_wp2_with fail
              rw [HW7.out, HW8.out]
              exact ⟨⟨q + 1, by omega, by go_num, ⟨by rw [HST.out]; exact HE.out⟩, HYE, ⟨HBE.out.drew⟩⟩, by simp [RowKit.intOf]; omega⟩
            | true =>
              by_cases hlt : fn < rn
              · simp only [Bool.true_and, Bool.not_true, Bool.true_or, Bool.false_or, decide_eq_true hlt, if_true] at HST
                have HE : Sld (FcB ((W8.setCell ⟨w.heap.size + 1 + 1, 1, none⟩ (.bool true)).setCell ⟨w.heap.size + 1 + 1, 2, none⟩ (.int .i64 fn)) (w.heap.size + 1 + 1) ⟨ft, true, fn⟩) := ⟨by
                  have h1 := heap_setCell_same W8 (w.heap.size + 1 + 1) 1 _ _ (.bool true) HA8.out
                  have h2 := heap_setCell_same _ (w.heap.size + 1 + 1) 2 _ _ (.int .i64 fn) h1
                  simpa [FcB] using h2⟩
                have HYE : Sld (((W8.setCell ⟨w.heap.size + 1 + 1, 1, none⟩ (.bool true)).setCell ⟨w.heap.size + 1 + 1, 2, none⟩ (.int .i64 fn)).heap[w.heap.size + 1]? = some (.cells #[.bool false, .bool false, .int .i64 0] 29 (0, 0))) := ⟨by
                  rw [Deep.blk_setCell_other _ _ _ _ (by show w.heap.size + 1 ≠ w.heap.size + 1 + 1; omega), Deep.blk_setCell_other _ _ _ _ (by show w.heap.size + 1 ≠ w.heap.size + 1 + 1; omega)]; exact HY8.out⟩
                have HBE : Sld (Below w.heap.size w ((W8.setCell ⟨w.heap.size + 1 + 1, 1, none⟩ (.bool true)).setCell ⟨w.heap.size + 1 + 1, 2, none⟩ (.int .i64 fn))) := ⟨(HB8.out.setCell (p := ⟨w.heap.size + 1 + 1, 1, none⟩) (by show w.heap.size ≤ w.heap.size + 1 + 1; omega) _).setCell (p := ⟨w.heap.size + 1 + 1, 2, none⟩) (by show w.heap.size ≤ w.heap.size + 1 + 1; omega) _⟩
                go_wp2_with fail
                go_region
                go_wp2_with fail
                rw [HW7.out, HW8.out]
                exact ⟨⟨q + 1, by omega, by go_num, ⟨by rw [HST.out]; exact HE.out⟩, HYE, ⟨HBE.out.drew⟩⟩, by simp [RowKit.intOf]; omega⟩
              · simp only [Bool.true_and, Bool.not_true, Bool.true_or, Bool.false_or, decide_eq_false hlt, Bool.false_eq_true, if_false] at HST
                go_wp2_with fail
                rw [HW7.out, HW8.out]
                exact ⟨⟨q + 1, by omega, by go_num, ⟨by rw [HST.out]; exact HA8.out⟩, HY8, HB8⟩, by simp [RowKit.intOf]; omega⟩
      · have hqe : q = nodes.length := by omega
        subst hqe
        rw [List.take_length] at HA
        have HE2 : Sld (gwF fs ⟨wt, false, wn⟩ nodes = nodes.foldl (gw1 fs) ⟨wt, false, wn⟩) := HE
        generalize nodes.foldl (gw1 fs) ⟨wt, false, wn⟩ = r at *
        obtain ⟨rt, rc, rn⟩ := r
        obtain ⟨a0, a1, a2, af⟩ := blk3 (show wr.heap[w.heap.size + 1 + 1]? = some (.cells #[.bool rt, .bool rc, .int .i64 rn] 29 (0, 0)) from HA.out)
        obtain ⟨y0, y1, y2, yf⟩ := blk3 HY.out
        go_wp2_with fail
        have hS := set3 HY.out (.bool rt) (.bool rc) (.int .i64 rn)
        have HBE := below_set3 HB.out (by omega : w.heap.size ≤ w.heap.size + 1) (.bool rt) (.bool rc) (.int .i64 rn)
        generalize ((wr.setCell ⟨w.heap.size + 1, 0, none⟩ (.bool rt)).setCell ⟨w.heap.size + 1, 1, none⟩ (.bool rc)).setCell ⟨w.heap.size + 1, 2, none⟩ (.int .i64 rn) = W at *
        obtain ⟨z0, z1, z2, _⟩ := blk3 hS
        refine bodyPost_ret (v := .agg #[.bool rt, .bool rc, .int .i64 rn]) (by simp [results, Tryz.results29, go_sem, z0, z1, z2]) rfl ⟨by rw [HE2.out], HBE⟩
end Go.Proofs.YtlbmijcpalfaeaaGreatDoor

set_option linter.unusedSimpArgs false
set_option linter.unusedVariables false
namespace Go.Proofs.YtlbmijcpalfaeaaGreatDoor
open Go.RowKit Go.Lib

/-- A literal. -/
def litN (n : Int) : Nd := ⟨1, n, ⟨#[]⟩, []⟩
theorem litN_snd (n : Int) : begL [litN n] = some [0] := by
  have hf : formB (litN n) = true := by
    unfold formB fitB litN
    simp [aritI]
  refine begL_mk (by simp) (by simp) ?_ rfl
  show (stp [] (litN n)).bind _ = _
  unfold stp
  rw [if_pos hf]
  rfl
theorem Rd_lit (w : World) (n : Int) : Rd (w.alloc (.cells #[.int .i64 1, .int .i64 n, .string ⟨#[]⟩, .slice none 0 0] 41)) (some ⟨w.heap.size, 0, none⟩) 1 [litN n] := by
  refine ⟨_, 1, rfl, by simp, by decide, .inr ⟨w.heap.size, 0, rfl, by simp, fun i hi => ?_⟩⟩
  have : i = 0 := by simp at hi; omega
  subst this
  exact ⟨.slice none 0 0, by simp [litN], by simp [litN], by simp [litN], by simp [litN], ⟨none, 0, rfl, by simp [litN], by simp, .inl rfl⟩⟩

end Go.Proofs.YtlbmijcpalfaeaaGreatDoor

set_option linter.unusedSimpArgs false
set_option linter.unusedVariables false
namespace Go.Proofs.YtlbmijcpalfaeaaGreatDoor
open Go.RowKit Go.Lib

theorem str_fact : Tryz.prog.underlying 29 = some (.struct (Tryz.prog.fieldsOf 29)) := by kernel_rfl
theorem sto_fact : Tryz.prog.stoodInHeld 29 = false := by kernel_rfl
theorem fld_fact : (Tryz.prog.fieldsOf 29).toList.map (fun f => (f.name, f.type, f.offset)) = [("Total", 4, 0), ("Const", 4, 1), ("N", 2, 2)] := by kernel_rfl
theorem eql_fact (a a' b b' : Bool) (m n : Int) (w : World) : (binOp .eql 29 (.agg #[.bool a, .bool b, .int .i64 m]) (.agg #[.bool a', .bool b', .int .i64 n])).run Tryz.prog w = .ok (.bool (a == a' && (b == b' && m == n))) w := by
  rw [run_eql_struct, run_equalIn_struct w 9999 29 _ _ str_fact sto_fact]
  have h := fld_fact
  generalize (Tryz.prog.fieldsOf 29).toList = fs at *
  rcases fs with _ | ⟨f, _ | ⟨g, _ | ⟨k, _ | ⟨x, r⟩⟩⟩⟩
  · simp at h
  · simp at h
  · simp at h
  · simp at h
    obtain ⟨⟨h1, h2, h3⟩, ⟨h4, h5, h6⟩, h7, h8, h9⟩ := h
    simp [Op.eqFields, go_sem, h1, h2, h3, h4, h5, h6, h7, h8, h9]
    by_cases e1 : a = a'
    · by_cases e2 : b = b'
      · by_cases e3 : m = n <;> simp [e1, e2, e3]
      · simp [e1, e2]
    · simp [e1]
  · simp at h
theorem eql_fact1 (a b : Bool) (m : Int) (w : World) : (binOp .eql 29 (.agg #[.bool a, .bool b, .int .i64 m]) (.agg #[.bool a, .bool b, .int .i64 m])).run Tryz.prog w = .ok (.bool true) w := by
  rw [eql_fact]; simp

theorem litN_of (n : Int) : ofR [litN n] = ⟨true, true, n⟩ := by
  unfold ofR
  rw [fA_at (begOk_of (begL_some (litN_snd n)).2.2.1) (by simp)]
  rfl
set_option maxHeartbeats 1000000 in
theorem awake13_any (w : World) (hT : SpanCells w) (hG : GrpCells w) :
    Calls Tryz.prog 4 #[] w fun e W' => e = .returned (.bool true) ∧ Below w.heap.size w W' := by
  have hb1 : Below w.heap.size w (w.alloc (.cells #[.int .i64 1, .int .i64 7, .string ⟨#[]⟩, .slice none 0 0] 41)) := (Below.refl _ _).alloc (Nat.le_refl _) _
  have cE : Hid (Calls Tryz.prog 5 #[.slice (some ⟨w.heap.size, 0, none⟩) 1 1] (w.alloc (.cells #[.int .i64 1, .int .i64 7, .string ⟨#[]⟩, .slice none 0 0] 41)) fun e w' => e = .returned (.tuple #[.agg #[.bool true, .bool true, .int .i64 7], .int .i64 0]) ∧ Below (w.heap.size + 1) (w.alloc (.cells #[.int .i64 1, .int .i64 7, .string ⟨#[]⟩, .slice none 0 0] 41)) w') := by
    have := ofF_some (l := [litN 7]) (hT.below hb1) (hG.below hb1) (Rd_lit w 7) (litN_snd 7)
    rw [litN_of] at this
    have e : (w.alloc (.cells #[.int .i64 1, .int .i64 7, .string ⟨#[]⟩, .slice none 0 0] 41)).heap.size = w.heap.size + 1 := by simp
    rw [e] at this
    exact this
  have HB1 : Hid (Below w.heap.size w (w.alloc (.cells #[.int .i64 1, .int .i64 7, .string ⟨#[]⟩, .slice none 0 0] 41))) := hb1
  have hq := eql_fact1 true true 7
  clear hb1
  go_enter Tryz.func4, Tryz.ntmps4
  go_wp2_with fail
  refine cE.out.mono ?_
  rintro e w2 ⟨rfl, hb2⟩
  have HB2 : Hid (Below w.heap.size w w2) := HB1.out.trans (hb2.mono (by omega))
  have HB3 : Hid (∀ o, Below w.heap.size w (w2.alloc o)) := fun o => HB2.out.alloc HB2.out.size o
  clear hb2
  go_wp2_with fail
  go_ret
  exact ⟨rfl, HB3.out _⟩
end Go.Proofs.YtlbmijcpalfaeaaGreatDoor

set_option linter.unusedSimpArgs false
set_option linter.unusedVariables false
namespace Go.Proofs.YtlbmijcpalfaeaaGreatDoor
open Go.RowKit Go.Lib

theorem neq_fact (f h : Fc) (w : World) : (binOp .neq 29 (.agg #[.bool f.t, .bool f.c, .int .i64 f.n]) (.agg #[.bool h.t, .bool h.c, .int .i64 h.n])).run Tryz.prog w = .ok (.bool (decide (f ≠ h))) w := by
  have key : ∀ (r : Result Bool) (x : Bool), (r.andThen fun b w' => (.ok (.bool b) w' : Result Value)) = .ok (.bool x) w → (r.andThen fun b w' => (.ok (.bool (!b)) w' : Result Value)) = .ok (.bool (!x)) w := by
    intro r x h
    cases r with
    | halt y w' => cases h
    | ok b w' =>
      simp only [Result.andThen, Result.ok.injEq, Value.bool.injEq] at h ⊢
      obtain ⟨rfl, rfl⟩ := h
      exact ⟨rfl, rfl⟩
  rw [run_neq_struct, key _ _ ((run_eql_struct _ _ _ _).symm.trans (eql_fact f.t h.t f.c h.c f.n h.n w))]
  have e : (!(f.t == h.t && (f.c == h.c && f.n == h.n))) = decide (f ≠ h) := by
    obtain ⟨a, b, c⟩ := f
    obtain ⟨a', b', c'⟩ := h
    by_cases e1 : a = a' <;> by_cases e2 : b = b' <;> by_cases e3 : c = c' <;> simp [e1, e2, e3]
  rw [e]

/-- Between two rounds of a step. -/
structure StM (w : World) (n : Nat) (G : List Fc) (k : Nat) (wr : World) : Prop where
  ex : ∃ xs, wr.ownsRow w.heap.size 29 3 (.slice (some ⟨w.heap.size, 0, none⟩) n n) n xs ∧ FcX xs (G.take k)
  below : Below w.heap.size w wr
theorem StM.up {w wr w' : World} {n k : Nat} {G : List Fc} (h : StM w n G k wr) (hb : Below wr.heap.size wr w') : StM w n G k w' := by
  obtain ⟨xs, h1, h2⟩ := h.ex
  exact ⟨⟨xs, ownsRow_below h1 hb, h2⟩, h.below.trans (hb.mono h.below.size)⟩
theorem StM.free {w wr : World} {n k : Nat} {G : List Fc} (h : StM w n G k wr) (hi : k < n) : (∀ q, q < 3 → ∃ u, wr.cell? ⟨w.heap.size, k * 3 + q, none⟩ = some u) ∧ ∀ o, wr.frozen? ⟨w.heap.size, o, none⟩ = false := by
  obtain ⟨xs, h1, h2⟩ := h.ex
  have hl := h1.1
  refine ⟨fun q hq => ?_, fun o => rw_fro h1 o⟩
  obtain ⟨u, hu, _⟩ := rw_cell h1 (i := k * 3 + q) (by omega)
  exact ⟨u, hu⟩
theorem StM.store {w wr : World} {n k : Nat} {G : List Fc} (h : StM w n G k wr) (hi : k < n) (hG : G.length = n) (f : Fc) (hf : G.getD k fc0 = f) :
    StM w n G (k + 1) (((wr.setCell ⟨w.heap.size, k * 3, none⟩ (.bool f.t)).setCell ⟨w.heap.size, k * 3 + 1, none⟩ (.bool f.c)).setCell ⟨w.heap.size, k * 3 + 2, none⟩ (.int .i64 f.n)) := by
  obtain ⟨xs, h1, h2⟩ := h.ex
  have hl := h1.1
  have htl : (G.take k).length = k := by simp; omega
  have e : G.take (k + 1) = G.take k ++ [f] := by
    rw [List.take_succ_eq_append_getElem (by omega), ← hf]
    rw [List.getD_eq_getElem?_getD, List.getElem?_eq_getElem (by omega)]; rfl
  have p1 := own_put (i := k * 3) (u := .bool f.t) h1 (by omega)
  have p2 := own_put (i := k * 3 + 1) (u := .bool f.c) p1 (by simp; omega)
  have p3 := own_put (i := k * 3 + 2) (u := .int .i64 f.n) p2 (by simp; omega)
  have hs := h2.snoc f (by omega)
  rw [htl, ← e] at hs
  have hb := h.below
  have hB : ∀ (W : World) (o : Nat) (v : Value), Below w.heap.size w W → Below w.heap.size w (W.setCell ⟨w.heap.size, o, none⟩ v) := fun W o v hW => hW.setCell (p := ⟨w.heap.size, o, none⟩) (Nat.le_refl _) v
  exact ⟨⟨_, p3, hs⟩, hB _ _ _ (hB _ _ _ (hB _ _ _ hb))⟩

theorem cell_set3 {w : World} {A b : Nat} (h : b ≠ A) (o1 o2 o3 o : Nat) (v1 v2 v3 : Value) : (((w.setCell ⟨A, o1, none⟩ v1).setCell ⟨A, o2, none⟩ v2).setCell ⟨A, o3, none⟩ v3).cell? ⟨b, o, none⟩ = w.cell? ⟨b, o, none⟩ := by
  refine World.cell?_of_block (a := ⟨b, o, none⟩) ?_
  rw [Deep.blk_setCell_other _ _ _ _ h, Deep.blk_setCell_other _ _ _ _ h, Deep.blk_setCell_other _ _ _ _ h]
/-- Whether one of the first k differs. -/
def moF (G fs : List Fc) (k : Nat) : Bool := (List.range k).any fun i => decide (G.getD i fc0 ≠ fs.getD i fc0)
theorem moF_succ (G fs : List Fc) (k : Nat) : moF G fs (k + 1) = (moF G fs k || decide (G.getD k fc0 ≠ fs.getD k fc0)) := by
  unfold moF
  rw [List.range_succ, List.any_append]
  simp
theorem moF_all {G fs : List Fc} (h : G.length = fs.length) : moF G fs fs.length = decide (G ≠ fs) := by
  unfold moF
  by_cases he : G = fs
  · subst he
    rw [decide_eq_false (by simp), List.any_eq_false]
    intro i _
    simp
  · rw [decide_eq_true he, List.any_eq_true]
    refine Classical.byContradiction fun hc => he ?_
    refine List.ext_getElem h fun i h1 h2 => ?_
    refine Classical.byContradiction fun hn => hc ⟨i, by simpa using h2, ?_⟩
    rw [decide_eq_true_eq, List.getD_eq_getElem?_getD, List.getD_eq_getElem?_getD, List.getElem?_eq_getElem h1, List.getElem?_eq_getElem h2]
    exact hn

set_option maxRecDepth 100000 in
set_option maxHeartbeats 8000000 in
theorem step13_any (w : World) (cs : List Cls) (ca : Option Addr) (cc g c : Nat) (fs : List Fc) (hC : Clss w w.heap.size (.slice ca cs.length cc) cs) (hF : FcR w g fs) (hl : fs.length = cs.length) (hfc : fs.length ≤ c) (hcm : c ≤ maxLen) (hk : ∀ c ∈ cs, ∀ x ∈ c.nodes, NdOk cs.length x) (hG : GrpCells w) (hn : cs.length ≤ 4096) :
    Calls Tryz.prog 17 #[.slice ca cs.length cc, .slice (some ⟨g, 0, none⟩) cs.length c] w fun e w' => e = .returned (.tuple #[.slice (some ⟨w.heap.size, 0, none⟩) cs.length cs.length, .bool (decide (stF cs fs ≠ fs))]) ∧ StM w cs.length (stF cs fs) cs.length w' := by
  obtain ⟨i0, hi, hz0, hz1, hz2⟩ := info_parts Tryz.infoFact
  have hmk := run_make_full (P := Tryz.prog) w w.heap.size 34 29 i0 (.agg #[.bool false, .bool false, .int .i64 0]) 3 Tryz.underlying34 hi hz0 hz1 .i64 .i64 cs.length (by rw [hz2]; omega) (by unfold maxLen; omega) (Nat.le_refl _)
  obtain ⟨w1, hmk, hown1, hg1⟩ := hmk
  have HM0 : Sld (StM w cs.length (stF cs fs) 0 w1) := ⟨⟨⟨_, hown1, by rw [List.take_zero]; exact FcX.nil _⟩, (Below.refl _ _).grown hg1 (Nat.le_refl _) (by simp)⟩⟩
  have HGL : Sld ((stF cs fs).length = cs.length) := ⟨stF_len cs fs⟩
  have HGA : Sld (∀ i, i < cs.length → (stF cs fs).getD i fc0 = gwF fs (fs.getD i fc0) (cs.getD i cls0).nodes) := ⟨fun i h => stF_at cs fs h⟩
  have HMA : Sld (moF (stF cs fs) fs cs.length = decide (stF cs fs ≠ fs)) := ⟨by rw [← hl]; exact moF_all (by rw [stF_len, hl])⟩
  have HC := Sld.mk hC
  have HF := Sld.mk hF
  have HK := Sld.mk hk
  have HG := Sld.mk hG
  have hgl := hF.lt
  obtain ⟨_, _, d1, hm1, hm2, _⟩ := hC
  injection d1 with d1 d2 d3
  rw [← d3] at hm1 hm2
  unfold maxLen at hm2 hcm
  generalize stF cs fs = G at *
  clear d1 d2 d3 hF hk hG hown1 hg1
  go_enter Tryz.func17, Tryz.ntmps17
  go_wp2_with fail
  go_loopw [7, 15] (fun b i wr => ∃ k : Nat, k ≤ cs.length ∧ i = .int .i64 k ∧ b = .bool (moF G fs k) ∧ Sld (StM w cs.length G k wr)) (fun _ i _ => cs.length - (RowKit.intOf i).toNat)
  case atStart => exact ⟨0, Nat.zero_le _, rfl, rfl, HM0⟩
  case round =>
    obtain ⟨k, hk, rfl, rfl, HM⟩ := hrel
    have HB : Sld (Below w.heap.size w wr) := ⟨HM.out.below⟩
    by_cases hlt : k < cs.length
    · obtain ⟨b, o, na, nc, hca, hbl, c0, c1, hN⟩ : ∃ b o na nc, ca = some ⟨b, o, none⟩ ∧ b < wr.heap.size ∧ wr.cell? ⟨b, o + k * 2, none⟩ = some (.slice na (cs.getD k cls0).nodes.length nc) ∧ wr.cell? ⟨b, o + k * 2 + 1, none⟩ = some (.int .i64 (cs.getD k cls0).size) ∧ Nodes wr wr.heap.size (.slice na (cs.getD k cls0).nodes.length nc) (cs.getD k cls0).nodes := by
        obtain ⟨ao, cap, h1, _, _, h2⟩ := HC.out.below HB.out HB.out.size
        injection h1 with h1 _ _
        rcases h2 with h2 | ⟨b, o, h2, hbl, h3⟩
        · subst h2; simp at hlt
        · obtain ⟨na, nc, h4, h5, h6⟩ := h3 k hlt
          exact ⟨b, o, na, nc, h1.trans h2, hbl, h4, h5, h6⟩
      subst hca
      have hOK : ∀ x ∈ (cs.getD k cls0).nodes, NdOk fs.length x := by
        rw [hl]; exact HK.out _ (by rw [getD_atT hlt]; exact List.getElem_mem hlt)
      have HGK := Sld.mk (HGA.out k hlt)
      have HMS := Sld.mk (moF_succ G fs k)
      have hfr := HF.out.below HB.out
      obtain ⟨k0, k1, k2⟩ := hfr.at_ k (by omega)
      obtain ⟨hfree, hfz⟩ := HM.out.free hlt
      generalize cs.getD k cls0 = C at *
      obtain ⟨nodes, size⟩ := C
      simp only at c0 c1 hN hOK HGK
      have CG : Sld (∀ V, Below wr.heap.size wr V → Calls Tryz.prog 29 #[.agg #[.bool (fs.getD k fc0).t, .bool (fs.getD k fc0).c, .int .i64 (fs.getD k fc0).n], .slice na nodes.length nc, .slice (some ⟨g, 0, none⟩) cs.length c] V fun e w' => e = .returned (.agg #[.bool (G.getD k fc0).t, .bool (G.getD k fc0).c, .int .i64 (G.getD k fc0).n]) ∧ Below V.heap.size V w') := ⟨fun V hV => by
        have := grown_any V (fs.getD k fc0) nodes na nc g c fs (hN.below hV hV.size) (hfr.below hV) cs.length (by omega) (by omega) (by unfold maxLen; omega) hOK (HG.out.below (HB.out.trans (hV.mono HB.out.size)))
        rw [← HGK.out] at this
        exact this⟩
      have HST : Sld (∀ W, StM w cs.length G k W → StM w cs.length G (k + 1) (((W.setCell ⟨w.heap.size, k * 3, none⟩ (.bool (G.getD k fc0).t)).setCell ⟨w.heap.size, k * 3 + 1, none⟩ (.bool (G.getD k fc0).c)).setCell ⟨w.heap.size, k * 3 + 2, none⟩ (.int .i64 (G.getD k fc0).n))) := ⟨fun W hW => hW.store hlt HGL.out _ rfl⟩
      have hltI : (k : Int) < (cs.length : Int) := by omega
      have hgw : g ≠ w.heap.size := by omega
      have hgr : g < wr.heap.size := hfr.lt
      have hrw : wr.heap.size ≠ w.heap.size := by
        obtain ⟨xs, h1, _⟩ := HM.out.ex
        have := (rw_block h1 (b := w.heap.size) rfl).2.1
        omega
      obtain ⟨W5, hW5⟩ : ∃ W5, wr.alloc (.cells #[.slice na nodes.length nc, .int .i64 size] 49) = W5 := ⟨_, rfl⟩
      have hb5 : Below wr.heap.size wr W5 := by rw [← hW5]; exact (Below.refl _ _).alloc (Nat.le_refl _) _
      have hk5 : W5.heap[wr.heap.size]? = some (.cells #[.slice na nodes.length nc, .int .i64 size] 49 (0, 0)) := by rw [← hW5, Deep.blk_alloc_new]
      have v0 : W5.cell? ⟨wr.heap.size, 0, none⟩ = some (.slice na nodes.length nc) := by simp [World.cell?, hk5]
      have K0 := (hb5.cell (p := ⟨g, k * 3, none⟩) hgr).trans k0
      have K1 := (hb5.cell (p := ⟨g, k * 3 + 1, none⟩) hgr).trans k1
      have K2 := (hb5.cell (p := ⟨g, k * 3 + 2, none⟩) hgr).trans k2
      have HW5 := Sld.mk hW5
      have HB5 := Sld.mk hb5
      have hl5 : wr.heap.size < W5.heap.size := lt_of_block hk5
      have hM5 := HM.out.up hb5
      have HM5 := Sld.mk hM5
      generalize hfk : fs.getD k fc0 = fk at *
      generalize hgk : G.getD k fc0 = gk at *
      obtain ⟨xt, xc, xn⟩ := fk
      obtain ⟨yt, yc, yn⟩ := gk
      simp only at k0 k1 k2 K0 K1 K2 CG HST
      clear hfr hN hOK hW5 hb5 hM5 hfree
      go_upto_region 6 with fail
      rw [HW5.out]
      go_region_held3 (fun V => V.cell? ⟨g, k * 3, none⟩ = some (.bool xt) ∧ V.cell? ⟨g, k * 3 + 1, none⟩ = some (.bool xc) ∧ V.cell? ⟨g, k * 3 + 2, none⟩ = some (.int .i64 xn) ∧ V.cell? ⟨wr.heap.size, 0, none⟩ = some (.slice na nodes.length nc)) (go_keep) (first | (go_at_call 29; refine (CG.out _ (HB5.out.trans (Below.drew (Below.refl _ _)))).mono ?_; rintro e w6 ⟨rfl, hb6⟩; have hb56 : Below W5.heap.size W5 w6 := (Below.drew (Below.refl _ _)).trans hb6; have z0 := (hb56.cell (p := ⟨g, k * 3, none⟩) (Nat.lt_trans hgr hl5)).trans K0; have z1 := (hb56.cell (p := ⟨g, k * 3 + 1, none⟩) (Nat.lt_trans hgr hl5)).trans K1; have z2 := (hb56.cell (p := ⟨g, k * 3 + 2, none⟩) (Nat.lt_trans hgr hl5)).trans K2; have z3 := (hb56.cell (p := ⟨wr.heap.size, 0, none⟩) hl5).trans v0; have hs6 := hb56.size; obtain ⟨hfree, hfz6⟩ := (HM5.out.up hb56).free hlt; obtain ⟨u0, q0⟩ := hfree 0 (by omega); obtain ⟨u1, q1⟩ := hfree 1 (by omega); obtain ⟨u2, q2⟩ := hfree 2 (by omega); rw [Nat.add_zero] at q0; have y0 : (((w6.setCell ⟨w.heap.size, k * 3, none⟩ (.bool yt)).setCell ⟨w.heap.size, k * 3 + 1, none⟩ (.bool yc)).setCell ⟨w.heap.size, k * 3 + 2, none⟩ (.int .i64 yn)).cell? ⟨g, k * 3, none⟩ = some (.bool xt) := (cell_set3 hgw _ _ _ _ _ _ _).trans z0; have y1 : (((w6.setCell ⟨w.heap.size, k * 3, none⟩ (.bool yt)).setCell ⟨w.heap.size, k * 3 + 1, none⟩ (.bool yc)).setCell ⟨w.heap.size, k * 3 + 2, none⟩ (.int .i64 yn)).cell? ⟨g, k * 3 + 1, none⟩ = some (.bool xc) := (cell_set3 hgw _ _ _ _ _ _ _).trans z1; have y2 : (((w6.setCell ⟨w.heap.size, k * 3, none⟩ (.bool yt)).setCell ⟨w.heap.size, k * 3 + 1, none⟩ (.bool yc)).setCell ⟨w.heap.size, k * 3 + 2, none⟩ (.int .i64 yn)).cell? ⟨g, k * 3 + 2, none⟩ = some (.int .i64 xn) := (cell_set3 hgw _ _ _ _ _ _ _).trans z2; have y3 : (((w6.setCell ⟨w.heap.size, k * 3, none⟩ (.bool yt)).setCell ⟨w.heap.size, k * 3 + 1, none⟩ (.bool yc)).setCell ⟨w.heap.size, k * 3 + 2, none⟩ (.int .i64 yn)).cell? ⟨wr.heap.size, 0, none⟩ = some (.slice na nodes.length nc) := (cell_set3 hrw _ _ _ _ _ _ _).trans z3))
      have hM8 := HST.out w6 (HM5.out.up hb56)
      obtain ⟨W8, hW8⟩ : ∃ W8, ((w6.setCell ⟨w.heap.size, k * 3, none⟩ (.bool yt)).setCell ⟨w.heap.size, k * 3 + 1, none⟩ (.bool yc)).setCell ⟨w.heap.size, k * 3 + 2, none⟩ (.int .i64 yn) = W8 := ⟨_, rfl⟩
      rw [hW8] at hM8 y0 y1 y2 y3 ⊢
      have hn8 : W8.cell? ⟨w.heap.size, k * 3, none⟩ = some (.bool yt) ∧ W8.cell? ⟨w.heap.size, k * 3 + 1, none⟩ = some (.bool yc) ∧ W8.cell? ⟨w.heap.size, k * 3 + 2, none⟩ = some (.int .i64 yn) := by
        obtain ⟨xs, h1, h2⟩ := hM8.ex
        have hr := h2.read h1
        have hle : (G.take (k + 1)).length = k + 1 := by rw [List.length_take, HGL.out]; omega
        obtain ⟨r0, r1, r2⟩ := hr.at_ k (by omega)
        have e : (G.take (k + 1)).getD k fc0 = ⟨yt, yc, yn⟩ := by
          rw [← hgk, List.getD_eq_getElem?_getD, List.getD_eq_getElem?_getD, List.getElem?_take, if_pos (by omega)]
        rw [e] at r0 r1 r2
        exact ⟨r0, r1, r2⟩
      obtain ⟨n0, n1, n2⟩ := hn8
      have hq := neq_fact ⟨yt, yc, yn⟩ ⟨xt, xc, xn⟩
      simp only at hq
      have HM8 := Sld.mk hM8
      have HM8d : Sld (StM w cs.length G (k + 1) W8.drew) := ⟨hM8.up ((Below.refl _ _).drew)⟩
      have HMS2 := HMS
      generalize moF G fs k = mb at *
      have HDD : Sld (decide ((⟨yt, yc, yn⟩ : Fc) ≠ ⟨xt, xc, xn⟩) = decide (G.getD k fc0 ≠ fs.getD k fc0)) := ⟨by rw [hgk, hfk]⟩
      generalize decide ((⟨yt, yc, yn⟩ : Fc) ≠ ⟨xt, xc, xn⟩) = dd at *
      clear hM8 hW8 z0 z1 z2 z3 q0 q1 q2 hb6 hb56 K0 K1 K2 k0 k1 k2 v0 c0 c1 CG HST HM5 HMS y3
      cases mb with
      | true =>
        have HMC : Sld (moF G fs (k + 1) = true) := ⟨by rw [HMS2.out]; rfl⟩
        go_wp2_with fail
        go_region
        go_wp2_with fail
        exact ⟨⟨k + 1, by omega, by go_num, by rw [HMC.out], HM8d⟩, by simp [RowKit.intOf]; omega⟩
      | false =>
        have HMC : Sld (moF G fs (k + 1) = dd) := ⟨by rw [HMS2.out]; first | rfl | (rw [HDD.out]; rfl) | (rw [← HDD.out]; rfl)⟩
        go_wp2_with fail
        go_region
        go_wp2_with fail
        exact ⟨⟨k + 1, by omega, by go_num, by rw [HMC.out], HM8d⟩, by simp [RowKit.intOf]; omega⟩
    · have hke : k = cs.length := by omega
      subst hke
      have HE := HM
      have HD := HMA
      generalize moF G fs cs.length = dd at *
      go_wp2_with fail
      go_ret2
      exact ⟨by rw [← HD.out]; rfl, HE.out⟩
end Go.Proofs.YtlbmijcpalfaeaaGreatDoor

set_option linter.unusedSimpArgs false
set_option linter.unusedVariables false
namespace Go.Proofs.YtlbmijcpalfaeaaGreatDoor
open Go.RowKit Go.Lib

/-- What Classes answers: a row of its own. -/
def ClQ (w : World) (cs : List Cls) (b : Bool) (e : Ending) (w' : World) : Prop :=
  (b = true ∧ ∃ (g : Nat) (xs : List Value) (fs : List Fc), e = .returned (.tuple #[.slice (some ⟨g, 0, none⟩) cs.length cs.length, .int .i64 0]) ∧ w'.ownsRow w.heap.size 29 3 (.slice (some ⟨g, 0, none⟩) cs.length cs.length) cs.length xs ∧ FcX xs fs ∧ ClF cs fs) ∨
  (b = false ∧ e = .returned (.tuple #[.slice none 0 0, .int .i64 1]))

/-- Between two steps. -/
structure ClM (w : World) (cs : List Cls) (b : Bool) (fs : List Fc) (g c : Nat) (wr : World) : Prop where
  ex : ∃ xs, wr.ownsRow w.heap.size 29 3 (.slice (some ⟨g, 0, none⟩) cs.length cs.length) cs.length xs ∧ FcX xs fs
  it : ∃ t, fs = clI cs t
  stop : b = false → stF cs fs = fs
  below : Below w.heap.size w wr
theorem ClM.read {w wr : World} {cs : List Cls} {b : Bool} {fs : List Fc} {g c : Nat} (h : ClM w cs b fs g c wr) : FcR wr g fs := by
  obtain ⟨xs, h1, h2⟩ := h.ex
  exact h2.read h1
theorem ClM.len {w wr : World} {cs : List Cls} {b : Bool} {fs : List Fc} {g c : Nat} (h : ClM w cs b fs g c wr) : fs.length = cs.length := by
  obtain ⟨t, rfl⟩ := h.it
  exact clI_len cs t

set_option maxRecDepth 100000 in
set_option maxHeartbeats 8000000 in
theorem classes13_any (cs : List Cls) (roots : List Int) (ca ra : Option Addr) (cc rc : Nat) (w : World) (T : Tabs w) (hG : GrpCells w) (hc : Clss w w.heap.size (.slice ca cs.length cc) cs) (hr : Ints w w.heap.size (.slice ra roots.length rc) roots) (hp : PicOk cs roots) :
    Calls Tryz.prog 8 #[.agg #[.slice ca cs.length cc, .slice ra roots.length rc]] w fun e w' => ClQ w cs (ofB cs roots) e w' ∧ Below w.heap.size w w' := by
  obtain ⟨i0, hi, hz0, hz1, hz2⟩ := info_parts Tryz.infoFact
  obtain ⟨W1, hW1⟩ : ∃ W1, w.alloc (.cells #[.slice ca cs.length cc, .slice ra roots.length rc] 26) = W1 := ⟨_, rfl⟩
  have hb1 : Below w.heap.size w W1 := by rw [← hW1]; exact (Below.refl _ _).alloc (Nat.le_refl _) _
  have hk1 : W1.heap[w.heap.size]? = some (.cells #[.slice ca cs.length cc, .slice ra roots.length rc] 26 (0, 0)) := by rw [← hW1, Deep.blk_alloc_new]
  have p0 : W1.cell? ⟨w.heap.size, 0, none⟩ = some (.slice ca cs.length cc) := by simp [World.cell?, hk1]
  have p1 : W1.cell? ⟨w.heap.size, 1, none⟩ = some (.slice ra roots.length rc) := by simp [World.cell?, hk1]
  have CK := Sld.mk (pCheck_any cs roots ca ra cc rc W1 (T.below hb1) (hc.below hb1 hb1.size) (hr.below hb1 hb1.size) hp)
  have HP : Sld (∀ V, Below W1.heap.size W1 V → V.cell? ⟨w.heap.size, 0, none⟩ = some (.slice ca cs.length cc) ∧ w.heap.size < V.heap.size) := ⟨fun V hV => by
    have := (hV.block _ (lt_of_block hk1)).trans hk1
    exact ⟨by simp [World.cell?, this], lt_of_block this⟩⟩
  have HW1 := Sld.mk hW1
  have HB1 := Sld.mk hb1
  have HC := Sld.mk hc
  have HG := Sld.mk hG
  have HOK : Sld (ofB cs roots = true → (∀ c ∈ cs, ∀ x ∈ c.nodes, NdOk cs.length x) ∧ cs.length ≤ 4096) := ⟨fun h => ⟨ofB_nd h, by
    unfold ofB bdP at h
    simp only [Bool.and_eq_true, decide_eq_true_eq] at h
    exact h.1.1.1.1.1⟩⟩
  generalize ofB cs roots = B at *
  clear hW1 hb1 hk1 hr T hp hG
  obtain ⟨_, _, d1, hm1, hm2, _⟩ := hc
  injection d1 with d1 d2 d3
  rw [← d3] at hm1 hm2
  unfold maxLen at hm2
  clear d1 d2 d3
  go_enter Tryz.func8, Tryz.ntmps8
  go_wp2_with fail
  rw [HW1.out]
  refine CK.out.mono ?_
  rintro e w2 ⟨hq, hb2⟩
  have HB2 : Sld (Below W1.heap.size W1 w2) := ⟨hb2⟩
  have HBW2 : Sld (Below w.heap.size w w2) := ⟨HB1.out.trans (hb2.mono HB1.out.size)⟩
  obtain ⟨q0, q1⟩ := HP.out w2 hb2
  obtain ⟨z, rfl, hz⟩ := hq
  clear hb2 CK
  rcases hz with ⟨rfl, rfl⟩ | ⟨rfl, rfl⟩
  · obtain ⟨hOK, h4⟩ := HOK.out rfl
    have HK := Sld.mk hOK
    have hmk := run_make_full (P := Tryz.prog) w2 w2.heap.size 34 29 i0 (.agg #[.bool false, .bool false, .int .i64 0]) 3 Tryz.underlying34 hi hz0 hz1 .i64 .i64 cs.length (by rw [hz2]; omega) (by unfold maxLen; omega) (Nat.le_refl _)
    obtain ⟨w3, hmk, hown3, hg3⟩ := hmk
    have hb3 : Below w.heap.size w w3 := HBW2.out.grown hg3 HBW2.out.size (by simp)
    have hb13 : Below W1.heap.size W1 w3 := HB2.out.grown hg3 HB2.out.size (by simp)
    have HM0 : Sld (ClM w cs true (clI cs 0) w2.heap.size cs.length w3) := ⟨⟨⟨_, ownsRow_base hown3 HBW2.out.size, fcX_zero cs.length⟩, ⟨0, rfl⟩, (fun h => nomatch h), hb3⟩⟩
    have HB13 := Sld.mk hb13
    clear hown3 hg3 hb3 hb13
    go_wp2_with fail
    go_loopw [5, 6] (fun v b wr => ∃ (fs : List Fc) (g : Nat) (more : Bool), v = .slice (some ⟨g, 0, none⟩) cs.length cs.length ∧ b = .bool more ∧ Sld (ClM w cs more fs g cs.length wr) ∧ Sld (Below W1.heap.size W1 wr)) (fun v b wr => rkV wr v cs.length + moB b)
    case atStart => exact ⟨_, _, _, rfl, rfl, HM0, HB13⟩
    case round =>
      obtain ⟨fs, g, more, rfl, rfl, HM, HBr⟩ := hrel
      obtain ⟨r0, r1⟩ := HP.out wr HBr.out
      cases more with
      | false =>
        have HE : Sld (ClQ w cs true (.returned (.tuple #[.slice (some ⟨g, 0, none⟩) cs.length cs.length, .int .i64 0])) wr) := ⟨by
          obtain ⟨xs, h1, h2⟩ := HM.out.ex
          obtain ⟨t, h3⟩ := HM.out.it
          exact .inl ⟨rfl, g, xs, fs, rfl, h1, h2, t, h3, HM.out.stop rfl⟩⟩
        go_wp2_with fail
        go_ret2
        exact ⟨HE.out, HM.out.below⟩
      | true =>
        have hlf := HM.out.len
        have hbw := HM.out.below
        have CS := Sld.mk (step13_any wr cs ca cc g cs.length fs (HC.out.below hbw hbw.size) HM.out.read hlf (by omega) (by unfold maxLen; omega) HK.out (HG.out.below hbw) h4)
        have HRK := Sld.mk (stF_rk cs fs hlf)
        have HN : Sld (∀ w5, StM wr cs.length (stF cs fs) cs.length w5 → ClM w cs (decide (stF cs fs ≠ fs)) (stF cs fs) wr.heap.size cs.length w5 ∧ Below W1.heap.size W1 w5) := ⟨fun w5 h5 => by
          obtain ⟨xs, h1, h2⟩ := h5.ex
          obtain ⟨t, h3⟩ := HM.out.it
          refine ⟨⟨⟨xs, ownsRow_base h1 hbw.size, ?_⟩, ⟨t + 1, by rw [h3]; rfl⟩, fun hd => ?_, hbw.trans (h5.below.mono hbw.size)⟩, HBr.out.trans (h5.below.mono HBr.out.size)⟩
          · have e : (stF cs fs).take cs.length = stF cs fs := by rw [← stF_len cs fs, List.take_length]
            rw [e] at h2; exact h2
          · have : stF cs fs = fs := by simpa using hd
            rw [this]; exact this⟩
        have HMS : Sld (∀ w5, ClM w cs (decide (stF cs fs ≠ fs)) (stF cs fs) wr.heap.size cs.length w5 → rkV w5 (.slice (some ⟨wr.heap.size, 0, none⟩) cs.length cs.length) cs.length + moB (.bool (decide (stF cs fs ≠ fs))) < rkV wr (.slice (some ⟨g, 0, none⟩) cs.length cs.length) cs.length + moB (.bool true)) := ⟨fun w5 h5 => by
          have e1 := rkV_eq (c := cs.length) (m := cs.length) h5.read
          have e2 := rkV_eq (c := cs.length) (m := cs.length) HM.out.read
          rw [h5.len] at e1
          rw [hlf] at e2
          rw [e1, e2]
          obtain ⟨h1, h2⟩ := HRK.out
          by_cases hd : stF cs fs ≠ fs
          · have := h2 hd
            rw [decide_eq_true hd]
            omega
          · rw [decide_eq_false hd]
            show rkL (stF cs fs) + 0 < rkL fs + 1
            omega⟩
        generalize decide (stF cs fs ≠ fs) = D at *
        clear hbw
        go_wp2_with fail
        refine CS.out.mono ?_
        rintro e w5 ⟨rfl, h5⟩
        obtain ⟨hN1, hN2⟩ := HN.out w5 h5
        have HN1 := Sld.mk hN1
        have HN2 := Sld.mk hN2
        have HLT := Sld.mk (HMS.out w5 hN1)
        clear hN1 hN2 h5 CS
        go_wp2_with fail
        exact ⟨⟨_, _, _, rfl, rfl, HN1, HN2⟩, HLT.out⟩
  · go_wp2_with fail
    go_ret2
    exact ⟨.inr ⟨rfl, rfl⟩, HBW2.out⟩
end Go.Proofs.YtlbmijcpalfaeaaGreatDoor

set_option linter.unusedSimpArgs false
set_option linter.unusedVariables false
namespace Go.Proofs.YtlbmijcpalfaeaaGreatDoor
open Go.RowKit Go.Lib

set_option maxRecDepth 20000 in
set_option maxHeartbeats 4000000 in
theorem same13_eq (w : World) (v1 v2 : Value) (fs : List Fc) (h1 : FcS w v1 fs) (h2 : FcS w v2 fs) :
    Calls Tryz.prog 11 #[v1, v2] w fun e w' => e = .returned (.bool true) ∧ Below w.heap.size w w' := by
  obtain ⟨ao, ca, rfl, hal, ham, hac⟩ := h1
  obtain ⟨bo, cb, rfl, hbl, hbm, hbc⟩ := h2
  unfold maxLen at ham hbm
  have HA := Sld.mk hac
  have HB := Sld.mk hbc
  clear hac hbc
  go_enter Tryz.func11, Tryz.ntmps11
  go_wp2_with fail
  go_loopw [5] (fun i wr => ∃ k : Nat, k ≤ fs.length ∧ i = .int .i64 k ∧ Sld (Below w.heap.size w wr)) (fun i _ => fs.length - (RowKit.intOf i).toNat)
  case atStart => exact ⟨0, Nat.zero_le _, rfl, ⟨Below.refl _ _⟩⟩
  case round =>
    obtain ⟨k, hk, rfl, HW⟩ := hrel
    by_cases hlt : k < fs.length
    · obtain ⟨g, rfl, hg⟩ : ∃ g, ao = some ⟨g, 0, none⟩ ∧ FcR w g fs := by
        rcases HA.out with h | h
        · subst h; simp at hlt
        · exact h
      obtain ⟨g', rfl, hg'⟩ : ∃ g, bo = some ⟨g, 0, none⟩ ∧ FcR w g fs := by
        rcases HB.out with h | h
        · subst h; simp at hlt
        · exact h
      obtain ⟨a0, a1, a2⟩ := (hg.below HW.out).at_ k hlt
      obtain ⟨b0, b1, b2⟩ := (hg'.below HW.out).at_ k hlt
      have hq := neq_fact (fs.getD k fc0) (fs.getD k fc0)
      rw [decide_eq_false (by simp)] at hq
      have hltI : (k : Int) < (fs.length : Int) := by omega
      have HWd : Sld (Below w.heap.size w wr.drew) := ⟨HW.out.drew⟩
      generalize fs.getD k fc0 = f at *
      obtain ⟨ft, fc, fn⟩ := f
      simp only at a0 a1 a2 b0 b1 b2 hq
      clear hg hg'
      go_wp2_with fail
      go_region
      go_wp2_with fail
      exact ⟨⟨k + 1, by omega, by go_num, HWd⟩, by simp [RowKit.intOf]; omega⟩
    · have hke : k = fs.length := by omega
      subst hke
      go_wp2_with fail
      go_ret
      exact ⟨rfl, HW.out⟩

end Go.Proofs.YtlbmijcpalfaeaaGreatDoor

set_option linter.unusedSimpArgs false
set_option linter.unusedVariables false
namespace Go.Proofs.YtlbmijcpalfaeaaGreatDoor
open Go.RowKit Go.Lib

theorem clI_zero (cs : List Cls) : ∀ t i, ((clI cs t).getD i fc0).c = false → ((clI cs t).getD i fc0).n = 0 := by
  intro t
  induction t with
  | zero =>
    intro i _
    show ((List.replicate cs.length fc0).getD i fc0).n = 0
    rw [List.getD_eq_getElem?_getD, List.getElem?_replicate]; split <;> rfl
  | succ t ih =>
    intro i h
    by_cases hi : i < cs.length
    · rw [show clI cs (t + 1) = stF cs (clI cs t) from rfl, stF_at cs _ hi] at h ⊢
      unfold gwF at h ⊢
      split at h
      · rename_i hc; rw [hc] at h; cases h
      · rename_i hc
        rw [if_neg hc, (gw_fold _ _ _).2.2 h]
        exact ih i (by simpa using hc)
    · have : (clI cs (t + 1)).getD i fc0 = fc0 := by
        rw [List.getD_eq_getElem?_getD, List.getElem?_eq_none (by rw [clI_len]; omega)]; rfl
      rw [this]; rfl
/-- What Classes answers, whether the picture is sound or not. -/
def ClK (cs : List Cls) (b : Bool) (fs : List Fc) (z : Int) : Prop := (b = true ∧ ClF cs fs ∧ z = 0) ∨ (b = false ∧ fs = [] ∧ z = 1)
theorem ClK.one {cs : List Cls} {b : Bool} {fs gs : List Fc} {z y : Int} (h : ClK cs b fs z) (h2 : ClK cs b gs y) : gs = fs ∧ y = z := by
  rcases h with ⟨rfl, h, rfl⟩ | ⟨rfl, rfl, rfl⟩ <;> rcases h2 with ⟨h3, h4, rfl⟩ | ⟨h3, rfl, rfl⟩
  · exact ⟨h4.one h, rfl⟩
  · cases h3
  · cases h3
  · exact ⟨rfl, rfl⟩
theorem ClK.zero {cs : List Cls} {b : Bool} {fs : List Fc} {z : Int} (h : ClK cs b fs z) (i : Nat) (hc : (fs.getD i fc0).c = false) : (fs.getD i fc0).n = 0 := by
  rcases h with ⟨_, ⟨t, rfl, _⟩, _⟩ | ⟨_, rfl, _⟩
  · exact clI_zero cs t i hc
  · rfl
theorem ClK.le {cs : List Cls} {b : Bool} {fs : List Fc} {z : Int} (h : ClK cs b fs z) : fs.length ≤ cs.length := by
  rcases h with ⟨_, h, _⟩ | ⟨_, rfl, _⟩
  · exact Nat.le_of_eq h.len
  · simp
theorem ClQ.gen {w w' : World} {cs : List Cls} {b : Bool} {e : Ending} (h : ClQ w cs b e w') : ∃ v xs fs z, e = .returned (.tuple #[v, .int .i64 z]) ∧ w'.ownsRow w.heap.size 29 3 v fs.length xs ∧ FcX xs fs ∧ ClK cs b fs z := by
  rcases h with ⟨hb, g, xs, fs, rfl, h1, h2, h3⟩ | ⟨hb, rfl⟩
  · exact ⟨_, xs, fs, 0, rfl, by rw [h3.len]; exact h1, h2, .inl ⟨hb, h3, rfl⟩⟩
  · exact ⟨_, [], [], 1, rfl, World.ownsRow_nil _ _ _ _, FcX.nil _, .inr ⟨hb, rfl, rfl⟩⟩
/-- What Of answers of an expression, sound or not. -/
def ofE (l : List Nd) : Fc := if sndB l = true then ofR l else fc0
theorem ofE_any {w : World} {ao : Option Addr} {cap : Nat} {l : List Nd} (hT : SpanCells w) (hG : GrpCells w) (hR : Rd w ao cap l) :
    Calls Tryz.prog 5 #[.slice ao l.length cap] w fun e w' => e = .returned (.tuple #[.agg #[.bool (ofE l).t, .bool (ofE l).c, .int .i64 (ofE l).n], .int .i64 (chkE l)]) ∧ Below w.heap.size w w' := by
  cases hb : begL l with
  | some fr =>
    have h := sndW_some hb
    have := ofF_some hT hG hR hb
    unfold ofE
    rw [if_pos h, chkE_yes h]
    exact this
  | none =>
    have h := sndW_none hb
    have := ofF_none (l := l) hT hR hb
    unfold ofE
    rw [if_neg (by rw [h]; simp), chkE_no h]
    exact this
end Go.Proofs.YtlbmijcpalfaeaaGreatDoor

set_option linter.unusedSimpArgs false
set_option linter.unusedVariables false
namespace Go.Proofs.YtlbmijcpalfaeaaGreatDoor
open Go.RowKit Go.Lib

set_option maxRecDepth 100000 in
set_option maxHeartbeats 4000000 in
theorem rofE_any {w : World} {ao : Option Addr} {cap : Nat} {l : List Nd} (hR : Rd w ao cap l) (hF : Fit l) (hn6 : ∀ x ∈ l, i6 x.n) :
    Calls Tryz.prog 7 #[.slice ao l.length cap] w fun e w' => e = .returned (.tuple #[.agg #[.bool (ofE l).t, .bool (ofE l).c, .int .i64 (ofE l).n], .int .i64 (chkE l)]) ∧ Below w.heap.size w w' := by
  obtain ⟨w1, hw1⟩ : ∃ w1, w.alloc (.cells #[.bool false, .bool false, .int .i64 0] 29) = w1 := ⟨_, rfl⟩
  have hb1 : Below w.heap.size w w1 := by rw [← hw1]; exact (Below.refl _ _).alloc (Nat.le_refl _) _
  have hf1 : w1.heap[w.heap.size]? = some (.cells #[.bool false, .bool false, .int .i64 0] 29 (0, 0)) := by rw [← hw1, Deep.blk_alloc_new]
  have HW1 := Sld.mk hw1
  have HF1 := Sld.mk hf1
  have HB1 := Sld.mk hb1
  obtain ⟨hc1, hc2⟩ := hR.bound
  unfold maxLen at hc2
  have CK := Sld.mk (rchkR (hR.below hb1 hb1.size) hF _ rfl)
  have HR := Sld.mk hR
  have H6 := Sld.mk hn6
  cases hbg : begL l with
  | none =>
    have h := sndW_none hbg
    have e1 : chkE l = 1 := chkE_no h
    have e2 : ofE l = fc0 := by unfold ofE; rw [if_neg (by rw [h]; simp)]
    rw [e1] at CK ⊢
    rw [e2]
    clear hw1 hb1 hf1 hR hbg h e1 e2
    go_enter Tryz.func7, Tryz.ntmps7
    go_wp2_with fail
    rw [HW1.out]
    refine CK.out.mono ?_
    rintro e w2 ⟨rfl, hb2⟩
    have hf2 := (hb2.block _ (lt_of_block HF1.out)).trans HF1.out
    obtain ⟨z0, z1, z2, zf⟩ := blk3 hf2
    have HFW := Sld.mk hf2
    have HB2 : Sld (Below w.heap.size w w2) := ⟨HB1.out.trans (hb2.mono HB1.out.size)⟩
    clear hb2 hf2 CK
    go_wp2_with fail
    have hS := set3 HFW.out (.bool false) (.bool false) (.int .i64 0)
    have HBE := below_set3 HB2.out (Nat.le_refl w.heap.size) (.bool false) (.bool false) (.int .i64 0)
    generalize ((w2.setCell ⟨w.heap.size, 0, none⟩ (.bool false)).setCell ⟨w.heap.size, 1, none⟩ (.bool false)).setCell ⟨w.heap.size, 2, none⟩ (.int .i64 0) = W at *
    obtain ⟨x0, x1, x2, _⟩ := blk3 hS
    refine bodyPost_ret (v := .tuple #[.agg #[.bool false, .bool false, .int .i64 0], .int .i64 1]) (by simp [results, Tryz.results7, go_sem, x0, x1, x2]) rfl ⟨rfl, HBE⟩
  | some fr =>
    have h := sndW_some hbg
    have e1 : chkE l = 0 := chkE_yes h
    have e2 : ofE l = (ft l).getD (l.length - 1) fc0 := by unfold ofE; rw [if_pos h]; rfl
    obtain ⟨hl0, h64, _, _⟩ := begL_some hbg
    rw [e1] at CK ⊢
    rw [e2]
    have HFL : Sld ((ft l).length = l.length) := ⟨ft_len l⟩
    have CT : Sld (∀ V, Below w.heap.size w V → Calls Tryz.prog 15 #[.slice ao l.length cap] V fun e w' => (∃ v xs, e = .returned v ∧ w'.ownsRow V.heap.size 29 3 v l.length xs ∧ FcX xs (ft l)) ∧ Below V.heap.size V w') := ⟨fun V hV => terms_any V ao cap l fr (HR.out.below hV hV.size) hbg H6.out⟩
    obtain ⟨N1, hN1⟩ : ∃ N1 : Nat, l.length = N1 + 1 := ⟨l.length - 1, by omega⟩
    have en : l.length - 1 = N1 := by omega
    rw [en]
    rw [hN1] at CK CT HFL ⊢
    have hlI : ((N1 + 1 : Nat) : Int) ≤ 64 := by omega
    clear hw1 hb1 hf1 hR hbg h e1 e2 en
    go_enter Tryz.func7, Tryz.ntmps7
    go_wp2_with fail
    rw [HW1.out]
    refine CK.out.mono ?_
    rintro e w2 ⟨rfl, hb2⟩
    have HB2 : Sld (Below w.heap.size w w2) := ⟨HB1.out.trans (hb2.mono HB1.out.size)⟩
    have HF2 := Sld.mk ((hb2.block _ (lt_of_block HF1.out)).trans HF1.out)
    clear hb2 CK
    go_wp2_with fail
    refine (CT.out w2 HB2.out).mono ?_
    rintro e w3 ⟨⟨v, xs, rfl, hown, hx⟩, hb3⟩
    have hrd := fcS_own (fs := ft l) (v := v) (by rw [HFL.out]; exact hown) hx
    obtain ⟨va, vc, rfl⟩ := row_form' hown
    obtain ⟨g, hg, _, hat⟩ := fcS_at hrd (q := N1) (by rw [HFL.out]; omega)
    subst hg
    obtain ⟨f0, f1, f2⟩ := hat
    have hf3 := (hb3.block _ (lt_of_block HF2.out)).trans HF2.out
    obtain ⟨z0, z1, z2, zf⟩ := blk3 hf3
    have HFW := Sld.mk hf3
    have HB3 : Sld (Below w.heap.size w w3) := ⟨HB2.out.trans (hb3.mono HB2.out.size)⟩
    obtain ⟨F, hFE⟩ : ∃ F, (ft l).getD N1 fc0 = F := ⟨_, rfl⟩
    rw [hFE] at f0 f1 f2
    have HFE := Sld.mk hFE
    obtain ⟨ftt, fcc, fnn⟩ := F
    simp only at f0 f1 f2
    clear hb3 hf3 hown hx hrd hFE CT
    go_wp2_with fail
    have hS := set3 HFW.out (.bool ftt) (.bool fcc) (.int .i64 fnn)
    have HBE := below_set3 HB3.out (Nat.le_refl w.heap.size) (.bool ftt) (.bool fcc) (.int .i64 fnn)
    generalize ((w3.setCell ⟨w.heap.size, 0, none⟩ (.bool ftt)).setCell ⟨w.heap.size, 1, none⟩ (.bool fcc)).setCell ⟨w.heap.size, 2, none⟩ (.int .i64 fnn) = W at *
    obtain ⟨x0, x1, x2, _⟩ := blk3 hS
    refine bodyPost_ret (v := .tuple #[.agg #[.bool ftt, .bool fcc, .int .i64 fnn], .int .i64 0]) (by simp [results, Tryz.results7, go_sem, x0, x1, x2]) rfl ⟨by rw [HFE.out], HBE⟩

theorem ceOk_of {cs : List Cls} {roots : List Int} (h : ofB cs roots = true) (hn : ∀ c ∈ cellsL cs, i6 c.1.n) : CeOk cs := by
  rintro ⟨x, z⟩ hc
  obtain ⟨h0, h1, hx⟩ := mem_cells.1 hc
  have hi : z.toNat < cs.length := by omega
  have hm : clA cs z.toNat ∈ cs := by unfold clA; rw [List.getD_eq_getElem?_getD, List.getElem?_eq_getElem hi]; exact List.getElem_mem hi
  refine ⟨ofB_nd h _ hm x hx, fun ho => ?_, hn _ hc⟩
  unfold ofB at h
  simp only [Bool.and_eq_true] at h
  have hf : formB x = true := by
    have := h.1.2
    unfold allF at this
    exact (List.all_eq_true.1 this) _ hc
  unfold formB fitB at hf
  simp only [Bool.and_eq_true, decide_eq_true_eq] at hf
  have hp := hf.1.1.2
  have e1 : aritI 1 = 0 := rfl
  have e2 : aritI 2 = 0 := rfl
  have : x.kids.length = 0 := by
    rcases ho with ho | ho
    · rw [ho, e1] at hp; omega
    · rw [ho, e2] at hp; omega
  exact List.length_eq_zero_iff.1 this
theorem cells_n {cs : List Cls} (hn : ∀ c ∈ cellsL cs, i6 c.1.n) : ∀ c ∈ cs, ∀ x ∈ c.nodes, i6 x.n := by
  intro c hc x hx
  obtain ⟨i, hi, e⟩ := List.getElem_of_mem hc
  exact hn (x, (i : Int)) (mem_cells.2 ⟨by omega, by omega, by
    unfold clA
    rw [Int.toNat_natCast, List.getD_eq_getElem?_getD, List.getElem?_eq_getElem hi, e]
    exact hx⟩)

/-- What the document's Classes answers. -/
def ClK2 (cs : List Cls) (b : Bool) (fs : List Fc) (z : Int) : Prop := (b = true ∧ RtF cs fs ∧ z = 0) ∨ (b = false ∧ fs = [] ∧ z = 1)
set_option maxRecDepth 100000 in
set_option maxHeartbeats 8000000 in
theorem rclasses_any (cs : List Cls) (roots : List Int) (ca ra : Option Addr) (cc rc : Nat) (w : World) (hc : Clss w w.heap.size (.slice ca cs.length cc) cs) (hr : Ints w w.heap.size (.slice ra roots.length rc) roots) (hp : PicOk cs roots) :
    Calls Tryz.prog 10 #[.agg #[.slice ca cs.length cc, .slice ra roots.length rc]] w fun e w' => (∃ v fs z, e = .returned (.tuple #[v, .int .i64 z]) ∧ FcS w' v fs ∧ ClK2 cs (ofB cs roots) fs z) ∧ Below w.heap.size w w' := by
  obtain ⟨W1, hW1⟩ : ∃ W1, w.alloc (.cells #[.slice ca cs.length cc, .slice ra roots.length rc] 26) = W1 := ⟨_, rfl⟩
  have hb1 : Below w.heap.size w W1 := by rw [← hW1]; exact (Below.refl _ _).alloc (Nat.le_refl _) _
  have hk1 : W1.heap[w.heap.size]? = some (.cells #[.slice ca cs.length cc, .slice ra roots.length rc] 26 (0, 0)) := by rw [← hW1, Deep.blk_alloc_new]
  have p0 : W1.cell? ⟨w.heap.size, 0, none⟩ = some (.slice ca cs.length cc) := by simp [World.cell?, hk1]
  have p1 : W1.cell? ⟨w.heap.size, 1, none⟩ = some (.slice ra roots.length rc) := by simp [World.cell?, hk1]
  have CK := Sld.mk (dcheck_any cs roots ca ra cc rc W1 (hc.below hb1 hb1.size) (hr.below hb1 hb1.size) hp.nodes hp.roots hp.num)
  have HP : Sld (∀ V, Below W1.heap.size W1 V → V.cell? ⟨w.heap.size, 0, none⟩ = some (.slice ca cs.length cc) ∧ V.cell? ⟨w.heap.size, 1, none⟩ = some (.slice ra roots.length rc) ∧ w.heap.size < V.heap.size ∧ Below w.heap.size w V) := ⟨fun V hV => by
    have := (hV.block _ (lt_of_block hk1)).trans hk1
    exact ⟨by simp [World.cell?, this], by simp [World.cell?, this], lt_of_block this, hb1.trans (hV.mono hb1.size)⟩⟩
  have HN6 : Sld (∀ c ∈ cellsL cs, i6 c.1.n) := ⟨fun c hc => (hp.num c hc).1⟩
  have HOK : Sld (ofB cs roots = true → CeOk cs ∧ cs.length ≤ 4096 ∧ mnyL cs ≤ 8192) := ⟨fun h => ⟨ceOk_of h HN6.out, (ofB_ok h).few, (ofB_ok h).many⟩⟩
  have HW1 := Sld.mk hW1
  have HB1 := Sld.mk hb1
  have HC := Sld.mk hc
  generalize ofB cs roots = B at *
  obtain ⟨_, _, d1, hm1, hm2, _⟩ := hc
  injection d1 with d1 d2 d3
  rw [← d3] at hm1 hm2
  unfold maxLen at hm2
  clear hW1 hb1 hk1 hr hp d1 d2 d3
  go_enter Tryz.func10, Tryz.ntmps10
  go_wp2_with fail
  rw [HW1.out]
  refine CK.out.mono ?_
  rintro e w2 ⟨⟨z, rfl, hz⟩, hb2⟩
  obtain ⟨q0, q1, q2, q3⟩ := HP.out w2 hb2
  have HB2 := Sld.mk q3
  clear CK p0 p1
  rcases hz with ⟨rfl, rfl⟩ | ⟨rfl, rfl⟩
  · obtain ⟨hok, hfew, hmany⟩ := HOK.out rfl
    have CC := Sld.mk (cells_any cs (.slice ra roots.length rc) ca cc w2.drew (HC.out.below q3.drew q3.size) hfew hmany ⟨_, _, _, rfl⟩)
    have CD : Sld (∀ V la lc, Cels V V.heap.size (.slice la (cellsL cs).length lc) (cellsL cs) → Calls Tryz.prog 19 #[.int .i64 (cs.length : Nat), .slice la (cellsL cs).length lc] V fun e w' => (∃ v xs R, e = .returned v ∧ w'.ownsRow V.heap.size 29 3 v cs.length xs ∧ FcX xs R ∧ RtF cs R) ∧ Below V.heap.size V w') := ⟨fun V la lc h => cells13_any V cs la lc h hok hfew (cells_n HN6.out)⟩
    clear hb2 q3 hok
    go_upto_region 3 with fail
    go_region_held3 (fun V => V.cell? ⟨w.heap.size, 0, none⟩ = some (.slice ca cs.length cc) ∧ V.cell? ⟨w.heap.size, 1, none⟩ = some (.slice ra roots.length rc)) (go_keep) (first | (go_at_call 19; refine (CD.out w3 la lc hcel).mono ?_; rintro e w4 ⟨⟨vR, xsR, RR, rfl, hoR, hxR, hRt⟩, hb4⟩; have h24 := hb3.trans (hb4.mono hb3.size); have z0 := (h24.cell (p := ⟨w.heap.size, 0, none⟩) q2).trans q0; have z1 := (h24.cell (p := ⟨w.heap.size, 1, none⟩) q2).trans q1) | (go_at_call 20; refine CC.out.mono ?_; rintro e w3 ⟨la, lc, rfl, hcel, hb3d⟩; have hb3 : Below w2.heap.size w2 w3 := (Below.drew (Below.refl _ _)).trans hb3d; have y0 := (hb3.cell (p := ⟨w.heap.size, 0, none⟩) q2).trans q0; have y1 := (hb3.cell (p := ⟨w.heap.size, 1, none⟩) q2).trans q1))
    have HB4 : Sld (Below w.heap.size w w4) := ⟨HB2.out.trans (h24.mono HB2.out.size)⟩
    have HFS := Sld.mk (fcS_own (fs := RR) (v := vR) (by rw [hRt.len]; exact hoR) hxR)
    clear hb3 hb4 h24 hoR hxR z0 z1 y0 y1 hcel
    go_wp2_with fail
    go_ret2
    exact ⟨⟨_, RR, 0, rfl, HFS.out, .inl ⟨rfl, hRt, rfl⟩⟩, HB4.out⟩
  · clear hb2
    go_wp2_with fail
    go_ret2
    exact ⟨⟨_, [], 1, rfl, ⟨none, 0, rfl, by simp, by simp [maxLen], .inl rfl⟩, .inr ⟨rfl, rfl, rfl⟩⟩, HB2.out⟩
end Go.Proofs.YtlbmijcpalfaeaaGreatDoor

set_option linter.unusedSimpArgs false
set_option linter.unusedVariables false
namespace Go.Proofs.YtlbmijcpalfaeaaGreatDoor
open Go.RowKit Go.Lib Go.Sort

/-- A copy of a picture in the making. -/
structure CcM (B PB : Nat) (vc : Value) (R : List Ac) (rv : Value) (rs : List Int) (w : World) : Prop where
  row : w.ownsRow B 49 2 vc R.length (acCells R)
  own : ∀ r ∈ R, OwnP w B r.1 r.2.1
  pb : w.heap[PB]? = some (.cells #[vc, rv] 26 (0, 0))
  pbB : B ≤ PB
  rr : OwnI w B rv rs
theorem CcM.below {B PB : Nat} {vc rv : Value} {R : List Ac} {rs : List Int} {w w2 : World} (h : CcM B PB vc R rv rs w) (hb : Below w.heap.size w w2) : CcM B PB vc R rv rs w2 :=
  ⟨ownsRow_below h.row hb, fun r hr => (h.own r hr).below hb, (hb.block _ (lt_of_block h.pb)).trans h.pb, h.pbB, h.rr.below hb⟩
theorem acCells_snoc (l : List Ac) (a : Ac) : acCells (l ++ [a]) = acCells l ++ [a.1, .int .i64 a.2.2] := by
  induction l with
  | nil => rfl
  | cons b r ih => simp [acCells, ih]
theorem CcM.app {B PB n g cap : Nat} {vc rv v' : Value} {R : List Ac} {rs : List Int} {p : List (Nd × Value)} {z : Int} {w w6 : World} (h : CcM B PB vc R rv rs w) (hn : R.length = n) (hv : OwnP w B v' p) (hown : w6.ownsRow B 49 2 (.slice (some ⟨g, 0, none⟩) (n + 1) cap) (n + 1) (acCells R ++ [v', .int .i64 z])) (hg : w.grownBy w6 vc.ownBlock) : CcM B PB (.slice (some ⟨g, 0, none⟩) (n + 1) cap) (R ++ [(v', p, z)]) rv rs (w6.setCell ⟨PB, 0, none⟩ (.slice (some ⟨g, 0, none⟩) (n + 1) cap)) := by
  have hP : vc.ownBlock ≠ some PB := neTy h.row h.pb (by decide)
  have hpb6 : w6.heap[PB]? = some (.cells #[vc, rv] 26 (0, 0)) := (hg.block PB (lt_of_block h.pb) (fun e => hP e.symm)).trans h.pb
  have hk : ∀ {v : Value} {q : List (Nd × Value)}, OwnP w B v q → OwnP w6 B v q := fun ho => ⟨World.ownsRow.kept ho.row hg (ownBlock_ne ho.row h.row (by decide)), fun r hr => World.ownsRow.kept (ho.kids r hr) hg (ownBlock_ne (ho.kids r hr) h.row (by decide))⟩
  have hrr : OwnI w6 B rv rs := World.ownsRow.kept h.rr hg (ownBlock_ne h.rr h.row (by decide))
  refine ⟨?_, fun r hr => ?_, ?_, h.pbB, ownSetO hrr (neTy hrr hpb6 (by decide))⟩
  · rw [acCells_snoc, List.length_append, hn]
    exact ownSetO hown (neTy hown hpb6 (by decide))
  · rw [List.mem_append, List.mem_singleton] at hr
    rcases hr with hr | rfl
    · exact ownPset (hk (h.own r hr)) hpb6 (by decide) (by decide)
    · exact ownPset (hk hv) hpb6 (by decide) (by decide)
  · have := heap_setCell_same w6 PB 0 _ _ (.slice (some ⟨g, 0, none⟩) (n + 1) cap) hpb6
    rw [this]; rfl
theorem CcM.setO {B PB : Nat} {vc rv : Value} {R : List Ac} {rs : List Int} {w : World} (h : CcM B PB vc R rv rs w) {b o : Nat} {u : Value} {cs : Array Value} {fr : Nat × Nat} (hb : w.heap[b]? = some (.cells cs 26 fr)) (hne : PB ≠ b) : CcM B PB vc R rv rs (w.setCell ⟨b, o, none⟩ u) :=
  ⟨ownSetO h.row (neTy h.row hb (by decide)), fun r hr => ownPset (h.own r hr) hb (by decide) (by decide), (Deep.blk_setCell_other _ _ _ _ (by show PB ≠ b; exact hne)).trans h.pb, h.pbB, ownSetO h.rr (neTy h.rr hb (by decide))⟩
theorem CcM.form {B PB : Nat} {vc rv : Value} {R : List Ac} {rs : List Int} {w : World} (h : CcM B PB vc R rv rs w) : ∃ a c, vc = .slice a R.length c ∧ R.length ≤ c ∧ c ≤ maxLen := by
  rcases h.row.2 with ⟨e, e2⟩ | ⟨g, cap, cur, e, hb, hg, h1, h2, _⟩
  · exact ⟨none, 0, by rw [e2]; exact e, by omega, by unfold maxLen; omega⟩
  · exact ⟨_, _, e, h1, h2⟩
theorem CcM.clss {B PB : Nat} {vc rv : Value} {R : List Ac} {rs : List Int} {w : World} (h : CcM B PB vc R rv rs w) : Clss w w.heap.size vc (R.map fun r => ⟨r.2.1.map (·.1), r.2.2⟩) := by
  obtain ⟨a, c, hv, hl, hm⟩ := h.form
  refine ⟨a, c, by rw [List.length_map]; exact hv, by rw [List.length_map]; exact hl, hm, ?_⟩
  rcases h.row.2 with ⟨_, e2⟩ | ⟨g, cap, cur, e, hb, hg, h1, h2, _⟩
  · left
    rw [List.length_eq_zero_iff.1 e2]; rfl
  · right
    rw [hv] at e
    injection e with e3 _ _
    refine ⟨g, 0, e3, lt_of_block hg, fun i hi => ?_⟩
    rw [List.length_map] at hi
    obtain ⟨a0, a1⟩ := acCells_at R i hi
    have hr := rdr_own h.row
    have hmem : R.getD i ac0 ∈ R := by rw [List.getD_eq_getElem?_getD, List.getElem?_eq_getElem hi]; exact List.getElem_mem _
    have ho := h.own _ hmem
    have e : (R.map fun r : Ac => (⟨r.2.1.map (·.1), r.2.2⟩ : Cls)).getD i cls0 = ⟨(R.getD i ac0).2.1.map (·.1), (R.getD i ac0).2.2⟩ := by
      simp only [List.getD_eq_getElem?_getD, List.getElem?_map]
      rw [List.getElem?_eq_getElem hi]; rfl
    rw [e, Nat.zero_add]
    obtain ⟨na, nc, e2, hN⟩ : ∃ na nc, (R.getD i ac0).1 = .slice na ((R.getD i ac0).2.1.map (·.1)).length nc ∧ Nodes w w.heap.size (.slice na ((R.getD i ac0).2.1.map (·.1)).length nc) ((R.getD i ac0).2.1.map (·.1)) := by
      have := Nodes_of_own (w := w) (base := B) (v := (R.getD i ac0).1) (l := (R.getD i ac0).2.1.map (·.1)) ⟨_, rfl, ho⟩ (Nat.le_refl _)
      obtain ⟨ao, cap, e, _⟩ := id this
      exact ⟨ao, cap, e, by rw [← e]; exact this⟩
    have hob : vc.ownBlock = some g := by rw [hv, e3]; rfl
    refine ⟨na, nc, ?_, hr.cell (b := g) hob a1, hN⟩
    rw [← e2]
    exact hr.cell (b := g) hob a0
end Go.Proofs.YtlbmijcpalfaeaaGreatDoor

set_option linter.unusedSimpArgs false
set_option linter.unusedVariables false
namespace Go.Proofs.YtlbmijcpalfaeaaGreatDoor
open Go.RowKit Go.Lib Go.Sort

theorem cc_news {w : World} {a b : Value} {T : TypeId} : ∀ j v, [a, b][j]? = some v → (w.alloc (.cells #[a, b] T)).cell? ((⟨w.heap.size, 0, none⟩ : Addr).add j) = some v := fun j v h => by
  have hb : (w.alloc (.cells #[a, b] T)).heap[w.heap.size]? = some (.cells #[a, b] T (0, 0)) := by rw [Deep.blk_alloc_new]
  exact World.news_of_block hb j v (by simpa using h)
theorem row_sl {w : World} {base : Nat} {e : TypeId} {s n : Nat} {v : Value} {xs : List Value} (h : w.ownsRow base e s v n xs) : ∃ a c, v = .slice a n c := by
  rcases h.2 with ⟨rfl, rfl⟩ | ⟨g, cap, cur, rfl, _⟩
  · exact ⟨_, _, rfl⟩
  · exact ⟨_, _, rfl⟩
set_option maxRecDepth 20000 in
set_option maxHeartbeats 16000000 in
theorem copyP_any (cs : List Cls) (roots : List Int) (ca ra : Option Addr) (cc rc : Nat) (w : World) (hc : Clss w w.heap.size (.slice ca cs.length cc) cs) (hr : Ints w w.heap.size (.slice ra roots.length rc) roots) (hp : PicOk cs roots) :
    Calls Tryz.prog 9 #[.agg #[.slice ca cs.length cc, .slice ra roots.length rc]] w fun e w' => (∃ ca' cc' ra' rc', e = .returned (.agg #[.slice ca' cs.length cc', .slice ra' roots.length rc']) ∧ Clss w' w'.heap.size (.slice ca' cs.length cc') cs ∧ Ints w' w'.heap.size (.slice ra' roots.length rc') roots) ∧ Below w.heap.size w w' := by
  obtain ⟨i0, hi0, hz0, hz1, hz2⟩ := info_parts Tryz.infoI3
  obtain ⟨iC, hiC, hc0, hc1, hc2⟩ := info_parts Tryz.infoCls
  obtain ⟨W0, hW0⟩ : ∃ W0, w.alloc (.cells #[.slice ca cs.length cc, .slice ra roots.length rc] 26) = W0 := ⟨_, rfl⟩
  obtain ⟨W1, hW1⟩ : ∃ W1, W0.alloc (.cells #[.slice none 0 0, .slice none 0 0] 26) = W1 := ⟨_, rfl⟩
  have hs0 : W0.heap.size = w.heap.size + 1 := by rw [← hW0]; simp
  have hs1 : W1.heap.size = w.heap.size + 2 := by rw [← hW1]; simp [hs0]
  have hb0 : Below w.heap.size w W0 := by rw [← hW0]; exact (Below.refl _ _).alloc (Nat.le_refl _) _
  have hb1 : Below w.heap.size w W1 := by rw [← hW1]; exact hb0.alloc (by omega) _
  have hk0 : W0.heap[w.heap.size]? = some (.cells #[.slice ca cs.length cc, .slice ra roots.length rc] 26 (0, 0)) := by rw [← hW0, Deep.blk_alloc_new]
  have hk1 : W1.heap[w.heap.size]? = some (.cells #[.slice ca cs.length cc, .slice ra roots.length rc] 26 (0, 0)) := by rw [← hW1, Deep.blk_alloc_lt _ _ _ (by omega)]; exact hk0
  have hkr : W1.heap[W0.heap.size]? = some (.cells #[.slice none 0 0, .slice none 0 0] 26 (0, 0)) := by rw [← hW1, Deep.blk_alloc_new]
  obtain ⟨RB, hRB⟩ : ∃ RB, W0.heap.size = RB := ⟨_, rfl⟩
  obtain ⟨B, hB⟩ : ∃ B, W1.heap.size = B := ⟨_, rfl⟩
  rw [hRB] at hkr
  have hC1 := hc.below hb1 hb1.size
  have hR1 := hr.below hb1 hb1.size
  rw [hB] at hC1 hR1
  have HSW : Sld (∀ V, Below B W1 V → V.cell? ⟨w.heap.size, 0, none⟩ = some (.slice ca cs.length cc) ∧ V.cell? ⟨w.heap.size, 1, none⟩ = some (.slice ra roots.length rc) ∧ V.heap[RB]? = some (.cells #[.slice none 0 0, .slice none 0 0] 26 (0, 0)) ∧ Below w.heap.size w V) := ⟨fun V hV => by
    have h1 := (hV.block _ (by omega)).trans hk1
    exact ⟨by simp [World.cell?, h1], by simp [World.cell?, h1], (hV.block _ (by omega)).trans hkr, hb1.trans (hV.mono (by omega))⟩⟩
  have HBS : Sld (W1.heap.size = B ∧ RB < B ∧ w.heap.size < B ∧ w.heap.size ≤ RB) := ⟨hB, by omega, by omega, by omega⟩
  -- the roots
  have hbA : Below B W1 (W1.alloc (.cells #[] 3)) := by rw [← hB]; exact (Below.refl _ _).alloc (Nat.le_refl _) _
  obtain ⟨ao, cap, eh, hrl, ⟨hrm, hrn⟩, hrc⟩ := id hR1
  injection eh with e1 _ e2
  subst e1; subst e2
  have HS : Sld (∀ ad, ra = some ad → ∀ j u, (roots.map (Value.int .i64))[j]? = some u → (W1.alloc (.cells #[] 3)).cell? (ad.add j) = some u) := ⟨src_cells hrc hbA⟩
  have HO : Sld (((( w.alloc (.cells #[.slice ca cs.length cc, .slice ra roots.length rc] 26)).alloc (.cells #[.slice none 0 0, .slice none 0 0] 26)).alloc (.cells #[] 3)).ownsRow B 3 1 (.slice (some ⟨w.heap.size + 1 + 1, 0, none⟩) 0 0) 0 []) := ⟨by
    rw [hW0, hW1, show w.heap.size + 1 + 1 = W1.heap.size by omega]
    exact World.ownsRow_made W1 #[] 0 (by omega) (Nat.zero_le _) (by simp)⟩
  have HSX : Sld (∀ ad, ra = some ad → ∀ j u, (roots.map (Value.int .i64))[j]? = some u → ((( w.alloc (.cells #[.slice ca cs.length cc, .slice ra roots.length rc] 26)).alloc (.cells #[.slice none 0 0, .slice none 0 0] 26)).alloc (.cells #[] 3)).cell? (ad.add j) = some u) := ⟨by rw [hW0, hW1]; exact HS.out⟩
  have HBL : Sld (B = w.heap.size + 1 + 1) := ⟨by omega⟩
  have HRE : Sld (w.heap.size + 1 = RB) := ⟨by omega⟩
  have HL : Sld ((roots.map (Value.int .i64)).length = roots.length * 1) := ⟨by simp⟩
  have H1 : Sld (∀ u ∈ roots.map (Value.int .i64), u.oneCell' = true) := ⟨fun u hu => by
    obtain ⟨x, _, rfl⟩ := List.mem_map.1 hu; rfl⟩
  have HNN : Sld (ra = none → roots.length = 0 ∧ rc = 0) := ⟨fun h => by have := hrn h; omega⟩
  have hrw := hp.roots
  have HPP := Sld.mk hp
  have HC1 := Sld.mk hC1
  have HWW0 := Sld.mk hW0
  have HWW1 := Sld.mk hW1
  have HRB := Sld.mk hRB
  obtain ⟨p0, p1, _, _⟩ := HSW.out W1 (Below.refl _ _)
  have HBA := Sld.mk hbA
  unfold maxLen at hrm
  clear hW0 hW1 hb0 hb1 hk0 hk1 hkr hRB hC1 hR1 hbA hrc hc hr hp hs0 hs1 hrn
  go_enter Tryz.func9, Tryz.ntmps9
  go_wp2_with (at_builtin; refine wpList_append_src _ rfl (.tmp 5) (.tmp 7) 24 rfl B 3 i0 (.int .i64 0) 1 8 Tryz.underlying24 hi0 hz0 hz1 hz2 rfl (by decide) _ _ _ rfl HO.out ra roots.length rc (roots.map (Value.int .i64)) rfl HNN.out HL.out HSX.out H1.out (by unfold maxLen; omega) (by omega) (by have := HBL.out; simp; omega) ?_; intro v' w3 hown hg; obtain ⟨sa, sc, rfl⟩ := row_sl hown)
  have hg' : ((( w.alloc (.cells #[.slice ca cs.length cc, .slice ra roots.length rc] 26)).alloc (.cells #[.slice none 0 0, .slice none 0 0] 26)).alloc (.cells #[] 3)).grownBy w3 (some (w.heap.size + 1 + 1)) := hg
  rw [HWW0.out, HWW1.out, ← HBL.out] at hg'
  have hb3 : Below B W1 w3 := HBA.out.grown hg' (by have := HBS.out; have := HBA.out.size; omega) (fun b hb => by injection hb with hb; omega)
  obtain ⟨PB, hPB⟩ : ∃ PB, w3.heap.size = PB := ⟨_, rfl⟩
  obtain ⟨W4, hW4⟩ : ∃ W4, w3.alloc (.cells #[.slice none 0 0, .slice sa roots.length sc] 26) = W4 := ⟨_, rfl⟩
  have hb34 : Below w3.heap.size w3 W4 := by rw [← hW4]; exact (Below.refl _ _).alloc (Nat.le_refl _) _
  have hBP : B ≤ PB := by rw [← hPB]; have := hb3.size; have := HBS.out; omega
  have hpb : W4.heap[PB]? = some (.cells #[.slice none 0 0, .slice sa roots.length sc] 26 (0, 0)) := by rw [← hW4, ← hPB, Deep.blk_alloc_new]
  have hrr : OwnI w3 B (.slice sa roots.length sc) roots := by
    unfold OwnI
    rw [Nat.zero_add, List.nil_append] at hown
    exact hown
  have HM4 : Sld (CcM B PB (.slice none 0 0) [] (.slice sa roots.length sc) roots W4) := ⟨World.ownsRow_nil _ _ _ _, (fun r hr => by cases hr), hpb, hBP, hrr.below hb34⟩
  have HB4 : Sld (Below B W1 W4) := ⟨hb3.trans (hb34.mono (by rw [hPB]; exact hBP))⟩
  rw [hPB, hW4, HRE.out]
  have HBPs := Sld.mk hBP
  clear hg hg' hb3 hb34 hpb hrr hown hPB hW4 hBP p0 p1 HSX HS HO HNN HL H1
  go_loopw [4] (fun q wr => ∃ (j : Nat) (vc : Value) (R : List Ac), j ≤ cs.length ∧ q = .int .i64 j ∧ Sld (CcM B PB vc R (.slice sa roots.length sc) roots wr) ∧ Sld (Below B W1 wr) ∧ Sld (R.length = j ∧ (R.map fun r : Ac => (⟨r.2.1.map (·.1), r.2.2⟩ : Cls)) = cs.take j)) (fun q _ => cs.length - (RowKit.intOf q).toNat)
  case atStart => exact ⟨0, _, [], by omega, rfl, HM4, HB4, ⟨rfl, by simp⟩⟩
  case round =>
    clear HM4 HB4
    rename World => Y
    obtain ⟨j, vc, R, hj, rfl, HM, HB, HR⟩ := hrel
    obtain ⟨p0, p1, hkr, hbw⟩ := HSW.out Y HB.out
    obtain ⟨va, vcap, hvc, hv1, hv2⟩ := HM.out.form
    rw [HR.out.1] at hvc hv1
    subst hvc
    have hPl := lt_of_block HM.out.pb
    have q0 : Y.cell? ⟨PB, 0, none⟩ = some (.slice va j vcap) := by simp [World.cell?, HM.out.pb]
    unfold maxLen at hv2
    by_cases hlt : j < cs.length
    · obtain ⟨cb, co, na, nc, rfl, hcb, c0, c1, hNd⟩ := HC1.out.cellC hlt
      have hmem : clA cs j ∈ cs := clA_mem hlt
      have hnw := HPP.out.nodes _ hmem
      have hkw := HPP.out.kids _ hmem
      have hfw := HPP.out.few
      obtain ⟨_, hm1, hm2⟩ := hNd.bnd
      have hYB : B ≤ Y.heap.size := by have := HB.out.size; have := HBS.out; omega
      have cC : Sld (∀ V, Below Y.heap.size Y V → Calls Tryz.prog 6 #[.slice na (clA cs j).nodes.length nc] V fun e w' => ∃ a c p, e = .returned (.slice a (clA cs j).nodes.length c) ∧ OwnP w' B (.slice a (clA cs j).nodes.length c) p ∧ p.map (·.1) = (clA cs j).nodes ∧ Below Y.heap.size Y w') := ⟨fun V hV => by
        have h1 := copy_any (.slice na (clA cs j).nodes.length nc) (clA cs j).nodes V V.heap.size (Nat.le_refl _) (hNd.below (HB.out.trans (hV.mono hYB)) (by have := hV.size; omega)) (by omega) hkw
        refine h1.mono ?_
        rintro e w' ⟨v', rfl, ⟨p, hp1, hp2⟩, hb⟩
        have hpl : p.length = (clA cs j).nodes.length := by rw [← hp1, List.length_map]
        obtain ⟨a, c, e1⟩ := row_sl hp2.row
        subst e1
        rw [hpl] at hp2 ⊢
        exact ⟨a, c, p, rfl, ⟨ownsRow_mono hp2.row (by have := hV.size; omega), fun q hq => ownsRow_mono (hp2.kids q hq) (by have := hV.size; omega)⟩, hp1, hV.trans (hb.mono hV.size)⟩⟩
      have HKEEP : Sld (∀ V, Below Y.heap.size Y V → V.cell? ⟨PB, 0, none⟩ = some (.slice va j vcap) ∧ V.cell? ⟨w.heap.size, 0, none⟩ = some (.slice (some ⟨cb, co, none⟩) cs.length cc) ∧ V.cell? ⟨cb, co + j * 2, none⟩ = some (.slice na (clA cs j).nodes.length nc) ∧ V.cell? ⟨cb, co + j * 2 + 1, none⟩ = some (.int .i64 (clA cs j).size)) := ⟨fun V hV => by
        have hV1 := HB.out.trans (hV.mono hYB)
        exact ⟨(hV.cell (p := ⟨PB, 0, none⟩) hPl).trans q0, (HSW.out V hV1).1, (hV1.cell (p := ⟨cb, co + j * 2, none⟩) hcb).trans c0, (hV1.cell (p := ⟨cb, co + j * 2 + 1, none⟩) hcb).trans c1⟩⟩
      have HAFT : Sld (∀ (w5 : World) (a5 : Option Addr) (c5 : Nat) (p5 : List (Nd × Value)) (g6 cap6 : Nat) (w6 : World), OwnP w5 B (.slice a5 (clA cs j).nodes.length c5) p5 → p5.map (·.1) = (clA cs j).nodes → Below Y.heap.size Y w5 → w6.ownsRow B 49 2 (.slice (some ⟨g6, 0, none⟩) (j + 1) cap6) (j + 1) (acCells R ++ [.slice a5 (clA cs j).nodes.length c5, .int .i64 (clA cs j).size]) → (w5.alloc (.cells #[.slice a5 (clA cs j).nodes.length c5, .int .i64 (clA cs j).size] 49)).grownBy w6 (Value.slice va j vcap).ownBlock → (CcM B PB (.slice (some ⟨g6, 0, none⟩) (j + 1) cap6) (R ++ [(.slice a5 (clA cs j).nodes.length c5, p5, (clA cs j).size)]) (.slice sa roots.length sc) roots (w6.setCell ⟨PB, 0, none⟩ (.slice (some ⟨g6, 0, none⟩) (j + 1) cap6)) ∧ Below B W1 (w6.setCell ⟨PB, 0, none⟩ (.slice (some ⟨g6, 0, none⟩) (j + 1) cap6)) ∧ ((R ++ [(Value.slice a5 (clA cs j).nodes.length c5, p5, (clA cs j).size)]).map (fun r : Ac => (⟨r.2.1.map (·.1), r.2.2⟩ : Cls))) = cs.take (j + 1)) ∧ w6.cell? ⟨PB, 0, none⟩ = some (.slice va j vcap) ∧ w6.frozen? ⟨PB, 0, none⟩ = false ∧ w6.cell? ⟨w.heap.size, 0, none⟩ = some (.slice (some ⟨cb, co, none⟩) cs.length cc) ∧ w6.cell? ⟨cb, co + j * 2, none⟩ = some (.slice na (clA cs j).nodes.length nc) ∧ w6.cell? ⟨cb, co + j * 2 + 1, none⟩ = some (.int .i64 (clA cs j).size)) := ⟨fun w5 a5 c5 p5 g6 cap6 w6 h1 h2 h3 h4 h5 => by
        have hA : Below Y.heap.size Y (w5.alloc (.cells #[.slice a5 (clA cs j).nodes.length c5, .int .i64 (clA cs j).size] 49)) := h3.alloc h3.size _
        have hMA := HM.out.below hA
        have hB6 : Below B W1 w6 := (HB.out.trans (hA.mono hYB)).grown h5 (by have := hA.size; omega) (fun b hb => (rw_block HM.out.row hb).1)
        have hP := hMA.pb
        have hP6 := (h5.block PB (lt_of_block hP) (fun e => (neTy hMA.row hP (by decide) : _ ≠ some PB) e.symm)).trans hP
        refine ⟨⟨hMA.app HR.out.1 (h1.below ((Below.refl _ _).alloc (Nat.le_refl _) _)) h4 h5, hB6.setCell (p := ⟨PB, 0, none⟩) HBPs.out _, ?_⟩, by simp [World.cell?, hP6], by simp [World.frozen?, hP6], (HSW.out w6 hB6).1, (hB6.cell (p := ⟨cb, co + j * 2, none⟩) hcb).trans c0, (hB6.cell (p := ⟨cb, co + j * 2 + 1, none⟩) hcb).trans c1⟩
        rw [List.map_append, HR.out.2, List.take_add_one, List.getElem?_eq_getElem hlt]
        have e : clA cs j = cs[j] := by unfold clA; rw [List.getD_eq_getElem?_getD, List.getElem?_eq_getElem hlt]; rfl
        simp only [List.map_cons, List.map_nil, h2, e]
        rfl⟩
      have HRW : Sld (∀ w5, Below Y.heap.size Y w5 → w5.ownsRow B 49 2 (.slice va j vcap) j (acCells R)) := ⟨fun w5 h => by have := (HM.out.below h).row; rw [HR.out.1] at this; exact this⟩
      obtain ⟨k0, k1, k2, k3⟩ := HKEEP.out Y (Below.refl _ _)
      have HRl := Sld.mk HR.out.1
      have hj8 : (j + 1) * 32 ≤ 140737488355328 := by omega
      generalize (clA cs j).nodes.length = m at *
      generalize (clA cs j).size = z at *
      clear hNd hmem hnw hkw q0 c0 c1 hkr hbw HR HM p1
      go_wp2_with fail
      go_region_law (first | (refine step_append_lies _ rfl (.tmp 18) (.tmp 33) 23 rfl B 49 iC (.agg #[.slice none 0 0, .int .i64 0]) 2 32 Tryz.underlying23 hiC hc0 hc1 hc2 rfl (by decide) _ _ _ (by simp [Act.eval, Act.put]) (hrow5.alloc _) ⟨w5.heap.size, 0, none⟩ 1 1 [.slice a5 m c5, .int .i64 z] (by simp [Act.eval, Act.put]) rfl (cc_news) (by simp [Value.oneCell']) (by omega) (by unfold maxLen; omega) (by omega) (by have := hb5.size; simp; omega) _ rfl ?_; intro g6 cap6 w6 hown6 hg6 hat6 hl6; obtain ⟨haf, q0, q0f, _⟩ := HAFT.out w5 a5 c5 p5 g6 cap6 w6 ho5 hp5 hb5 hown6 hg6) | (go_simp; go_wp2_with (go_at_call 6; refine (cC.out _ (Below.refl _ _).drew).mono ?_; rintro e w5 ⟨a5, c5, p5, rfl, ho5, hp5, hb5⟩; obtain ⟨l0, l1, l2, l3⟩ := HKEEP.out w5 hb5; have hrow5 := HRW.out w5 hb5; have zl : PB < w5.heap.size := Nat.lt_of_lt_of_le hPl hb5.size; have z0 : ∀ o, (w5.alloc o).cell? ⟨PB, 0, none⟩ = some (.slice va j vcap) := fun o => (World.cell?_alloc_past _ _ _ zl).trans l0)))
      all_goals
        have HA1 := Sld.mk haf.1
        have HA2 := Sld.mk haf.2.1
        have HA3 := Sld.mk haf.2.2
        clear haf hown6 hg6 hat6 hl6 hrow5 ho5 hp5 hb5 zl z0 l0 l1 l2 l3 HAFT HKEEP HRW cC
        go_wp2_with fail
        exact ⟨⟨j + 1, _, _, by omega, by go_num, HA1, HA2, ⟨by rw [List.length_append, HRl.out]; rfl, HA3.out⟩⟩, by simp [RowKit.intOf]; omega⟩
    · have hje : j = cs.length := by omega
      have HRE2 : Sld ((R.map fun r : Ac => (⟨r.2.1.map (·.1), r.2.2⟩ : Cls)) = cs) := ⟨by have := HR.out.2; rw [hje, List.take_length] at this; exact this⟩
      subst hje
      obtain ⟨hW1s, hRB, hwB, hwR⟩ := HBS.out
      have kf : ∀ o, Y.frozen? ⟨RB, o, none⟩ = false := fun o => frozen_of_heap hkr _
      obtain ⟨k0, k1⟩ : Y.cell? ⟨RB, 0, none⟩ = some (.slice none 0 0) ∧ Y.cell? ⟨RB, 1, none⟩ = some (.slice none 0 0) := by simp [World.cell?, hkr]
      have kf0 := kf 0
      have kf1 := kf 1
      have q1 : Y.cell? ⟨PB, 1, none⟩ = some (.slice sa roots.length sc) := by simp [World.cell?, HM.out.pb]
      have hne : PB ≠ RB := by have := HBPs.out; omega
      have h1 := heap_setCell_same Y RB 0 _ _ (.slice va cs.length vcap) hkr
      have HBK : Sld (((Y.setCell ⟨RB, 0, none⟩ (.slice va cs.length vcap)).setCell ⟨RB, 1, none⟩ (.slice sa roots.length sc)).heap[RB]? = some (.cells #[.slice va cs.length vcap, .slice sa roots.length sc] 26 (0, 0))) := ⟨heap_setCell_same _ RB 1 _ _ (.slice sa roots.length sc) h1⟩
      have HMF := Sld.mk ((HM.out.setO (o := 0) (u := .slice va cs.length vcap) hkr hne).setO (o := 1) (u := .slice sa roots.length sc) h1 hne)
      have HBW : Sld (Below w.heap.size w ((Y.setCell ⟨RB, 0, none⟩ (.slice va cs.length vcap)).setCell ⟨RB, 1, none⟩ (.slice sa roots.length sc))) := ⟨(hbw.setCell (p := ⟨RB, 0, none⟩) hwR _).setCell (p := ⟨RB, 1, none⟩) hwR _⟩
      clear hkr kf hbw HM h1
      go_wp2_with fail
      have hbk := HBK.out
      refine bodyPost_ret (v := .agg #[.slice va cs.length vcap, .slice sa roots.length sc]) ?_ rfl ⟨⟨va, vcap, sa, sc, rfl, ?_, ?_⟩, HBW.out⟩
      · exact results_cell_row rfl _ _ RB _ _ _ _ rfl hbk Tryz.underlying26 rfl (by kernel_rfl)
      · have := HMF.out.clss; rw [HRE2.out] at this; exact this
      · exact Ints_of_own HMF.out.rr (Nat.le_refl _)
end Go.Proofs.YtlbmijcpalfaeaaGreatDoor

set_option linter.unusedSimpArgs false
set_option linter.unusedVariables false
namespace Go.Proofs.YtlbmijcpalfaeaaGreatDoor
open Go.RowKit Go.Lib

theorem clK_same {cs : List Cls} {roots : List Int} {fs gs : List Fc} {z y : Int} (h : ClK cs (ofB cs roots) fs z) (h2 : ClK2 cs (ofB cs roots) gs y) : gs = fs ∧ y = z := by
  rcases h with ⟨hb, h, rfl⟩ | ⟨hb, rfl, rfl⟩ <;> rcases h2 with ⟨hb2, h4, rfl⟩ | ⟨hb2, rfl, rfl⟩
  · exact ⟨h4.eq (ofB_nd hb) h, rfl⟩
  · rw [hb] at hb2; cases hb2
  · rw [hb] at hb2; cases hb2
  · exact ⟨rfl, rfl⟩

set_option maxRecDepth 100000 in
set_option maxHeartbeats 16000000 in
theorem factsPlays_walk (w : World) (ao : Option Addr) (cap : Nat) (l : List Nd) (ca : Option Addr) (cc : Nat) (cs : List Cls) (ra : Option Addr) (rc : Nat) (roots : List Int) (T : Tabs w) (hG : GrpCells w) (hR : Rd w ao cap l) (hF : Fit l) (hn6 : ∀ x ∈ l, i6 x.n) (hc : Clss w w.heap.size (.slice ca cs.length cc) cs) (hr : Ints w w.heap.size (.slice ra roots.length rc) roots) (hp : PicOk cs roots) :
    Calls Tryz.prog 3 #[.slice ao l.length cap, .agg #[.slice ca cs.length cc, .slice ra roots.length rc]] w fun e w' => e = .returned (.bool true) ∧ Below w.heap.size w w' := by
  obtain ⟨W1, hW1⟩ : ∃ W1, w.alloc (.cells #[.slice ca cs.length cc, .slice ra roots.length rc] 26) = W1 := ⟨_, rfl⟩
  have hb1 : Below w.heap.size w W1 := by rw [← hW1]; exact (Below.refl _ _).alloc (Nat.le_refl _) _
  have hk1 : W1.heap[w.heap.size]? = some (.cells #[.slice ca cs.length cc, .slice ra roots.length rc] 26 (0, 0)) := by rw [← hW1, Deep.blk_alloc_new]
  have HP : Sld (∀ V, Below W1.heap.size W1 V → V.cell? ⟨w.heap.size, 0, none⟩ = some (.slice ca cs.length cc) ∧ V.cell? ⟨w.heap.size, 1, none⟩ = some (.slice ra roots.length rc) ∧ Below w.heap.size w V ∧ Tabs V ∧ GrpCells V ∧ Clss V V.heap.size (.slice ca cs.length cc) cs ∧ Ints V V.heap.size (.slice ra roots.length rc) roots ∧ Rd V ao cap l) := ⟨fun V hV => by
    have h1 := (hV.block _ (lt_of_block hk1)).trans hk1
    have hb := hb1.trans (hV.mono hb1.size)
    exact ⟨by simp [World.cell?, h1], by simp [World.cell?, h1], hb, T.below hb, hG.below hb, hc.below hb hb.size, hr.below hb hb.size, hR.below hb hb.size⟩⟩
  have HPO := Sld.mk hp
  have HFT := Sld.mk hF
  have H6 := Sld.mk hn6
  have HW1 := Sld.mk hW1
  have CW : Sld (∀ V, Below W1.heap.size W1 V → Calls Tryz.prog 4 #[] V fun e w' => e = .returned (.bool true) ∧ Below V.heap.size V w') := ⟨fun V hV => awake13_any V (HP.out V hV).2.2.2.1.spans (HP.out V hV).2.2.2.2.1⟩
  have CY : Sld (∀ V, Below W1.heap.size W1 V → Calls Tryz.prog 6 #[.slice ao l.length cap] V fun e w' => ∃ ao' cap', e = .returned (.slice ao' l.length cap') ∧ Rd w' ao' cap' l ∧ Below V.heap.size V w') := ⟨fun V hV => copyR (HP.out V hV).2.2.2.2.2.2.2 HFT.out⟩
  have CO : Sld (∀ V a c, Below W1.heap.size W1 V → Rd V a c l → Calls Tryz.prog 5 #[.slice a l.length c] V fun e w' => e = .returned (.tuple #[.agg #[.bool (ofE l).t, .bool (ofE l).c, .int .i64 (ofE l).n], .int .i64 (chkE l)]) ∧ Below V.heap.size V w') := ⟨fun V a c hV hr => ofE_any (HP.out V hV).2.2.2.1.spans (HP.out V hV).2.2.2.2.1 hr⟩
  have CR : Sld (∀ V, Below W1.heap.size W1 V → Calls Tryz.prog 7 #[.slice ao l.length cap] V fun e w' => e = .returned (.tuple #[.agg #[.bool (ofE l).t, .bool (ofE l).c, .int .i64 (ofE l).n], .int .i64 (chkE l)]) ∧ Below V.heap.size V w') := ⟨fun V hV => rofE_any (HP.out V hV).2.2.2.2.2.2.2 HFT.out H6.out⟩
  have CC : Sld (∀ V, Below W1.heap.size W1 V → Calls Tryz.prog 9 #[.agg #[.slice ca cs.length cc, .slice ra roots.length rc]] V fun e w' => (∃ ca' cc' ra' rc', e = .returned (.agg #[.slice ca' cs.length cc', .slice ra' roots.length rc']) ∧ Clss w' w'.heap.size (.slice ca' cs.length cc') cs ∧ Ints w' w'.heap.size (.slice ra' roots.length rc') roots) ∧ Below V.heap.size V w') := ⟨fun V hV => copyP_any cs roots ca ra cc rc V (HP.out V hV).2.2.2.2.2.1 (HP.out V hV).2.2.2.2.2.2.1 HPO.out⟩
  have CL : Sld (∀ V ca' cc' ra' rc', Below W1.heap.size W1 V → Clss V V.heap.size (.slice ca' cs.length cc') cs → Ints V V.heap.size (.slice ra' roots.length rc') roots → Calls Tryz.prog 8 #[.agg #[.slice ca' cs.length cc', .slice ra' roots.length rc']] V fun e w' => (∃ v fs z, e = .returned (.tuple #[v, .int .i64 z]) ∧ FcS w' v fs ∧ ClK cs (ofB cs roots) fs z) ∧ Below V.heap.size V w') := ⟨fun V ca' cc' ra' rc' hV h1 h2 => (classes13_any cs roots ca' ra' cc' rc' V (HP.out V hV).2.2.2.1 (HP.out V hV).2.2.2.2.1 h1 h2 HPO.out).mono fun e w' ⟨h3, h4⟩ => by
    obtain ⟨v, xs, fs, z, h5, h6, h7, h8⟩ := h3.gen
    exact ⟨⟨v, fs, z, h5, fcS_own h6 h7, h8⟩, h4⟩⟩
  have CD : Sld (∀ V, Below W1.heap.size W1 V → Calls Tryz.prog 10 #[.agg #[.slice ca cs.length cc, .slice ra roots.length rc]] V fun e w' => (∃ v fs z, e = .returned (.tuple #[v, .int .i64 z]) ∧ FcS w' v fs ∧ ClK2 cs (ofB cs roots) fs z) ∧ Below V.heap.size V w') := ⟨fun V hV => rclasses_any cs roots ca ra cc rc V (HP.out V hV).2.2.2.2.2.1 (HP.out V hV).2.2.2.2.2.2.1 HPO.out⟩
  have HSM : Sld (∀ fs gs z y, ClK cs (ofB cs roots) fs z → ClK2 cs (ofB cs roots) gs y → gs = fs ∧ y = z) := ⟨fun fs gs z y h1 h2 => clK_same h1 h2⟩
  generalize ofB cs roots = PB at *
  generalize ofE l = F at *
  generalize chkE l = ce at *
  obtain ⟨Ft, Fc', Fn⟩ := F
  simp only at CO CR
  have hq := eql_fact1 Ft Fc' Fn
  clear hW1 hb1 hk1 hp hc hr T hG hR hF hn6
  go_enter Tryz.func3, Tryz.ntmps3
  go_wp2_with fail
  rw [HW1.out]
  refine (CW.out W1 (Below.refl _ _)).mono ?_
  rintro e w2 ⟨rfl, hb2⟩
  have B2 := Sld.mk hb2
  clear hb2
  go_wp2_with fail
  refine (CY.out w2 B2.out).mono ?_
  rintro e w3 ⟨a3, c3, rfl, hR3, hb3⟩
  have B3 : Sld (Below W1.heap.size W1 w3) := ⟨B2.out.trans (hb3.mono B2.out.size)⟩
  have C3 := Sld.mk (CO.out w3 a3 c3 B3.out hR3)
  clear hb3 hR3
  go_wp2_with fail
  refine C3.out.mono ?_
  rintro e w4 ⟨rfl, hb4⟩
  obtain ⟨W5, hW5⟩ : ∃ W5, w4.alloc (.cells #[.bool Ft, .bool Fc', .int .i64 Fn] 29) = W5 := ⟨_, rfl⟩
  have hb45 : Below w3.heap.size w3 W5 := by rw [← hW5]; exact hb4.alloc hb4.size _
  have B5 : Sld (Below W1.heap.size W1 W5) := ⟨B3.out.trans (hb45.mono B3.out.size)⟩
  have K5 : Sld (W5.heap[w4.heap.size]? = some (.cells #[.bool Ft, .bool Fc', .int .i64 Fn] 29 (0, 0))) := ⟨by rw [← hW5, Deep.blk_alloc_new]⟩
  have HW5 := Sld.mk hW5
  clear hb4 hb45 hW5 C3
  go_wp2_with fail
  rw [HW5.out]
  refine (CR.out W5 B5.out).mono ?_
  rintro e w6 ⟨rfl, hb6⟩
  obtain ⟨W7, hW7⟩ : ∃ W7, w6.alloc (.cells #[.bool Ft, .bool Fc', .int .i64 Fn] 29) = W7 := ⟨_, rfl⟩
  have hb57 : Below W5.heap.size W5 W7 := by rw [← hW7]; exact hb6.alloc hb6.size _
  have B7 : Sld (Below W1.heap.size W1 W7) := ⟨B5.out.trans (hb57.mono B5.out.size)⟩
  have K7 : Sld (W7.heap[w6.heap.size]? = some (.cells #[.bool Ft, .bool Fc', .int .i64 Fn] 29 (0, 0))) := ⟨by rw [← hW7, Deep.blk_alloc_new]⟩
  have K57 : Sld (W7.heap[w4.heap.size]? = some (.cells #[.bool Ft, .bool Fc', .int .i64 Fn] 29 (0, 0))) := ⟨(hb57.block _ (lt_of_block K5.out)).trans K5.out⟩
  have HW7 := Sld.mk hW7
  obtain ⟨x0, x1, _⟩ := HP.out W7 B7.out
  rw [← hW7] at x0 x1
  clear hb6 hb57 hW7
  go_wp2_with fail
  rw [HW7.out]
  refine (CC.out W7 B7.out).mono ?_
  rintro e w8 ⟨⟨xa, xc, ya, yc, rfl, hcx, hrx⟩, hb8⟩
  have B78 := Sld.mk hb8
  have B8 : Sld (Below W1.heap.size W1 w8) := ⟨B7.out.trans (hb8.mono B7.out.size)⟩
  have C8 := Sld.mk (CL.out w8 xa xc ya yc B8.out hcx hrx)
  clear hb8 hcx hrx x0 x1
  go_wp2_with fail
  refine C8.out.mono ?_
  rintro e w9 ⟨⟨v9, f9, z9, rfl, hf9, hk9⟩, hb9⟩
  have B79 := Sld.mk (B78.out.trans (hb9.mono B78.out.size))
  have B9 : Sld (Below W1.heap.size W1 w9) := ⟨B8.out.trans (hb9.mono B8.out.size)⟩
  have HF9 := Sld.mk hf9
  have HK9 := Sld.mk hk9
  obtain ⟨x0, x1, _⟩ := HP.out w9 B9.out
  clear hb9 hf9 hk9 C8
  go_wp2_with fail
  refine (CD.out w9 B9.out).mono ?_
  rintro e w10 ⟨⟨v10, f10, z10, rfl, hf10, hk10⟩, hb10⟩
  obtain ⟨e1, e2⟩ := HSM.out f9 f10 z9 z10 HK9.out hk10
  subst e1; subst e2
  have hb710 := B79.out.trans (hb10.mono B79.out.size)
  have C10 := Sld.mk (same13_eq w10 v9 v10 f10 (HF9.out.below hb10) hf10)
  have B10 : Sld (Below w.heap.size w w10) := ⟨(HP.out w10 (B9.out.trans (hb10.mono B9.out.size))).2.2.1⟩
  obtain ⟨a0, a1, a2, _⟩ := blk3 ((hb710.block _ (lt_of_block K57.out)).trans K57.out)
  obtain ⟨b0, b1, b2, _⟩ := blk3 ((hb710.block _ (lt_of_block K7.out)).trans K7.out)
  clear hb10 hf10 hk10 hb710 x0 x1
  go_wp2_with fail
  refine C10.out.mono ?_
  rintro e w11 ⟨rfl, hb11⟩
  have B11 := Sld.mk (B10.out.trans (hb11.mono B10.out.size))
  clear hb11 C10
  go_wp2_with fail
  go_ret
  exact ⟨by simp, B11.out⟩
end Go.Proofs.YtlbmijcpalfaeaaGreatDoor

set_option linter.unusedSimpArgs false
set_option linter.unusedVariables false
namespace Go.Proofs.YtlbmijcpalfaeaaGreatDoor
open Go.RowKit Go.Lib Go.ChangeShapes Go.WideShapes Go.Deep

theorem gGrpW : Tryz.prog.globalNamed "sorrel/arith.groups" = some 0 := by kernel_rfl
theorem gGrpTypeW : (Tryz.prog.globals[ 0 ]?).map (·.type) = some 102 := by kernel_rfl
theorem c_grpsW : Tryz.prog.cellsOf 102 = 18 := by kernel_rfl
theorem c_grpW : Tryz.prog.cellsOf 101 = 1 := by kernel_rfl
theorem u_grpW : Tryz.prog.underlying 101 = some (.int .i64) := by kernel_rfl
theorem grpData_eqW : Rows.laid_sorrel_arith_groups = (tabData .i64 grps : DataW Unit) := by kernel_rfl
theorem grps_of_readsW {w : World} (h : VarReads Tryz.prog w "sorrel/arith.groups" (tabData .i64 grps)) : GrpCells w := by
  obtain ⟨g, t, cs, fuel, p, hg, hty, hvar, hd⟩ := h
  obtain rfl := Option.some.inj (gGrpW.symm.trans hg)
  obtain rfl := Option.some.inj (gGrpTypeW.symm.trans hty)
  have e := cells_of_tab Tryz.underlying102 u_grpW c_grpW c_grpsW hd
  intro k hk
  rw [World.var?_cell hg hvar k, ← Array.getElem?_toList, e, List.getElem?_map]
  have hl : k < grps.length := hk
  rw [List.getElem?_eq_getElem hl, Option.map_some, List.getD_eq_getElem?_getD, List.getElem?_eq_getElem hl]
  rfl
def deValsW (d : DataW Unit) : Array Value := match d with
  | .agg l => (l.map fun x => match x with | .lit (.int k z) => Value.int k z | _ => Value.int .u8 0).toArray
  | _ => #[]
theorem tabW4_of_laid {W : World} (h : laidMetH Tryz.prog [("unicode/utf8.acceptRanges", Rows.laid_unicode_utf8_acceptRanges), ("sorrel/runes.spans", Rows.laid_sorrel_runes_spans), ("sorrel/arith.groups", Rows.laid_sorrel_arith_groups), ("unicode/utf8.first", Rows.laid_unicode_utf8_first)] W) : Tabs W ∧ GrpCells W := by
  rw [MakeChecks.laidMetH_plain _ _ _ (by kernel_rfl)] at h
  have r2 := laidMet.reads h (n := "sorrel/arith.groups") (d := Rows.laid_sorrel_arith_groups) (by simp)
  have r3 := laidMet.reads h (n := "unicode/utf8.acceptRanges") (d := Rows.laid_unicode_utf8_acceptRanges) (by simp)
  have r4 := laidMet.reads h (n := "sorrel/runes.spans") (d := Rows.laid_sorrel_runes_spans) (by simp)
  have r5 := laidMet.reads h (n := "unicode/utf8.first") (d := Rows.laid_unicode_utf8_first) (by simp)
  rw [grpData_eqW] at r2
  rw [accept_eq] at r3
  rw [spansData_eq] at r4
  rw [first_eq] at r5
  exact ⟨⟨spans_of_reads r4, utf8Tabs_of_reads Tryz.lays260 u8Extra r5 r3⟩, grps_of_readsW r2⟩
def laidWorldW (P : Program) (os : Os) : World :=
  { World.holding P os ⟨#[], #[], []⟩ with heap := setVals (setVals (setVals (setVals (World.holding P os ⟨#[], #[], []⟩).heap 1 spanVals) 2 firstVals) 3 acceptVals) 0 (deValsW Rows.laid_sorrel_arith_groups) }
end Go.Proofs.YtlbmijcpalfaeaaGreatDoor

set_option linter.unusedVariables false
namespace Go.Proofs.YtlbmijcpalfaeaaGreatDoor.factsplays
open Go.ChangeShapes Go.WideShapes Go.ChangeAt Go.RowKit Go.WideMaps Go.WideElems
open Go.ChangeMaps (open_string shut_string)

set_option maxRecDepth 100000 in
set_option maxHeartbeats 1000000 in
theorem contract (H : Type) (enc : TypeId × Value → H) (W : World) (base : Nat) (args : Array Value) (ds gs : List (DataW H)) (before : List MemPlace)
    (hval : ∀ (j : Nat) t v, Tryz.f3.params[j]? = some t → args[j]? = some v → Value.okWide Tryz.prog W .any base t v)
    (hW : DataW.Whole enc Tryz.prog Tryz.f3.params.toList Rows.factsPlaysSpec.vars false W args.toList ds gs before)
    (hsz : (DataW.weightsEach Tryz.prog (Tryz.f3.params.toList ++ (OpenSpec.ofChange Rows.factsPlaysSpec).bare.plain.varTypes Tryz.prog) (ds ++ gs)).all (· ≤ reachBytes) = true)
    (hL : laidMetH Tryz.prog Rows.factsPlaysRow.laid W) :
    Calls Tryz.prog 3 args W fun e W' => ∃ v, e = .returned v ∧ Rows.factsPlaysSpec.post enc Tryz.prog Tryz.f3 false true false false W args v W' := by
  have hW' := hW
  have hlt : ∀ x ∈ before, x.block < W.heap.size := fun x hx => by simpa using hW'.lt x hx
  obtain ⟨p, q, hA0, hV, rfl, hfz, hnd⟩ := hW
  have hA : DataW.TrodAll enc Tryz.prog W 0 (fun _ => true) true Tryz.f3.params.toList args.toList ds p := hA0
  rw [Tryz.params3 ] at hA hval
  obtain ⟨v0, vs0, d0, ds0, p0, q0, hargs0, rfl, rfl, h0, r0⟩ := trodAll_cons hA
  obtain ⟨v1, vs1, d1, ds1, p1, q1, rfl, rfl, rfl, h1, r1⟩ := trodAll_cons r0
  obtain ⟨rfl, rfl, rfl⟩ := trodAll_nil r1
  obtain rfl : args = #[v0, v1] := by cases args; simp_all
  obtain ⟨rfl, rfl⟩ := trodVars_none hV
  clear hA0
  simp only [List.append_nil] at hW' hsz
  have h0k := h0
  have ok0 : Value.okWide Tryz.prog W .any base 22 v0 := hval 0 22 v0 (by rfl) (by rfl)
  obtain ⟨a0, n0, c0, rfl⟩ := okWide_slice Tryz.underlying22 ok0
  obtain ⟨fu0, hf0⟩ := h0
  obtain ⟨ao0, cap0, l0, he0, R0, hF0⟩ := open_nodesX (v := .slice a0 n0 c0) hf0
  cases he0
  have F0 := hF0 fun n hn => of_decide_eq_true (List.all_eq_true.1 hsz n (DataW.weights_mem_each (j := 0) (t := 22) (by kernel_rfl) rfl n hn))
  have h1k := h1
  have ok1 : Value.okWide Tryz.prog W .any base 26 v1 := hval 1 26 v1 (by rfl) (by rfl)
  obtain ⟨cs1, rfl, _⟩ := okWide_struct Tryz.underlying26 ok1
  obtain ⟨fu1, hf1⟩ := h1
  have hg1 : DataW.trod enc Tryz.prog W 0 (fun _ => true) true fu1 26 cs1.toList = some (d1, p1) := hf1
  obtain ⟨ca1, cc1, l1, ra1, rc1, rs1, he1, R1, I1, hF1⟩ := open_pic hg1
  obtain rfl : cs1 = #[.slice ca1 l1.length cc1, .slice ra1 rs1.length rc1] := Array.toList_inj.1 he1
  have F1 := hF1 fun n hn => of_decide_eq_true (List.all_eq_true.1 hsz n (DataW.weights_mem_each (j := 1) (t := 26) (by kernel_rfl) rfl n hn))
  refine (factsPlays_walk W a0 c0 l0 ca1 cc1 l1 ra1 rc1 rs1 (tabW4_of_laid hL).1 (tabW4_of_laid hL).2 R0 F0.fit (fun x hx => bounds_i64 (F0.num x hx)) R1 I1 F1).mono fun e W' ⟨he, hg⟩ => ?_
  subst he
  exact ⟨_, rfl, post_below (pv := []) hW' (fun _ _ _ => trodAll_cons_mk (shut_bool Tryz.underlying4 _) trodAll_mk0) (fun sp hsp => trodAll_cons_mk (Trod_stays Tryz.laidOut (by kernel_rfl) (of_decide_eq_true (by kernel_rfl)) h0k (fun x hx => hg.same (hlt x (by simp [hx]))) (fun x hx => hsp x (by simp [hx]))) (trodAll_cons_mk (Trod_stays Tryz.laidOut (by kernel_rfl) (of_decide_eq_true (by kernel_rfl)) h1k (fun x hx => hg.same (hlt x (by simp [hx]))) (fun x hx => hsp x (by simp [hx]))) trodAll_mk0)) (fun _ _ => rfl) (by simp) (hg.frame _)⟩

end Go.Proofs.YtlbmijcpalfaeaaGreatDoor.factsplays

/-
  ArLw, ArAwk, ArRf, ArPl.
-/
import Derived.Test.YtdcfjopmddaemaaDoorMArW
import Derived.Lib.QuietBelow
import Derived.Test.YtdcfjopmddaemaaDoorMShelf
import Derived.Laws.Bits64
set_option linter.unusedSimpArgs false
set_option linter.unusedVariables false
namespace Go.Proofs.YtdcfjopmddaemaaDoor
open Go.RowKit Go.Lib

/-- What the law's apply answers. -/
def apL (op : Int) (l : List Int) : Int := if (apR op l).2 = 0 then (apR op l).1 else 24301

theorem Ags.fresh (w : World) (l : List Int) (c : Nat) (t : TypeId) (h : l ≠ []) : Ags (w.alloc (.cells (l.map (Value.int .i64)).toArray t)) (.slice (some ⟨w.heap.size, 0, none⟩) l.length c) l := by
  refine ⟨_, _, rfl, .inr ⟨w.heap.size, 0, rfl, fun i x hx => ?_⟩⟩
  have hb : (w.alloc (.cells (l.map (Value.int .i64)).toArray t)).heap[w.heap.size]? = some (.cells (l.map (Value.int .i64)).toArray t) := by
    show (w.heap.push _)[w.heap.size]? = _
    simp
  unfold World.cell?
  rw [hb]
  simp [hx]
theorem below_fresh {w : World} (o : Obj) (m : Nat) : Below w.heap.size w ((w.alloc o).drewN m) :=
  let h := (Below.refl w.heap.size w).alloc (Nat.le_refl _) o
  ⟨h.os, h.tape, h.output, h.size, h.block⟩

theorem app_new2 (op a b : Int) (w : World) (hG : GrpCells w) :
    Calls Tryd.prog 97 #[.int .i64 op, .slice (some ⟨w.heap.size, 0, none⟩) 2 2] (w.alloc (.cells #[.int .i64 a, .int .i64 b] 2)) fun e w' => e = .returned (.tuple #[.int .i64 (apR op [a, b]).1, .int .i64 (apR op [a, b]).2]) ∧ Below w.heap.size w w' := by
  refine (apply_any op _ [a, b] _ (hG.below ((Below.refl _ _).alloc (Nat.le_refl _) _)) (Ags.fresh w [a, b] 2 2 (by simp))).mono ?_
  rintro e w' ⟨he, m, rfl⟩
  exact ⟨he, below_fresh _ m⟩
end Go.Proofs.YtdcfjopmddaemaaDoor

set_option linter.unusedSimpArgs false
set_option linter.unusedVariables false
namespace Go.Proofs.YtdcfjopmddaemaaDoor
open Go.RowKit Go.Lib

end Go.Proofs.YtdcfjopmddaemaaDoor

set_option linter.unusedSimpArgs false
set_option linter.unusedVariables false
namespace Go.Proofs.YtdcfjopmddaemaaDoor
open Go.RowKit Go.Lib

theorem retB' {a b : Bool} (h : a = b) : Ending.returned (.bool a) = .returned (.bool b) := by rw [h]

/-- One more than an int that a slot holds. -/
def iOf : Value → Nat
  | .int _ n => (n + 1).toNat
  | _ => 0

theorem size_any (a : Int) (w : World) (ha : i6 a) :
    Calls Tryd.prog 115 #[.int .i64 a] w fun e w' => e = .returned (.int .u64 (a.natAbs : Int)) ∧ w' = w := by
  unfold i6 at ha
  go_enter Tryd.func115, Tryd.ntmps115
  go_wp2
  all_goals
    go_ret
    refine ⟨retI ?_, by first | rfl | trivial⟩
    try simp only [IntKind.wrap_u64]
    omega

theorem signed_any (n : Nat) (m : Bool) (w : World) (hn : n < 18446744073709551616) :
    Calls Tryd.prog 116 #[.int .u64 (n : Int), .bool m] w fun e w' => e = .returned (.int .i64 (wrap64 (if m then -(n : Int) else n))) ∧ w' = w := by
  obtain ⟨r, hr⟩ : ∃ r, wrap64 (if m then -(n : Int) else n) = r := ⟨_, rfl⟩
  have HR : Hid (wrap64 (if m then -(n : Int) else n) = r) := hr
  rw [hr]
  clear hr
  cases m
  all_goals
    go_enter Tryd.func116, Tryd.ntmps116
    go_wp2
    go_ret
    have hR := HR.out
    simp only [Bool.false_eq_true, if_false, if_true] at hR
    refine ⟨retI ?_, by first | rfl | trivial⟩
    first
    | exact hR
    | (rw [← hR]
       simp only [IntKind.wrap_u64, w6_def]
       omega)

theorem yes_any (b : Bool) (w : World) :
    Calls Tryd.prog 119 #[.bool b] w fun e w' => e = .returned (.int .i64 (if b then 1 else 0)) ∧ w' = w := by
  cases b
  all_goals
    go_enter Tryd.func119, Tryd.ntmps119
    go_wp2
    go_ret
    exact ⟨rfl, by first | rfl | trivial⟩

theorem dv_step (A B j : Nat) (hA : A < 18446744073709551616) (hB : 0 < B) (hB2 : B < 18446744073709551616) (q r x : Nat) (hq : q = A / 2 ^ (j + 1) / B) (hr : r = A / 2 ^ (j + 1) % B) (hx : x = A / 2 ^ j) :
    r < B ∧ q * 2 + 1 < 18446744073709551616 + 1 ∧ (B ≤ r * 2 + x % 2 → A / 2 ^ j / B = q * 2 + 1 ∧ A / 2 ^ j % B = r * 2 + x % 2 - B) ∧ (¬ B ≤ r * 2 + x % 2 → A / 2 ^ j / B = q * 2 ∧ A / 2 ^ j % B = r * 2 + x % 2) := by
  have h1 : A / 2 ^ (j + 1) = x / 2 := by rw [hx, Nat.div_div_eq_div_mul, Nat.pow_succ]
  rw [h1] at hq hr
  have hrB : r < B := by rw [hr]; exact Nat.mod_lt _ hB
  have hd := Nat.div_add_mod (x / 2) B
  rw [← hq, ← hr] at hd
  have hx2 : x = B * (q * 2) + (r * 2 + x % 2) := by
    have e : B * (q * 2) = 2 * (B * q) := by rw [← Nat.mul_assoc, Nat.mul_comm]
    rw [e]; omega
  have hxA : x ≤ A := by rw [hx]; exact Nat.div_le_self _ _
  have hqx : q ≤ x / 2 := by rw [hq]; exact Nat.div_le_self _ _
  refine ⟨hrB, by omega, fun h => ?_, fun h => ?_⟩
  · rw [← hx]
    have e : x = (r * 2 + x % 2 - B) + B * (q * 2 + 1) := by
      rw [Nat.mul_add, Nat.mul_one]; omega
    have hl : r * 2 + x % 2 - B < B := by omega
    constructor
    · conv => lhs; rw [e]
      rw [Nat.add_mul_div_left _ _ hB, Nat.div_eq_of_lt hl]; omega
    · conv => lhs; rw [e]
      rw [Nat.add_mul_mod_self_left, Nat.mod_eq_of_lt hl]
  · rw [← hx]
    have e : x = (r * 2 + x % 2) + B * (q * 2) := by omega
    have hl : r * 2 + x % 2 < B := by omega
    constructor
    · conv => lhs; rw [e]
      rw [Nat.add_mul_div_left _ _ hB, Nat.div_eq_of_lt hl]; omega
    · conv => lhs; rw [e]
      rw [Nat.add_mul_mod_self_left, Nat.mod_eq_of_lt hl]

theorem shru_run (x k : Nat) (hk : k < 64) : Op.shift .shr .u64 (x : Int) .u64 (k : Int) = pure (.int .u64 ((x / 2 ^ k : Nat) : Int)) := by
  have e : min (k : Int).toNat 64 = k := by omega
  simp only [Op.shift, IntKind.bits, e]
  rw [if_neg (by omega), Int.fdiv_eq_ediv_of_nonneg _ (Int.le_of_lt (Int.pow_pos (by decide)))]
  simp

set_option maxRecDepth 100000 in
set_option maxHeartbeats 4000000 in
theorem divide_any (A B : Nat) (w : World) (hA : A < 18446744073709551616) (hB : 0 < B) (hB2 : B < 18446744073709551616) :
    Calls Tryd.prog 114 #[.int .u64 (A : Int), .int .u64 (B : Int)] w fun e w' => e = .returned (.tuple #[.int .u64 ((A / B : Nat) : Int), .int .u64 ((A % B : Nat) : Int)]) ∧ w' = w := by
  go_enter Tryd.func114, Tryd.ntmps114
  go_wp2
  go_loopw [6, 7, 8] (fun q r i w' => w' = w ∧ ∃ j : Nat, j ≤ 64 ∧ i = .int .i64 ((j : Int) - 1) ∧ q = .int .u64 ((A / 2 ^ j / B : Nat) : Int) ∧ r = .int .u64 ((A / 2 ^ j % B : Nat) : Int)) (fun _ _ i _ => iOf i)
  case atStart =>
    refine ⟨rfl, 64, by omega, rfl, ?_, ?_⟩
    · have : A / 2 ^ 64 = 0 := Nat.div_eq_of_lt (by omega)
      rw [this]; simp
    · have : A / 2 ^ 64 = 0 := Nat.div_eq_of_lt (by omega)
      rw [this]; simp
  case round =>
    obtain ⟨rfl, j, hj, rfl, rfl, rfl⟩ := hrel
    cases j with
    | zero =>
      have e0 : A / 2 ^ 0 = A := by simp
      rw [e0]
      go_wp2
      go_ret2
      exact ⟨rfl, by first | rfl | trivial⟩
    | succ j =>
      obtain ⟨q, hq⟩ : ∃ q, q = A / 2 ^ (j + 1) / B := ⟨_, rfl⟩
      obtain ⟨r, hr⟩ : ∃ r, r = A / 2 ^ (j + 1) % B := ⟨_, rfl⟩
      obtain ⟨x, hx⟩ : ∃ x, x = A / 2 ^ j := ⟨_, rfl⟩
      have hd := dv_step A B j hA hB hB2 q r x hq hr hx
      have HX : Hid (((A : Int) / 2 ^ j).tmod 2 = ((x % 2 : Nat) : Int)) := by
        show ((A : Int) / 2 ^ j).tmod 2 = ((x % 2 : Nat) : Int)
        have e : ((A : Int) / 2 ^ j) = (x : Int) := by rw [hx]; simp
        rw [e, Int.tmod_eq_emod_of_nonneg (by omega)]; omega
      rw [← hq, ← hr]
      have HD : Hid (r < B ∧ q * 2 + 1 < 18446744073709551616 + 1 ∧ (B ≤ r * 2 + x % 2 → A / 2 ^ j / B = q * 2 + 1 ∧ A / 2 ^ j % B = r * 2 + x % 2 - B) ∧ (¬ B ≤ r * 2 + x % 2 → A / 2 ^ j / B = q * 2 ∧ A / 2 ^ j % B = r * 2 + x % 2)) := hd
      have hji : (((j + 1 : Nat) : Int) - 1) = (j : Int) := by omega
      rw [hji]
      have hj63 : j < 64 := by omega
      clear hq hr hx hd hji
      go_wp2
      all_goals
        have hD := HD.out
        have eX := HX.out
        clear HD HX
        obtain ⟨hD1, hD2, hD3, hD4⟩ := hD
        simp only [eX, IntKind.wrap_u64, beq_iff_eq, beq_eq_false_iff_ne, ne_eq] at *
        by_cases hB' : B ≤ r * 2 + x % 2
        · obtain ⟨f1, f2⟩ := hD3 hB'
          refine ⟨⟨trivial, j, by omega, rfl, congrArg (Value.int .u64) ?_, congrArg (Value.int .u64) ?_⟩, by simp only [iOf]; omega⟩
          · rw [f1]; omega
          · rw [f2]; omega
        · obtain ⟨f1, f2⟩ := hD4 hB'
          refine ⟨⟨trivial, j, by omega, rfl, congrArg (Value.int .u64) ?_, congrArg (Value.int .u64) ?_⟩, by simp only [iOf]; omega⟩
          · rw [f1]; omega
          · rw [f2]; omega

set_option maxHeartbeats 4000000 in
theorem doubled_any (a : Int) (n : Nat) (w : World) (ha : i6 a) (hn : n < 64) :
    Calls Tryd.prog 117 #[.int .i64 a, .int .i64 (n : Int)] w fun e w' => e = .returned (.int .i64 (wrap64 (a * 2 ^ n))) ∧ w' = w := by
  have h0 : wrap64 (a * 2 ^ 0) = a := by simp; exact w6_id ha
  have HS : Hid (∀ i : Nat, wrap64 (wrap64 (a * 2 ^ i) + wrap64 (a * 2 ^ i)) = wrap64 (a * 2 ^ (i + 1))) := fun i => by
    refine b6_inj (w6_in _) (w6_in _) ?_
    have e : a * 2 ^ (i + 1) = a * 2 ^ i + a * 2 ^ i := by rw [Int.pow_succ, ← Int.mul_assoc]; omega
    rw [e]
    simp only [b6_w6, b6_add]
  clear ha
  go_enter Tryd.func117, Tryd.ntmps117
  go_wp2
  go_loopw [0, 5] (fun x i w' => w' = w ∧ ∃ j : Nat, j ≤ n ∧ i = .int .i64 (j : Int) ∧ x = .int .i64 (wrap64 (a * 2 ^ j))) (fun _ i _ => n + 1 - iOf i)
  case atStart => exact ⟨rfl, 0, by omega, rfl, by rw [h0]⟩
  case round =>
    obtain ⟨rfl, j, hj, rfl, rfl⟩ := hrel
    have HJ := HS.out j
    obtain ⟨x, hx⟩ : ∃ x, wrap64 (a * 2 ^ j) = x := ⟨_, rfl⟩
    obtain ⟨y, hy⟩ : ∃ y, wrap64 (a * 2 ^ (j + 1)) = y := ⟨_, rfl⟩
    rw [hx, hy] at HJ
    have HY : Hid (wrap64 (a * 2 ^ (j + 1)) = y) := hy
    have HXX : Hid (wrap64 (a * 2 ^ j) = x) := hx
    rw [hx]
    clear h0 hx hy HS
    by_cases hjn : j < n
    · go_wp2
      exact ⟨⟨trivial, j + 1, by omega, by simp, by rw [HY.out, HJ]⟩, by simp only [iOf]; omega⟩
    · obtain rfl : j = n := by omega
      go_wp2
      go_ret
      exact ⟨retI HXX.out.symm, by first | rfl | trivial⟩

theorem half_step (x : Int) (hx : i6 x) : (x.tmod 2 = -1 → wrap64 ((wrap64 (x - 1)).tdiv 2) = x / 2) ∧ (x.tmod 2 ≠ -1 → x.tdiv 2 = x / 2) := by
  unfold i6 at hx
  have hm : x.tmod 2 = -1 ↔ x < 0 ∧ x % 2 = 1 := by
    by_cases h : 0 ≤ x
    · rw [Int.tmod_eq_emod_of_nonneg h]; omega
    · have : x.tmod 2 = - ((-x) % 2) := by rw [← Int.tmod_eq_emod_of_nonneg (by omega), Int.neg_tmod]; omega
      omega
  have hd : ∀ y : Int, y.tdiv 2 = if 0 ≤ y then y / 2 else - ((-y) / 2) := by
    intro y
    split
    · rename_i h; rw [Int.tdiv_eq_ediv_of_nonneg h]
    · rename_i h; rw [← Int.tdiv_eq_ediv_of_nonneg (by omega), Int.neg_tdiv]; omega
  constructor
  · intro h
    have h' := hm.1 h
    have e1 : wrap64 (x - 1) = x - 1 := w6_id (by unfold i6; omega)
    rw [e1, hd (x - 1), if_neg (by omega), w6_id (by unfold i6; omega)]
    omega
  · intro h
    have h' : ¬ (x < 0 ∧ x % 2 = 1) := fun c => h (hm.2 c)
    rw [hd x]
    split <;> omega

set_option maxHeartbeats 4000000 in
theorem halved_any (a : Int) (n : Nat) (w : World) (ha : i6 a) (hn : n < 64) :
    Calls Tryd.prog 118 #[.int .i64 a, .int .i64 (n : Int)] w fun e w' => e = .returned (.int .i64 (a / 2 ^ n)) ∧ w' = w := by
  have HI : Hid (∀ i : Nat, i6 (a / 2 ^ i)) := fun i => ediv_in i ha
  have HS : Hid (∀ i : Nat, a / 2 ^ i / 2 = a / 2 ^ (i + 1)) := fun i => by
    rw [Int.pow_succ, Int.ediv_ediv_of_nonneg (Int.le_of_lt (Int.pow_pos (by decide)))]
  clear ha
  go_enter Tryd.func118, Tryd.ntmps118
  go_wp2
  go_loopw [0, 5] (fun x i w' => w' = w ∧ ∃ j : Nat, j ≤ n ∧ i = .int .i64 (j : Int) ∧ x = .int .i64 (a / 2 ^ j)) (fun _ i _ => n + 1 - iOf i)
  case atStart => exact ⟨rfl, 0, by omega, rfl, by simp⟩
  case round =>
    obtain ⟨rfl, j, hj, rfl, rfl⟩ := hrel
    have HJ := HS.out j
    have hi := HI.out j
    obtain ⟨x, hx⟩ : ∃ x, a / 2 ^ j = x := ⟨_, rfl⟩
    obtain ⟨y, hy⟩ : ∃ y, a / 2 ^ (j + 1) = y := ⟨_, rfl⟩
    rw [hx, hy] at HJ
    rw [hx] at hi
    have hst := half_step x hi
    rw [HJ] at hst
    have hi' := hi
    unfold i6 at hi'
    have HY : Hid (a / 2 ^ (j + 1) = y) := hy
    have HXX : Hid (a / 2 ^ j = x) := hx
    have HST : Hid ((x.tmod 2 = -1 → wrap64 ((wrap64 (x - 1)).tdiv 2) = y) ∧ (x.tmod 2 ≠ -1 → x.tdiv 2 = y)) := hst
    rw [hx]
    clear hx hy HS HI hi HJ hst
    by_cases hjn : j < n
    · go_wp2
      all_goals
        simp only [beq_iff_eq, beq_eq_false_iff_ne, ne_eq] at *
        first
        | exact ⟨⟨trivial, j + 1, by omega, by simp, by rw [HY.out, HST.out.1 (by assumption)]⟩, by simp only [iOf]; omega⟩
        | exact ⟨⟨trivial, j + 1, by omega, by simp, by rw [HY.out, HST.out.2 (by assumption)]⟩, by simp only [iOf]; omega⟩
    · obtain rfl : j = n := by omega
      go_wp2
      go_ret
      exact ⟨retI HXX.out.symm, by first | rfl | trivial⟩

theorem tdiv_abs (a b : Int) (hb : b ≠ 0) : a.tdiv b = if (decide (a < 0) != decide (b < 0)) = true then -((a.natAbs / b.natAbs : Nat) : Int) else ((a.natAbs / b.natAbs : Nat) : Int) := by
  by_cases ha : a < 0 <;> by_cases h : b < 0
  · have e := Int.neg_tdiv_neg (a := a) (b := b)
    rw [← e, Int.tdiv_eq_ediv_of_nonneg (by omega)]
    have e1 : -a = (a.natAbs : Int) := by omega
    have e2 : -b = (b.natAbs : Int) := by omega
    rw [e1, e2]; simp [ha, h]
  · have e : a.tdiv b = -((-a).tdiv b) := by rw [Int.neg_tdiv]; omega
    rw [e, Int.tdiv_eq_ediv_of_nonneg (by omega)]
    have e1 : -a = (a.natAbs : Int) := by omega
    have e2 : b = (b.natAbs : Int) := by omega
    conv => lhs; rw [e1, e2]
    simp [ha, h]
  · have e : a.tdiv b = -(a.tdiv (-b)) := by rw [Int.tdiv_neg]; omega
    rw [e, Int.tdiv_eq_ediv_of_nonneg (by omega)]
    have e1 : a = (a.natAbs : Int) := by omega
    have e2 : -b = (b.natAbs : Int) := by omega
    conv => lhs; rw [e2, e1]
    simp [ha, h]
  · rw [Int.tdiv_eq_ediv_of_nonneg (by omega)]
    have e1 : a = (a.natAbs : Int) := by omega
    have e2 : b = (b.natAbs : Int) := by omega
    conv => lhs; rw [e1, e2]
    simp [ha, h]
theorem tmod_abs (a b : Int) : a.tmod b = if a < 0 then -((a.natAbs % b.natAbs : Nat) : Int) else ((a.natAbs % b.natAbs : Nat) : Int) := by
  have h := Int.natAbs_tmod a b
  by_cases ha : a < 0
  · have h1 : a.tmod b = - (-a).tmod b := by rw [Int.neg_tmod]; omega
    have h2 := Int.tmod_nonneg b (a := -a) (by omega)
    rw [if_pos ha]; omega
  · have h2 := Int.tmod_nonneg b (a := a) (by omega)
    rw [if_neg ha]; omega

theorem i6_abs {a : Int} (h : i6 a) : a.natAbs < 18446744073709551616 := by unfold i6 at h; omega

set_option maxRecDepth 100000 in
set_option maxHeartbeats 4000000 in
theorem two_any (op a b : Int) (w : World) (ha : i6 a) (hb : i6 b) (ho : 5 ≤ op ∧ op ≤ 16) (hz : (op = 8 ∨ op = 9) → b ≠ 0) :
    Calls Tryd.prog 98 #[.int .i64 op, .int .i64 a, .int .i64 b] w fun e w' => e = .returned (.int .i64 (ap2 op a b)) ∧ w' = w := by
  have hcs : op = 5 ∨ op = 6 ∨ op = 7 ∨ op = 8 ∨ op = 9 ∨ op = 10 ∨ op = 11 ∨ op = 12 ∨ op = 13 ∨ op = 14 ∨ op = 15 ∨ op = 16 := by omega
  clear ho
  rcases hcs with rfl | rfl | rfl | rfl | rfl | rfl | rfl | rfl | rfl | rfl | rfl | rfl
  iterate 3
    · go_enter Tryd.func98, Tryd.ntmps98
      go_wp2
      go_ret
      exact ⟨retI (by simp [ap2]), by first | rfl | trivial⟩
  · have hb0 := hz (.inl rfl)
    have cs : Hid (∀ x W, i6 x → Calls Tryd.prog 115 #[.int .i64 x] W fun e w' => e = .returned (.int .u64 (x.natAbs : Int)) ∧ w' = W) := fun x W hx => size_any x W hx
    have hqi : a.natAbs / b.natAbs < 18446744073709551616 := Nat.lt_of_le_of_lt (Nat.div_le_self _ _) (i6_abs ha)
    have cd : Hid (∀ W, Calls Tryd.prog 114 #[.int .u64 (a.natAbs : Int), .int .u64 (b.natAbs : Int)] W fun e w' => e = .returned (.tuple #[.int .u64 ((a.natAbs / b.natAbs : Nat) : Int), .int .u64 ((a.natAbs % b.natAbs : Nat) : Int)]) ∧ w' = W) := fun W => divide_any a.natAbs b.natAbs W (i6_abs ha) (by omega) (i6_abs hb)
    have e8 : ap2 8 a b = wrap64 (if (decide (a < 0) != decide (b < 0)) = true then -((a.natAbs / b.natAbs : Nat) : Int) else ((a.natAbs / b.natAbs : Nat) : Int)) := by
      have : ap2 8 a b = wrap64 (a.tdiv b) := by simp [ap2]
      rw [this, tdiv_abs a b hb0]
    generalize ap2 8 a b = R at *
    have cg : Hid (∀ W, Calls Tryd.prog 116 #[.int .u64 ((a.natAbs / b.natAbs : Nat) : Int), .bool (decide (a < 0) != decide (b < 0))] W fun e w' => e = .returned (.int .i64 R) ∧ w' = W) := fun W => by
      have := signed_any (a.natAbs / b.natAbs) (decide (a < 0) != decide (b < 0)) W hqi
      rw [← e8] at this
      exact this
    have HA : Hid (i6 a) := ha
    have HB : Hid (i6 b) := hb
    obtain ⟨A, hA⟩ : ∃ A, a.natAbs = A := ⟨_, rfl⟩
    obtain ⟨B, hB⟩ : ∃ B, b.natAbs = B := ⟨_, rfl⟩
    rw [hA, hB] at cd cg
    have csa : Hid (∀ W, Calls Tryd.prog 115 #[.int .i64 a] W fun e w' => e = .returned (.int .u64 (A : Int)) ∧ w' = W) := fun W => by
      have := cs.out a W ha; rw [hA] at this; exact this
    have csb : Hid (∀ W, Calls Tryd.prog 115 #[.int .i64 b] W fun e w' => e = .returned (.int .u64 (B : Int)) ∧ w' = W) := fun W => by
      have := cs.out b W hb; rw [hB] at this; exact this
    generalize A / B = Q at *
    generalize A % B = M at *
    clear hA hB e8 hqi cs ha hb hb0 hz
    go_enter Tryd.func98, Tryd.ntmps98
    go_wp2_with (first | (go_at_call_of 115 (Value.int .i64 a); refine (csa.out _).mono ?_; rintro e w2 ⟨rfl, hw⟩; obtain rfl := hw.symm) | (go_at_call_of 115 (Value.int .i64 b); refine (csb.out _).mono ?_; rintro e w2 ⟨rfl, hw⟩; obtain rfl := hw.symm) | (go_at_call 114; refine (cd.out _).mono ?_; rintro e w2 ⟨rfl, hw⟩; obtain rfl := hw.symm) | (go_at_call 116; refine (cg.out _).mono ?_; rintro e w2 ⟨rfl, hw⟩; obtain rfl := hw.symm))
    go_ret
    exact ⟨rfl, by first | rfl | trivial⟩
  · have hb0 := hz (.inr rfl)
    have cs : Hid (∀ x W, i6 x → Calls Tryd.prog 115 #[.int .i64 x] W fun e w' => e = .returned (.int .u64 (x.natAbs : Int)) ∧ w' = W) := fun x W hx => size_any x W hx
    have hqi : a.natAbs % b.natAbs < 18446744073709551616 := Nat.lt_of_le_of_lt (Nat.mod_le _ _) (i6_abs ha)
    have cd : Hid (∀ W, Calls Tryd.prog 114 #[.int .u64 (a.natAbs : Int), .int .u64 (b.natAbs : Int)] W fun e w' => e = .returned (.tuple #[.int .u64 ((a.natAbs / b.natAbs : Nat) : Int), .int .u64 ((a.natAbs % b.natAbs : Nat) : Int)]) ∧ w' = W) := fun W => divide_any a.natAbs b.natAbs W (i6_abs ha) (by omega) (i6_abs hb)
    have e8 : ap2 9 a b = wrap64 (if decide (a < 0) = true then -((a.natAbs % b.natAbs : Nat) : Int) else ((a.natAbs % b.natAbs : Nat) : Int)) := by
      have : ap2 9 a b = a.tmod b := by simp [ap2]
      rw [this]
      have h2 := tmod_abs a b
      have h3 := tmod_in b ha
      simp only [decide_eq_true_eq]
      rw [← h2, w6_id h3]
    generalize ap2 9 a b = R at *
    have cg : Hid (∀ W, Calls Tryd.prog 116 #[.int .u64 ((a.natAbs % b.natAbs : Nat) : Int), .bool (decide (a < 0))] W fun e w' => e = .returned (.int .i64 R) ∧ w' = W) := fun W => by
      have := signed_any (a.natAbs % b.natAbs) (decide (a < 0)) W hqi
      rw [← e8] at this
      exact this
    have HA : Hid (i6 a) := ha
    have HB : Hid (i6 b) := hb
    obtain ⟨A, hA⟩ : ∃ A, a.natAbs = A := ⟨_, rfl⟩
    obtain ⟨B, hB⟩ : ∃ B, b.natAbs = B := ⟨_, rfl⟩
    rw [hA, hB] at cd cg
    have csa : Hid (∀ W, Calls Tryd.prog 115 #[.int .i64 a] W fun e w' => e = .returned (.int .u64 (A : Int)) ∧ w' = W) := fun W => by
      have := cs.out a W ha; rw [hA] at this; exact this
    have csb : Hid (∀ W, Calls Tryd.prog 115 #[.int .i64 b] W fun e w' => e = .returned (.int .u64 (B : Int)) ∧ w' = W) := fun W => by
      have := cs.out b W hb; rw [hB] at this; exact this
    generalize A / B = Q at *
    generalize A % B = M at *
    clear hA hB e8 hqi cs ha hb hb0 hz
    go_enter Tryd.func98, Tryd.ntmps98
    go_wp2_with (first | (go_at_call_of 115 (Value.int .i64 a); refine (csa.out _).mono ?_; rintro e w2 ⟨rfl, hw⟩; obtain rfl := hw.symm) | (go_at_call_of 115 (Value.int .i64 b); refine (csb.out _).mono ?_; rintro e w2 ⟨rfl, hw⟩; obtain rfl := hw.symm) | (go_at_call 114; refine (cd.out _).mono ?_; rintro e w2 ⟨rfl, hw⟩; obtain rfl := hw.symm) | (go_at_call 116; refine (cg.out _).mono ?_; rintro e w2 ⟨rfl, hw⟩; obtain rfl := hw.symm))
    go_ret
    exact ⟨rfl, by first | rfl | trivial⟩
  iterate 3
    · go_enter Tryd.func98, Tryd.ntmps98
      go_wp2
      go_ret
      exact ⟨retI (by simp [ap2]), by first | rfl | trivial⟩
  · have hby := by6_in b
    obtain ⟨k, hk⟩ : ∃ k : Nat, bits .and .i64 b 63 = (k : Int) := ⟨(by6 b).toNat, by have : bits .and .i64 b 63 = by6 b := rfl; omega⟩
    have hk' : by6 b = (k : Int) := hk
    have e : ap2 13 a b = wrap64 (a * 2 ^ k) := by simp [ap2, hk']
    rw [e]
    have cd : Hid (∀ W, Calls Tryd.prog 117 #[.int .i64 a, .int .i64 (k : Int)] W fun e w' => e = .returned (.int .i64 (wrap64 (a * 2 ^ k))) ∧ w' = W) := fun W => doubled_any a k W ha (by omega)
    generalize wrap64 (a * 2 ^ k) = R at *
    clear hby hk' e ha hb hz
    go_enter Tryd.func98, Tryd.ntmps98
    go_wp2_with (go_at_call 117; refine (cd.out _).mono ?_; rintro e w2 ⟨rfl, hw⟩; obtain rfl := hw.symm)
    go_ret
    exact ⟨rfl, by first | rfl | trivial⟩
  · have hby := by6_in b
    obtain ⟨k, hk⟩ : ∃ k : Nat, bits .and .i64 b 63 = (k : Int) := ⟨(by6 b).toNat, by have : bits .and .i64 b 63 = by6 b := rfl; omega⟩
    have hk' : by6 b = (k : Int) := hk
    have e : ap2 14 a b = a / 2 ^ k := by simp [ap2, hk']
    rw [e]
    have cd : Hid (∀ W, Calls Tryd.prog 118 #[.int .i64 a, .int .i64 (k : Int)] W fun e w' => e = .returned (.int .i64 (a / 2 ^ k)) ∧ w' = W) := fun W => halved_any a k W ha (by omega)
    generalize a / 2 ^ k = R at *
    clear hby hk' e ha hb hz
    go_enter Tryd.func98, Tryd.ntmps98
    go_wp2_with (go_at_call 118; refine (cd.out _).mono ?_; rintro e w2 ⟨rfl, hw⟩; obtain rfl := hw.symm)
    go_ret
    exact ⟨rfl, by first | rfl | trivial⟩
  · have e : ap2 15 a b = if (a == b) = true then 1 else 0 := by simp [ap2]
    rw [e]
    have cd : Hid (∀ W, Calls Tryd.prog 119 #[.bool (a == b)] W fun e w' => e = .returned (.int .i64 (if (a == b) = true then 1 else 0)) ∧ w' = W) := fun W => yes_any (a == b) W
    obtain ⟨R, hR⟩ : ∃ R : Int, (if (a == b) = true then 1 else 0) = R := ⟨_, rfl⟩
    rw [hR] at cd ⊢
    clear e ha hb hz hR
    go_enter Tryd.func98, Tryd.ntmps98
    go_wp2_with (go_at_call 119; refine (cd.out _).mono ?_; rintro e w2 ⟨rfl, hw⟩; obtain rfl := hw.symm)
    go_ret
    exact ⟨rfl, by first | rfl | trivial⟩
  · have e : ap2 16 a b = if decide (a < b) = true then 1 else 0 := by simp [ap2]
    rw [e]
    have cd : Hid (∀ W, Calls Tryd.prog 119 #[.bool (decide (a < b))] W fun e w' => e = .returned (.int .i64 (if decide (a < b) = true then 1 else 0)) ∧ w' = W) := fun W => yes_any (decide (a < b)) W
    obtain ⟨R, hR⟩ : ∃ R : Int, (if decide (a < b) = true then 1 else 0) = R := ⟨_, rfl⟩
    rw [hR] at cd ⊢
    clear e ha hb hz hR
    go_enter Tryd.func98, Tryd.ntmps98
    go_wp2_with (go_at_call 119; refine (cd.out _).mono ?_; rintro e w2 ⟨rfl, hw⟩; obtain rfl := hw.symm)
    go_ret
    exact ⟨rfl, by first | rfl | trivial⟩

theorem refArityA_any (op : Int) (w : World) :
    Calls Tryd.prog 57 #[.int .i64 op] w fun e w' => e = .returned (.int .i64 (if op < 1 ∨ 17 < op then -1 else aaK op)) ∧ w' = w := by
  obtain ⟨R, hR⟩ : ∃ R : Int, (if op < 1 ∨ 17 < op then -1 else aaK op) = R := ⟨_, rfl⟩
  have HR : Hid ((if op < 1 ∨ 17 < op then -1 else aaK op) = R) := hR
  rw [hR]
  clear hR
  go_enter Tryd.func57, Tryd.ntmps57
  go_wp2
  all_goals
    go_ret
    have hR := HR.out
    simp only [beq_iff_eq, beq_eq_false_iff_ne, ne_eq] at *
    refine ⟨retI ?_, by first | rfl | trivial⟩
    rw [← hR]
    unfold aaK
    (repeat' split) <;> omega

/-- WHAT THE DOCUMENT's APPLY ANSWERS. -/
theorem refApply_bad (op : Int) (v : Value) (l : List Int) (w : World) (hA : Ags w v l) (h : (op < 3 ∨ 17 < op) ∨ (l.length : Int) ≠ aaK op) :
    Calls Tryd.prog 75 #[.int .i64 op, v] w fun e w' => e = .returned (.tuple #[.int .i64 0, .int .i64 2]) ∧ w' = w := by
  obtain ⟨R, hR⟩ : ∃ R : Int, (if op < 1 ∨ 17 < op then -1 else aaK op) = R := ⟨_, rfl⟩
  have ca : Hid (∀ W, Calls Tryd.prog 57 #[.int .i64 op] W fun e w' => e = .returned (.int .i64 R) ∧ w' = W) := fun W => by
    have := refArityA_any op W; rw [hR] at this; exact this
  have hc : R ≤ 0 ∨ R ≠ (l.length : Int) := by
    rw [← hR]
    by_cases h1 : op < 1 ∨ 17 < op
    · rw [if_pos h1]; left; omega
    · rw [if_neg h1]
      rcases h with h | h
      · left; unfold aaK; rw [if_neg (by omega), if_neg (by omega), if_neg (by omega)]; omega
      · right; exact fun c => h c.symm
  obtain ⟨a, c, rfl, _⟩ := hA
  generalize l.length = N at *
  have HC : Hid (R ≤ 0 ∨ R ≠ (N : Int)) := hc
  clear h hR hc
  go_enter Tryd.func75, Tryd.ntmps75
  by_cases h0 : R ≤ 0
  · go_wp2_with (go_at_call 57; refine (ca.out _).mono ?_; rintro e w2 ⟨rfl, hw⟩; obtain rfl := hw.symm)
    go_ret2
    exact ⟨rfl, by first | rfl | trivial⟩
  · have hn : (R != (N : Int)) = true := by have := HC.out; simp; omega
    have h0' : 0 < R := by omega
    clear h0
    go_wp2_with (go_at_call 57; refine (ca.out _).mono ?_; rintro e w2 ⟨rfl, hw⟩; obtain rfl := hw.symm)
    go_ret2
    exact ⟨rfl, by first | rfl | trivial⟩
end Go.Proofs.YtdcfjopmddaemaaDoor

set_option linter.unusedSimpArgs false
set_option linter.unusedVariables false
namespace Go.Proofs.YtdcfjopmddaemaaDoor
open Go.RowKit Go.Lib

set_option maxRecDepth 100000 in
set_option maxHeartbeats 4000000 in
theorem refApply_one (op : Int) (v : Value) (x : Int) (w : World) (hA : Ags w v [x]) (h : op = 3 ∨ op = 4) :
    Calls Tryd.prog 75 #[.int .i64 op, v] w fun e w' => e = .returned (.tuple #[.int .i64 (ap1 op x), .int .i64 0]) ∧ w' = w := by
  have ca : Hid (∀ W, Calls Tryd.prog 57 #[.int .i64 op] W fun e w' => e = .returned (.int .i64 1) ∧ w' = W) := fun W => by
    have := refArityA_any op W
    rw [if_neg (by omega), show aaK op = 1 by unfold aaK; rw [if_pos h] ] at this
    exact this
  obtain ⟨a, c, rfl, hx⟩ := hA
  obtain hx | ⟨b, o, rfl, hx⟩ := hx
  · simp at hx
  have h0 := hx 0 x rfl
  rw [Nat.add_zero] at h0
  simp only [List.length_cons, List.length_nil, Nat.zero_add]
  clear hx
  have e3 : ap1 3 x = wrap64 (-x) := by simp [ap1]
  have e4 : ap1 4 x = wrap64 (-1 - x) := by
    have : ap1 4 x = (~~~ B6 x).toInt := by simp [ap1, bits_not]
    rw [this]
    refine b6_inj (toInt_in _) (w6_in _) ?_
    have e1 : B6 (-1) = -1#64 := by decide
    rw [b6_toInt, b6_w6, b6_sub, e1]
    have e2 := BitVec.neg_eq_not_add (x := B6 x)
    have e3 : (-1#64) - B6 x = -(B6 x) - 1#64 := by rw [BitVec.sub_eq_add_neg, BitVec.sub_eq_add_neg, BitVec.add_comm]
    rw [e3, e2, BitVec.add_sub_cancel]
  rcases h with rfl | rfl
  · rw [e3]
    clear e3 e4
    go_enter Tryd.func75, Tryd.ntmps75
    go_wp2_with (go_at_call 57; refine (ca.out _).mono ?_; rintro e w2 ⟨rfl, hw⟩; obtain rfl := hw.symm)
    go_ret2
    exact ⟨retII (by simp) rfl, by first | rfl | trivial⟩
  · rw [e4]
    clear e3 e4
    go_enter Tryd.func75, Tryd.ntmps75
    go_wp2_with (go_at_call 57; refine (ca.out _).mono ?_; rintro e w2 ⟨rfl, hw⟩; obtain rfl := hw.symm)
    go_ret2
    exact ⟨retII (by simp) rfl, by first | rfl | trivial⟩

set_option maxRecDepth 100000 in
set_option maxHeartbeats 4000000 in
theorem refApply_three (v : Value) (x y z : Int) (w : World) (hA : Ags w v [x, y, z]) :
    Calls Tryd.prog 75 #[.int .i64 17, v] w fun e w' => e = .returned (.tuple #[.int .i64 (if x = 0 then z else y), .int .i64 0]) ∧ w' = w := by
  have ca : Hid (∀ W, Calls Tryd.prog 57 #[.int .i64 17] W fun e w' => e = .returned (.int .i64 3) ∧ w' = W) := fun W => refArityA_any 17 W
  obtain ⟨r, hr⟩ : ∃ r, (if x = 0 then z else y) = r := ⟨_, rfl⟩
  have HR : Hid ((if x = 0 then z else y) = r) := hr
  rw [hr]
  obtain ⟨a, c, rfl, hx⟩ := hA
  obtain hx | ⟨b, o, rfl, hx⟩ := hx
  · simp at hx
  have h0 := hx 0 x rfl
  have h1 := hx 1 y rfl
  have h2 := hx 2 z rfl
  rw [Nat.add_zero] at h0
  simp only [List.length_cons, List.length_nil, Nat.zero_add]
  clear hx hr
  go_enter Tryd.func75, Tryd.ntmps75
  go_wp2_with (go_at_call 57; refine (ca.out _).mono ?_; rintro e w2 ⟨rfl, hw⟩; obtain rfl := hw.symm)
  all_goals
    go_ret2
    have hR := HR.out
    refine ⟨retII ?_ rfl, by first | rfl | trivial⟩
    rw [← hR]
    simp_all

set_option maxRecDepth 100000 in
set_option maxHeartbeats 4000000 in
theorem refApply_two (op : Int) (v : Value) (x y : Int) (w : World) (hA : Ags w v [x, y]) (h : 5 ≤ op ∧ op ≤ 16) (hx6 : i6 x) (hy6 : i6 y) :
    Calls Tryd.prog 75 #[.int .i64 op, v] w fun e w' => e = .returned (.tuple #[.int .i64 (apR op [x, y]).1, .int .i64 (apR op [x, y]).2]) ∧ ∃ m, w' = w.drewN m := by
  have ca : Hid (∀ W, Calls Tryd.prog 57 #[.int .i64 op] W fun e w' => e = .returned (.int .i64 2) ∧ w' = W) := fun W => by
    have := refArityA_any op W
    rw [if_neg (by omega), show aaK op = 2 by unfold aaK; rw [if_neg (by omega), if_pos h] ] at this
    exact this
  obtain ⟨a, c, rfl, hx⟩ := hA
  obtain hx | ⟨b, o, rfl, hx⟩ := hx
  · simp at hx
  have h0 := hx 0 x rfl
  have h1 := hx 1 y rfl
  rw [Nat.add_zero] at h0
  simp only [List.length_cons, List.length_nil, Nat.zero_add]
  clear hx
  have g3 : (op == 3) = false := by rw [beq_eq_false_iff_ne]; omega
  have g4 : (op == 4) = false := by rw [beq_eq_false_iff_ne]; omega
  have g17 : (op == 17) = false := by rw [beq_eq_false_iff_ne]; omega
  by_cases hz : (op = 8 ∨ op = 9) ∧ y = 0
  · have e : apR op [x, y] = (0, 12) := by simp only [apR]; rw [if_pos h, if_pos hz]
    rw [e]
    obtain ⟨h89, rfl⟩ := hz
    clear hx6 hy6 h
    rcases h89 with rfl | rfl
    all_goals
      clear g3 g4 g17
      go_enter Tryd.func75, Tryd.ntmps75
      go_wp2_with (go_at_call 57; refine (ca.out _).mono ?_; rintro e w2 ⟨rfl, hw⟩; obtain rfl := hw.symm)
      go_ret2
      exact ⟨rfl, 0, rfl⟩
  · have e : apR op [x, y] = (ap2 op x y, 0) := by simp only [apR]; rw [if_pos h, if_neg hz]
    rw [e]
    have ct : Hid (∀ W, Calls Tryd.prog 98 #[.int .i64 op, .int .i64 x, .int .i64 y] W fun e w' => e = .returned (.int .i64 (ap2 op x y)) ∧ w' = W) := fun W => two_any op x y W hx6 hy6 h (fun h8 c => hz ⟨h8, c⟩)
    generalize ap2 op x y = R at *
    simp only
    have hzz : ((op == 8 || op == 9) && y == 0) = false := by
      rw [Bool.eq_false_iff]; intro c; apply hz; simpa using c
    by_cases h8 : op = 8 ∨ op = 9
    · have hy : (y == 0) = false := by rw [beq_eq_false_iff_ne]; intro c; exact hz ⟨h8, c⟩
      clear e hz hzz hx6 hy6 h
      rcases h8 with rfl | rfl
      all_goals
        clear g3 g4 g17
        go_enter Tryd.func75, Tryd.ntmps75
        go_wp2_with (go_at_call 57; refine (ca.out _).mono ?_; rintro e w2 ⟨rfl, hw⟩; obtain rfl := hw.symm)
        go_quiet ((go_at_call 98; exact Calls.quiet_of (Calls.same (ct.out _))))
        go_wp2
        go_ret2
        exact ⟨rfl, _, rfl⟩
    · have g8 : (op == 8) = false := by rw [beq_eq_false_iff_ne]; omega
      have g9 : (op == 9) = false := by rw [beq_eq_false_iff_ne]; omega
      clear e hz hzz hx6 hy6 h h8
      go_enter Tryd.func75, Tryd.ntmps75
      go_wp2_with (go_at_call 57; refine (ca.out _).mono ?_; rintro e w2 ⟨rfl, hw⟩; obtain rfl := hw.symm)
      go_quiet ((go_at_call 98; exact Calls.quiet_of (Calls.same (ct.out _))))
      go_wp2
      go_ret2
      exact ⟨rfl, _, rfl⟩

/-- WHAT THE DOCUMENT's APPLY ANSWERS. -/
theorem refApply_any (op : Int) (v : Value) (l : List Int) (w : World) (hA : Ags w v l) (hl : ∀ x ∈ l, i6 x) :
    Calls Tryd.prog 75 #[.int .i64 op, v] w fun e w' => e = .returned (.tuple #[.int .i64 (apR op l).1, .int .i64 (apR op l).2]) ∧ ∃ m, w' = w.drewN m := by
  by_cases hb : (op < 3 ∨ 17 < op) ∨ (l.length : Int) ≠ aaK op
  · have e : apR op l = (0, 2) := by
      unfold aaK at hb
      unfold apR
      split
      · rw [if_neg]; intro h; rw [if_pos h] at hb; simp at hb; omega
      · rw [if_neg]; intro h; rw [if_neg (by omega), if_pos h] at hb; simp at hb; omega
      · rw [if_neg]; intro h; rw [if_neg (by omega), if_neg (by omega), if_pos h] at hb; simp at hb; omega
      · rfl
    rw [e]; exact Calls.same (refApply_bad op v l w hA hb)
  have hr : ¬ (op < 3 ∨ 17 < op) := fun c => hb (.inl c)
  have hn : (l.length : Int) = aaK op := Decidable.byContradiction fun c => hb (.inr c)
  by_cases h34 : op = 3 ∨ op = 4
  · have e : aaK op = 1 := by unfold aaK; rw [if_pos (by omega)]
    rw [e] at hn
    match l, hn, hA with
    | [x], _, hA =>
      have e2 : apR op [x] = (ap1 op x, 0) := by simp only [apR]; rw [if_pos (by omega)]
      rw [e2]; exact Calls.same (refApply_one op v x w hA h34)
  by_cases h17 : op = 17
  · subst h17
    match l, hn, hA with
    | [x, y, z], _, hA => exact Calls.same (refApply_three v x y z w hA)
  · have e : aaK op = 2 := by unfold aaK; rw [if_neg (by omega), if_pos (by omega)]
    rw [e] at hn
    match l, hn, hA, hl with
    | [x, y], _, hA, hl => exact refApply_two op v x y w hA (by omega) (hl x (by simp)) (hl y (by simp))
end Go.Proofs.YtdcfjopmddaemaaDoor

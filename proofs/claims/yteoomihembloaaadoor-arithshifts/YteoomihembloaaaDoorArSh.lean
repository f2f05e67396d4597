/-
  Shifts of numbers of 64 bits, plain; ArithShifts, walked.
-/
import Derived.Test.YteoomihembloaaaDoorArAwk
import Derived.Test.YteoomihembloaaaDoorArFrame
set_option linter.unusedSimpArgs false
set_option linter.unusedVariables false
namespace Go.Proofs.YteoomihembloaaaDoor
open Go.RowKit Go.Lib

theorem al_shl (a b : Int) : apL 13 [a, b] = wrap64 (a * 2 ^ (b % 64).toNat) := by simp [apL, apR, ap2, by6_eq]
theorem al_shr (a b : Int) : apL 14 [a, b] = a / 2 ^ (b % 64).toNat := by simp [apL, apR, ap2, by6_eq]
theorem al_eq (a b : Int) : apL 15 [a, b] = if a = b then 1 else 0 := by simp [apL, apR, ap2]
theorem al_lt (a b : Int) : apL 16 [a, b] = if a < b then 1 else 0 := by simp [apL, apR, ap2]
theorem al_if (c a b : Int) : apL 17 [c, a, b] = if c = 0 then b else a := by simp [apL, apR]

theorem w_double (m : Int) : wrap64 (2 * wrap64 m) = wrap64 (2 * m) := by
  refine b6_inj (w6_in _) (w6_in _) ?_
  simp only [b6_w6, b6_mul]

/-- What the law asks of shifts, with a name for each result. -/
structure ShOk (a n n64 k L R : Int) : Prop where
  h64 : wrap64 (n + 64) = n64
  hk : bits .and .i64 n 63 = k
  k0 : 0 ≤ k
  k1 : k < 64
  l1 : apL 13 [a, n] = L
  l2 : apL 13 [a, n64] = L
  l3 : apL 13 [a, k] = L
  r1 : apL 14 [a, n] = R
  r2 : apL 14 [a, n64] = R
  r3 : apL 14 [a, k] = R
  z1 : apL 13 [a, 0] = a
  z2 : apL 14 [a, 0] = a
theorem sh_ok (a n : Int) (ha : i6 a) : ∃ n64 k L R, ShOk a n n64 k L R := by
  have hk := by6_eq n
  have h64 : wrap64 (n + 64) % 64 = n % 64 := by rw [w6_def]; omega
  have hkk : bits .and .i64 n 63 = n % 64 := hk
  refine ⟨_, _, _, _, ⟨rfl, hkk, by omega, by omega, rfl, ?_, ?_, rfl, ?_, ?_, ?_, ?_⟩⟩
  · rw [al_shl, al_shl, h64]
  · rw [al_shl, al_shl]; congr 4; omega
  · rw [al_shr, al_shr, h64]
  · rw [al_shr, al_shr]; congr 3; omega
  · rw [al_shl]; simp; exact w6_id ha
  · rw [al_shr]; simp
theorem sh_step (a k : Int) (ha : i6 a) (h0 : 0 < k) (h1 : k < 64) : wrap64 (2 * apL 13 [a, k - 1]) = apL 13 [a, k] ∧ apL 14 [a, k - 1] / 2 = apL 14 [a, k] ∧ i6 (apL 14 [a, k - 1]) := by
  rw [al_shl, al_shl, al_shr, al_shr]
  obtain ⟨m, rfl⟩ : ∃ m : Nat, k = (m + 1 : Nat) := ⟨(k - 1).toNat, by omega⟩
  have e1 : ((((m + 1 : Nat) : Int) - 1) % 64).toNat = m := by omega
  have e2 : (((m + 1 : Nat) : Int) % 64).toNat = m + 1 := by omega
  rw [e1, e2, w_double]
  refine ⟨?_, ?_, ediv_in _ ha⟩
  · congr 1
    rw [Int.pow_succ]
    have : a * (2 ^ m * 2) = 2 * (a * 2 ^ m) := by rw [← Int.mul_assoc, Int.mul_comm]
    omega
  · rw [Int.pow_succ, Int.ediv_ediv_of_nonneg (Int.le_of_lt (Int.pow_pos (by decide)))]
theorem sh_top (a : Int) (ha : i6 a) : (apL 14 [a, 63] == 0) = decide (0 ≤ a) := by
  rw [al_shr]
  have e : ((63 : Int) % 64).toNat = 63 := by decide
  have e2 : (2 : Int) ^ 63 = 9223372036854775808 := by decide
  rw [e, e2]
  unfold i6 at ha
  by_cases h : 0 ≤ a
  · rw [decide_eq_true h, beq_iff_eq]; omega
  · rw [decide_eq_false h, beq_eq_false_iff_ne]; omega

theorem half_any (x : Int) (w : World) (hx : i6 x) :
    Calls Tryd.prog 17 #[.int .i64 x] w fun e w' => e = .returned (.int .i64 (x / 2)) ∧ w' = w := by
  unfold i6 at hx
  obtain ⟨r, hr⟩ : ∃ r, x / 2 = r := ⟨_, rfl⟩
  have HR : Hid (x / 2 = r) := hr
  rw [hr]
  clear hr
  have hm : x.tmod 2 = -1 ↔ x < 0 ∧ x % 2 = 1 := by
    by_cases h : 0 ≤ x
    · rw [Int.tmod_eq_emod_of_nonneg h]; omega
    · have : x.tmod 2 = - ((-x) % 2) := by rw [← Int.tmod_eq_emod_of_nonneg (by omega), Int.neg_tmod]; omega
      omega
  have hd : ∀ y : Int, y.tdiv 2 = if 0 ≤ y then y / 2 else - ((-y) / 2) := by
    intro y
    split
    · rename_i h; rw [Int.tdiv_eq_ediv_of_nonneg h]
    · rename_i h; rw [← Int.tdiv_eq_ediv_of_nonneg (by omega), Int.neg_tdiv]; omega
  have HD : Hid (∀ y : Int, y.tdiv 2 = if 0 ≤ y then y / 2 else - ((-y) / 2)) := hd
  clear hd
  by_cases ht : x < 0 ∧ x % 2 = 1
  · have h1 : x.tmod 2 = -1 := hm.2 ht
    have HE : Hid (x < 0 ∧ x % 2 = 1) := ht
    clear hm ht
    go_enter Tryd.func17, Tryd.ntmps17
    go_wp2
    go_ret
    have hE := HE.out
    have hR := HR.out
    refine ⟨retI ?_, by first | rfl | trivial⟩
    have e1 : wrap64 (x - 1) = x - 1 := w6_id (by unfold i6; omega)
    rw [e1, HD.out (x - 1), if_neg (by omega), w6_id (by unfold i6; omega)]
    omega
  · have h1 : (x.tmod 2 == -1) = false := by rw [beq_eq_false_iff_ne]; exact fun h => ht (hm.1 h)
    have HE : Hid (¬ (x < 0 ∧ x % 2 = 1)) := ht
    clear hm ht
    go_enter Tryd.func17, Tryd.ntmps17
    go_wp2
    go_ret
    have hE := HE.out
    have hR := HR.out
    refine ⟨retI ?_, by first | rfl | trivial⟩
    rw [HD.out x]
    split <;> omega

set_option maxRecDepth 100000 in
set_option maxHeartbeats 8000000 in
theorem shifts.walk (a n : Int) (w : World) (hT : Tb4 w) (ha : i6 a) (hn : i6 n) :
    Calls Tryd.prog 8 #[.int .i64 a, .int .i64 n] w fun e w' => e = .returned (.bool true) ∧ Below w.heap.size w w' := by
  have hG := hT.g
  have cw : Hid (∀ W, GrpCells W → Calls Tryd.prog 9 #[] W fun e w' => e = .returned (.bool true) ∧ Below W.heap.size W w') := awake_any
  have HG : Hid (∀ W, Below w.heap.size w W → GrpCells W) := fun W h => hG.below h
  have hb : Below w.heap.size w w := Below.refl _ _
  clear hG hT
  obtain ⟨n64, k, L, R, hS⟩ := sh_ok a n ha
  obtain ⟨h64, hk, k0, k1, l1, l2, l3, r1, r2, r3, z1, z2⟩ := hS
  have e1 : apL 15 [a, a] = 1 := by rw [al_eq, if_pos rfl]
  have e2 : apL 16 [a, a] = 0 := by rw [al_lt, if_neg (by omega)]
  have HM := sh_top a ha
  obtain ⟨t, ht⟩ : ∃ t, apL 14 [a, 63] = t := ⟨_, rfl⟩
  rw [ht] at HM
  have hcmp : ∃ x1 x2 x3 mn : Int, apL 16 [a, n] = x1 ∧ apL 16 [n, a] = x2 ∧ apL 15 [a, n] = x3 ∧ apL 17 [x1, a, n] = mn ∧ mn = min a n ∧ ((x1 = 1 ∧ x2 = 0 ∧ x3 = 0) ∨ (x1 = 0 ∧ x2 = 1 ∧ x3 = 0) ∨ (x1 = 0 ∧ x2 = 0 ∧ x3 = 1)) := by
    rw [al_lt, al_lt, al_eq]
    refine ⟨_, _, _, _, rfl, rfl, rfl, rfl, ?_, ?_⟩
    · rw [al_if]; by_cases h : a < n
      · rw [if_pos h]; simp; omega
      · rw [if_neg h]; simp; omega
    · by_cases h : a < n
      · rw [if_pos h, if_neg (by omega), if_neg (by omega)]; simp
      · by_cases h2 : n < a
        · rw [if_neg h, if_pos h2, if_neg (by omega)]; simp
        · rw [if_neg h, if_neg h2, if_pos (by omega)]; simp
  obtain ⟨x1, x2, x3, mn, c1, c2, c3, c4, hmn, hx⟩ := hcmp
  have HMN : Hid (mn = min a n) := hmn
  clear hmn
  have hstep := sh_step a k ha
  by_cases hk0 : 0 < k
  · obtain ⟨d1, d2, d3⟩ := hstep hk0 k1
    rw [l3] at d1
    rw [r3] at d2
    obtain ⟨L1, hL1⟩ : ∃ x, apL 13 [a, k - 1] = x := ⟨_, rfl⟩
    obtain ⟨R1, hR1⟩ : ∃ x, apL 14 [a, k - 1] = x := ⟨_, rfl⟩
    rw [hL1] at d1
    rw [hR1] at d2 d3
    have ch : Hid (∀ W, Calls Tryd.prog 17 #[.int .i64 R1] W fun e w' => e = .returned (.int .i64 R) ∧ w' = W) := fun W => by
      have := half_any R1 W d3; rw [d2] at this; exact this
    clear hstep d2 d3
    rcases hx with ⟨rfl, rfl, rfl⟩ | ⟨rfl, rfl, rfl⟩ | ⟨rfl, rfl, rfl⟩
    all_goals
      go_enter Tryd.func8, Tryd.ntmps8
      go_wp2_with (first
        | (go_at_call 9; refine (cw.out _ (HG.out _ hb)).mono ?_; rintro e w2 ⟨rfl, hc⟩; replace hb := hb.trans (hc.mono hb.size); clear hc)
        | (go_at_call 17; refine (ch.out _).mono ?_; rintro e w2 ⟨rfl, hw⟩; obtain rfl := hw.symm; clear hw)
        | (go_at_call_of 16 (Value.int .i64 17); refine (apl_new3 17 _ _ _ _ (HG.out _ hb)).mono ?_; rintro e w2 ⟨rfl, hc⟩; replace hb := hb.trans (hc.mono hb.size); clear hc)
        | (go_at_call 16; refine (apl_new2 _ _ _ _ (HG.out _ hb)).mono ?_; rintro e w2 ⟨rfl, hc⟩; replace hb := hb.trans (hc.mono hb.size); clear hc))
      all_goals
        first
        | (go_ret
           exact ⟨rfl, hb⟩)
        | (exfalso
           have := HMN.out
           omega)
  · obtain rfl : k = 0 := by omega
    clear hstep
    rcases hx with ⟨rfl, rfl, rfl⟩ | ⟨rfl, rfl, rfl⟩ | ⟨rfl, rfl, rfl⟩
    all_goals
      go_enter Tryd.func8, Tryd.ntmps8
      go_wp2_with (first
        | (go_at_call 9; refine (cw.out _ (HG.out _ hb)).mono ?_; rintro e w2 ⟨rfl, hc⟩; replace hb := hb.trans (hc.mono hb.size); clear hc)
        | (go_at_call_of 16 (Value.int .i64 17); refine (apl_new3 17 _ _ _ _ (HG.out _ hb)).mono ?_; rintro e w2 ⟨rfl, hc⟩; replace hb := hb.trans (hc.mono hb.size); clear hc)
        | (go_at_call 16; refine (apl_new2 _ _ _ _ (HG.out _ hb)).mono ?_; rintro e w2 ⟨rfl, hc⟩; replace hb := hb.trans (hc.mono hb.size); clear hc))
      all_goals
        first
        | (go_ret
           exact ⟨rfl, hb⟩)
        | (exfalso
           have := HMN.out
           omega)
end Go.Proofs.YteoomihembloaaaDoor

/-
  RefSpanW, RefNumW.
-/
import Derived.Test.YtaennaoakopgfaaDoorMGOut
set_option linter.unusedSimpArgs false
set_option linter.unusedVariables false
namespace Go.Proofs.YtaennaoakopgfaaDoor
open Go.RowKit Go.Lib

set_option maxHeartbeats 1000000 in
theorem refSpan_out (s : ByteArray) (at_ : Int) (w : World) (h : at_ < 0 ∨ (s.size : Int) < at_) :
    Calls Tryd.prog 151 #[.string s, .int .i64 at_] w fun e w' => e = .returned (.tuple #[.int .i64 0, .int .i64 2]) ∧ Below w.heap.size w w' := by
  by_cases h0 : at_ < 0
  · go_enter Tryd.func151, Tryd.ntmps151
    go_wp2
    go_ret2
    exact ⟨rfl, Below.refl _ _⟩
  · have h1 : (s.size : Int) < at_ := by omega
    clear h
    go_enter Tryd.func151, Tryd.ntmps151
    go_wp2
    go_ret2
    exact ⟨rfl, Below.refl _ _⟩

set_option maxHeartbeats 1000000 in
theorem refSpan_in (s : ByteArray) (pos : Nat) (w : World) (h : pos ≤ s.size) (hs : s.size ≤ maxLen) :
    Calls Tryd.prog 151 #[.string s, .int .i64 pos] w fun e w' => e = .returned (.tuple #[.int .i64 (spanP s pos).1, .int .i64 (spanP s pos).2]) ∧ Below w.heap.size w w' := by
  have hs0 := hs
  unfold maxLen at hs
  have hpz : (pos : Int) ≤ (s.size : Int) := by omega
  have hd0 : decide ((pos : Int) < 0) = false := by simp
  have hd1 : decide (s.size < pos) = false := by simp; omega
  have c1 : Hid (∀ W, Calls Tryd.prog 87 #[.string s, .int .i64 pos] W fun e w' => e = .returned (.int .i32 (rn s pos)) ∧ Below W.heap.size W w') := fun W => refRune_any s pos W hs0 h
  have HP : Hid (spanP s pos = if kd (rn s pos) = 1 then (((spF s s.size pos : Nat) : Int), 0) else (0, 11)) := rfl
  generalize rn s pos = r at *
  have c2 : Hid (∀ W, Calls Tryd.prog 88 #[.int .i32 r] W fun e w' => e = .returned (.int .i64 (kd r)) ∧ Below W.heap.size W w') := refKind_kd r
  by_cases h1 : kd r = 1
  · rw [h1] at c2
    have hv : spanP s pos = (((spF s s.size pos : Nat) : Int), 0) := by rw [HP.out, if_pos h1]
    rw [hv]
    clear hv h1 HP
    go_enter Tryd.func151, Tryd.ntmps151
    go_wp2_with (first | (go_at_call 87; refine (c1.out _).mono ?_; rintro e w1 ⟨rfl, hb1⟩) | (go_at_call 88; refine (c2.out _).mono ?_; rintro e w2 ⟨rfl, hb2⟩))
    clear c1 c2
    have hB2 : Below w.heap.size w w2 := hb1.trans (hb2.mono hb1.size)
    go_loopw [1] (fun p w' => ∃ (q f : Nat), p = .int .i64 q ∧ Below w.heap.size w w' ∧ Hid (spF s f q = spF s s.size pos) ∧ s.size ≤ q + f ∧ q ≤ s.size) (fun p _ => s.size - (RowKit.intOf p).toNat)
    case atStart => exact ⟨pos, s.size, rfl, hB2, rfl, by omega, h⟩
    case round =>
      obtain ⟨q, f, rfl, hB, HN, hf, hqS⟩ := hrel
      have z := hB.size
      by_cases hp : q < s.size
      · obtain ⟨f, rfl⟩ : ∃ g, f = g + 1 := ⟨f - 1, by omega⟩
        have hw := width_pos s q hp
        have hw2 := dec_le s q hp
        have c3 : Hid (∀ W, Calls Tryd.prog 87 #[.string s, .int .i64 q] W fun e w' => e = .returned (.int .i32 (rn s q)) ∧ Below W.heap.size W w') := fun W => refRune_any s q W hs0 hqS
        have c4 : Hid (∀ W, Calls Tryd.prog 89 #[.int .i32 (rn s q)] W fun e w' => e = .returned (.bool (onB (Utf8.decode s q).1)) ∧ Below W.heap.size W w') := fun W => by
          rw [← onB_rn s q hp]; exact behind_any _ W
        have c5 : Hid (∀ W, Calls Tryd.prog 90 #[.string s, .int .i64 q] W fun e w' => e = .returned (.int .i64 (wd s q)) ∧ Below W.heap.size W w') := fun W => refWidth_in s q W hp hs0
        generalize rn s q = rr at *
        cases ho : onB (Utf8.decode s q).1
        · rw [ho] at c4
          have hx : Hid (spF s (f + 1) q = q) := spF_off s (f + 1) q hp ho
          clear ho c5 hw hw2
          go_wp2_with (first | (go_at_call 87; refine (c3.out _).mono ?_; rintro e w3 ⟨rfl, hb3⟩) | (go_at_call 89; refine (c4.out _).mono ?_; rintro e w4 ⟨rfl, hb4⟩))
          go_ret2
          have z3 := hb3.size
          exact ⟨ret2 (by rw [← HN.out, hx.out]) rfl, (hB.trans (hb3.mono z)).trans (hb4.mono (by omega))⟩
        · rw [ho] at c4
          have hd : wd s q = (Utf8.decode s q).2 := by simp [wd, good_of_on s q ho]
          rw [hd] at c5
          have hx : Hid (spF s f (q + (Utf8.decode s q).2) = spF s s.size pos) := (spF_on s f q hp ho).symm.trans HN.out
          clear ho hd
          generalize (Utf8.decode s q).2 = v at *
          go_wp2_with (first | (go_at_call 87; refine (c3.out _).mono ?_; rintro e w3 ⟨rfl, hb3⟩) | (go_at_call 89; refine (c4.out _).mono ?_; rintro e w4 ⟨rfl, hb4⟩) | (go_at_call 90; refine (c5.out _).mono ?_; rintro e w5 ⟨rfl, hb5⟩))
          have z3 := hb3.size
          have z4 := hb4.size
          exact ⟨⟨q + v, f, by go_num, ((hB.trans (hb3.mono z)).trans (hb4.mono (by omega))).trans (hb5.mono (by omega)), hx, by omega, by omega⟩, by simp [RowKit.intOf]; omega⟩
      · go_wp2
        go_ret2
        exact ⟨ret2 (by rw [← HN.out, spF_end s f q hp]) rfl, hB⟩
  · have hv : spanP s pos = (0, 11) := by rw [HP.out, if_neg h1]
    rw [hv]
    clear hv HP
    have hne : (kd r != 1) = true := by simpa using h1
    generalize kd r = kk at *
    go_enter Tryd.func151, Tryd.ntmps151
    go_wp2_with (first | (go_at_call 87; refine (c1.out _).mono ?_; rintro e w1 ⟨rfl, hb1⟩) | (go_at_call 88; refine (c2.out _).mono ?_; rintro e w2 ⟨rfl, hb2⟩))
    go_ret2
    exact ⟨rfl, hb1.trans (hb2.mono hb1.size)⟩

theorem refSpan_any (s : ByteArray) (at_ : Int) (w : World) (hs : s.size ≤ maxLen) :
    Calls Tryd.prog 151 #[.string s, .int .i64 at_] w fun e w' => e = .returned (.tuple #[.int .i64 (spanI s at_).1, .int .i64 (spanI s at_).2]) ∧ Below w.heap.size w w' := by
  by_cases h : at_ < 0 ∨ (s.size : Int) < at_
  · have hv : spanI s at_ = (0, 2) := by simp [spanI, h]
    rw [hv]
    exact refSpan_out s at_ w h
  · have hv : spanI s at_ = spanP s at_.toNat := by simp [spanI, h]
    rw [hv]
    have := refSpan_in s at_.toNat w (by omega) hs
    rw [Int.toNat_of_nonneg (by omega)] at this
    exact this
end Go.Proofs.YtaennaoakopgfaaDoor

set_option linter.unusedSimpArgs false
set_option linter.unusedVariables false
namespace Go.Proofs.YtaennaoakopgfaaDoor
open Go.RowKit Go.Lib

theorem u64_nat (x : Int) : ∃ m : Nat, IntKind.u64.wrap x = (m : Int) ∧ m ≤ 18446744073709551615 := by
  have h : 0 ≤ IntKind.u64.wrap x ∧ IntKind.u64.wrap x ≤ 18446744073709551615 := by
    simp [IntKind.wrap, IntKind.bits, IntKind.signed]
    omega
  exact ⟨(IntKind.u64.wrap x).toNat, by omega, by omega⟩

set_option maxHeartbeats 1000000 in
theorem refNumber_out (s : ByteArray) (at_ : Int) (w : World) (h : at_ < 0 ∨ (s.size : Int) < at_) :
    Calls Tryd.prog 148 #[.string s, .int .i64 at_] w fun e w' => e = .returned (.tuple #[.int .u64 0, .int .i64 0, .int .i64 2]) ∧ Below w.heap.size w w' := by
  by_cases h0 : at_ < 0
  · go_enter Tryd.func148, Tryd.ntmps148
    go_wp2
    go_ret3
    exact ⟨rfl, Below.refl _ _⟩
  · have h1 : (s.size : Int) < at_ := by omega
    clear h
    go_enter Tryd.func148, Tryd.ntmps148
    go_wp2
    go_ret3
    exact ⟨rfl, Below.refl _ _⟩

set_option maxHeartbeats 1000000 in
theorem refNumber_none (s : ByteArray) (pos : Nat) (w : World) (h : pos ≤ s.size) (hs : s.size ≤ maxLen) (hz : digZ (rn s pos) = 0) :
    Calls Tryd.prog 148 #[.string s, .int .i64 pos] w fun e w' => e = .returned (.tuple #[.int .u64 0, .int .i64 0, .int .i64 11]) ∧ Below w.heap.size w w' := by
  have hpz : (pos : Int) ≤ (s.size : Int) := by omega
  have c1 : Hid (∀ W, Calls Tryd.prog 87 #[.string s, .int .i64 pos] W fun e w' => e = .returned (.int .i32 (rn s pos)) ∧ Below W.heap.size W w') := fun W => refRune_any s pos W hs h
  generalize rn s pos = r at *
  have c2 : Hid (∀ W, Calls Tryd.prog 115 #[.int .i32 r] W fun e w' => e = .returned (.tuple #[.int .i64 (digV r), .int .i32 (digZ r)]) ∧ w' = W) := digit_any r
  rw [hz] at c2
  unfold maxLen at hs
  go_enter Tryd.func148, Tryd.ntmps148
  go_wp2_with (first | (go_at_call 87; refine (c1.out _).mono ?_; rintro e w1 ⟨rfl, hb1⟩) | (go_at_call 115; refine (c2.out _).mono ?_; rintro e w2 ⟨rfl, hw⟩; obtain rfl := hw.symm))
  go_ret3
  exact ⟨rfl, hb1⟩

set_option maxHeartbeats 2000000 in
theorem refNumber_some (s : ByteArray) (pos : Nat) (w : World) (h : pos ≤ s.size) (hs : s.size ≤ maxLen) (z : Int) (hz : digZ (rn s pos) = z) (h0 : z ≠ 0) :
    Calls Tryd.prog 148 #[.string s, .int .i64 pos] w fun e w' => e = .returned (.tuple #[.int .u64 (nuF s z s.size pos 0).1, .int .i64 (nuF s z s.size pos 0).2.1, .int .i64 (nuF s z s.size pos 0).2.2]) ∧ Below w.heap.size w w' := by
  have hpz : (pos : Int) ≤ (s.size : Int) := by omega
  have hd0 : decide ((pos : Int) < 0) = false := by simp
  have hd1 : decide (s.size < pos) = false := by simp; omega
  have hs0 := hs
  unfold maxLen at hs
  have c1 : Hid (∀ W, Calls Tryd.prog 87 #[.string s, .int .i64 pos] W fun e w' => e = .returned (.int .i32 (rn s pos)) ∧ Below W.heap.size W w') := fun W => refRune_any s pos W hs0 h
  generalize rn s pos = r at *
  have c2 : Hid (∀ W, Calls Tryd.prog 115 #[.int .i32 r] W fun e w' => e = .returned (.tuple #[.int .i64 (digV r), .int .i32 (digZ r)]) ∧ w' = W) := digit_any r
  rw [hz] at c2
  clear hz
  generalize digV r = dv at *
  have h0' : (z == 0) = false := by simpa using h0
  have H0 : Hid (z ≠ 0) := h0
  clear h0
  go_enter Tryd.func148, Tryd.ntmps148
  go_wp2_with (first | (go_at_call 87; refine (c1.out _).mono ?_; rintro e w1 ⟨rfl, hb1⟩) | (go_at_call 115; refine (c2.out _).mono ?_; rintro e w2 ⟨rfl, hw⟩; obtain rfl := hw.symm))
  clear c1 c2
  go_loopw [1, 9, 10] (fun p c l w' => ∃ (q f n : Nat) (b : Bool), p = .int .i64 q ∧ c = .int .u64 n ∧ l = .bool b ∧ Below w.heap.size w w' ∧ n ≤ 18446744073709551615 ∧ Hid ((b = false ∧ nuF s z f q n = nuF s z s.size pos 0) ∨ (b = true ∧ nuF s z s.size pos 0 = (0, 0, 10))) ∧ s.size ≤ q + f ∧ q ≤ s.size) (fun p _ _ _ => s.size - (RowKit.intOf p).toNat)
  case atStart => exact ⟨pos, s.size, 0, false, rfl, rfl, rfl, hb1, by omega, .inl ⟨rfl, rfl⟩, by omega, h⟩
  case round =>
    obtain ⟨q, f, n, b, rfl, rfl, rfl, hB, hn, HN, hf, hq⟩ := hrel
    have zz := hB.size
    by_cases hp : q < s.size
    · obtain ⟨f, rfl⟩ : ∃ g, f = g + 1 := ⟨f - 1, by omega⟩
      have hw := width_pos s q hp
      have hw2 := dec_le s q hp
      have c3 : Hid (∀ W, Calls Tryd.prog 87 #[.string s, .int .i64 q] W fun e w' => e = .returned (.int .i32 (rn s q)) ∧ Below W.heap.size W w') := fun W => refRune_any s q W hs0 hq
      have c4 : Hid (∀ W, Calls Tryd.prog 115 #[.int .i32 (rn s q)] W fun e w' => e = .returned (.tuple #[.int .i64 (digV (Utf8.decode s q).1), .int .i32 (digZ (Utf8.decode s q).1)]) ∧ w' = W) := fun W => by
        rw [← digV_rn s q hp, ← digZ_rn s q hp]; exact digit_any _ W
      have c5 : Hid (∀ W, Calls Tryd.prog 90 #[.string s, .int .i64 q] W fun e w' => e = .returned (.int .i64 (wd s q)) ∧ Below W.heap.size W w') := fun W => refWidth_in s q W hp hs0
      have HG : Hid (digZ (Utf8.decode s q).1 = z → wd s q = (Utf8.decode s q).2) := fun hz => by
        have hb : bad s q = false := by
          cases hb : bad s q
          · rfl
          · rw [bad_eq hb] at hz
            exact absurd hz (by have := H0.out; intro e; exact this (by rw [← e]; decide))
        simp [wd, hb]
      have hx1 : Hid (¬ digZ (Utf8.decode s q).1 = z → nuF s z (f + 1) q n = (n, q, 0)) := nuF_off s z (f + 1) q n
      have hx2 : Hid (digZ (Utf8.decode s q).1 = z → 18446744073709551615 < n * 10 + (digV (Utf8.decode s q).1).toNat → nuF s z (f + 1) q n = (0, 0, 10)) := nuF_large s z f q n hp
      have hx3 : Hid (digZ (Utf8.decode s q).1 = z → ¬ 18446744073709551615 < n * 10 + (digV (Utf8.decode s q).1).toNat → nuF s z (f + 1) q n = nuF s z f (q + (Utf8.decode s q).2) (n * 10 + (digV (Utf8.decode s q).1).toNat)) := nuF_on s z f q n hp
      generalize rn s q = rr at *
      generalize wd s q = u at *
      generalize (Utf8.decode s q).2 = v at *
      generalize ((Utf8.decode s q).1 : Int) = r2 at *
      by_cases hz : digZ r2 = z
      · rw [hz] at c4
        rw [HG.out hz] at c5
        have hdv := digV_eq r2 (by rw [hz]; exact H0.out)
        have HZ : Hid (digZ r2 = z) := hz
        obtain ⟨hd0, hd9⟩ := hdv.2
        clear hz HG hx1 hdv
        have hx2' : Hid ((18446744073709551615 : Int) < (n : Int) * 10 + digV r2 → nuF s z (f + 1) q n = (0, 0, 10)) := fun hl => hx2.out HZ.out (by omega)
        have hx3' : Hid (¬ (18446744073709551615 : Int) < (n : Int) * 10 + digV r2 → nuF s z (f + 1) q n = nuF s z f (q + v) (n * 10 + (digV r2).toNat)) := fun hl => hx3.out HZ.out (by omega)
        clear hx2 hx3 HZ
        generalize digV r2 = d at *
        have HL : Hid ((18446744073709551615 : Int) < (n : Int) * 10 + d → (b = true ∨ nuF s z s.size pos 0 = (0, 0, 10)) ∧ nuF s z s.size pos 0 = (0, 0, 10)) := fun hl => by
          rcases HN.out with ⟨_, e⟩ | ⟨eb, e⟩
          · have := e.symm.trans (hx2'.out hl)
            exact ⟨.inr this, this⟩
          · exact ⟨.inl eb, e⟩
        have HK : Hid (¬ (18446744073709551615 : Int) < (n : Int) * 10 + d → (b = false ∧ nuF s z f (q + v) (n * 10 + d.toNat) = nuF s z s.size pos 0) ∨ (b = true ∧ nuF s z s.size pos 0 = (0, 0, 10))) := fun hl => by
          rcases HN.out with ⟨eb, e⟩ | ⟨eb, e⟩
          · exact .inl ⟨eb, (hx3'.out hl).symm.trans e⟩
          · exact .inr ⟨eb, e⟩
        clear HN hx2' hx3'
        by_cases h1 : (1844674407370955161 : Int) < (n : Int)
        · go_wp2_with (first | (go_at_call 87; refine (c3.out _).mono ?_; rintro e w3 ⟨rfl, hb3⟩) | (go_at_call 115; refine (c4.out _).mono ?_; rintro e w4 ⟨rfl, hw4⟩; obtain rfl := hw4.symm) | (go_at_call 90; refine (c5.out _).mono ?_; rintro e w5 ⟨rfl, hb5⟩))
          obtain ⟨m, em, hm⟩ := u64_nat (IntKind.u64.wrap (10 * (n : Int)) + d)
          have z3 := hb3.size
          exact ⟨⟨q + v, f, m, true, by go_num, congrArg (Value.int .u64) em, rfl, (hB.trans (hb3.mono zz)).trans (hb5.mono (by omega)), hm, .inr ⟨rfl, (HL.out (by omega)).2⟩, by omega, by omega⟩, by simp [RowKit.intOf]; omega⟩
        · by_cases h2 : (n : Int) = 1844674407370955161
          · obtain rfl : n = 1844674407370955161 := by omega
            clear h1 h2
            by_cases h3 : 5 < d
            · go_wp2_with (first | (go_at_call 87; refine (c3.out _).mono ?_; rintro e w3 ⟨rfl, hb3⟩) | (go_at_call 115; refine (c4.out _).mono ?_; rintro e w4 ⟨rfl, hw4⟩; obtain rfl := hw4.symm) | (go_at_call 90; refine (c5.out _).mono ?_; rintro e w5 ⟨rfl, hb5⟩))
              obtain ⟨m, em, hm⟩ := u64_nat (18446744073709551610 + d)
              have z3 := hb3.size
              exact ⟨⟨q + v, f, m, true, by go_num, congrArg (Value.int .u64) em, rfl, (hB.trans (hb3.mono zz)).trans (hb5.mono (by omega)), hm, .inr ⟨rfl, (HL.out (by omega)).2⟩, by omega, by omega⟩, by simp [RowKit.intOf]; omega⟩
            · go_wp2_with (first | (go_at_call 87; refine (c3.out _).mono ?_; rintro e w3 ⟨rfl, hb3⟩) | (go_at_call 115; refine (c4.out _).mono ?_; rintro e w4 ⟨rfl, hw4⟩; obtain rfl := hw4.symm) | (go_at_call 90; refine (c5.out _).mono ?_; rintro e w5 ⟨rfl, hb5⟩))
              have z3 := hb3.size
              exact ⟨⟨q + v, f, 1844674407370955161 * 10 + d.toNat, b, by go_num, congrArg (Value.int .u64) (by omega), rfl, (hB.trans (hb3.mono zz)).trans (hb5.mono (by omega)), by omega, HK.out (by omega), by omega, by omega⟩, by simp [RowKit.intOf]; omega⟩
          · have h2' : ((n : Int) == 1844674407370955161) = false := by simpa using h2
            have hle : 10 * (n : Int) + d ≤ 18446744073709551615 := by omega
            go_wp2_with (first | (go_at_call 87; refine (c3.out _).mono ?_; rintro e w3 ⟨rfl, hb3⟩) | (go_at_call 115; refine (c4.out _).mono ?_; rintro e w4 ⟨rfl, hw4⟩; obtain rfl := hw4.symm) | (go_at_call 90; refine (c5.out _).mono ?_; rintro e w5 ⟨rfl, hb5⟩))
            have z3 := hb3.size
            exact ⟨⟨q + v, f, n * 10 + d.toNat, b, by go_num, congrArg (Value.int .u64) (by omega), rfl, (hB.trans (hb3.mono zz)).trans (hb5.mono (by omega)), by omega, HK.out (by omega), by omega, by omega⟩, by simp [RowKit.intOf]; omega⟩
      · have hne : (digZ r2 != z) = true := by simpa using hz
        have HE : Hid (nuF s z (f + 1) q n = (n, q, 0)) := hx1.out hz
        clear hx1 hx2 hx3 HG hz c5
        generalize digZ r2 = z2 at *
        generalize digV r2 = d at *
        cases b
        · go_wp2_with (first | (go_at_call 87; refine (c3.out _).mono ?_; rintro e w3 ⟨rfl, hb3⟩) | (go_at_call 115; refine (c4.out _).mono ?_; rintro e w4 ⟨rfl, hw4⟩; obtain rfl := hw4.symm))
          go_ret3
          have hv : nuF s z s.size pos 0 = (n, q, 0) := by
            rcases HN.out with ⟨_, e⟩ | ⟨eb, _⟩
            · exact e.symm.trans HE.out
            · cases eb
          exact ⟨ret3 (by rw [hv]) (by rw [hv]) (by rw [hv]), hB.trans (hb3.mono zz)⟩
        · go_wp2_with (first | (go_at_call 87; refine (c3.out _).mono ?_; rintro e w3 ⟨rfl, hb3⟩) | (go_at_call 115; refine (c4.out _).mono ?_; rintro e w4 ⟨rfl, hw4⟩; obtain rfl := hw4.symm))
          go_ret3
          have hv : nuF s z s.size pos 0 = (0, 0, 10) := by
            rcases HN.out with ⟨eb, _⟩ | ⟨_, e⟩
            · cases eb
            · exact e
          exact ⟨ret3 (by rw [hv]; rfl) (by rw [hv]; rfl) (by rw [hv]), hB.trans (hb3.mono zz)⟩
    · cases b
      · go_wp2
        go_ret3
        have hv : nuF s z s.size pos 0 = (n, q, 0) := by
          rcases HN.out with ⟨_, e⟩ | ⟨eb, _⟩
          · exact e.symm.trans (nuF_end s z f q n hp)
          · cases eb
        exact ⟨ret3 (by rw [hv]) (by rw [hv]) (by rw [hv]), hB⟩
      · go_wp2
        go_ret3
        have hv : nuF s z s.size pos 0 = (0, 0, 10) := by
          rcases HN.out with ⟨eb, _⟩ | ⟨_, e⟩
          · cases eb
          · exact e
        exact ⟨ret3 (by rw [hv]; rfl) (by rw [hv]; rfl) (by rw [hv]), hB⟩

theorem refNumber_any (s : ByteArray) (at_ : Int) (w : World) (hs : s.size ≤ maxLen) :
    Calls Tryd.prog 148 #[.string s, .int .i64 at_] w fun e w' => e = .returned (.tuple #[.int .u64 (numI s at_).1, .int .i64 (numI s at_).2.1, .int .i64 (numI s at_).2.2]) ∧ Below w.heap.size w w' := by
  by_cases h : at_ < 0 ∨ (s.size : Int) < at_
  · have hv : numI s at_ = (0, 0, 2) := by simp [numI, h]
    rw [hv]
    exact refNumber_out s at_ w h
  · have hv : numI s at_ = numP s at_.toNat := by simp [numI, h]
    rw [hv]
    by_cases hz : digZ (rn s at_.toNat) = 0
    · have hv2 : numP s at_.toNat = (0, 0, 11) := by simp [numP, hz]
      rw [hv2]
      have := refNumber_none s at_.toNat w (by omega) hs hz
      rw [Int.toNat_of_nonneg (by omega)] at this
      exact this
    · have hv2 : numP s at_.toNat = nuF s (digZ (rn s at_.toNat)) s.size at_.toNat 0 := by simp [numP, hz]
      rw [hv2]
      have := refNumber_some s at_.toNat w (by omega) hs _ rfl hz
      rw [Int.toNat_of_nonneg (by omega)] at this
      exact this
end Go.Proofs.YtaennaoakopgfaaDoor

/-
  RefSpanW, RefNumW, PkNuW.
-/
import Derived.Shelf.Unicode.DecodeSlow
import Derived.Laws.RangeAny
import Derived.Shelf.Strings.Builder1
import Derived.Shelf.Small.Utf8
import Derived.Shelf.Small.Bits
import Derived.Shelf.Strings.BuilderF
import Derived.Shelf.Strings.BuilderK
import Derived.Shelf.Strings.BuilderRune
import Derived.Shelf.Utf8.AppendRune
import Derived.Shelf.Strconv.Itoa0
import Derived.Shelf.Strconv.Itoa1
import Derived.Shelf.LaysM
import Derived.Shelf.Strconv.Itoa2
import Derived.Shelf.Strconv.Itoa3
import Derived.Shelf.Strconv.Itoa4
import Derived.Shelf.Strings.Prefix
import Derived.Shelf.Unicode.DecodeAny
import Derived.Test.YtjmccobblpcbhaaDoorProg
import Derived.WalkKit
import Derived.Deep.DeepFit
import Derived.Lib.OthersKept
import Derived.Lib.RuneCountTail
import Derived.Lib.Small
import Derived.Lib.Strings
import Derived.Lib.MapLaws
import Derived.Deep.AppendLies
import Derived.Deep.OwnRows
import Derived.Laws.AppendOwnNone
import Derived.Deep.QuietTactic
import Derived.BigQuiet
import Derived.Deep.RegionWith
import Derived.Laws.DeepStrings4
import Derived.Deep.RegionHeld3
import Derived.Laws.ResultCell
import Derived.Lib.QuietBelow
import Derived.Deep.Heap
import Derived.Laws.Rows
import Derived.Below
import Derived.StillTail
import Derived.Test.YtjmccobblpcbhaaDoorK01
import Derived.Test.YtjmccobblpcbhaaDoorK02
import Derived.Test.YtjmccobblpcbhaaDoorK03
import Derived.Test.YtjmccobblpcbhaaDoorK04
import Derived.Test.YtjmccobblpcbhaaDoorK05
import Derived.Test.YtjmccobblpcbhaaDoorK06
import Derived.Test.YtjmccobblpcbhaaDoorK07
import Derived.Test.YtjmccobblpcbhaaDoorK08
import Derived.Test.YtjmccobblpcbhaaDoorK09
import Derived.Test.YtjmccobblpcbhaaDoorK10
import Derived.Test.YtjmccobblpcbhaaDoorK11
import Derived.Test.YtjmccobblpcbhaaDoorK12
import Derived.Test.YtjmccobblpcbhaaDoorK13
set_option linter.unusedSimpArgs false
set_option linter.unusedVariables false
namespace Go.Proofs.YtjmccobblpcbhaaDoor
open Go.RowKit Go.Lib

set_option maxHeartbeats 1000000 in
theorem refSpan_out (s : ByteArray) (at_ : Int) (w : World) (h : at_ < 0 ∨ (s.size : Int) < at_) :
    Calls Tryd.prog 59 #[.string s, .int .i64 at_] w fun e w' => e = .returned (.tuple #[.int .i64 0, .int .i64 2]) ∧ Below w.heap.size w w' := by
  by_cases h0 : at_ < 0
  · go_enter Tryd.func59, Tryd.ntmps59
    go_wp2
    go_ret2
    exact ⟨rfl, Below.refl _ _⟩
  · have h1 : (s.size : Int) < at_ := by omega
    clear h
    go_enter Tryd.func59, Tryd.ntmps59
    go_wp2
    go_ret2
    exact ⟨rfl, Below.refl _ _⟩

set_option maxHeartbeats 1000000 in
theorem refSpan_in (s : ByteArray) (pos : Nat) (w : World) (h : pos ≤ s.size) (hs : s.size ≤ maxLen) :
    Calls Tryd.prog 59 #[.string s, .int .i64 pos] w fun e w' => e = .returned (.tuple #[.int .i64 (spanP s pos).1, .int .i64 (spanP s pos).2]) ∧ Below w.heap.size w w' := by
  have hs0 := hs
  unfold maxLen at hs
  have hpz : (pos : Int) ≤ (s.size : Int) := by omega
  have hd0 : decide ((pos : Int) < 0) = false := by simp
  have hd1 : decide (s.size < pos) = false := by simp; omega
  have c1 : Hid (∀ W, Calls Tryd.prog 58 #[.string s, .int .i64 pos] W fun e w' => e = .returned (.int .i32 (rn s pos)) ∧ Below W.heap.size W w') := fun W => refRune_any s pos W hs0 h
  have HP : Hid (spanP s pos = if kd (rn s pos) = 1 then (((spF s s.size pos : Nat) : Int), 0) else (0, 11)) := rfl
  generalize rn s pos = r at *
  have c2 : Hid (∀ W, Calls Tryd.prog 57 #[.int .i32 r] W fun e w' => e = .returned (.int .i64 (kd r)) ∧ Below W.heap.size W w') := refKind_kd r
  by_cases h1 : kd r = 1
  · rw [h1] at c2
    have hv : spanP s pos = (((spF s s.size pos : Nat) : Int), 0) := by rw [HP.out, if_pos h1]
    rw [hv]
    clear hv h1 HP
    go_enter Tryd.func59, Tryd.ntmps59
    go_wp2_with (first | (go_at_call 58; refine (c1.out _).mono ?_; rintro e w1 ⟨rfl, hb1⟩) | (go_at_call 57; refine (c2.out _).mono ?_; rintro e w2 ⟨rfl, hb2⟩))
    clear c1 c2
    have hB2 : Below w.heap.size w w2 := hb1.trans (hb2.mono hb1.size)
    go_loopw [1] (fun p w' => ∃ (q f : Nat), p = .int .i64 q ∧ Below w.heap.size w w' ∧ Hid (spF s f q = spF s s.size pos) ∧ s.size ≤ q + f ∧ q ≤ s.size) (fun p _ => s.size - (RowKit.intOf p).toNat)
    case atStart => exact ⟨pos, s.size, rfl, hB2, rfl, by omega, h⟩
    case round =>
      obtain ⟨q, f, rfl, hB, HN, hf, hqS⟩ := hrel
      have z := hB.size
      by_cases hp : q < s.size
      · obtain ⟨f, rfl⟩ : ∃ g, f = g + 1 := ⟨f - 1, by omega⟩
        have hw := width_pos s q hp
        have hw2 := dec_le s q hp
        have c3 : Hid (∀ W, Calls Tryd.prog 58 #[.string s, .int .i64 q] W fun e w' => e = .returned (.int .i32 (rn s q)) ∧ Below W.heap.size W w') := fun W => refRune_any s q W hs0 hqS
        have c4 : Hid (∀ W, Calls Tryd.prog 88 #[.int .i32 (rn s q)] W fun e w' => e = .returned (.bool (onB (Utf8.decode s q).1)) ∧ Below W.heap.size W w') := fun W => by
          rw [← onB_rn s q hp]; exact behind_any _ W
        have c5 : Hid (∀ W, Calls Tryd.prog 54 #[.string s, .int .i64 q] W fun e w' => e = .returned (.int .i64 (wd s q)) ∧ Below W.heap.size W w') := fun W => refWidth_in s q W hp hs0
        generalize rn s q = rr at *
        cases ho : onB (Utf8.decode s q).1
        · rw [ho] at c4
          have hx : Hid (spF s (f + 1) q = q) := spF_off s (f + 1) q hp ho
          clear ho c5 hw hw2
          go_wp2_with (first | (go_at_call 58; refine (c3.out _).mono ?_; rintro e w3 ⟨rfl, hb3⟩) | (go_at_call 88; refine (c4.out _).mono ?_; rintro e w4 ⟨rfl, hb4⟩))
          go_ret2
          have z3 := hb3.size
          exact ⟨ret2 (by rw [← HN.out, hx.out]) rfl, (hB.trans (hb3.mono z)).trans (hb4.mono (by omega))⟩
        · rw [ho] at c4
          have hd : wd s q = (Utf8.decode s q).2 := by simp [wd, good_of_on s q ho]
          rw [hd] at c5
          have hx : Hid (spF s f (q + (Utf8.decode s q).2) = spF s s.size pos) := (spF_on s f q hp ho).symm.trans HN.out
          clear ho hd
          generalize (Utf8.decode s q).2 = v at *
          go_wp2_with (first | (go_at_call 58; refine (c3.out _).mono ?_; rintro e w3 ⟨rfl, hb3⟩) | (go_at_call 88; refine (c4.out _).mono ?_; rintro e w4 ⟨rfl, hb4⟩) | (go_at_call 54; refine (c5.out _).mono ?_; rintro e w5 ⟨rfl, hb5⟩))
          have z3 := hb3.size
          have z4 := hb4.size
          exact ⟨⟨q + v, f, by go_num, ((hB.trans (hb3.mono z)).trans (hb4.mono (by omega))).trans (hb5.mono (by omega)), hx, by omega, by omega⟩, by simp [RowKit.intOf]; omega⟩
      · go_wp2
        go_ret2
        exact ⟨ret2 (by rw [← HN.out, spF_end s f q hp]) rfl, hB⟩
  · have hv : spanP s pos = (0, 11) := by rw [HP.out, if_neg h1]
    rw [hv]
    clear hv HP
    have hne : (kd r != 1) = true := by simpa using h1
    generalize kd r = kk at *
    go_enter Tryd.func59, Tryd.ntmps59
    go_wp2_with (first | (go_at_call 58; refine (c1.out _).mono ?_; rintro e w1 ⟨rfl, hb1⟩) | (go_at_call 57; refine (c2.out _).mono ?_; rintro e w2 ⟨rfl, hb2⟩))
    go_ret2
    exact ⟨rfl, hb1.trans (hb2.mono hb1.size)⟩

theorem refSpan_any (s : ByteArray) (at_ : Int) (w : World) (hs : s.size ≤ maxLen) :
    Calls Tryd.prog 59 #[.string s, .int .i64 at_] w fun e w' => e = .returned (.tuple #[.int .i64 (spanI s at_).1, .int .i64 (spanI s at_).2]) ∧ Below w.heap.size w w' := by
  by_cases h : at_ < 0 ∨ (s.size : Int) < at_
  · have hv : spanI s at_ = (0, 2) := by simp [spanI, h]
    rw [hv]
    exact refSpan_out s at_ w h
  · have hv : spanI s at_ = spanP s at_.toNat := by simp [spanI, h]
    rw [hv]
    have := refSpan_in s at_.toNat w (by omega) hs
    rw [Int.toNat_of_nonneg (by omega)] at this
    exact this
end Go.Proofs.YtjmccobblpcbhaaDoor

set_option linter.unusedSimpArgs false
set_option linter.unusedVariables false
namespace Go.Proofs.YtjmccobblpcbhaaDoor
open Go.RowKit Go.Lib

theorem u64_nat (x : Int) : ∃ m : Nat, IntKind.u64.wrap x = (m : Int) ∧ m ≤ 18446744073709551615 := by
  have h : 0 ≤ IntKind.u64.wrap x ∧ IntKind.u64.wrap x ≤ 18446744073709551615 := by
    simp [IntKind.wrap, IntKind.bits, IntKind.signed]
    omega
  exact ⟨(IntKind.u64.wrap x).toNat, by omega, by omega⟩

set_option maxHeartbeats 1000000 in
theorem refNumber_out (s : ByteArray) (at_ : Int) (w : World) (h : at_ < 0 ∨ (s.size : Int) < at_) :
    Calls Tryd.prog 173 #[.string s, .int .i64 at_] w fun e w' => e = .returned (.tuple #[.int .u64 0, .int .i64 0, .int .i64 2]) ∧ Below w.heap.size w w' := by
  by_cases h0 : at_ < 0
  · go_enter Tryd.func173, Tryd.ntmps173
    go_wp2
    go_ret3
    exact ⟨rfl, Below.refl _ _⟩
  · have h1 : (s.size : Int) < at_ := by omega
    clear h
    go_enter Tryd.func173, Tryd.ntmps173
    go_wp2
    go_ret3
    exact ⟨rfl, Below.refl _ _⟩

set_option maxHeartbeats 1000000 in
theorem refNumber_none (s : ByteArray) (pos : Nat) (w : World) (h : pos ≤ s.size) (hs : s.size ≤ maxLen) (hz : digZ (rn s pos) = 0) :
    Calls Tryd.prog 173 #[.string s, .int .i64 pos] w fun e w' => e = .returned (.tuple #[.int .u64 0, .int .i64 0, .int .i64 11]) ∧ Below w.heap.size w w' := by
  have hpz : (pos : Int) ≤ (s.size : Int) := by omega
  have c1 : Hid (∀ W, Calls Tryd.prog 58 #[.string s, .int .i64 pos] W fun e w' => e = .returned (.int .i32 (rn s pos)) ∧ Below W.heap.size W w') := fun W => refRune_any s pos W hs h
  generalize rn s pos = r at *
  have c2 : Hid (∀ W, Calls Tryd.prog 85 #[.int .i32 r] W fun e w' => e = .returned (.tuple #[.int .i64 (digV r), .int .i32 (digZ r)]) ∧ w' = W) := digit_any r
  rw [hz] at c2
  unfold maxLen at hs
  go_enter Tryd.func173, Tryd.ntmps173
  go_wp2_with (first | (go_at_call 58; refine (c1.out _).mono ?_; rintro e w1 ⟨rfl, hb1⟩) | (go_at_call 85; refine (c2.out _).mono ?_; rintro e w2 ⟨rfl, hw⟩; obtain rfl := hw.symm))
  go_ret3
  exact ⟨rfl, hb1⟩

set_option maxHeartbeats 2000000 in
theorem refNumber_some (s : ByteArray) (pos : Nat) (w : World) (h : pos ≤ s.size) (hs : s.size ≤ maxLen) (z : Int) (hz : digZ (rn s pos) = z) (h0 : z ≠ 0) :
    Calls Tryd.prog 173 #[.string s, .int .i64 pos] w fun e w' => e = .returned (.tuple #[.int .u64 (nuF s z s.size pos 0).1, .int .i64 (nuF s z s.size pos 0).2.1, .int .i64 (nuF s z s.size pos 0).2.2]) ∧ Below w.heap.size w w' := by
  have hpz : (pos : Int) ≤ (s.size : Int) := by omega
  have hd0 : decide ((pos : Int) < 0) = false := by simp
  have hd1 : decide (s.size < pos) = false := by simp; omega
  have hs0 := hs
  unfold maxLen at hs
  have c1 : Hid (∀ W, Calls Tryd.prog 58 #[.string s, .int .i64 pos] W fun e w' => e = .returned (.int .i32 (rn s pos)) ∧ Below W.heap.size W w') := fun W => refRune_any s pos W hs0 h
  generalize rn s pos = r at *
  have c2 : Hid (∀ W, Calls Tryd.prog 85 #[.int .i32 r] W fun e w' => e = .returned (.tuple #[.int .i64 (digV r), .int .i32 (digZ r)]) ∧ w' = W) := digit_any r
  rw [hz] at c2
  clear hz
  generalize digV r = dv at *
  have h0' : (z == 0) = false := by simpa using h0
  have H0 : Hid (z ≠ 0) := h0
  clear h0
  go_enter Tryd.func173, Tryd.ntmps173
  go_wp2_with (first | (go_at_call 58; refine (c1.out _).mono ?_; rintro e w1 ⟨rfl, hb1⟩) | (go_at_call 85; refine (c2.out _).mono ?_; rintro e w2 ⟨rfl, hw⟩; obtain rfl := hw.symm))
  clear c1 c2
  go_loopw [1, 9, 10] (fun p c l w' => ∃ (q f n : Nat) (b : Bool), p = .int .i64 q ∧ c = .int .u64 n ∧ l = .bool b ∧ Below w.heap.size w w' ∧ n ≤ 18446744073709551615 ∧ Hid ((b = false ∧ nuF s z f q n = nuF s z s.size pos 0) ∨ (b = true ∧ nuF s z s.size pos 0 = (0, 0, 10))) ∧ s.size ≤ q + f ∧ q ≤ s.size) (fun p _ _ _ => s.size - (RowKit.intOf p).toNat)
  case atStart => exact ⟨pos, s.size, 0, false, rfl, rfl, rfl, hb1, by omega, .inl ⟨rfl, rfl⟩, by omega, h⟩
  case round =>
    obtain ⟨q, f, n, b, rfl, rfl, rfl, hB, hn, HN, hf, hq⟩ := hrel
    have zz := hB.size
    by_cases hp : q < s.size
    · obtain ⟨f, rfl⟩ : ∃ g, f = g + 1 := ⟨f - 1, by omega⟩
      have hw := width_pos s q hp
      have hw2 := dec_le s q hp
      have c3 : Hid (∀ W, Calls Tryd.prog 58 #[.string s, .int .i64 q] W fun e w' => e = .returned (.int .i32 (rn s q)) ∧ Below W.heap.size W w') := fun W => refRune_any s q W hs0 hq
      have c4 : Hid (∀ W, Calls Tryd.prog 85 #[.int .i32 (rn s q)] W fun e w' => e = .returned (.tuple #[.int .i64 (digV (Utf8.decode s q).1), .int .i32 (digZ (Utf8.decode s q).1)]) ∧ w' = W) := fun W => by
        rw [← digV_rn s q hp, ← digZ_rn s q hp]; exact digit_any _ W
      have c5 : Hid (∀ W, Calls Tryd.prog 54 #[.string s, .int .i64 q] W fun e w' => e = .returned (.int .i64 (wd s q)) ∧ Below W.heap.size W w') := fun W => refWidth_in s q W hp hs0
      have HG : Hid (digZ (Utf8.decode s q).1 = z → wd s q = (Utf8.decode s q).2) := fun hz => by
        have hb : bad s q = false := by
          cases hb : bad s q
          · rfl
          · rw [bad_eq hb] at hz
            exact absurd hz (by have := H0.out; intro e; exact this (by rw [← e]; decide))
        simp [wd, hb]
      have hx1 : Hid (¬ digZ (Utf8.decode s q).1 = z → nuF s z (f + 1) q n = (n, q, 0)) := nuF_off s z (f + 1) q n
      have hx2 : Hid (digZ (Utf8.decode s q).1 = z → 18446744073709551615 < n * 10 + (digV (Utf8.decode s q).1).toNat → nuF s z (f + 1) q n = (0, 0, 10)) := nuF_large s z f q n hp
      have hx3 : Hid (digZ (Utf8.decode s q).1 = z → ¬ 18446744073709551615 < n * 10 + (digV (Utf8.decode s q).1).toNat → nuF s z (f + 1) q n = nuF s z f (q + (Utf8.decode s q).2) (n * 10 + (digV (Utf8.decode s q).1).toNat)) := nuF_on s z f q n hp
      generalize rn s q = rr at *
      generalize wd s q = u at *
      generalize (Utf8.decode s q).2 = v at *
      generalize ((Utf8.decode s q).1 : Int) = r2 at *
      by_cases hz : digZ r2 = z
      · rw [hz] at c4
        rw [HG.out hz] at c5
        have hdv := digV_eq r2 (by rw [hz]; exact H0.out)
        have HZ : Hid (digZ r2 = z) := hz
        obtain ⟨hd0, hd9⟩ := hdv.2
        clear hz HG hx1 hdv
        have hx2' : Hid ((18446744073709551615 : Int) < (n : Int) * 10 + digV r2 → nuF s z (f + 1) q n = (0, 0, 10)) := fun hl => hx2.out HZ.out (by omega)
        have hx3' : Hid (¬ (18446744073709551615 : Int) < (n : Int) * 10 + digV r2 → nuF s z (f + 1) q n = nuF s z f (q + v) (n * 10 + (digV r2).toNat)) := fun hl => hx3.out HZ.out (by omega)
        clear hx2 hx3 HZ
        generalize digV r2 = d at *
        have HL : Hid ((18446744073709551615 : Int) < (n : Int) * 10 + d → (b = true ∨ nuF s z s.size pos 0 = (0, 0, 10)) ∧ nuF s z s.size pos 0 = (0, 0, 10)) := fun hl => by
          rcases HN.out with ⟨_, e⟩ | ⟨eb, e⟩
          · have := e.symm.trans (hx2'.out hl)
            exact ⟨.inr this, this⟩
          · exact ⟨.inl eb, e⟩
        have HK : Hid (¬ (18446744073709551615 : Int) < (n : Int) * 10 + d → (b = false ∧ nuF s z f (q + v) (n * 10 + d.toNat) = nuF s z s.size pos 0) ∨ (b = true ∧ nuF s z s.size pos 0 = (0, 0, 10))) := fun hl => by
          rcases HN.out with ⟨eb, e⟩ | ⟨eb, e⟩
          · exact .inl ⟨eb, (hx3'.out hl).symm.trans e⟩
          · exact .inr ⟨eb, e⟩
        clear HN hx2' hx3'
        by_cases h1 : (1844674407370955161 : Int) < (n : Int)
        · go_wp2_with (first | (go_at_call 58; refine (c3.out _).mono ?_; rintro e w3 ⟨rfl, hb3⟩) | (go_at_call 85; refine (c4.out _).mono ?_; rintro e w4 ⟨rfl, hw4⟩; obtain rfl := hw4.symm) | (go_at_call 54; refine (c5.out _).mono ?_; rintro e w5 ⟨rfl, hb5⟩))
          obtain ⟨m, em, hm⟩ := u64_nat (IntKind.u64.wrap (10 * (n : Int)) + d)
          have z3 := hb3.size
          exact ⟨⟨q + v, f, m, true, by go_num, congrArg (Value.int .u64) em, rfl, (hB.trans (hb3.mono zz)).trans (hb5.mono (by omega)), hm, .inr ⟨rfl, (HL.out (by omega)).2⟩, by omega, by omega⟩, by simp [RowKit.intOf]; omega⟩
        · by_cases h2 : (n : Int) = 1844674407370955161
          · obtain rfl : n = 1844674407370955161 := by omega
            clear h1 h2
            by_cases h3 : 5 < d
            · go_wp2_with (first | (go_at_call 58; refine (c3.out _).mono ?_; rintro e w3 ⟨rfl, hb3⟩) | (go_at_call 85; refine (c4.out _).mono ?_; rintro e w4 ⟨rfl, hw4⟩; obtain rfl := hw4.symm) | (go_at_call 54; refine (c5.out _).mono ?_; rintro e w5 ⟨rfl, hb5⟩))
              obtain ⟨m, em, hm⟩ := u64_nat (18446744073709551610 + d)
              have z3 := hb3.size
              exact ⟨⟨q + v, f, m, true, by go_num, congrArg (Value.int .u64) em, rfl, (hB.trans (hb3.mono zz)).trans (hb5.mono (by omega)), hm, .inr ⟨rfl, (HL.out (by omega)).2⟩, by omega, by omega⟩, by simp [RowKit.intOf]; omega⟩
            · go_wp2_with (first | (go_at_call 58; refine (c3.out _).mono ?_; rintro e w3 ⟨rfl, hb3⟩) | (go_at_call 85; refine (c4.out _).mono ?_; rintro e w4 ⟨rfl, hw4⟩; obtain rfl := hw4.symm) | (go_at_call 54; refine (c5.out _).mono ?_; rintro e w5 ⟨rfl, hb5⟩))
              have z3 := hb3.size
              exact ⟨⟨q + v, f, 1844674407370955161 * 10 + d.toNat, b, by go_num, congrArg (Value.int .u64) (by omega), rfl, (hB.trans (hb3.mono zz)).trans (hb5.mono (by omega)), by omega, HK.out (by omega), by omega, by omega⟩, by simp [RowKit.intOf]; omega⟩
          · have h2' : ((n : Int) == 1844674407370955161) = false := by simpa using h2
            have hle : 10 * (n : Int) + d ≤ 18446744073709551615 := by omega
            go_wp2_with (first | (go_at_call 58; refine (c3.out _).mono ?_; rintro e w3 ⟨rfl, hb3⟩) | (go_at_call 85; refine (c4.out _).mono ?_; rintro e w4 ⟨rfl, hw4⟩; obtain rfl := hw4.symm) | (go_at_call 54; refine (c5.out _).mono ?_; rintro e w5 ⟨rfl, hb5⟩))
            have z3 := hb3.size
            exact ⟨⟨q + v, f, n * 10 + d.toNat, b, by go_num, congrArg (Value.int .u64) (by omega), rfl, (hB.trans (hb3.mono zz)).trans (hb5.mono (by omega)), by omega, HK.out (by omega), by omega, by omega⟩, by simp [RowKit.intOf]; omega⟩
      · have hne : (digZ r2 != z) = true := by simpa using hz
        have HE : Hid (nuF s z (f + 1) q n = (n, q, 0)) := hx1.out hz
        clear hx1 hx2 hx3 HG hz c5
        generalize digZ r2 = z2 at *
        generalize digV r2 = d at *
        cases b
        · go_wp2_with (first | (go_at_call 58; refine (c3.out _).mono ?_; rintro e w3 ⟨rfl, hb3⟩) | (go_at_call 85; refine (c4.out _).mono ?_; rintro e w4 ⟨rfl, hw4⟩; obtain rfl := hw4.symm))
          go_ret3
          have hv : nuF s z s.size pos 0 = (n, q, 0) := by
            rcases HN.out with ⟨_, e⟩ | ⟨eb, _⟩
            · exact e.symm.trans HE.out
            · cases eb
          exact ⟨ret3 (by rw [hv]) (by rw [hv]) (by rw [hv]), hB.trans (hb3.mono zz)⟩
        · go_wp2_with (first | (go_at_call 58; refine (c3.out _).mono ?_; rintro e w3 ⟨rfl, hb3⟩) | (go_at_call 85; refine (c4.out _).mono ?_; rintro e w4 ⟨rfl, hw4⟩; obtain rfl := hw4.symm))
          go_ret3
          have hv : nuF s z s.size pos 0 = (0, 0, 10) := by
            rcases HN.out with ⟨eb, _⟩ | ⟨_, e⟩
            · cases eb
            · exact e
          exact ⟨ret3 (by rw [hv]; rfl) (by rw [hv]; rfl) (by rw [hv]), hB.trans (hb3.mono zz)⟩
    · cases b
      · go_wp2
        go_ret3
        have hv : nuF s z s.size pos 0 = (n, q, 0) := by
          rcases HN.out with ⟨_, e⟩ | ⟨eb, _⟩
          · exact e.symm.trans (nuF_end s z f q n hp)
          · cases eb
        exact ⟨ret3 (by rw [hv]) (by rw [hv]) (by rw [hv]), hB⟩
      · go_wp2
        go_ret3
        have hv : nuF s z s.size pos 0 = (0, 0, 10) := by
          rcases HN.out with ⟨eb, _⟩ | ⟨_, e⟩
          · cases eb
          · exact e
        exact ⟨ret3 (by rw [hv]; rfl) (by rw [hv]; rfl) (by rw [hv]), hB⟩

theorem refNumber_any (s : ByteArray) (at_ : Int) (w : World) (hs : s.size ≤ maxLen) :
    Calls Tryd.prog 173 #[.string s, .int .i64 at_] w fun e w' => e = .returned (.tuple #[.int .u64 (numI s at_).1, .int .i64 (numI s at_).2.1, .int .i64 (numI s at_).2.2]) ∧ Below w.heap.size w w' := by
  by_cases h : at_ < 0 ∨ (s.size : Int) < at_
  · have hv : numI s at_ = (0, 0, 2) := by simp [numI, h]
    rw [hv]
    exact refNumber_out s at_ w h
  · have hv : numI s at_ = numP s at_.toNat := by simp [numI, h]
    rw [hv]
    by_cases hz : digZ (rn s at_.toNat) = 0
    · have hv2 : numP s at_.toNat = (0, 0, 11) := by simp [numP, hz]
      rw [hv2]
      have := refNumber_none s at_.toNat w (by omega) hs hz
      rw [Int.toNat_of_nonneg (by omega)] at this
      exact this
    · have hv2 : numP s at_.toNat = nuF s (digZ (rn s at_.toNat)) s.size at_.toNat 0 := by simp [numP, hz]
      rw [hv2]
      have := refNumber_some s at_.toNat w (by omega) hs _ rfl hz
      rw [Int.toNat_of_nonneg (by omega)] at this
      exact this
end Go.Proofs.YtjmccobblpcbhaaDoor

set_option linter.unusedSimpArgs false
set_option linter.unusedVariables false
namespace Go.Proofs.YtjmccobblpcbhaaDoor
open Go.RowKit Go.Lib Go.Sort

theorem psAt_in (s : ByteArray) (pat : Bool) (most p : Nat) (r : Int) : psAt s pat most p r ≠ .out := by
  unfold psAt
  split
  · intro h; cases h
  · split
    · intro h; cases h
    · split <;> (intro h; cases h)

/-- What nextUpTo does. -/
def NuP (w : World) (B : Nat) (s : ByteArray) (pat : Bool) (st : Ps) (v : Value) (x : Pr Tk) (e : Ending) (w' : World) : Prop :=
  Ends x e (fun t => e = .returned (.tuple #[]) ∧ PsM w' B s pat { st with now := t } v) ∧ w.grownBy w' (some B)

set_option maxRecDepth 20000 in
set_option maxHeartbeats 4000000 in
theorem nextUp_any (w0 w : World) (B : Nat) (s : ByteArray) (pat : Bool) (st : Ps) (v : Value) (most : Nat) (hE : PEnv w0 B w) (hM : PsM w B s pat st v) (hs : s.size ≤ 4096) (hto : st.now.to ≤ s.size) (hm : most ≤ 9223372036854775808) :
    Calls Tryd.prog 123 #[.pointer (some ⟨B, 0, none⟩), .int .u64 most] w fun e w' => NuP w B s pat st v (psNext s pat most st.now.to) e w' := by
  have c0 := hM.tx.text
  have c4 : w.cell? ⟨B, 4, none⟩ = some (.int .i64 (st.now.to : Int)) := hM.cell 4
  have hBl := hM.lt
  have hBn : B ≠ w.heap.size := by omega
  have HM : Hid (PsM w B s pat st v) := hM
  have HE : Hid (PEnv w0 B w) := hE
  obtain ⟨X, hX⟩ : ∃ X, psNext s pat most st.now.to = X := ⟨_, rfl⟩
  have HX : Hid (X = psFrom s pat most (psSkip s s.size st.now.to)) := hX.symm
  rw [hX]
  clear hX
  generalize hto' : st.now.to = to at *
  obtain ⟨t, ht⟩ : ∃ t, s.extract to s.size = t := ⟨_, rfl⟩
  have hts : t.size = s.size - to := by rw [← ht]; exact tail_size s to
  have HT : Hid (s.extract to s.size = t) := ht
  have HD : Hid (∀ i, Utf8.decode t i = Utf8.decode s (to + i)) := fun i => by rw [← ht]; exact dec_tail s to i
  clear hto' hM hE ht
  go_enter Tryd.func123, Tryd.ntmps123
  go_wp2_with fail
  rw [HT.out]
  go_loopw [] (fun wr => ∃ pos f : Nat, It w t pos wr ∧ Hid (psSkip s f (to + pos) = psSkip s s.size to) ∧ s.size ≤ to + pos + f ∧ pos ≤ t.size) (fun wr => t.size - wr.iterPos w.heap.size)
  case atStart => exact ⟨0, s.size, It.start w t, rfl, by omega, by omega⟩
  case round =>
    obtain ⟨pos, f, hI, hsk, hf, hpt⟩ := hrel
    have hit := hI.at_
    by_cases hp : pos < t.size
    · have hnx : ∀ ty, (Instr.next (.pointer (some ⟨w.heap.size, 0, none⟩)) true ty).run Tryd.prog wr = _ := fun ty => run_next_any_at wr w.heap.size t pos ty hit hp
      have hwd := width_pos t pos hp
      have hle := dec_le t pos hp
      have hps : to + pos < s.size := by omega
      obtain ⟨f, rfl⟩ : ∃ g, f = g + 1 := ⟨f - 1, by omega⟩
      have hst := psSkip_step s f (to + pos) hps
      rw [← HD.out pos] at hst
      have hI2 := hI.next (pos + (Utf8.decode t pos).2)
      have hpos := hI.pos
      have HR : Hid (((Utf8.decode s (to + pos)).1 : Int) = ((Utf8.decode t pos).1 : Int)) := by show _ = _; rw [HD.out pos]
      generalize hw2 : (Utf8.decode t pos).2 = wd at *
      generalize hr2 : ((Utf8.decode t pos).1 : Int) = r at *
      clear hw2 hr2
      have HST : Hid (psSkip s (f + 1) (to + pos) = if kd r = 3 then psSkip s f (to + pos + wd) else to + pos) := hst
      have hTab : Tabs (wr.iterAt w.heap.size t (pos + wd)) := HE.out.tab.below hI2.below
      have cK := kind_any r _ hTab.spans
      have HI2 : Hid (It w t (pos + wd) (wr.iterAt w.heap.size t (pos + wd))) := hI2
      clear hst hI hI2
      by_cases hk : kd r = 3
      · rw [hk] at cK
        have HSK : Hid (psSkip s f (to + (pos + wd)) = psSkip s s.size to) := by show _ = _; rw [← hsk.out, HST.out, if_pos hk, Nat.add_assoc]
        clear hk hsk HST
        go_wp2_with (go_at_call 104; refine cK.mono ?_; rintro e w2 ⟨rfl, hb2⟩)
        exact ⟨⟨pos + wd, f, HI2.out.call hb2, HSK.out, by omega, by omega⟩, by rw [(HI2.out.call hb2).pos, hpos]; omega⟩
      · have HXX : Hid (X = psAt s pat most (to + pos) r) := by
          show X = _
          rw [HX.out, ← hsk.out, HST.out, if_neg hk]
          unfold psFrom
          rw [if_pos hps, HR.out]
        have HNO : Hid (X ≠ .out) := by show X ≠ _; rw [HXX.out]; exact psAt_in _ _ _ _ _
        have hkb : (kd r != 3) = true := by simpa using hk
        generalize kd r = kr at *
        clear hk hsk HST
        go_wp2_with (go_at_call 104; refine cK.mono ?_; rintro e w2 ⟨rfl, hb2⟩)
        have hI3 := HI2.out.call hb2
        have hM2 := HM.out.below hI3.below
        have hbw2 : RowKit.Below w.heap.size w w2 := hI3.below
        have cA := at_any w2 B s pat most (to + pos) r (HE.out.tab.below hI3.below) hM2.tx hps hs hm HR.out
        rw [← HXX.out, Int.natCast_add] at cA
        have HM2 : Hid (PsM w2 B s pat st v) := hM2
        have HB2 : Hid (RowKit.Below w.heap.size w w2) := hbw2
        have hB2 := hM2.lt
        clear hI3 hM2 hbw2 HI2 HXX HX cK
        cases X with
        | ok tk =>
          have cA' : Calls Tryd.prog 141 #[.pointer (some ⟨B, 0, none⟩), .int .i64 ((to : Int) + (pos : Int)), .int .i32 r, .int .u64 most] w2 fun e w' => e = .returned (.agg #[.int .i32 tk.what, .int .i64 tk.from_, .int .i64 tk.to, .int .u64 tk.n, .int .i64 tk.err]) ∧ Below w2.heap.size w2 w' := cA
          clear cA
          go_wp2_with (go_at_call 141; refine cA'.mono ?_; rintro e w3 ⟨rfl, hb3⟩; have q2 : w3.cell? ⟨B, 2, none⟩ = some (.int .i32 st.now.what) := (HM2.out.below hb3).cell 2; have q3 : w3.cell? ⟨B, 3, none⟩ = some (.int .i64 st.now.from_) := (HM2.out.below hb3).cell 3; have q4 : w3.cell? ⟨B, 4, none⟩ = some (.int .i64 st.now.to) := (HM2.out.below hb3).cell 4; have q5 : w3.cell? ⟨B, 5, none⟩ = some (.int .u64 st.now.n) := (HM2.out.below hb3).cell 5; have q6 : w3.cell? ⟨B, 6, none⟩ = some (.int .i64 st.now.err) := (HM2.out.below hb3).cell 6; have qf := (HM2.out.below hb3).frozen)
          go_end0
          exact ⟨⟨rfl, (HM2.out.below hb3).tok tk⟩, gr_setNow (gr_of_below (HB2.out.trans (hb3.mono HB2.out.size)) _) tk⟩
        | bad p er =>
          have cA' : Calls Tryd.prog 141 #[.pointer (some ⟨B, 0, none⟩), .int .i64 ((to : Int) + (pos : Int)), .int .i32 r, .int .u64 most] w2 fun e w' => e = .panicked [{ v := fltV p er, recovered := false }] ∧ Below w2.heap.size w2 w' := cA
          clear cA
          go_wp2_with (go_at_call 141; refine cA'.mono ?_; rintro e w3 ⟨rfl, hb3⟩)
          exact ⟨rfl, rfl, gr_of_below (HB2.out.trans (hb3.mono HB2.out.size)) _⟩
        | out => exact absurd rfl HNO.out
    · have hnx : ∀ ty, (Instr.next (.pointer (some ⟨w.heap.size, 0, none⟩)) true ty).run Tryd.prog wr = _ := fun ty => run_next_end_at wr w.heap.size t pos ty hit hp
      have hXe : X = .ok (psEnd s) := by
        rw [HX.out, ← hsk.out, psSkip_end s f (to + pos) (by omega)]
        unfold psFrom
        rw [if_neg (by omega)]
      subst hXe
      have hM2 := HM.out.below hI.below
      have g0 := cell_regrown hM2.tx.text
      have HM2 : Hid (PsM wr B s pat st v) := hM2
      have HB2 : Hid (RowKit.Below w.heap.size w wr) := hI.below
      have hB2 := hM2.lt
      clear hsk hI hM2 HX
      go_wp2_with fail
      refine wp_region_quiet_then 14 (by kernel_rfl) (by kernel_rfl) ?_
      simp only [List.take_succ_cons, List.take_zero]
      iterate 14 (go_big_quiet_step (fail))
      refine wpQuiet_nil ?_
      intro w' hw'
      obtain ⟨⟨dq, osq⟩, hw''⟩ := hw'
      subst hw''
      simp only [List.drop_succ_cons, List.drop_zero]
      obtain ⟨w5, hw5⟩ : ∃ w5, grow (redrawn wr dq) osq = w5 := ⟨_, rfl⟩
      rw [hw5]
      have hb5 : RowKit.Below wr.heap.size wr w5 := by rw [← hw5]; exact below_regrown wr dq osq
      have hM5 := HM2.out.below hb5
      have q2 : w5.cell? ⟨B, 2, none⟩ = some (.int .i32 st.now.what) := hM5.cell 2
      have q3 : w5.cell? ⟨B, 3, none⟩ = some (.int .i64 st.now.from_) := hM5.cell 3
      have q4 : w5.cell? ⟨B, 4, none⟩ = some (.int .i64 st.now.to) := hM5.cell 4
      have q5 : w5.cell? ⟨B, 5, none⟩ = some (.int .u64 st.now.n) := hM5.cell 5
      have q6 : w5.cell? ⟨B, 6, none⟩ = some (.int .i64 st.now.err) := hM5.cell 6
      have qf := hM5.frozen
      have HFI : Hid (PsM (setNow w5 B (psEnd s)) B s pat { st with now := psEnd s } v) := hM5.tok (psEnd s)
      have HBI : Hid (w.grownBy (setNow w5 B (psEnd s)) (some B)) := gr_setNow (gr_of_below (HB2.out.trans (hb5.mono HB2.out.size)) _) _
      clear hM5 hw5 g0 hb5
      go_wp2_with fail
      go_end0
      exact ⟨⟨rfl, HFI.out⟩, HBI.out⟩
end Go.Proofs.YtjmccobblpcbhaaDoor

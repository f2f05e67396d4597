/-
  What the document's Span and Name answer, for every text and place.
-/
import Derived.Test.YtpdohdmpjaklgaaDoorMSpanW
set_option linter.unusedSimpArgs false
set_option linter.unusedVariables false
namespace Go.Proofs.YtpdohdmpjaklgaaDoor
open Go.RowKit Go.Lib

set_option maxHeartbeats 1000000 in
theorem refSpan_out (s : ByteArray) (at_ : Int) (w : World) (h : at_ < 0 ∨ (s.size : Int) < at_) :
    Calls Tryd.prog 58 #[.string s, .int .i64 at_] w fun e w' => e = .returned (.tuple #[.int .i64 0, .int .i64 2]) ∧ Below w.heap.size w w' := by
  by_cases h0 : at_ < 0
  · go_enter Tryd.func58, Tryd.ntmps58
    go_wp2
    go_ret2
    exact ⟨rfl, Below.refl _ _⟩
  · have h1 : (s.size : Int) < at_ := by omega
    clear h
    go_enter Tryd.func58, Tryd.ntmps58
    go_wp2
    go_ret2
    exact ⟨rfl, Below.refl _ _⟩

set_option maxHeartbeats 1000000 in
theorem refSpan_in (s : ByteArray) (pos : Nat) (w : World) (h : pos ≤ s.size) (hs : s.size ≤ maxLen) :
    Calls Tryd.prog 58 #[.string s, .int .i64 pos] w fun e w' => e = .returned (.tuple #[.int .i64 (spanP s pos).1, .int .i64 (spanP s pos).2]) ∧ Below w.heap.size w w' := by
  have hs0 := hs
  unfold maxLen at hs
  have hpz : (pos : Int) ≤ (s.size : Int) := by omega
  have hd0 : decide ((pos : Int) < 0) = false := by simp
  have hd1 : decide (s.size < pos) = false := by simp; omega
  have c1 : Hid (∀ W, Calls Tryd.prog 34 #[.string s, .int .i64 pos] W fun e w' => e = .returned (.int .i32 (rn s pos)) ∧ Below W.heap.size W w') := fun W => refRune_any s pos W hs0 h
  have HP : Hid (spanP s pos = if kd (rn s pos) = 1 then (((spF s s.size pos : Nat) : Int), 0) else (0, 11)) := rfl
  generalize rn s pos = r at *
  have c2 : Hid (∀ W, Calls Tryd.prog 35 #[.int .i32 r] W fun e w' => e = .returned (.int .i64 (kd r)) ∧ Below W.heap.size W w') := refKind_kd r
  by_cases h1 : kd r = 1
  · rw [h1] at c2
    have hv : spanP s pos = (((spF s s.size pos : Nat) : Int), 0) := by rw [HP.out, if_pos h1]
    rw [hv]
    clear hv h1 HP
    go_enter Tryd.func58, Tryd.ntmps58
    go_wp2_with (first | (go_at_call 34; refine (c1.out _).mono ?_; rintro e w1 ⟨rfl, hb1⟩) | (go_at_call 35; refine (c2.out _).mono ?_; rintro e w2 ⟨rfl, hb2⟩))
    clear c1 c2
    have hB2 : Below w.heap.size w w2 := hb1.trans (hb2.mono hb1.size)
    go_loopw [1] (fun p w' => ∃ (q f : Nat), p = .int .i64 q ∧ Below w.heap.size w w' ∧ Hid (spF s f q = spF s s.size pos) ∧ s.size ≤ q + f ∧ q ≤ s.size) (fun p _ => s.size - (RowKit.intOf p).toNat)
    case atStart => exact ⟨pos, s.size, rfl, hB2, rfl, by omega, h⟩
    case round =>
      obtain ⟨q, f, rfl, hB, HN, hf, hqS⟩ := hrel
      have z := hB.size
      by_cases hp : q < s.size
      · obtain ⟨f, rfl⟩ : ∃ g, f = g + 1 := ⟨f - 1, by omega⟩
        have hw := width_pos s q hp
        have hw2 := dec_le s q hp
        have c3 : Hid (∀ W, Calls Tryd.prog 34 #[.string s, .int .i64 q] W fun e w' => e = .returned (.int .i32 (rn s q)) ∧ Below W.heap.size W w') := fun W => refRune_any s q W hs0 hqS
        have c4 : Hid (∀ W, Calls Tryd.prog 36 #[.int .i32 (rn s q)] W fun e w' => e = .returned (.bool (onB (Utf8.decode s q).1)) ∧ Below W.heap.size W w') := fun W => by
          rw [← onB_rn s q hp]; exact behind_any _ W
        have c5 : Hid (∀ W, Calls Tryd.prog 37 #[.string s, .int .i64 q] W fun e w' => e = .returned (.int .i64 (wd s q)) ∧ Below W.heap.size W w') := fun W => refWidth_in s q W hp hs0
        generalize rn s q = rr at *
        cases ho : onB (Utf8.decode s q).1
        · rw [ho] at c4
          have hx : Hid (spF s (f + 1) q = q) := spF_off s (f + 1) q hp ho
          clear ho c5 hw hw2
          go_wp2_with (first | (go_at_call 34; refine (c3.out _).mono ?_; rintro e w3 ⟨rfl, hb3⟩) | (go_at_call 36; refine (c4.out _).mono ?_; rintro e w4 ⟨rfl, hb4⟩))
          go_ret2
          have z3 := hb3.size
          exact ⟨ret2 (by rw [← HN.out, hx.out]) rfl, (hB.trans (hb3.mono z)).trans (hb4.mono (by omega))⟩
        · rw [ho] at c4
          have hd : wd s q = (Utf8.decode s q).2 := by simp [wd, good_of_on s q ho]
          rw [hd] at c5
          have hx : Hid (spF s f (q + (Utf8.decode s q).2) = spF s s.size pos) := (spF_on s f q hp ho).symm.trans HN.out
          clear ho hd
          generalize (Utf8.decode s q).2 = v at *
          go_wp2_with (first | (go_at_call 34; refine (c3.out _).mono ?_; rintro e w3 ⟨rfl, hb3⟩) | (go_at_call 36; refine (c4.out _).mono ?_; rintro e w4 ⟨rfl, hb4⟩) | (go_at_call 37; refine (c5.out _).mono ?_; rintro e w5 ⟨rfl, hb5⟩))
          have z3 := hb3.size
          have z4 := hb4.size
          exact ⟨⟨q + v, f, by go_num, ((hB.trans (hb3.mono z)).trans (hb4.mono (by omega))).trans (hb5.mono (by omega)), hx, by omega, by omega⟩, by simp [RowKit.intOf]; omega⟩
      · go_wp2
        go_ret2
        exact ⟨ret2 (by rw [← HN.out, spF_end s f q hp]) rfl, hB⟩
  · have hv : spanP s pos = (0, 11) := by rw [HP.out, if_neg h1]
    rw [hv]
    clear hv HP
    have hne : (kd r != 1) = true := by simpa using h1
    generalize kd r = kk at *
    go_enter Tryd.func58, Tryd.ntmps58
    go_wp2_with (first | (go_at_call 34; refine (c1.out _).mono ?_; rintro e w1 ⟨rfl, hb1⟩) | (go_at_call 35; refine (c2.out _).mono ?_; rintro e w2 ⟨rfl, hb2⟩))
    go_ret2
    exact ⟨rfl, hb1.trans (hb2.mono hb1.size)⟩

theorem refSpan_any (s : ByteArray) (at_ : Int) (w : World) (hs : s.size ≤ maxLen) :
    Calls Tryd.prog 58 #[.string s, .int .i64 at_] w fun e w' => e = .returned (.tuple #[.int .i64 (spanI s at_).1, .int .i64 (spanI s at_).2]) ∧ Below w.heap.size w w' := by
  by_cases h : at_ < 0 ∨ (s.size : Int) < at_
  · have hv : spanI s at_ = (0, 2) := by simp [spanI, h]
    rw [hv]
    exact refSpan_out s at_ w h
  · have hv : spanI s at_ = spanP s at_.toNat := by simp [spanI, h]
    rw [hv]
    have := refSpan_in s at_.toNat w (by omega) hs
    rw [Int.toNat_of_nonneg (by omega)] at this
    exact this
end Go.Proofs.YtpdohdmpjaklgaaDoor

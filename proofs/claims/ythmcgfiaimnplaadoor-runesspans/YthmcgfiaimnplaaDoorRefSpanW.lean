/-
  What the document's Span and Name answer, for every text and place.
-/
import Derived.Test.YthmcgfiaimnplaaDoorSpanW
set_option linter.unusedSimpArgs false
set_option linter.unusedVariables false
namespace Go.Proofs.YthmcgfiaimnplaaDoor
open Go.RowKit Go.Lib

theorem good_of_on (s : ByteArray) (p : Nat) (h : onB (Utf8.decode s p).1 = true) : bad s p = false := by
  cases hb : bad s p
  · rfl
  · rw [bad_eq hb] at h; exact absurd h (by decide)
theorem refKind_kd (r : Int) (w : World) :
    Calls Tryd.prog 19 #[.int .i32 r] w fun e w' => e = .returned (.int .i64 (kd r)) ∧ Below w.heap.size w w' := by
  rw [kd_eq]; exact refKind_any r w

set_option maxHeartbeats 1000000 in
theorem refSpan_out (s : ByteArray) (at_ : Int) (w : World) (h : at_ < 0 ∨ (s.size : Int) < at_) :
    Calls Tryd.prog 13 #[.string s, .int .i64 at_] w fun e w' => e = .returned (.tuple #[.int .i64 0, .int .i64 2]) ∧ Below w.heap.size w w' := by
  by_cases h0 : at_ < 0
  · go_enter Tryd.func13, Tryd.ntmps13
    go_wp2
    go_ret2
    exact ⟨rfl, Below.refl _ _⟩
  · have h1 : (s.size : Int) < at_ := by omega
    clear h
    go_enter Tryd.func13, Tryd.ntmps13
    go_wp2
    go_ret2
    exact ⟨rfl, Below.refl _ _⟩

set_option maxHeartbeats 1000000 in
theorem refSpan_in (s : ByteArray) (pos : Nat) (w : World) (h : pos ≤ s.size) (hs : s.size ≤ maxLen) :
    Calls Tryd.prog 13 #[.string s, .int .i64 pos] w fun e w' => e = .returned (.tuple #[.int .i64 (spanP s pos).1, .int .i64 (spanP s pos).2]) ∧ Below w.heap.size w w' := by
  have hs0 := hs
  unfold maxLen at hs
  have hpz : (pos : Int) ≤ (s.size : Int) := by omega
  have hd0 : decide ((pos : Int) < 0) = false := by simp
  have hd1 : decide (s.size < pos) = false := by simp; omega
  have c1 : Hid (∀ W, Calls Tryd.prog 29 #[.string s, .int .i64 pos] W fun e w' => e = .returned (.int .i32 (rn s pos)) ∧ Below W.heap.size W w') := fun W => refRune_any s pos W hs0 h
  have HP : Hid (spanP s pos = if kd (rn s pos) = 1 then (((spF s s.size pos : Nat) : Int), 0) else (0, 11)) := rfl
  generalize rn s pos = r at *
  have c2 : Hid (∀ W, Calls Tryd.prog 19 #[.int .i32 r] W fun e w' => e = .returned (.int .i64 (kd r)) ∧ Below W.heap.size W w') := refKind_kd r
  by_cases h1 : kd r = 1
  · rw [h1] at c2
    have hv : spanP s pos = (((spF s s.size pos : Nat) : Int), 0) := by rw [HP.out, if_pos h1]
    rw [hv]
    clear hv h1 HP
    go_enter Tryd.func13, Tryd.ntmps13
    go_wp2_with (first | (go_at_call 29; refine (c1.out _).mono ?_; rintro e w1 ⟨rfl, hb1⟩) | (go_at_call 19; refine (c2.out _).mono ?_; rintro e w2 ⟨rfl, hb2⟩))
    clear c1 c2
    have hB2 : Below w.heap.size w w2 := hb1.trans (hb2.mono hb1.size)
    go_loopw [1] (fun p w' => ∃ (q f : Nat), p = .int .i64 q ∧ Below w.heap.size w w' ∧ Hid (spF s f q = spF s s.size pos) ∧ s.size ≤ q + f ∧ q ≤ s.size) (fun p _ => s.size - (RowKit.intOf p).toNat)
    case atStart => exact ⟨pos, s.size, rfl, hB2, rfl, by omega, h⟩
    case round =>
      obtain ⟨q, f, rfl, hB, HN, hf, hqS⟩ := hrel
      have z := hB.size
      by_cases hp : q < s.size
      · obtain ⟨f, rfl⟩ : ∃ g, f = g + 1 := ⟨f - 1, by omega⟩
        have hw := width_pos s q hp
        have hw2 := dec_le s q hp
        have c3 : Hid (∀ W, Calls Tryd.prog 29 #[.string s, .int .i64 q] W fun e w' => e = .returned (.int .i32 (rn s q)) ∧ Below W.heap.size W w') := fun W => refRune_any s q W hs0 hqS
        have c4 : Hid (∀ W, Calls Tryd.prog 30 #[.int .i32 (rn s q)] W fun e w' => e = .returned (.bool (onB (Utf8.decode s q).1)) ∧ Below W.heap.size W w') := fun W => by
          rw [← onB_rn s q hp]; exact behind_any _ W
        have c5 : Hid (∀ W, Calls Tryd.prog 25 #[.string s, .int .i64 q] W fun e w' => e = .returned (.int .i64 (wd s q)) ∧ Below W.heap.size W w') := fun W => refWidth_in s q W hp hs0
        generalize rn s q = rr at *
        cases ho : onB (Utf8.decode s q).1
        · rw [ho] at c4
          have hx : Hid (spF s (f + 1) q = q) := spF_off s (f + 1) q hp ho
          clear ho c5 hw hw2
          go_wp2_with (first | (go_at_call 29; refine (c3.out _).mono ?_; rintro e w3 ⟨rfl, hb3⟩) | (go_at_call 30; refine (c4.out _).mono ?_; rintro e w4 ⟨rfl, hb4⟩))
          go_ret2
          have z3 := hb3.size
          exact ⟨ret2 (by rw [← HN.out, hx.out]) rfl, (hB.trans (hb3.mono z)).trans (hb4.mono (by omega))⟩
        · rw [ho] at c4
          have hd : wd s q = (Utf8.decode s q).2 := by simp [wd, good_of_on s q ho]
          rw [hd] at c5
          have hx : Hid (spF s f (q + (Utf8.decode s q).2) = spF s s.size pos) := (spF_on s f q hp ho).symm.trans HN.out
          clear ho hd
          generalize (Utf8.decode s q).2 = v at *
          go_wp2_with (first | (go_at_call 29; refine (c3.out _).mono ?_; rintro e w3 ⟨rfl, hb3⟩) | (go_at_call 30; refine (c4.out _).mono ?_; rintro e w4 ⟨rfl, hb4⟩) | (go_at_call 25; refine (c5.out _).mono ?_; rintro e w5 ⟨rfl, hb5⟩))
          have z3 := hb3.size
          have z4 := hb4.size
          exact ⟨⟨q + v, f, by go_num, ((hB.trans (hb3.mono z)).trans (hb4.mono (by omega))).trans (hb5.mono (by omega)), hx, by omega, by omega⟩, by simp [RowKit.intOf]; omega⟩
      · go_wp2
        go_ret2
        exact ⟨ret2 (by rw [← HN.out, spF_end s f q hp]) rfl, hB⟩
  · have hv : spanP s pos = (0, 11) := by rw [HP.out, if_neg h1]
    rw [hv]
    clear hv HP
    have hne : (kd r != 1) = true := by simpa using h1
    generalize kd r = kk at *
    go_enter Tryd.func13, Tryd.ntmps13
    go_wp2_with (first | (go_at_call 29; refine (c1.out _).mono ?_; rintro e w1 ⟨rfl, hb1⟩) | (go_at_call 19; refine (c2.out _).mono ?_; rintro e w2 ⟨rfl, hb2⟩))
    go_ret2
    exact ⟨rfl, hb1.trans (hb2.mono hb1.size)⟩

theorem refSpan_any (s : ByteArray) (at_ : Int) (w : World) (hs : s.size ≤ maxLen) :
    Calls Tryd.prog 13 #[.string s, .int .i64 at_] w fun e w' => e = .returned (.tuple #[.int .i64 (spanI s at_).1, .int .i64 (spanI s at_).2]) ∧ Below w.heap.size w w' := by
  by_cases h : at_ < 0 ∨ (s.size : Int) < at_
  · have hv : spanI s at_ = (0, 2) := by simp [spanI, h]
    rw [hv]
    exact refSpan_out s at_ w h
  · have hv : spanI s at_ = spanP s at_.toNat := by simp [spanI, h]
    rw [hv]
    have := refSpan_in s at_.toNat w (by omega) hs
    rw [Int.toNat_of_nonneg (by omega)] at this
    exact this

/-! ### Name -/
set_option maxHeartbeats 1000000 in
theorem refName_any (s : ByteArray) (w : World) (hs : s.size ≤ maxLen) :
    Calls Tryd.prog 21 #[.string s] w fun e w' => e = .returned (.bool (nameB s)) ∧ Below w.heap.size w w' := by
  have hs0 := hs
  unfold maxLen at hs
  go_enter Tryd.func21, Tryd.ntmps21
  go_wp2
  go_loopw [3, 4] (fun c p w' => ∃ (q f n : Nat), c = .int .i64 n ∧ p = .int .i64 q ∧ Below w.heap.size w w' ∧ Hid (nmF s f q n = nameB s) ∧ s.size ≤ q + f ∧ q ≤ s.size ∧ n ≤ q) (fun _ p _ => s.size - (RowKit.intOf p).toNat)
  case atStart => exact ⟨0, s.size, 0, rfl, rfl, Below.refl _ _, rfl, by omega, by omega, by omega⟩
  case round =>
    obtain ⟨q, f, n, rfl, rfl, hB, HN, hf, hqS, hn⟩ := hrel
    have z := hB.size
    by_cases hp : q < s.size
    · obtain ⟨f, rfl⟩ : ∃ g, f = g + 1 := ⟨f - 1, by omega⟩
      have hw := width_pos s q hp
      have hw2 := dec_le s q hp
      have c3 : Hid (∀ W, Calls Tryd.prog 29 #[.string s, .int .i64 q] W fun e w' => e = .returned (.int .i32 (rn s q)) ∧ Below W.heap.size W w') := fun W => refRune_any s q W hs0 hqS
      have c4 : Hid (∀ W, Calls Tryd.prog 30 #[.int .i32 (rn s q)] W fun e w' => e = .returned (.bool (onB (Utf8.decode s q).1)) ∧ Below W.heap.size W w') := fun W => by
        rw [← onB_rn s q hp]; exact behind_any _ W
      have c6 : Hid (∀ W, Calls Tryd.prog 19 #[.int .i32 (rn s q)] W fun e w' => e = .returned (.int .i64 (kd (Utf8.decode s q).1)) ∧ Below W.heap.size W w') := fun W => by
        rw [← kd_rn s q hp]; exact refKind_kd _ W
      have c5 : Hid (∀ W, Calls Tryd.prog 25 #[.string s, .int .i64 q] W fun e w' => e = .returned (.int .i64 (wd s q)) ∧ Below W.heap.size W w') := fun W => refWidth_in s q W hp hs0
      have HX : Hid (nmF s (f + 1) q n = nmS (Utf8.decode s q).1 n (nmF s f (q + (Utf8.decode s q).2) (n + 1))) := nmF_step s f q n hp
      have HG : Hid (onB (Utf8.decode s q).1 = true → wd s q = (Utf8.decode s q).2) := fun ho => by simp [wd, good_of_on s q ho]
      generalize rn s q = rr at *
      generalize wd s q = u at *
      generalize (Utf8.decode s q).2 = v at *
      generalize ((Utf8.decode s q).1 : Int) = r at *
      cases ho : onB r
      · rw [ho] at c4
        have hv : Hid (nameB s = false) := by show nameB s = false; rw [← HN.out, HX.out]; simp [nmS, ho]
        clear c5 HG
        by_cases h0 : n = 0
        · subst h0
          generalize kd r = kk at c6
          go_wp2_with (first | (go_at_call 29; refine (c3.out _).mono ?_; rintro e w3 ⟨rfl, hb3⟩) | (go_at_call 19; refine (c6.out _).mono ?_; rintro e w6 ⟨rfl, hb6⟩) | (go_at_call 30; refine (c4.out _).mono ?_; rintro e w4 ⟨rfl, hb4⟩))
          · go_ret
            have z3 := hb3.size
            have z6 := hb6.size
            exact ⟨ret_bool hv.out.symm, ((hB.trans (hb3.mono z)).trans (hb6.mono (by omega))).trans (hb4.mono (by omega))⟩
          · go_ret
            have z3 := hb3.size
            exact ⟨ret_bool hv.out.symm, (hB.trans (hb3.mono z)).trans (hb6.mono (by omega))⟩
        · have hn0 : ((n : Int) == 0) = false := by simp; omega
          go_wp2_with (first | (go_at_call 29; refine (c3.out _).mono ?_; rintro e w3 ⟨rfl, hb3⟩) | (go_at_call 30; refine (c4.out _).mono ?_; rintro e w4 ⟨rfl, hb4⟩))
          go_ret
          have z3 := hb3.size
          exact ⟨ret_bool hv.out.symm, (hB.trans (hb3.mono z)).trans (hb4.mono (by omega))⟩
      · rw [ho] at c4
        rw [HG.out ho] at c5
        by_cases h0 : n = 0
        · subst h0
          by_cases hk : kd r = 1
          · have hx : Hid (nmF s f (q + v) 1 = nameB s) := by show _ = _; rw [← HN.out, HX.out]; simp [nmS, ho, hk]
            rw [hk] at c6
            clear hk
            go_wp2_with (first | (go_at_call 29; refine (c3.out _).mono ?_; rintro e w3 ⟨rfl, hb3⟩) | (go_at_call 19; refine (c6.out _).mono ?_; rintro e w6 ⟨rfl, hb6⟩) | (go_at_call 30; refine (c4.out _).mono ?_; rintro e w4 ⟨rfl, hb4⟩) | (go_at_call 25; refine (c5.out _).mono ?_; rintro e w5 ⟨rfl, hb5⟩))
            have z3 := hb3.size
            have z6 := hb6.size
            have z4 := hb4.size
            exact ⟨⟨q + v, f, 1, rfl, by go_num, (((hB.trans (hb3.mono z)).trans (hb6.mono (by omega))).trans (hb4.mono (by omega))).trans (hb5.mono (by omega)), hx, by omega, by omega, by omega⟩, by simp [RowKit.intOf]; omega⟩
          · have hv : Hid (nameB s = false) := by show nameB s = false; rw [← HN.out, HX.out]; simp [nmS, hk]
            have hne : (kd r != 1) = true := by simpa using hk
            generalize kd r = kk at *
            go_wp2_with (first | (go_at_call 29; refine (c3.out _).mono ?_; rintro e w3 ⟨rfl, hb3⟩) | (go_at_call 19; refine (c6.out _).mono ?_; rintro e w6 ⟨rfl, hb6⟩))
            go_ret
            have z3 := hb3.size
            exact ⟨ret_bool hv.out.symm, (hB.trans (hb3.mono z)).trans (hb6.mono (by omega))⟩
        · have hn0 : ((n : Int) == 0) = false := by simp; omega
          have hx : Hid (nmF s f (q + v) (n + 1) = nameB s) := by show _ = _; rw [← HN.out, HX.out]; simp [nmS, ho, h0]
          go_wp2_with (first | (go_at_call 29; refine (c3.out _).mono ?_; rintro e w3 ⟨rfl, hb3⟩) | (go_at_call 30; refine (c4.out _).mono ?_; rintro e w4 ⟨rfl, hb4⟩) | (go_at_call 25; refine (c5.out _).mono ?_; rintro e w5 ⟨rfl, hb5⟩))
          have z3 := hb3.size
          have z4 := hb4.size
          exact ⟨⟨q + v, f, n + 1, by go_num, by go_num, ((hB.trans (hb3.mono z)).trans (hb4.mono (by omega))).trans (hb5.mono (by omega)), hx, by omega, by omega, by omega⟩, by simp [RowKit.intOf]; omega⟩
    · go_wp2
      all_goals go_ret
      all_goals exact ⟨ret_bool (by rw [← HN.out, nmF_end s f q n hp, Bool.eq_iff_iff]; simp; try omega), hB⟩
end Go.Proofs.YthmcgfiaimnplaaDoor

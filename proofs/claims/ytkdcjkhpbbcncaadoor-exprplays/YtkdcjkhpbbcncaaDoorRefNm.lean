/-
  What the document's behind and Name answer.
-/
import Derived.Test.YtkdcjkhpbbcncaaDoorRefStr
import Derived.Test.YtkdcjkhpbbcncaaDoorDecPure
set_option linter.unusedSimpArgs false
set_option linter.unusedVariables false
namespace Go.Proofs.YtkdcjkhpbbcncaaDoor
open Go.RowKit Go.Lib

theorem behind_any (r : Int) (w : World) :
    Calls Tryd.prog 108 #[.int .i32 r] w fun e w' => e = .returned (.bool (onB r)) ∧ Below w.heap.size w w' := by
  have c1 : Hid (∀ W, Calls Tryd.prog 107 #[.int .i32 r] W fun e w' => e = .returned (.int .i64 (kd r)) ∧ Below W.heap.size W w') := fun W => by
    have := refKind_any r W; rw [← kd_eq] at this; exact this
  cases h1 : (kd r == 1)
  · cases h2 : (kd r == 2)
    · go_enter Tryd.func108, Tryd.ntmps108
      go_wp2_with (go_at_call 107; refine (c1.out _).mono ?_; rintro e w' ⟨rfl, hb1⟩)
      go_ret
      exact ⟨ret_bool (by simp [onB, h1, h2]), hb1⟩
    · go_enter Tryd.func108, Tryd.ntmps108
      go_wp2_with (go_at_call 107; refine (c1.out _).mono ?_; rintro e w' ⟨rfl, hb1⟩)
      go_ret
      exact ⟨ret_bool (by simp [onB, h1, h2]), hb1⟩
  · go_enter Tryd.func108, Tryd.ntmps108
    go_wp2_with (go_at_call 107; refine (c1.out _).mono ?_; rintro e w' ⟨rfl, hb1⟩)
    go_ret
    exact ⟨ret_bool (by simp [onB, h1]), hb1⟩

theorem good_of_on (s : ByteArray) (p : Nat) (h : onB (Utf8.decode s p).1 = true) : bad s p = false := by
  cases hb : bad s p
  · rfl
  · rw [bad_eq hb] at h; exact absurd h (by decide)
theorem refKind_kd (r : Int) (w : World) :
    Calls Tryd.prog 107 #[.int .i32 r] w fun e w' => e = .returned (.int .i64 (kd r)) ∧ Below w.heap.size w w' := by
  rw [kd_eq]; exact refKind_any r w

/-! ### Name -/
set_option maxHeartbeats 1000000 in
theorem refName_any (s : ByteArray) (w : World) (hs : s.size ≤ maxLen) :
    Calls Tryd.prog 82 #[.string s] w fun e w' => e = .returned (.bool (nameB s)) ∧ Below w.heap.size w w' := by
  have hs0 := hs
  unfold maxLen at hs
  go_enter Tryd.func82, Tryd.ntmps82
  go_wp2
  go_loopw [3, 4] (fun c p w' => ∃ (q f n : Nat), c = .int .i64 n ∧ p = .int .i64 q ∧ Below w.heap.size w w' ∧ Hid (nmF s f q n = nameB s) ∧ s.size ≤ q + f ∧ q ≤ s.size ∧ n ≤ q) (fun _ p _ => s.size - (RowKit.intOf p).toNat)
  case atStart => exact ⟨0, s.size, 0, rfl, rfl, Below.refl _ _, rfl, by omega, by omega, by omega⟩
  case round =>
    obtain ⟨q, f, n, rfl, rfl, hB, HN, hf, hqS, hn⟩ := hrel
    have z := hB.size
    by_cases hp : q < s.size
    · obtain ⟨f, rfl⟩ : ∃ g, f = g + 1 := ⟨f - 1, by omega⟩
      have hw := width_pos s q hp
      have hw2 := dec_le s q hp
      have c3 : Hid (∀ W, Calls Tryd.prog 106 #[.string s, .int .i64 q] W fun e w' => e = .returned (.int .i32 (rn s q)) ∧ Below W.heap.size W w') := fun W => refRune_any s q W hs0 hqS
      have c4 : Hid (∀ W, Calls Tryd.prog 108 #[.int .i32 (rn s q)] W fun e w' => e = .returned (.bool (onB (Utf8.decode s q).1)) ∧ Below W.heap.size W w') := fun W => by
        rw [← onB_rn s q hp]; exact behind_any _ W
      have c6 : Hid (∀ W, Calls Tryd.prog 107 #[.int .i32 (rn s q)] W fun e w' => e = .returned (.int .i64 (kd (Utf8.decode s q).1)) ∧ Below W.heap.size W w') := fun W => by
        rw [← kd_rn s q hp]; exact refKind_kd _ W
      have c5 : Hid (∀ W, Calls Tryd.prog 109 #[.string s, .int .i64 q] W fun e w' => e = .returned (.int .i64 (wd s q)) ∧ Below W.heap.size W w') := fun W => refWidth_in s q W hp hs0
      have HX : Hid (nmF s (f + 1) q n = nmS (Utf8.decode s q).1 n (nmF s f (q + (Utf8.decode s q).2) (n + 1))) := nmF_step s f q n hp
      have HG : Hid (onB (Utf8.decode s q).1 = true → wd s q = (Utf8.decode s q).2) := fun ho => by simp [wd, good_of_on s q ho]
      generalize rn s q = rr at *
      generalize wd s q = u at *
      generalize (Utf8.decode s q).2 = v at *
      generalize ((Utf8.decode s q).1 : Int) = r at *
      cases ho : onB r
      · rw [ho] at c4
        have hv : Hid (nameB s = false) := by show nameB s = false; rw [← HN.out, HX.out]; simp [nmS, ho]
        clear c5 HG
        by_cases h0 : n = 0
        · subst h0
          generalize kd r = kk at c6
          go_wp2_with (first | (go_at_call 106; refine (c3.out _).mono ?_; rintro e w3 ⟨rfl, hb3⟩) | (go_at_call 107; refine (c6.out _).mono ?_; rintro e w6 ⟨rfl, hb6⟩) | (go_at_call 108; refine (c4.out _).mono ?_; rintro e w4 ⟨rfl, hb4⟩))
          · go_ret
            have z3 := hb3.size
            have z6 := hb6.size
            exact ⟨ret_bool hv.out.symm, ((hB.trans (hb3.mono z)).trans (hb6.mono (by omega))).trans (hb4.mono (by omega))⟩
          · go_ret
            have z3 := hb3.size
            exact ⟨ret_bool hv.out.symm, (hB.trans (hb3.mono z)).trans (hb6.mono (by omega))⟩
        · have hn0 : ((n : Int) == 0) = false := by simp; omega
          go_wp2_with (first | (go_at_call 106; refine (c3.out _).mono ?_; rintro e w3 ⟨rfl, hb3⟩) | (go_at_call 108; refine (c4.out _).mono ?_; rintro e w4 ⟨rfl, hb4⟩))
          go_ret
          have z3 := hb3.size
          exact ⟨ret_bool hv.out.symm, (hB.trans (hb3.mono z)).trans (hb4.mono (by omega))⟩
      · rw [ho] at c4
        rw [HG.out ho] at c5
        by_cases h0 : n = 0
        · subst h0
          by_cases hk : kd r = 1
          · have hx : Hid (nmF s f (q + v) 1 = nameB s) := by show _ = _; rw [← HN.out, HX.out]; simp [nmS, ho, hk]
            rw [hk] at c6
            clear hk
            go_wp2_with (first | (go_at_call 106; refine (c3.out _).mono ?_; rintro e w3 ⟨rfl, hb3⟩) | (go_at_call 107; refine (c6.out _).mono ?_; rintro e w6 ⟨rfl, hb6⟩) | (go_at_call 108; refine (c4.out _).mono ?_; rintro e w4 ⟨rfl, hb4⟩) | (go_at_call 109; refine (c5.out _).mono ?_; rintro e w5 ⟨rfl, hb5⟩))
            have z3 := hb3.size
            have z6 := hb6.size
            have z4 := hb4.size
            exact ⟨⟨q + v, f, 1, rfl, by go_num, (((hB.trans (hb3.mono z)).trans (hb6.mono (by omega))).trans (hb4.mono (by omega))).trans (hb5.mono (by omega)), hx, by omega, by omega, by omega⟩, by simp [RowKit.intOf]; omega⟩
          · have hv : Hid (nameB s = false) := by show nameB s = false; rw [← HN.out, HX.out]; simp [nmS, hk]
            have hne : (kd r != 1) = true := by simpa using hk
            generalize kd r = kk at *
            go_wp2_with (first | (go_at_call 106; refine (c3.out _).mono ?_; rintro e w3 ⟨rfl, hb3⟩) | (go_at_call 107; refine (c6.out _).mono ?_; rintro e w6 ⟨rfl, hb6⟩))
            go_ret
            have z3 := hb3.size
            exact ⟨ret_bool hv.out.symm, (hB.trans (hb3.mono z)).trans (hb6.mono (by omega))⟩
        · have hn0 : ((n : Int) == 0) = false := by simp; omega
          have hx : Hid (nmF s f (q + v) (n + 1) = nameB s) := by show _ = _; rw [← HN.out, HX.out]; simp [nmS, ho, h0]
          go_wp2_with (first | (go_at_call 106; refine (c3.out _).mono ?_; rintro e w3 ⟨rfl, hb3⟩) | (go_at_call 108; refine (c4.out _).mono ?_; rintro e w4 ⟨rfl, hb4⟩) | (go_at_call 109; refine (c5.out _).mono ?_; rintro e w5 ⟨rfl, hb5⟩))
          have z3 := hb3.size
          have z4 := hb4.size
          exact ⟨⟨q + v, f, n + 1, by go_num, by go_num, ((hB.trans (hb3.mono z)).trans (hb4.mono (by omega))).trans (hb5.mono (by omega)), hx, by omega, by omega, by omega⟩, by simp [RowKit.intOf]; omega⟩
    · go_wp2
      all_goals go_ret
      all_goals exact ⟨ret_bool (by rw [← HN.out, nmF_end s f q n hp, Bool.eq_iff_iff]; simp; try omega), hB⟩
end Go.Proofs.YtkdcjkhpbbcncaaDoor

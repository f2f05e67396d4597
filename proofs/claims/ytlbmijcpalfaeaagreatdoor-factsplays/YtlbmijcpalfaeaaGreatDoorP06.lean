/-
  RefStr, RefNm.
-/
import Derived.Test.YtlbmijcpalfaeaaGreatDoorP02
import Derived.Laws.DeepStrings4
set_option linter.unusedSimpArgs false
set_option linter.unusedVariables false
namespace Go.Proofs.YtlbmijcpalfaeaaGreatDoor
open Go.RowKit

set_option maxHeartbeats 400000 in
theorem within_any (r a b : Int) (w : World) :
    Calls Tryz.prog 81 #[.int .i32 r, .int .i32 a, .int .i32 b] w fun e w' => e = .returned (.bool (hasB a b r)) ∧ w' = w := by
  by_cases h1 : a ≤ r
  · by_cases h2 : r ≤ b
    · have hb : hasB a b r = true := by simp [hasB, h1, h2]
      rw [hb]; clear hb
      go_enter Tryz.func81, Tryz.ntmps81
      go_wp2
      go_ret
      exact ⟨by simp [h1, h2], rfl⟩
    · have hb : hasB a b r = false := by simp [hasB, h1, h2]
      rw [hb]; clear hb
      go_enter Tryz.func81, Tryz.ntmps81
      go_wp2
      go_ret
      exact ⟨by simp [h1, h2], rfl⟩
  · have hb : hasB a b r = false := by simp [hasB, h1]
    rw [hb]; clear hb
    go_enter Tryz.func81, Tryz.ntmps81
    go_wp2
    go_ret
    exact ⟨by simp, rfl⟩

set_option maxHeartbeats 1000000 in
theorem letter_any (r : Int) (w : World) :
    Calls Tryz.prog 80 #[.int .i32 r] w fun e w' => e = .returned (.bool (letB r)) ∧ w' = w := by
  go_enter Tryz.func80, Tryz.ntmps80
  go_wp2_with (go_at_call 81; refine (within_any _ _ _ _).mono ?_; rintro e w' ⟨rfl, rfl⟩)
  all_goals go_ret
  all_goals exact ⟨ret_bool (by simp_all [letB]), rfl⟩

set_option maxHeartbeats 1000000 in
theorem digit_any (r : Int) (w : World) :
    Calls Tryz.prog 79 #[.int .i32 r] w fun e w' => e = .returned (.tuple #[.int .i64 (digV r), .int .i32 (digZ r)]) ∧ w' = w := by
  cases h1 : hasB 48 57 r
  · cases h2 : hasB 1632 1641 r
    · cases h3 : hasB 65296 65305 r
      · go_enter Tryz.func79, Tryz.ntmps79
        go_wp2_with (go_at_call 81; refine (within_any _ _ _ _).mono ?_; rintro e w' ⟨rfl, rfl⟩)
        go_ret2
        exact ⟨by simp [digV, digZ, h1, h2, h3], rfl⟩
      · have hb : 65296 ≤ r ∧ r ≤ 65305 := by simpa [hasB] using h3
        obtain ⟨b1, b2⟩ := hb
        go_enter Tryz.func79, Tryz.ntmps79
        go_wp2_with (go_at_call 81; refine (within_any _ _ _ _).mono ?_; rintro e w' ⟨rfl, rfl⟩)
        go_ret2
        exact ⟨by simp [digV, digZ, h1, h2, h3], rfl⟩
    · have hb : 1632 ≤ r ∧ r ≤ 1641 := by simpa [hasB] using h2
      obtain ⟨b1, b2⟩ := hb
      go_enter Tryz.func79, Tryz.ntmps79
      go_wp2_with (go_at_call 81; refine (within_any _ _ _ _).mono ?_; rintro e w' ⟨rfl, rfl⟩)
      go_ret2
      exact ⟨by simp [digV, digZ, h1, h2], rfl⟩
  · have hb : 48 ≤ r ∧ r ≤ 57 := by simpa [hasB] using h1
    obtain ⟨b1, b2⟩ := hb
    go_enter Tryz.func79, Tryz.ntmps79
    go_wp2_with (go_at_call 81; refine (within_any _ _ _ _).mono ?_; rintro e w' ⟨rfl, rfl⟩)
    go_ret2
    exact ⟨by simp [digV, digZ, h1], rfl⟩

set_option maxHeartbeats 1000000 in
theorem refKind_sign (r : Int) (w : World) (h1 : letB r = false) (h2 : digV r < 0) (h3 : blkB r = false) (h4 : hasB 8320 8329 r = false) :
    Calls Tryz.prog 57 #[.int .i32 r] w fun e w' => e = .returned (.int .i64 (sgnK (isSign r))) ∧ Below w.heap.size w w' := by
  obtain ⟨⟨⟨⟨⟨b1, b2⟩, b3⟩, b4⟩, b5⟩, b6⟩ : (((((r == 32) = false ∧ (r == 9) = false) ∧ (r == 10) = false) ∧ (r == 13) = false) ∧ (r == 160) = false) ∧ (r == 12288) = false := by
    simpa [blkB] using h3
  have h2' : decide (0 ≤ digV r) = false := by simp; exact h2
  go_enter Tryz.func57, Tryz.ntmps57
  go_wp2_with (first | (go_at_call 79; refine (digit_any _ _).mono ?_; rintro e w2 ⟨rfl, hw⟩; obtain rfl := hw.symm) | (go_at_call 80; refine (letter_any _ _).mono ?_; rintro e w2 ⟨rfl, hw⟩; obtain rfl := hw.symm) | (go_at_call 81; refine (within_any _ _ _ _).mono ?_; rintro e w2 ⟨rfl, hw⟩; obtain rfl := hw.symm))
  change Code.wp _ _ _ _ (w.iter signs 0)
  have hS := runesFrom_signs
  have HN : signs.size = 48 := rfl
  generalize signs = S at hS HN ⊢
  go_loopw [7] (fun _ w' => ∃ (pos f : Nat), w' = w.iter S pos ∧ (runesFrom S f pos).any (· == r) = isSign r ∧ S.size ≤ pos + f) (fun _ w' => S.size - w'.iterPos w.heap.size)
  case atStart => exact ⟨0, 48, rfl, by rw [hS]; rfl, by omega⟩
  case round =>
    obtain ⟨pos, f, rfl, hA, hf⟩ := hrel
    have HA : Hid ((runesFrom S f pos).any (· == r) = isSign r) := hA
    clear hA hS
    by_cases hp : pos < S.size
    · have hnx : ∀ ty, (Instr.next (.pointer (some ⟨w.heap.size, 0, none⟩)) true ty).run Tryz.prog (w.iter S pos) = _ := fun ty => run_next_any w S pos ty hp
      obtain ⟨f, rfl⟩ : ∃ g, f = g + 1 := ⟨f - 1, by omega⟩
      have hw := width_pos S pos hp
      have HC := runesFrom_cons S f pos hp
      have HC' := Hid.out (p := _) (show Hid _ from HC)
      clear HC
      have HX : Hid (runesFrom S (f + 1) pos = ((Utf8.decode S pos).1 : Int) :: runesFrom S f (pos + (Utf8.decode S pos).2)) := HC'
      clear HC'
      cases hr : (((Utf8.decode S pos).1 : Int) == r)
      · go_wp2
        go_roundw
        case rel => exact ⟨_, f, rfl, by rw [← HA.out, HX.out, List.any_cons, hr, Bool.false_or], by omega⟩
        case measure => simp; omega
      · go_wp2
        go_ret
        exact ⟨ret_int (by rw [← HA.out, HX.out, List.any_cons, hr, Bool.true_or]; rfl), (Below.refl _ _).alloc (Nat.le_refl _) _⟩
    · have hnx : ∀ ty, (Instr.next (.pointer (some ⟨w.heap.size, 0, none⟩)) true ty).run Tryz.prog (w.iter S pos) = _ := fun ty => run_next_end w S pos ty hp
      go_wp2
      go_ret
      exact ⟨ret_int (by rw [← HA.out, runesFrom_end S f pos hp]; rfl), (Below.refl _ _).alloc (Nat.le_refl _) _⟩

set_option maxHeartbeats 1000000 in
theorem refKind_rest (r : Int) (w : World) (h : letB r = true ∨ 0 ≤ digV r ∨ blkB r = true ∨ hasB 8320 8329 r = true) :
    Calls Tryz.prog 57 #[.int .i32 r] w fun e w' => e = .returned (.int .i64 (kindR r)) ∧ Below w.heap.size w w' := by
  cases h1 : letB r
  · by_cases h2 : 0 ≤ digV r
    · have h2' : decide (0 ≤ digV r) = true := by simp; exact h2
      have hv : kindR r = 2 := by simp [kindR, h1, h2]
      rw [hv]; clear hv h
      go_enter Tryz.func57, Tryz.ntmps57
      go_wp2_with (first | (go_at_call 79; refine (digit_any _ _).mono ?_; rintro e w2 ⟨rfl, hw⟩; obtain rfl := hw.symm) | (go_at_call 80; refine (letter_any _ _).mono ?_; rintro e w2 ⟨rfl, hw⟩; obtain rfl := hw.symm))
      go_ret
      exact ⟨rfl, Below.refl _ _⟩
    · have h2' : decide (0 ≤ digV r) = false := by simpa using h2
      cases h3 : blkB r
      · have h4 : hasB 8320 8329 r = true := by simpa [h1, h2, h3] using h
        obtain ⟨⟨⟨⟨⟨b1, b2⟩, b3⟩, b4⟩, b5⟩, b6⟩ : (((((r == 32) = false ∧ (r == 9) = false) ∧ (r == 10) = false) ∧ (r == 13) = false) ∧ (r == 160) = false) ∧ (r == 12288) = false := by
          simpa [blkB] using h3
        have hv : kindR r = 5 := by simp [kindR, h1, h2, h3, h4]
        rw [hv]; clear hv h h2
        go_enter Tryz.func57, Tryz.ntmps57
        go_wp2_with (first | (go_at_call 79; refine (digit_any _ _).mono ?_; rintro e w2 ⟨rfl, hw⟩; obtain rfl := hw.symm) | (go_at_call 80; refine (letter_any _ _).mono ?_; rintro e w2 ⟨rfl, hw⟩; obtain rfl := hw.symm) | (go_at_call 81; refine (within_any _ _ _ _).mono ?_; rintro e w2 ⟨rfl, hw⟩; obtain rfl := hw.symm))
        go_ret
        exact ⟨rfl, Below.refl _ _⟩
      · have hv : kindR r = 3 := by simp [kindR, h1, h2, h3]
        have h3' : (r == 32) = true ∨ (r == 9) = true ∨ (r == 10) = true ∨ (r == 13) = true ∨ (r == 160) = true ∨ (r == 12288) = true := by
          simpa [blkB, or_assoc] using h3
        rw [hv]; clear hv h h2 h3
        have B : ∀ x : Int, (r == x) = true → r = x := fun x hx => by simpa using hx
        rcases h3' with e | e | e | e | e | e
        all_goals
          have e' := B _ e
          clear B e
          subst e'
          go_enter Tryz.func57, Tryz.ntmps57
          go_wp2_with (first | (go_at_call 79; refine (digit_any _ _).mono ?_; rintro e w2 ⟨rfl, hw⟩; obtain rfl := hw.symm) | (go_at_call 80; refine (letter_any _ _).mono ?_; rintro e w2 ⟨rfl, hw⟩; obtain rfl := hw.symm))
          go_ret
          exact ⟨rfl, Below.refl _ _⟩
  · have hv : kindR r = 1 := by simp [kindR, h1]
    rw [hv]; clear hv h
    go_enter Tryz.func57, Tryz.ntmps57
    go_wp2_with (first | (go_at_call 79; refine (digit_any _ _).mono ?_; rintro e w2 ⟨rfl, hw⟩; obtain rfl := hw.symm) | (go_at_call 80; refine (letter_any _ _).mono ?_; rintro e w2 ⟨rfl, hw⟩; obtain rfl := hw.symm))
    go_ret
    exact ⟨rfl, Below.refl _ _⟩

theorem refKind_any (r : Int) (w : World) :
    Calls Tryz.prog 57 #[.int .i32 r] w fun e w' => e = .returned (.int .i64 (kindR r)) ∧ Below w.heap.size w w' := by
  by_cases h : letB r = true ∨ 0 ≤ digV r ∨ blkB r = true ∨ hasB 8320 8329 r = true
  · exact refKind_rest r w h
  · simp only [not_or, Bool.not_eq_true] at h
    obtain ⟨h1, h2, h3, h4⟩ := h
    have hv : kindR r = sgnK (isSign r) := by simp [kindR, h1, h2, h3, h4]
    rw [hv]
    exact refKind_sign r w h1 (by omega) h3 h4
end Go.Proofs.YtlbmijcpalfaeaaGreatDoor

namespace Go.Proofs.YtlbmijcpalfaeaaGreatDoor
open Go.RowKit Go.Lib

set_option maxHeartbeats 1000000 in
theorem refWidth_end (s : ByteArray) (pos : Int) (w : World) (h : pos < 0 ∨ (s.size : Int) ≤ pos) :
    Calls Tryz.prog 59 #[.string s, .int .i64 pos] w fun e w' => e = .returned (.int .i64 0) ∧ Below w.heap.size w w' := by
  rcases h with h | h
  · go_enter Tryz.func59, Tryz.ntmps59
    go_wp2
    go_ret
    exact ⟨rfl, Below.refl _ _⟩
  · by_cases h0 : pos < 0
    · go_enter Tryz.func59, Tryz.ntmps59
      go_wp2
      go_ret
      exact ⟨rfl, Below.refl _ _⟩
    · go_enter Tryz.func59, Tryz.ntmps59
      go_wp2
      go_ret
      exact ⟨rfl, Below.refl _ _⟩

set_option maxHeartbeats 1000000 in
theorem refWidth_in (s : ByteArray) (pos : Nat) (w : World) (h : pos < s.size) (hs : s.size ≤ maxLen) :
    Calls Tryz.prog 59 #[.string s, .int .i64 pos] w fun e w' => e = .returned (.int .i64 (wd s pos)) ∧ Below w.heap.size w w' := by
  unfold maxLen at hs
  have hpz : (pos : Int) < (s.size : Int) := by omega
  have hd0 : decide ((pos : Int) < 0) = false := by simp
  have hd1 : decide (s.size ≤ pos) = false := by simp; omega
  go_enter Tryz.func59, Tryz.ntmps59
  go_wp2
  have hSz := tail_size s pos
  have hD := dec_tail s pos 0
  rw [Nat.add_zero] at hD
  have hBI := bad_iff s pos
  have hv1 := width_pos s pos h
  have hv2 := dec_le s pos h
  have HW : Hid (wd s pos = if bad s pos then 0 else (Utf8.decode s pos).2) := rfl
  have HB : Hid (bad s pos = ((Utf8.decode s pos).1 == 65533 && (Utf8.decode s pos).2 == 1)) := rfl
  generalize s.extract pos s.size = S at *
  go_loopw [5] (fun _ w' => ∃ q : Nat, It w S q w' ∧ (q = 0 ∨ (q = (Utf8.decode s pos).2 ∧ bad s pos = false))) (fun _ w' => S.size - w'.iterPos w.heap.size)
  case atStart => exact ⟨0, It.start w S, .inl rfl⟩
  case round =>
    obtain ⟨q, hI, hq⟩ := hrel
    have hm := hI.pos
    rcases hq with rfl | ⟨hq, hbad⟩
    · have hnx : ∀ ty, (Instr.next (.pointer (some ⟨w.heap.size, 0, none⟩)) true ty).run Tryz.prog wr = _ := fun ty => run_next_any_at wr w.heap.size S 0 ty hI.at_ (by omega)
      rw [hD] at hnx
      have hI1 := hI.next (Utf8.decode s pos).2
      cases hr : (((Utf8.decode s pos).1 : Int) == 65533)
      · have hnb : bad s pos = false := by rw [HB.out]; have : ¬ (Utf8.decode s pos).1 = 65533 := by simp at hr; omega
                                           simp [this]
        generalize (Utf8.decode s pos).2 = v at *
        generalize ((Utf8.decode s pos).1 : Int) = r at *
        clear hD hBI
        go_wp2
        exact ⟨⟨v, hI1, .inr ⟨rfl, hnb⟩⟩, by rw [hI1.pos, hm]; omega⟩
      · have hr' : (Utf8.decode s pos).1 = 65533 := by simp at hr; omega
        have hbi := hBI hr'
        clear hBI hD
        generalize (Utf8.decode s pos).2 = v at *
        generalize ((Utf8.decode s pos).1 : Int) = r at *
        by_cases hl : (s.size : Int) - (pos : Int) < 3
        · have hb : bad s pos = true := by
            have : ¬ bad s pos = false := fun e => by have := (hbi.1 e).1; omega
            simpa using this
          go_wp2
          go_ret
          exact ⟨ret_int (by rw [HW.out, hb]; rfl), hI1.below⟩
        · have hl3 : (pos : Int) + 3 ≤ (s.size : Int) := by omega
          cases hx : ((s.extract pos (pos + 3)).toList == [239, 191, 189])
          · have hb : bad s pos = true := by
              have : ¬ bad s pos = false := fun e => by
                have e2 := (hbi.1 e).2
                rw [Lib.toList_data, e2] at hx
                exact absurd hx (by decide)
              simpa using this
            go_wp2
            go_ret
            exact ⟨ret_int (by rw [HW.out, hb]; rfl), hI1.below⟩
          · have hb : bad s pos = false := by
              refine hbi.2 ⟨by omega, ?_⟩
              rw [← Lib.toList_data]
              exact beq_iff_eq.1 hx
            go_wp2
            exact ⟨⟨v, hI1, .inr ⟨rfl, hb⟩⟩, by rw [hI1.pos, hm]; omega⟩
    · have hWd : Hid (wd s pos = q) := by show wd s pos = q; rw [HW.out, hbad, hq]; rfl
      clear hBI hD HW HB
      generalize (Utf8.decode s pos).2 = v at *
      subst hq
      by_cases hlt : q < S.size
      · have hnx : ∀ ty, (Instr.next (.pointer (some ⟨w.heap.size, 0, none⟩)) true ty).run Tryz.prog wr = _ := fun ty => run_next_any_at wr w.heap.size S q ty hI.at_ hlt
        have hI1 := hI.next (q + (Utf8.decode S q).2)
        go_wp2
        go_ret
        exact ⟨ret_int (by rw [hWd.out]), hI1.below⟩
      · have hnx : ∀ ty, (Instr.next (.pointer (some ⟨w.heap.size, 0, none⟩)) true ty).run Tryz.prog wr = _ := fun ty => run_next_end_at wr w.heap.size S q ty hI.at_ hlt
        go_wp2
        go_ret
        exact ⟨ret_int (by rw [hWd.out]; omega), hI.below⟩

theorem refWidth_any (s : ByteArray) (pos : Nat) (w : World) (hs : s.size ≤ maxLen) :
    Calls Tryz.prog 59 #[.string s, .int .i64 pos] w fun e w' => e = .returned (.int .i64 (wdE s pos)) ∧ Below w.heap.size w w' := by
  by_cases h : pos < s.size
  · have : wdE s pos = wd s pos := by simp [wdE, h]
    rw [this]
    exact refWidth_in s pos w h hs
  · have : ((wdE s pos : Nat) : Int) = 0 := by simp [wdE, h]
    rw [this]
    exact refWidth_end s pos w (.inr (by omega))

set_option maxHeartbeats 1000000 in
theorem refRune_any (s : ByteArray) (pos : Nat) (w : World) (hs : s.size ≤ maxLen) (hp : pos ≤ s.size) :
    Calls Tryz.prog 56 #[.string s, .int .i64 pos] w fun e w' => e = .returned (.int .i32 (rn s pos)) ∧ Below w.heap.size w w' := by
  have c1 : Hid (∀ W, Calls Tryz.prog 59 #[.string s, .int .i64 pos] W fun e w' => e = .returned (.int .i64 (wdE s pos)) ∧ Below W.heap.size W w') := fun W => refWidth_any s pos W hs
  by_cases h0 : wdE s pos = 0
  · have hv : rn s pos = -1 := by
      by_cases h : pos < s.size
      · have hw := width_pos s pos h
        have : bad s pos = true := by
          simp only [wdE, h, if_true, wd] at h0
          split at h0
          · assumption
          · omega
        simp [rn, this]
      · simp [rn, h]
    rw [hv]
    rw [h0] at c1
    go_enter Tryz.func56, Tryz.ntmps56
    go_wp2_with (go_at_call 59; refine (c1.out _).mono ?_; rintro e w1 ⟨rfl, hb1⟩)
    go_ret
    exact ⟨rfl, hb1⟩
  · have hlt : pos < s.size := by
      by_cases h : pos < s.size
      · exact h
      · simp [wdE, h] at h0
    have hv : rn s pos = ((Utf8.decode s pos).1 : Int) := by
      have hb : bad s pos = false := by
        cases hb : bad s pos
        · rfl
        · simp [wdE, hlt, wd, hb] at h0
      simp [rn, hlt, hb]
    rw [hv]
    unfold maxLen at hs
    generalize wdE s pos = n at *
    have hn : ((n : Int) == 0) = false := by simp; omega
    have hSz := tail_size s pos
    have hD := dec_tail s pos 0
    rw [Nat.add_zero] at hD
    have hpz : (pos : Int) ≤ (s.size : Int) := by omega
    go_enter Tryz.func56, Tryz.ntmps56
    go_wp2_with (go_at_call 59; refine (c1.out _).mono ?_; rintro e w1 ⟨rfl, hb1⟩)
    have HS : Hid (s.extract pos s.size = s.extract pos s.size) := rfl
    generalize s.extract pos s.size = S at *
    go_loopw [6] (fun _ w' => It w1 S 0 w') (fun _ w' => 0)
    case atStart => exact It.start w1 S
    case round =>
      have hI := hrel
      have hnx : ∀ ty, (Instr.next (.pointer (some ⟨w1.heap.size, 0, none⟩)) true ty).run Tryz.prog wr = _ := fun ty => run_next_any_at wr w1.heap.size S 0 ty hI.at_ (by omega)
      rw [hD] at hnx
      have hI1 := hI.next (Utf8.decode s pos).2
      go_wp2
      go_ret
      have z := hb1.size
      exact ⟨rfl, hb1.trans (hI1.below.mono z)⟩
end Go.Proofs.YtlbmijcpalfaeaaGreatDoor

set_option linter.unusedSimpArgs false
set_option linter.unusedVariables false
namespace Go.Proofs.YtlbmijcpalfaeaaGreatDoor
open Go.RowKit Go.Lib

theorem behind_any (r : Int) (w : World) :
    Calls Tryz.prog 58 #[.int .i32 r] w fun e w' => e = .returned (.bool (onB r)) ∧ Below w.heap.size w w' := by
  have c1 : Hid (∀ W, Calls Tryz.prog 57 #[.int .i32 r] W fun e w' => e = .returned (.int .i64 (kd r)) ∧ Below W.heap.size W w') := fun W => by
    have := refKind_any r W; rw [← kd_eq] at this; exact this
  cases h1 : (kd r == 1)
  · cases h2 : (kd r == 2)
    · go_enter Tryz.func58, Tryz.ntmps58
      go_wp2_with (go_at_call 57; refine (c1.out _).mono ?_; rintro e w' ⟨rfl, hb1⟩)
      go_ret
      exact ⟨ret_bool (by simp [onB, h1, h2]), hb1⟩
    · go_enter Tryz.func58, Tryz.ntmps58
      go_wp2_with (go_at_call 57; refine (c1.out _).mono ?_; rintro e w' ⟨rfl, hb1⟩)
      go_ret
      exact ⟨ret_bool (by simp [onB, h1, h2]), hb1⟩
  · go_enter Tryz.func58, Tryz.ntmps58
    go_wp2_with (go_at_call 57; refine (c1.out _).mono ?_; rintro e w' ⟨rfl, hb1⟩)
    go_ret
    exact ⟨ret_bool (by simp [onB, h1]), hb1⟩

theorem good_of_on (s : ByteArray) (p : Nat) (h : onB (Utf8.decode s p).1 = true) : bad s p = false := by
  cases hb : bad s p
  · rfl
  · rw [bad_eq hb] at h; exact absurd h (by decide)
theorem refKind_kd (r : Int) (w : World) :
    Calls Tryz.prog 57 #[.int .i32 r] w fun e w' => e = .returned (.int .i64 (kd r)) ∧ Below w.heap.size w w' := by
  rw [kd_eq]; exact refKind_any r w

/-! ### Name -/
set_option maxHeartbeats 1000000 in
theorem refName_any (s : ByteArray) (w : World) (hs : s.size ≤ maxLen) :
    Calls Tryz.prog 37 #[.string s] w fun e w' => e = .returned (.bool (nameB s)) ∧ Below w.heap.size w w' := by
  have hs0 := hs
  unfold maxLen at hs
  go_enter Tryz.func37, Tryz.ntmps37
  go_wp2
  go_loopw [3, 4] (fun c p w' => ∃ (q f n : Nat), c = .int .i64 n ∧ p = .int .i64 q ∧ Below w.heap.size w w' ∧ Hid (nmF s f q n = nameB s) ∧ s.size ≤ q + f ∧ q ≤ s.size ∧ n ≤ q) (fun _ p _ => s.size - (RowKit.intOf p).toNat)
  case atStart => exact ⟨0, s.size, 0, rfl, rfl, Below.refl _ _, rfl, by omega, by omega, by omega⟩
  case round =>
    obtain ⟨q, f, n, rfl, rfl, hB, HN, hf, hqS, hn⟩ := hrel
    have z := hB.size
    by_cases hp : q < s.size
    · obtain ⟨f, rfl⟩ : ∃ g, f = g + 1 := ⟨f - 1, by omega⟩
      have hw := width_pos s q hp
      have hw2 := dec_le s q hp
      have c3 : Hid (∀ W, Calls Tryz.prog 56 #[.string s, .int .i64 q] W fun e w' => e = .returned (.int .i32 (rn s q)) ∧ Below W.heap.size W w') := fun W => refRune_any s q W hs0 hqS
      have c4 : Hid (∀ W, Calls Tryz.prog 58 #[.int .i32 (rn s q)] W fun e w' => e = .returned (.bool (onB (Utf8.decode s q).1)) ∧ Below W.heap.size W w') := fun W => by
        rw [← onB_rn s q hp]; exact behind_any _ W
      have c6 : Hid (∀ W, Calls Tryz.prog 57 #[.int .i32 (rn s q)] W fun e w' => e = .returned (.int .i64 (kd (Utf8.decode s q).1)) ∧ Below W.heap.size W w') := fun W => by
        rw [← kd_rn s q hp]; exact refKind_kd _ W
      have c5 : Hid (∀ W, Calls Tryz.prog 59 #[.string s, .int .i64 q] W fun e w' => e = .returned (.int .i64 (wd s q)) ∧ Below W.heap.size W w') := fun W => refWidth_in s q W hp hs0
      have HX : Hid (nmF s (f + 1) q n = nmS (Utf8.decode s q).1 n (nmF s f (q + (Utf8.decode s q).2) (n + 1))) := nmF_step s f q n hp
      have HG : Hid (onB (Utf8.decode s q).1 = true → wd s q = (Utf8.decode s q).2) := fun ho => by simp [wd, good_of_on s q ho]
      generalize rn s q = rr at *
      generalize wd s q = u at *
      generalize (Utf8.decode s q).2 = v at *
      generalize ((Utf8.decode s q).1 : Int) = r at *
      cases ho : onB r
      · rw [ho] at c4
        have hv : Hid (nameB s = false) := by show nameB s = false; rw [← HN.out, HX.out]; simp [nmS, ho]
        clear c5 HG
        by_cases h0 : n = 0
        · subst h0
          generalize kd r = kk at c6
          go_wp2_with (first | (go_at_call 56; refine (c3.out _).mono ?_; rintro e w3 ⟨rfl, hb3⟩) | (go_at_call 57; refine (c6.out _).mono ?_; rintro e w6 ⟨rfl, hb6⟩) | (go_at_call 58; refine (c4.out _).mono ?_; rintro e w4 ⟨rfl, hb4⟩))
          · go_ret
            have z3 := hb3.size
            have z6 := hb6.size
            exact ⟨ret_bool hv.out.symm, ((hB.trans (hb3.mono z)).trans (hb6.mono (by omega))).trans (hb4.mono (by omega))⟩
          · go_ret
            have z3 := hb3.size
            exact ⟨ret_bool hv.out.symm, (hB.trans (hb3.mono z)).trans (hb6.mono (by omega))⟩
        · have hn0 : ((n : Int) == 0) = false := by simp; omega
          go_wp2_with (first | (go_at_call 56; refine (c3.out _).mono ?_; rintro e w3 ⟨rfl, hb3⟩) | (go_at_call 58; refine (c4.out _).mono ?_; rintro e w4 ⟨rfl, hb4⟩))
          go_ret
          have z3 := hb3.size
          exact ⟨ret_bool hv.out.symm, (hB.trans (hb3.mono z)).trans (hb4.mono (by omega))⟩
      · rw [ho] at c4
        rw [HG.out ho] at c5
        by_cases h0 : n = 0
        · subst h0
          by_cases hk : kd r = 1
          · have hx : Hid (nmF s f (q + v) 1 = nameB s) := by show _ = _; rw [← HN.out, HX.out]; simp [nmS, ho, hk]
            rw [hk] at c6
            clear hk
            go_wp2_with (first | (go_at_call 56; refine (c3.out _).mono ?_; rintro e w3 ⟨rfl, hb3⟩) | (go_at_call 57; refine (c6.out _).mono ?_; rintro e w6 ⟨rfl, hb6⟩) | (go_at_call 58; refine (c4.out _).mono ?_; rintro e w4 ⟨rfl, hb4⟩) | (go_at_call 59; refine (c5.out _).mono ?_; rintro e w5 ⟨rfl, hb5⟩))
            have z3 := hb3.size
            have z6 := hb6.size
            have z4 := hb4.size
            exact ⟨⟨q + v, f, 1, rfl, by go_num, (((hB.trans (hb3.mono z)).trans (hb6.mono (by omega))).trans (hb4.mono (by omega))).trans (hb5.mono (by omega)), hx, by omega, by omega, by omega⟩, by simp [RowKit.intOf]; omega⟩
          · have hv : Hid (nameB s = false) := by show nameB s = false; rw [← HN.out, HX.out]; simp [nmS, hk]
            have hne : (kd r != 1) = true := by simpa using hk
            generalize kd r = kk at *
            go_wp2_with (first | (go_at_call 56; refine (c3.out _).mono ?_; rintro e w3 ⟨rfl, hb3⟩) | (go_at_call 57; refine (c6.out _).mono ?_; rintro e w6 ⟨rfl, hb6⟩))
            go_ret
            have z3 := hb3.size
            exact ⟨ret_bool hv.out.symm, (hB.trans (hb3.mono z)).trans (hb6.mono (by omega))⟩
        · have hn0 : ((n : Int) == 0) = false := by simp; omega
          have hx : Hid (nmF s f (q + v) (n + 1) = nameB s) := by show _ = _; rw [← HN.out, HX.out]; simp [nmS, ho, h0]
          go_wp2_with (first | (go_at_call 56; refine (c3.out _).mono ?_; rintro e w3 ⟨rfl, hb3⟩) | (go_at_call 58; refine (c4.out _).mono ?_; rintro e w4 ⟨rfl, hb4⟩) | (go_at_call 59; refine (c5.out _).mono ?_; rintro e w5 ⟨rfl, hb5⟩))
          have z3 := hb3.size
          have z4 := hb4.size
          exact ⟨⟨q + v, f, n + 1, by go_num, by go_num, ((hB.trans (hb3.mono z)).trans (hb4.mono (by omega))).trans (hb5.mono (by omega)), hx, by omega, by omega, by omega⟩, by simp [RowKit.intOf]; omega⟩
    · go_wp2
      all_goals go_ret
      all_goals exact ⟨ret_bool (by rw [← HN.out, nmF_end s f q n hp, Bool.eq_iff_iff]; simp; try omega), hB⟩
end Go.Proofs.YtlbmijcpalfaeaaGreatDoor

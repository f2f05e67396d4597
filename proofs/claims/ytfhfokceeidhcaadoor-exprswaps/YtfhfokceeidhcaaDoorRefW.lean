/-
  What the document's own functions within, letter, Digit and behind answer, for every rune.
-/
import Derived.Test.YtfhfokceeidhcaaDoorKindW
set_option linter.unusedSimpArgs false
namespace Go.Proofs.YtfhfokceeidhcaaDoor
open Go.RowKit

set_option maxHeartbeats 400000 in
theorem within_any (r a b : Int) (w : World) :
    Calls Tryd.prog 74 #[.int .i32 r, .int .i32 a, .int .i32 b] w fun e w' => e = .returned (.bool (hasB a b r)) ∧ w' = w := by
  by_cases h1 : a ≤ r
  · by_cases h2 : r ≤ b
    · have hb : hasB a b r = true := by simp [hasB, h1, h2]
      rw [hb]; clear hb
      go_enter Tryd.func74, Tryd.ntmps74
      go_wp2
      go_ret
      exact ⟨by simp [h1, h2], rfl⟩
    · have hb : hasB a b r = false := by simp [hasB, h1, h2]
      rw [hb]; clear hb
      go_enter Tryd.func74, Tryd.ntmps74
      go_wp2
      go_ret
      exact ⟨by simp [h1, h2], rfl⟩
  · have hb : hasB a b r = false := by simp [hasB, h1]
    rw [hb]; clear hb
    go_enter Tryd.func74, Tryd.ntmps74
    go_wp2
    go_ret
    exact ⟨by simp, rfl⟩

set_option maxHeartbeats 1000000 in
theorem letter_any (r : Int) (w : World) :
    Calls Tryd.prog 73 #[.int .i32 r] w fun e w' => e = .returned (.bool (letB r)) ∧ w' = w := by
  go_enter Tryd.func73, Tryd.ntmps73
  go_wp2_with (go_at_call 74; refine (within_any _ _ _ _).mono ?_; rintro e w' ⟨rfl, rfl⟩)
  all_goals go_ret
  all_goals exact ⟨ret_bool (by simp_all [letB]), rfl⟩

set_option maxHeartbeats 1000000 in
theorem digit_any (r : Int) (w : World) :
    Calls Tryd.prog 72 #[.int .i32 r] w fun e w' => e = .returned (.tuple #[.int .i64 (digV r), .int .i32 (digZ r)]) ∧ w' = w := by
  cases h1 : hasB 48 57 r
  · cases h2 : hasB 1632 1641 r
    · cases h3 : hasB 65296 65305 r
      · go_enter Tryd.func72, Tryd.ntmps72
        go_wp2_with (go_at_call 74; refine (within_any _ _ _ _).mono ?_; rintro e w' ⟨rfl, rfl⟩)
        go_ret2
        exact ⟨by simp [digV, digZ, h1, h2, h3], rfl⟩
      · have hb : 65296 ≤ r ∧ r ≤ 65305 := by simpa [hasB] using h3
        obtain ⟨b1, b2⟩ := hb
        go_enter Tryd.func72, Tryd.ntmps72
        go_wp2_with (go_at_call 74; refine (within_any _ _ _ _).mono ?_; rintro e w' ⟨rfl, rfl⟩)
        go_ret2
        exact ⟨by simp [digV, digZ, h1, h2, h3], rfl⟩
    · have hb : 1632 ≤ r ∧ r ≤ 1641 := by simpa [hasB] using h2
      obtain ⟨b1, b2⟩ := hb
      go_enter Tryd.func72, Tryd.ntmps72
      go_wp2_with (go_at_call 74; refine (within_any _ _ _ _).mono ?_; rintro e w' ⟨rfl, rfl⟩)
      go_ret2
      exact ⟨by simp [digV, digZ, h1, h2], rfl⟩
  · have hb : 48 ≤ r ∧ r ≤ 57 := by simpa [hasB] using h1
    obtain ⟨b1, b2⟩ := hb
    go_enter Tryd.func72, Tryd.ntmps72
    go_wp2_with (go_at_call 74; refine (within_any _ _ _ _).mono ?_; rintro e w' ⟨rfl, rfl⟩)
    go_ret2
    exact ⟨by simp [digV, digZ, h1], rfl⟩

set_option maxHeartbeats 1000000 in
theorem refKind_sign (r : Int) (w : World) (h1 : letB r = false) (h2 : digV r < 0) (h3 : blkB r = false) (h4 : hasB 8320 8329 r = false) :
    Calls Tryd.prog 50 #[.int .i32 r] w fun e w' => e = .returned (.int .i64 (sgnK (isSign r))) ∧ Below w.heap.size w w' := by
  obtain ⟨⟨⟨⟨⟨b1, b2⟩, b3⟩, b4⟩, b5⟩, b6⟩ : (((((r == 32) = false ∧ (r == 9) = false) ∧ (r == 10) = false) ∧ (r == 13) = false) ∧ (r == 160) = false) ∧ (r == 12288) = false := by
    simpa [blkB] using h3
  have h2' : decide (0 ≤ digV r) = false := by simp; exact h2
  go_enter Tryd.func50, Tryd.ntmps50
  go_wp2_with (first | (go_at_call 72; refine (digit_any _ _).mono ?_; rintro e w2 ⟨rfl, hw⟩; obtain rfl := hw.symm) | (go_at_call 73; refine (letter_any _ _).mono ?_; rintro e w2 ⟨rfl, hw⟩; obtain rfl := hw.symm) | (go_at_call 74; refine (within_any _ _ _ _).mono ?_; rintro e w2 ⟨rfl, hw⟩; obtain rfl := hw.symm))
  change Code.wp _ _ _ _ (w.iter signs 0)
  have hS := runesFrom_signs
  have HN : signs.size = 48 := rfl
  generalize signs = S at hS HN ⊢
  go_loopw [7] (fun _ w' => ∃ (pos f : Nat), w' = w.iter S pos ∧ (runesFrom S f pos).any (· == r) = isSign r ∧ S.size ≤ pos + f) (fun _ w' => S.size - w'.iterPos w.heap.size)
  case atStart => exact ⟨0, 48, rfl, by rw [hS]; rfl, by omega⟩
  case round =>
    obtain ⟨pos, f, rfl, hA, hf⟩ := hrel
    have HA : Hid ((runesFrom S f pos).any (· == r) = isSign r) := hA
    clear hA hS
    by_cases hp : pos < S.size
    · have hnx : ∀ ty, (Instr.next (.pointer (some ⟨w.heap.size, 0, none⟩)) true ty).run Tryd.prog (w.iter S pos) = _ := fun ty => run_next_any w S pos ty hp
      obtain ⟨f, rfl⟩ : ∃ g, f = g + 1 := ⟨f - 1, by omega⟩
      have hw := width_pos S pos hp
      have HC := runesFrom_cons S f pos hp
      have HC' := Hid.out (p := _) (show Hid _ from HC)
      clear HC
      have HX : Hid (runesFrom S (f + 1) pos = ((Utf8.decode S pos).1 : Int) :: runesFrom S f (pos + (Utf8.decode S pos).2)) := HC'
      clear HC'
      cases hr : (((Utf8.decode S pos).1 : Int) == r)
      · go_wp2
        go_roundw
        case rel => exact ⟨_, f, rfl, by rw [← HA.out, HX.out, List.any_cons, hr, Bool.false_or], by omega⟩
        case measure => simp; omega
      · go_wp2
        go_ret
        exact ⟨ret_int (by rw [← HA.out, HX.out, List.any_cons, hr, Bool.true_or]; rfl), (Below.refl _ _).alloc (Nat.le_refl _) _⟩
    · have hnx : ∀ ty, (Instr.next (.pointer (some ⟨w.heap.size, 0, none⟩)) true ty).run Tryd.prog (w.iter S pos) = _ := fun ty => run_next_end w S pos ty hp
      go_wp2
      go_ret
      exact ⟨ret_int (by rw [← HA.out, runesFrom_end S f pos hp]; rfl), (Below.refl _ _).alloc (Nat.le_refl _) _⟩

set_option maxHeartbeats 1000000 in
theorem refKind_rest (r : Int) (w : World) (h : letB r = true ∨ 0 ≤ digV r ∨ blkB r = true ∨ hasB 8320 8329 r = true) :
    Calls Tryd.prog 50 #[.int .i32 r] w fun e w' => e = .returned (.int .i64 (kindR r)) ∧ Below w.heap.size w w' := by
  cases h1 : letB r
  · by_cases h2 : 0 ≤ digV r
    · have h2' : decide (0 ≤ digV r) = true := by simp; exact h2
      have hv : kindR r = 2 := by simp [kindR, h1, h2]
      rw [hv]; clear hv h
      go_enter Tryd.func50, Tryd.ntmps50
      go_wp2_with (first | (go_at_call 72; refine (digit_any _ _).mono ?_; rintro e w2 ⟨rfl, hw⟩; obtain rfl := hw.symm) | (go_at_call 73; refine (letter_any _ _).mono ?_; rintro e w2 ⟨rfl, hw⟩; obtain rfl := hw.symm))
      go_ret
      exact ⟨rfl, Below.refl _ _⟩
    · have h2' : decide (0 ≤ digV r) = false := by simpa using h2
      cases h3 : blkB r
      · have h4 : hasB 8320 8329 r = true := by simpa [h1, h2, h3] using h
        obtain ⟨⟨⟨⟨⟨b1, b2⟩, b3⟩, b4⟩, b5⟩, b6⟩ : (((((r == 32) = false ∧ (r == 9) = false) ∧ (r == 10) = false) ∧ (r == 13) = false) ∧ (r == 160) = false) ∧ (r == 12288) = false := by
          simpa [blkB] using h3
        have hv : kindR r = 5 := by simp [kindR, h1, h2, h3, h4]
        rw [hv]; clear hv h h2
        go_enter Tryd.func50, Tryd.ntmps50
        go_wp2_with (first | (go_at_call 72; refine (digit_any _ _).mono ?_; rintro e w2 ⟨rfl, hw⟩; obtain rfl := hw.symm) | (go_at_call 73; refine (letter_any _ _).mono ?_; rintro e w2 ⟨rfl, hw⟩; obtain rfl := hw.symm) | (go_at_call 74; refine (within_any _ _ _ _).mono ?_; rintro e w2 ⟨rfl, hw⟩; obtain rfl := hw.symm))
        go_ret
        exact ⟨rfl, Below.refl _ _⟩
      · have hv : kindR r = 3 := by simp [kindR, h1, h2, h3]
        have h3' : (r == 32) = true ∨ (r == 9) = true ∨ (r == 10) = true ∨ (r == 13) = true ∨ (r == 160) = true ∨ (r == 12288) = true := by
          simpa [blkB, or_assoc] using h3
        rw [hv]; clear hv h h2 h3
        have B : ∀ x : Int, (r == x) = true → r = x := fun x hx => by simpa using hx
        rcases h3' with e | e | e | e | e | e
        all_goals
          have e' := B _ e
          clear B e
          subst e'
          go_enter Tryd.func50, Tryd.ntmps50
          go_wp2_with (first | (go_at_call 72; refine (digit_any _ _).mono ?_; rintro e w2 ⟨rfl, hw⟩; obtain rfl := hw.symm) | (go_at_call 73; refine (letter_any _ _).mono ?_; rintro e w2 ⟨rfl, hw⟩; obtain rfl := hw.symm))
          go_ret
          exact ⟨rfl, Below.refl _ _⟩
  · have hv : kindR r = 1 := by simp [kindR, h1]
    rw [hv]; clear hv h
    go_enter Tryd.func50, Tryd.ntmps50
    go_wp2_with (first | (go_at_call 72; refine (digit_any _ _).mono ?_; rintro e w2 ⟨rfl, hw⟩; obtain rfl := hw.symm) | (go_at_call 73; refine (letter_any _ _).mono ?_; rintro e w2 ⟨rfl, hw⟩; obtain rfl := hw.symm))
    go_ret
    exact ⟨rfl, Below.refl _ _⟩

theorem refKind_any (r : Int) (w : World) :
    Calls Tryd.prog 50 #[.int .i32 r] w fun e w' => e = .returned (.int .i64 (kindR r)) ∧ Below w.heap.size w w' := by
  by_cases h : letB r = true ∨ 0 ≤ digV r ∨ blkB r = true ∨ hasB 8320 8329 r = true
  · exact refKind_rest r w h
  · simp only [not_or, Bool.not_eq_true] at h
    obtain ⟨h1, h2, h3, h4⟩ := h
    have hv : kindR r = sgnK (isSign r) := by simp [kindR, h1, h2, h3, h4]
    rw [hv]
    exact refKind_sign r w h1 (by omega) h3 h4
end Go.Proofs.YtfhfokceeidhcaaDoor

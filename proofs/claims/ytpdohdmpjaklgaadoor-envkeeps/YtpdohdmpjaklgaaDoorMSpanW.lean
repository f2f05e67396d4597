/-
  What Span answers, the program's and the document's, for every text and place; the document's Name.
-/
import Derived.Test.YtpdohdmpjaklgaaDoorMCheckW
set_option linter.unusedSimpArgs false
set_option linter.unusedVariables false
namespace Go.Proofs.YtpdohdmpjaklgaaDoor
open Go.RowKit Go.Lib

theorem kdFirst (s : ByteArray) (pos : Nat) (h : pos ≤ s.size) : kd ((decodeGo (s.extract pos s.size)).1 : Int) = kd (rn s pos) := by
  by_cases hp : pos < s.size
  · rw [decGo_tail s pos hp, kd_rn s pos hp]
  · have h0 : (s.extract pos s.size).size = 0 := by rw [tail_size]; omega
    simp only [decodeGo, h0, if_true, rn, hp, if_false]
    decide

set_option maxHeartbeats 1000000 in
theorem span_out (s : ByteArray) (at_ : Int) (w : World) (h : at_ < 0 ∨ (s.size : Int) < at_) :
    Calls Tryd.prog 83 #[.string s, .int .i64 at_] w fun e w' => e = .returned (.tuple #[.int .i64 0, .int .i64 2]) ∧ Below w.heap.size w w' := by
  have hd : decide (at_ < 0 ∨ (s.size : Int) < at_) = true := by simpa using h
  have c1 : Hid (∀ W, Calls Tryd.prog 93 #[.string s, .int .i64 at_] W fun e w' => e = .returned (.bool true) ∧ w' = W) := fun W => by
    have := outside_any s at_ W; rw [hd] at this; exact this
  clear hd h
  go_enter Tryd.func83, Tryd.ntmps83
  go_wp2_with (go_at_call 93; refine (c1.out _).mono ?_; rintro e w2 ⟨rfl, hw⟩; obtain rfl := hw.symm)
  go_ret2
  exact ⟨rfl, Below.refl _ _⟩

set_option maxHeartbeats 1000000 in
theorem span_in (s : ByteArray) (pos : Nat) (w : World) (hT : Tabs w) (h : pos ≤ s.size) (hs : s.size ≤ maxLen) :
    Calls Tryd.prog 83 #[.string s, .int .i64 pos] w fun e w' => e = .returned (.tuple #[.int .i64 (spanP s pos).1, .int .i64 (spanP s pos).2]) ∧ Below w.heap.size w w' := by
  unfold maxLen at hs
  have hd : decide ((pos : Int) < 0 ∨ (s.size : Int) < pos) = false := by simp; omega
  have c1 : Hid (∀ W, Calls Tryd.prog 93 #[.string s, .int .i64 pos] W fun e w' => e = .returned (.bool false) ∧ w' = W) := fun W => by
    have := outside_any s pos W; rw [hd] at this; exact this
  clear hd
  have c2 : Hid (∀ W, Tabs W → Calls Tryd.prog 94 #[.string (s.extract pos s.size)] W fun e w' => e = .returned (.int .i32 (decodeGo (s.extract pos s.size)).1) ∧ Below W.heap.size W w') := first_any _
  have hk := kdFirst s pos h
  generalize ((decodeGo (s.extract pos s.size)).1 : Int) = r at *
  have hpz : (pos : Int) ≤ (s.size : Int) := by omega
  have c3 : Hid (∀ W, SpanCells W → Calls Tryd.prog 45 #[.int .i32 r] W fun e w' => e = .returned (.int .i64 (kd r)) ∧ Below W.heap.size W w') := kind_any r
  by_cases h1 : kd r = 1
  · rw [h1] at hk c3
    have hv : spanP s pos = (((spF s s.size pos : Nat) : Int), 0) := by simp [spanP, ← hk]
    rw [hv]
    clear hv hk h1
    have hSz := tail_size s pos
    have hD := dec_tail s pos
    have HD : Hid (∀ i, Utf8.decode (s.extract pos s.size) i = Utf8.decode s (pos + i)) := hD
    clear hD
    go_enter Tryd.func83, Tryd.ntmps83
    go_wp2_with (first | (go_at_call 93; refine (c1.out _).mono ?_; rintro e w2 ⟨rfl, hw⟩; obtain rfl := hw.symm) | (go_at_call 94; refine (c2.out _ hT).mono ?_; rintro e w3 ⟨rfl, hb3⟩; have hT3 := hT.below hb3) | (go_at_call 45; refine (c3.out _ hT3.spans).mono ?_; rintro e w4 ⟨rfl, hb4⟩; have hT4 := hT3.below hb4))
    clear c1 c2 c3
    have hB4 : Below w.heap.size w w4 := hb3.trans (hb4.mono hb3.size)
    generalize s.extract pos s.size = S at *
    go_loopw [6] (fun _ w' => ∃ (q f : Nat), It w4 S q w' ∧ Hid (spF s f (pos + q) = spF s s.size pos) ∧ s.size ≤ pos + q + f ∧ q ≤ S.size) (fun _ w' => S.size - w'.iterPos w4.heap.size)
    case atStart => exact ⟨0, s.size, It.start w4 S, rfl, by omega, by omega⟩
    case round =>
      obtain ⟨q, f, hI, HN, hf, hqS⟩ := hrel
      have hm := hI.pos
      have z4 := hB4.size
      by_cases hp : q < S.size
      · have hps : pos + q < s.size := by omega
        have hnx : ∀ ty, (Instr.next (.pointer (some ⟨w4.heap.size, 0, none⟩)) true ty).run Tryd.prog wr = _ := fun ty => run_next_any_at wr w4.heap.size S q ty hI.at_ hp
        rw [HD.out q] at hnx
        obtain ⟨f, rfl⟩ : ∃ g, f = g + 1 := ⟨f - 1, by omega⟩
        have hw := width_pos s (pos + q) hps
        have hw2 := dec_le s (pos + q) hps
        have hx : Hid (onB (Utf8.decode s (pos + q)).1 = true → spF s (f + 1) (pos + q) = spF s f (pos + q + (Utf8.decode s (pos + q)).2)) := spF_on s f (pos + q) hps
        have hy : Hid (onB (Utf8.decode s (pos + q)).1 = false → spF s (f + 1) (pos + q) = pos + q) := spF_off s (f + 1) (pos + q) hps
        have hI1 := hI.next (q + (Utf8.decode s (pos + q)).2)
        have hT1 := (hI1.tabs hT4).spans
        generalize (Utf8.decode s (pos + q)).2 = v at *
        generalize ((Utf8.decode s (pos + q)).1 : Int) = r2 at *
        have c4 : Hid (∀ W, SpanCells W → Calls Tryd.prog 46 #[.int .i32 r2] W fun e w' => e = .returned (.bool (onB r2)) ∧ Below W.heap.size W w') := goesOn_any r2
        cases ho : onB r2
        · rw [ho] at c4
          go_wp2_with (go_at_call 46; refine (c4.out _ hT1).mono ?_; rintro e w5 ⟨rfl, hb5⟩)
          go_ret2
          exact ⟨ret2 (by rw [← HN.out, hy.out ho]; omega) rfl, hB4.trans ((hI1.call hb5).below.mono z4)⟩
        · rw [ho] at c4
          go_wp2_with (go_at_call 46; refine (c4.out _ hT1).mono ?_; rintro e w5 ⟨rfl, hb5⟩)
          have hI5 := hI1.call hb5
          exact ⟨⟨q + v, f, hI5, by show spF s f (pos + (q + v)) = _; rw [← HN.out, hx.out ho, Nat.add_assoc], by omega, by omega⟩, by rw [hI5.pos, hm]; omega⟩
      · have hnx : ∀ ty, (Instr.next (.pointer (some ⟨w4.heap.size, 0, none⟩)) true ty).run Tryd.prog wr = _ := fun ty => run_next_end_at wr w4.heap.size S q ty hI.at_ hp
        go_wp2
        go_ret2
        exact ⟨ret2 (by rw [← HN.out, spF_end s f _ (by omega)]; omega) rfl, hB4.trans (hI.below.mono z4)⟩
  · have hv : spanP s pos = (0, 11) := by simp [spanP, ← hk, h1]
    rw [hv]
    clear hv hk
    have hne : (kd r != 1) = true := by simpa using h1
    generalize kd r = kk at *
    go_enter Tryd.func83, Tryd.ntmps83
    go_wp2_with (first | (go_at_call 93; refine (c1.out _).mono ?_; rintro e w2 ⟨rfl, hw⟩; obtain rfl := hw.symm) | (go_at_call 94; refine (c2.out _ hT).mono ?_; rintro e w3 ⟨rfl, hb3⟩; have hT3 := hT.below hb3) | (go_at_call 45; refine (c3.out _ hT3.spans).mono ?_; rintro e w4 ⟨rfl, hb4⟩))
    go_ret2
    exact ⟨rfl, hb3.trans (hb4.mono hb3.size)⟩

theorem span_any (s : ByteArray) (at_ : Int) (w : World) (hT : Tabs w) (hs : s.size ≤ maxLen) :
    Calls Tryd.prog 83 #[.string s, .int .i64 at_] w fun e w' => e = .returned (.tuple #[.int .i64 (spanI s at_).1, .int .i64 (spanI s at_).2]) ∧ Below w.heap.size w w' := by
  by_cases h : at_ < 0 ∨ (s.size : Int) < at_
  · have hv : spanI s at_ = (0, 2) := by simp [spanI, h]
    rw [hv]
    exact span_out s at_ w h
  · have hv : spanI s at_ = spanP s at_.toNat := by simp [spanI, h]
    rw [hv]
    have := span_in s at_.toNat w hT (by omega) hs
    rw [Int.toNat_of_nonneg (by omega)] at this
    exact this
end Go.Proofs.YtpdohdmpjaklgaaDoor

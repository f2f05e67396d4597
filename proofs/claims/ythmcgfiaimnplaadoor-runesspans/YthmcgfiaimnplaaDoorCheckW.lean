/-
  What Check, Span and Name answer, the program's and the document's, for every text and place.
-/
import Derived.Test.YthmcgfiaimnplaaDoorRefStr
import Derived.Test.YthmcgfiaimnplaaDoorDecPure3
set_option linter.unusedSimpArgs false
set_option linter.unusedVariables false
namespace Go.Proofs.YthmcgfiaimnplaaDoor
open Go.RowKit Go.Lib

theorem ret2 {k l : IntKind} {a b c d : Int} (h : a = c) (h' : b = d) : Ending.returned (.tuple #[.int k a, .int l b]) = .returned (.tuple #[.int k c, .int l d]) := by rw [h, h']
theorem ret3 {k l m : IntKind} {a b c d x y : Int} (h : a = c) (h' : b = d) (h2 : x = y) : Ending.returned (.tuple #[.int k a, .int l b, .int m x]) = .returned (.tuple #[.int k c, .int l d, .int m y]) := by rw [h, h', h2]

/-! ### Check -/
set_option maxHeartbeats 1000000 in
theorem check_any (s : ByteArray) (w : World) (hT : Tabs w) :
    Calls Tryd.prog 10 #[.string s] w fun e w' => e = .returned (.tuple #[.int .i64 (chk s).1, .int .i64 (chk s).2]) ∧ Below w.heap.size w w' := by
  go_enter Tryd.func10, Tryd.ntmps10
  go_wp2
  go_loopw [4] (fun _ w' => ∃ (pos f : Nat), It w s pos w' ∧ Hid (chkF s f pos = chk s) ∧ s.size ≤ pos + f) (fun _ w' => s.size - w'.iterPos w.heap.size)
  case atStart => exact ⟨0, s.size, It.start w s, rfl, by omega⟩
  case round =>
    obtain ⟨pos, f, hI, HN, hf⟩ := hrel
    have hm := hI.pos
    by_cases hp : pos < s.size
    · have hnx : ∀ ty, (Instr.next (.pointer (some ⟨w.heap.size, 0, none⟩)) true ty).run Tryd.prog wr = _ := fun ty => run_next_any_at wr w.heap.size s pos ty hI.at_ hp
      obtain ⟨f, rfl⟩ : ∃ g, f = g + 1 := ⟨f - 1, by omega⟩
      have hw := width_pos s pos hp
      have hpz : (pos : Int) ≤ (s.size : Int) := by omega
      have HB : Hid (bad s pos = ((Utf8.decode s pos).1 == 65533 && (Utf8.decode s pos).2 == 1)) := rfl
      have cW : Hid (∀ W, Tabs W → Calls Tryd.prog 24 #[.string (s.extract pos s.size)] W fun e w' => e = .returned (.int .i64 (Utf8.decode s pos).2) ∧ Below W.heap.size W w') := fun W h => by
        have := width_any (s.extract pos s.size) W h
        rw [decGo_tail s pos hp] at this
        exact this
      have hI1 := hI.next (pos + (Utf8.decode s pos).2)
      have hT1 := hI1.tabs hT
      have HX := chkF_bad s f pos hp
      have HY := chkF_good s f pos hp
      have hx : Hid (bad s pos = true → chkF s (f + 1) pos = (pos, 4)) := HX
      have hy : Hid (bad s pos = false → chkF s (f + 1) pos = chkF s f (pos + (Utf8.decode s pos).2)) := HY
      clear HX HY
      have hr1 : ((Utf8.decode s pos).1 == 65533) = (((Utf8.decode s pos).1 : Int) == 65533) := by
        rw [Bool.eq_iff_iff]; simp; omega
      have hr2 : ((Utf8.decode s pos).2 == 1) = (((Utf8.decode s pos).2 : Int) == 1) := by
        rw [Bool.eq_iff_iff]; simp; omega
      rw [hr1, hr2] at HB
      clear hr1 hr2
      generalize (Utf8.decode s pos).2 = v at *
      generalize ((Utf8.decode s pos).1 : Int) = r at *
      cases h1 : (r == 65533)
      · have hb : bad s pos = false := by rw [HB.out, h1]; rfl
        go_wp2
        exact ⟨⟨pos + v, f, hI1, (hy.out hb).symm.trans HN.out, by omega⟩, by rw [hI1.pos, hm]; omega⟩
      · cases h2 : ((v : Int) == 1)
        · have hb : bad s pos = false := by rw [HB.out, h1, h2]; rfl
          go_wp2_with (go_at_call 24; refine (cW.out _ hT1).mono ?_; rintro e w2 ⟨rfl, hb2⟩)
          have hI2 := hI1.call hb2
          exact ⟨⟨pos + v, f, hI2, (hy.out hb).symm.trans HN.out, by omega⟩, by rw [hI2.pos, hm]; omega⟩
        · have hb : bad s pos = true := by rw [HB.out, h1, h2]; rfl
          go_wp2_with (go_at_call 24; refine (cW.out _ hT1).mono ?_; rintro e w2 ⟨rfl, hb2⟩)
          go_ret2
          have hc : chk s = (pos, 4) := HN.out.symm.trans (hx.out hb)
          exact ⟨ret2 (by rw [hc]) (by rw [hc]), (hI1.call hb2).below⟩
    · have hnx : ∀ ty, (Instr.next (.pointer (some ⟨w.heap.size, 0, none⟩)) true ty).run Tryd.prog wr = _ := fun ty => run_next_end_at wr w.heap.size s pos ty hI.at_ hp
      go_wp2
      go_ret2
      have hc : chk s = (0, 0) := HN.out.symm.trans (chkF_end s f pos hp)
      exact ⟨ret2 (by rw [hc]; rfl) (by rw [hc]), hI.below⟩

set_option maxHeartbeats 1000000 in
theorem refCheck_any (s : ByteArray) (w : World) (hs : s.size ≤ maxLen) :
    Calls Tryd.prog 11 #[.string s] w fun e w' => e = .returned (.tuple #[.int .i64 (chk s).1, .int .i64 (chk s).2]) ∧ Below w.heap.size w w' := by
  have hs0 := hs
  unfold maxLen at hs
  go_enter Tryd.func11, Tryd.ntmps11
  go_wp2
  go_loopw [4] (fun p w' => ∃ (pos f : Nat), p = .int .i64 pos ∧ Below w.heap.size w w' ∧ Hid (chkF s f pos = chk s) ∧ s.size ≤ pos + f ∧ pos ≤ s.size) (fun p _ => s.size - (RowKit.intOf p).toNat)
  case atStart => exact ⟨0, s.size, rfl, Below.refl _ _, rfl, by omega, by omega⟩
  case round =>
    obtain ⟨pos, f, rfl, hB, HN, hf, hle⟩ := hrel
    by_cases hp : pos < s.size
    · obtain ⟨f, rfl⟩ : ∃ g, f = g + 1 := ⟨f - 1, by omega⟩
      have hw := width_pos s pos hp
      have hw2 := dec_le s pos hp
      have cW : Hid (∀ W, Calls Tryd.prog 25 #[.string s, .int .i64 pos] W fun e w' => e = .returned (.int .i64 (wd s pos)) ∧ Below W.heap.size W w') := fun W => refWidth_in s pos W hp hs0
      cases hb : bad s pos
      · have hd : wd s pos = (Utf8.decode s pos).2 := by simp [wd, hb]
        rw [hd] at cW
        have hc : Hid (chkF s f (pos + (Utf8.decode s pos).2) = chk s) := (chkF_good s f pos hp hb).symm.trans HN.out
        generalize (Utf8.decode s pos).2 = v at *
        have hv : ((v : Int) == 0) = false := by simp; omega
        go_wp2_with (go_at_call 25; refine (cW.out _).mono ?_; rintro e w2 ⟨rfl, hb2⟩)
        have z := hB.size
        exact ⟨⟨pos + v, f, by go_num, hB.trans (hb2.mono z), hc, by omega, by omega⟩, by simp [RowKit.intOf]; omega⟩
      · have hd : wd s pos = 0 := by simp [wd, hb]
        rw [hd] at cW
        have hc : Hid (chk s = (pos, 4)) := HN.out.symm.trans (chkF_bad s f pos hp hb)
        go_wp2_with (go_at_call 25; refine (cW.out _).mono ?_; rintro e w2 ⟨rfl, hb2⟩)
        go_ret2
        have z := hB.size
        exact ⟨ret2 (by rw [hc.out]) (by rw [hc.out]), hB.trans (hb2.mono z)⟩
    · go_wp2
      go_ret2
      have hc : chk s = (0, 0) := HN.out.symm.trans (chkF_end s f pos hp)
      exact ⟨ret2 (by rw [hc]; rfl) (by rw [hc]), hB⟩

theorem outside_any (s : ByteArray) (at_ : Int) (w : World) :
    Calls Tryd.prog 26 #[.string s, .int .i64 at_] w fun e w' => e = .returned (.bool (decide (at_ < 0 ∨ (s.size : Int) < at_))) ∧ w' = w := by
  by_cases h1 : at_ < 0
  · go_enter Tryd.func26, Tryd.ntmps26
    go_wp2
    go_ret
    exact ⟨ret_bool (by simp [h1]), rfl⟩
  · go_enter Tryd.func26, Tryd.ntmps26
    go_wp2
    go_ret
    exact ⟨ret_bool (by simp; omega), rfl⟩
theorem behind_any (r : Int) (w : World) :
    Calls Tryd.prog 30 #[.int .i32 r] w fun e w' => e = .returned (.bool (onB r)) ∧ Below w.heap.size w w' := by
  have c1 : Hid (∀ W, Calls Tryd.prog 19 #[.int .i32 r] W fun e w' => e = .returned (.int .i64 (kd r)) ∧ Below W.heap.size W w') := fun W => by
    have := refKind_any r W; rw [← kd_eq] at this; exact this
  cases h1 : (kd r == 1)
  · cases h2 : (kd r == 2)
    · go_enter Tryd.func30, Tryd.ntmps30
      go_wp2_with (go_at_call 19; refine (c1.out _).mono ?_; rintro e w' ⟨rfl, hb1⟩)
      go_ret
      exact ⟨ret_bool (by simp [onB, h1, h2]), hb1⟩
    · go_enter Tryd.func30, Tryd.ntmps30
      go_wp2_with (go_at_call 19; refine (c1.out _).mono ?_; rintro e w' ⟨rfl, hb1⟩)
      go_ret
      exact ⟨ret_bool (by simp [onB, h1, h2]), hb1⟩
  · go_enter Tryd.func30, Tryd.ntmps30
    go_wp2_with (go_at_call 19; refine (c1.out _).mono ?_; rintro e w' ⟨rfl, hb1⟩)
    go_ret
    exact ⟨ret_bool (by simp [onB, h1]), hb1⟩
end Go.Proofs.YthmcgfiaimnplaaDoor

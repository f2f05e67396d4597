/-
  What Check, Span and Name answer, the program's and the document's, for every text and place.
-/
import Derived.Test.YtpdohdmpjaklgaaDoorMRefStr
import Derived.Test.YtpdohdmpjaklgaaDoorMRefNm
import Derived.Test.YtpdohdmpjaklgaaDoorMDecPure
import Derived.Test.YtpdohdmpjaklgaaDoorMOutW
set_option linter.unusedSimpArgs false
set_option linter.unusedVariables false
namespace Go.Proofs.YtpdohdmpjaklgaaDoor
open Go.RowKit Go.Lib

/-! ### Check -/
set_option maxHeartbeats 1000000 in
theorem utfCheck_any (s : ByteArray) (w : World) (hT : Tabs w) :
    Calls Tryd.prog 29 #[.string s] w fun e w' => e = .returned (.tuple #[.int .i64 (chk s).1, .int .i64 (chk s).2]) ∧ Below w.heap.size w w' := by
  go_enter Tryd.func29, Tryd.ntmps29
  go_wp2
  go_loopw [4] (fun _ w' => ∃ (pos f : Nat), It w s pos w' ∧ Hid (chkF s f pos = chk s) ∧ s.size ≤ pos + f) (fun _ w' => s.size - w'.iterPos w.heap.size)
  case atStart => exact ⟨0, s.size, It.start w s, rfl, by omega⟩
  case round =>
    obtain ⟨pos, f, hI, HN, hf⟩ := hrel
    have hm := hI.pos
    by_cases hp : pos < s.size
    · have hnx : ∀ ty, (Instr.next (.pointer (some ⟨w.heap.size, 0, none⟩)) true ty).run Tryd.prog wr = _ := fun ty => run_next_any_at wr w.heap.size s pos ty hI.at_ hp
      obtain ⟨f, rfl⟩ : ∃ g, f = g + 1 := ⟨f - 1, by omega⟩
      have hw := width_pos s pos hp
      have hpz : (pos : Int) ≤ (s.size : Int) := by omega
      have HB : Hid (bad s pos = ((Utf8.decode s pos).1 == 65533 && (Utf8.decode s pos).2 == 1)) := rfl
      have cW : Hid (∀ W, Tabs W → Calls Tryd.prog 53 #[.string (s.extract pos s.size)] W fun e w' => e = .returned (.int .i64 (Utf8.decode s pos).2) ∧ Below W.heap.size W w') := fun W h => by
        have := width_any (s.extract pos s.size) W h
        rw [decGo_tail s pos hp] at this
        exact this
      have hI1 := hI.next (pos + (Utf8.decode s pos).2)
      have hT1 := hI1.tabs hT
      have HX := chkF_bad s f pos hp
      have HY := chkF_good s f pos hp
      have hx : Hid (bad s pos = true → chkF s (f + 1) pos = (pos, 4)) := HX
      have hy : Hid (bad s pos = false → chkF s (f + 1) pos = chkF s f (pos + (Utf8.decode s pos).2)) := HY
      clear HX HY
      have hr1 : ((Utf8.decode s pos).1 == 65533) = (((Utf8.decode s pos).1 : Int) == 65533) := by
        rw [Bool.eq_iff_iff]; simp; omega
      have hr2 : ((Utf8.decode s pos).2 == 1) = (((Utf8.decode s pos).2 : Int) == 1) := by
        rw [Bool.eq_iff_iff]; simp; omega
      rw [hr1, hr2] at HB
      clear hr1 hr2
      generalize (Utf8.decode s pos).2 = v at *
      generalize ((Utf8.decode s pos).1 : Int) = r at *
      cases h1 : (r == 65533)
      · have hb : bad s pos = false := by rw [HB.out, h1]; rfl
        go_wp2
        exact ⟨⟨pos + v, f, hI1, (hy.out hb).symm.trans HN.out, by omega⟩, by rw [hI1.pos, hm]; omega⟩
      · cases h2 : ((v : Int) == 1)
        · have hb : bad s pos = false := by rw [HB.out, h1, h2]; rfl
          go_wp2_with (go_at_call 53; refine (cW.out _ hT1).mono ?_; rintro e w2 ⟨rfl, hb2⟩)
          have hI2 := hI1.call hb2
          exact ⟨⟨pos + v, f, hI2, (hy.out hb).symm.trans HN.out, by omega⟩, by rw [hI2.pos, hm]; omega⟩
        · have hb : bad s pos = true := by rw [HB.out, h1, h2]; rfl
          go_wp2_with (go_at_call 53; refine (cW.out _ hT1).mono ?_; rintro e w2 ⟨rfl, hb2⟩)
          go_ret2
          have hc : chk s = (pos, 4) := HN.out.symm.trans (hx.out hb)
          exact ⟨ret2 (by rw [hc]) (by rw [hc]), (hI1.call hb2).below⟩
    · have hnx : ∀ ty, (Instr.next (.pointer (some ⟨w.heap.size, 0, none⟩)) true ty).run Tryd.prog wr = _ := fun ty => run_next_end_at wr w.heap.size s pos ty hI.at_ hp
      go_wp2
      go_ret2
      have hc : chk s = (0, 0) := HN.out.symm.trans (chkF_end s f pos hp)
      exact ⟨ret2 (by rw [hc]; rfl) (by rw [hc]), hI.below⟩

set_option maxHeartbeats 1000000 in
theorem refUtf_any (s : ByteArray) (w : World) (hs : s.size ≤ maxLen) :
    Calls Tryd.prog 31 #[.string s] w fun e w' => e = .returned (.tuple #[.int .i64 (chk s).1, .int .i64 (chk s).2]) ∧ Below w.heap.size w w' := by
  have hs0 := hs
  unfold maxLen at hs
  go_enter Tryd.func31, Tryd.ntmps31
  go_wp2
  go_loopw [4] (fun p w' => ∃ (pos f : Nat), p = .int .i64 pos ∧ Below w.heap.size w w' ∧ Hid (chkF s f pos = chk s) ∧ s.size ≤ pos + f ∧ pos ≤ s.size) (fun p _ => s.size - (RowKit.intOf p).toNat)
  case atStart => exact ⟨0, s.size, rfl, Below.refl _ _, rfl, by omega, by omega⟩
  case round =>
    obtain ⟨pos, f, rfl, hB, HN, hf, hle⟩ := hrel
    by_cases hp : pos < s.size
    · obtain ⟨f, rfl⟩ : ∃ g, f = g + 1 := ⟨f - 1, by omega⟩
      have hw := width_pos s pos hp
      have hw2 := dec_le s pos hp
      have cW : Hid (∀ W, Calls Tryd.prog 37 #[.string s, .int .i64 pos] W fun e w' => e = .returned (.int .i64 (wd s pos)) ∧ Below W.heap.size W w') := fun W => refWidth_in s pos W hp hs0
      cases hb : bad s pos
      · have hd : wd s pos = (Utf8.decode s pos).2 := by simp [wd, hb]
        rw [hd] at cW
        have hc : Hid (chkF s f (pos + (Utf8.decode s pos).2) = chk s) := (chkF_good s f pos hp hb).symm.trans HN.out
        generalize (Utf8.decode s pos).2 = v at *
        have hv : ((v : Int) == 0) = false := by simp; omega
        go_wp2_with (go_at_call 37; refine (cW.out _).mono ?_; rintro e w2 ⟨rfl, hb2⟩)
        have z := hB.size
        exact ⟨⟨pos + v, f, by go_num, hB.trans (hb2.mono z), hc, by omega, by omega⟩, by simp [RowKit.intOf]; omega⟩
      · have hd : wd s pos = 0 := by simp [wd, hb]
        rw [hd] at cW
        have hc : Hid (chk s = (pos, 4)) := HN.out.symm.trans (chkF_bad s f pos hp hb)
        go_wp2_with (go_at_call 37; refine (cW.out _).mono ?_; rintro e w2 ⟨rfl, hb2⟩)
        go_ret2
        have z := hB.size
        exact ⟨ret2 (by rw [hc.out]) (by rw [hc.out]), hB.trans (hb2.mono z)⟩
    · go_wp2
      go_ret2
      have hc : chk s = (0, 0) := HN.out.symm.trans (chkF_end s f pos hp)
      exact ⟨ret2 (by rw [hc]; rfl) (by rw [hc]), hB⟩
end Go.Proofs.YtpdohdmpjaklgaaDoor

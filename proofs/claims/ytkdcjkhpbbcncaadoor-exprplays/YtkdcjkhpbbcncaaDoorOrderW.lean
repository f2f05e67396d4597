/-
  What first, width, cmp.Compare and Order answer, for every text.
-/
import Derived.Test.YtkdcjkhpbbcncaaDoorFirstW
set_option linter.unusedSimpArgs false
namespace Go.Proofs.YtkdcjkhpbbcncaaDoor
open Go.RowKit Go.Lib

theorem compare_any (a b : Int) (w : World) :
    Calls Tryd.prog 87 #[.int .i32 a, .int .i32 b] w fun e w' => e = .returned (.int .i64 (cmp3 a b)) ∧ w' = w := by
  go_enter Tryd.func87, Tryd.ntmps87
  go_wp2
  all_goals go_ret
  all_goals exact ⟨ret_int (by unfold cmp3; simp_all; try omega), rfl⟩

set_option maxHeartbeats 1000000 in
theorem order_any (s t : ByteArray) (w : World) (hT : Tabs w) :
    Calls Tryd.prog 53 #[.string s, .string t] w fun e w' => e = .returned (.int .i64 (ordI s t)) ∧ Below w.heap.size w w' := by

  go_enter Tryd.func53, Tryd.ntmps53
  go_wp2
  go_loopw [1] (fun c w' => ∃ (pos f : Nat) (t' : ByteArray), It w s pos w' ∧ c = .string t' ∧ t'.size ≤ t.size ∧ Hid (cmpL (runesFrom s f pos) (rl t') = ordI s t) ∧ s.size ≤ pos + f) (fun _ w' => s.size - w'.iterPos w.heap.size)
  case atStart => exact ⟨0, s.size, t, It.start w s, rfl, Nat.le_refl _, rfl, by omega⟩
  case round =>
    obtain ⟨pos, f, t', hI, rfl, hle, HN, hf⟩ := hrel
    have hm := hI.pos
    by_cases hp : pos < s.size
    · have hnx : ∀ ty, (Instr.next (.pointer (some ⟨w.heap.size, 0, none⟩)) true ty).run Tryd.prog wr = _ := fun ty => run_next_any_at wr w.heap.size s pos ty hI.at_ hp
      obtain ⟨f, rfl⟩ : ∃ g, f = g + 1 := ⟨f - 1, by omega⟩
      have hw := width_pos s pos hp
      have HX := runesFrom_cons s f pos hp
      generalize (Utf8.decode s pos).2 = v at *
      generalize ((Utf8.decode s pos).1 : Int) = r at *
      have hI1 := hI.next (pos + v)
      have hT1 := (hI1.tabs hT)
      have HY : Hid (runesFrom s (f + 1) pos = r :: runesFrom s f (pos + v)) := HX
      clear HX
      by_cases h0 : t'.size = 0
      · have he := empty_yes t' h0
        go_wp2
        go_ret
        exact ⟨ret_int (by rw [← HN.out, HY.out, rl_nil t' h0]; rfl), hI1.below⟩
      · have he := empty_no t' h0
        have hd := width_pos t' 0 (by omega)
        have hd2 := dec_le t' 0 (by omega)
        have HC := rl_cons t' h0
        rw [← decGo t' h0] at hd hd2
        have cF : Hid (∀ W, Tabs W → Calls Tryd.prog 88 #[.string t'] W fun e w' => e = .returned (.int .i32 (decodeGo t').1) ∧ Below W.heap.size W w') := first_any t'
        have cW : Hid (∀ W, Tabs W → Calls Tryd.prog 89 #[.string t'] W fun e w' => e = .returned (.int .i64 (decodeGo t').2) ∧ Below W.heap.size W w') := width_any t'
        have HD : Hid (rl t' = ((decodeGo t').1 : Int) :: rl (t'.extract (decodeGo t').2 t'.size)) := HC
        clear HC
        generalize (decodeGo t').2 = k at *
        generalize ((decodeGo t').1 : Int) = q at *
        cases hc : (cmp3 r q == 0)
        · have hc' : (cmp3 r q != 0) = true := by simpa using hc
          have hc2 : ¬ cmp3 r q = 0 := by simpa using hc
          have HC2 : Hid (¬ cmp3 r q = 0) := hc2
          clear hc2
          go_wp2_with (first | (go_at_call 88; refine (cF.out _ hT1).mono ?_; rintro e w2 ⟨rfl, hb2⟩) | (go_at_call 87; refine (compare_any _ _ _).mono ?_; rintro e w3 ⟨rfl, hw3⟩; obtain rfl := hw3.symm))
          go_ret
          exact ⟨ret_int (by rw [← HN.out, HY.out, HD.out, cmpL, if_neg HC2.out]), (hI1.call hb2).below⟩
        · have hc' : (cmp3 r q != 0) = false := by simpa using hc
          have hc2 : cmp3 r q = 0 := by simpa using hc
          have HC2 : Hid (cmp3 r q = 0) := hc2
          clear hc2
          have hk : (k : Int) ≤ (t'.size : Int) := by omega
          go_wp2_with (first | (go_at_call 88; refine (cF.out _ hT1).mono ?_; rintro e w2 ⟨rfl, hb2⟩; have hT2 := hT1.below hb2) | (go_at_call 87; refine (compare_any _ _ _).mono ?_; rintro e w3 ⟨rfl, hw3⟩; obtain rfl := hw3.symm) | (go_at_call 89; refine (cW.out _ hT2).mono ?_; rintro e w4 ⟨rfl, hb4⟩))
          have hI4 := (hI1.call hb2).call hb4
          refine ⟨⟨pos + v, f, _, hI4, rfl, by rw [tail_size]; omega, ?_, by omega⟩, ?_⟩
          · show cmpL (runesFrom s f (pos + v)) (rl (t'.extract k t'.size)) = ordI s t
            rw [← HN.out, HY.out, HD.out, cmpL, if_pos HC2.out]
          · rw [hI4.pos, hm]; omega
    · have hnx : ∀ ty, (Instr.next (.pointer (some ⟨w.heap.size, 0, none⟩)) true ty).run Tryd.prog wr = _ := fun ty => run_next_end_at wr w.heap.size s pos ty hI.at_ hp
      by_cases h0 : t'.size = 0
      · have he := empty_yes t' h0
        go_wp2
        go_ret
        exact ⟨ret_int (by rw [← HN.out, runesFrom_end s f pos hp, rl_nil t' h0]; rfl), hI.below⟩
      · have he := empty_no t' h0
        go_wp2
        go_ret
        exact ⟨ret_int (by rw [← HN.out, runesFrom_end s f pos hp, rl_cons t' h0]; rfl), hI.below⟩
end Go.Proofs.YtkdcjkhpbbcncaaDoor

/-
  RunesRange: bad bytes, and columns, as the language's own conversion and range tell them.
-/
import Derived.Test.YthmcgfiaimnplaaDoorRangePure
import Derived.Test.YthmcgfiaimnplaaDoorRefOrdW
set_option linter.unusedSimpArgs false
set_option linter.unusedVariables false
namespace Go.Proofs.YthmcgfiaimnplaaDoor.range
open Go.RowKit Go.Lib

theorem conv_back (s : ByteArray) (cap : Nat) (b : Nat) (w1 : World) (hc : ∀ j, j < (rl s).length → w1.cell? ⟨b, j, none⟩ = some (.int .i32 ((rl s).getD j 0))) :
    (convert 39 9 (.slice (some ⟨b, 0, none⟩) (rl s).length cap)).run Tryd.prog w1 = .ok (.string (runesBytes (rl s))) w1 := by
  have h := run_convert_runes (P := Tryd.prog) w1 39 9 21 ⟨b, 0, none⟩ (rl s).length cap (rl s) (Nat.le_refl _) Tryd.underlying39 Tryd.underlying21 Tryd.underlying9 (fun j hj => by
    have := hc j hj
    by_cases h0 : j = 0
    · subst h0; simpa [Addr.add] using this
    · simpa [Addr.add, h0] using this)
  rw [List.take_length] at h
  exact h

set_option maxHeartbeats 4000000 in
theorem walk_good (s : ByteArray) (w : World) (hT : Tabs w) (hs : s.size ≤ 70368744177664) (h : chk s = (0, 0)) :
    Calls Tryd.prog 7 #[.string s] w fun e w' => e = .returned (.bool true) ∧ Below w.heap.size w w' := by
  have hbk := back_eq s
  rw [h] at hbk
  have hbk : ((runesBytes (rl s)).toList == s.toList) = true := hbk
  go_enter Tryd.func7, Tryd.ntmps7
  go_wp2_with fail
  refine (awake_any _ hT).mono ?_
  rintro e w0 ⟨rfl, B0⟩
  have hT0 := hT.below B0
  have c1 := check_any s w0 hT0
  rw [h] at c1
  go_wp2_with fail
  refine c1.mono ?_
  rintro e w1 ⟨rfl, hb1⟩
  clear c1
  have hT1 := hT0.below hb1
  have B1 := B0.trans (hb1.mono B0.size)
  obtain ⟨ca, w2, hc1, hb2, hz2, hc2⟩ := conv_runes s w1 hs
  have hcb := conv_back s ca w1.heap.size w2 hc2
  clear hc2
  have hT2 := hT1.below hb2
  have B2 := B1.trans (hb2.mono B1.size)
  clear hz2
  generalize runesBytes (rl s) = RB at *
  go_wp2
  clear hcb hc1 hbk hb2
  go_loopw [9, 10] (fun a b w' => ∃ (pos f l c : Nat), a = .int .i64 l ∧ b = .int .i64 c ∧ It w2 s pos w' ∧ Hid (G s pos) ∧ Hid (colE (s.extract 0 pos) = (l, c)) ∧ Hid (chkF s f pos = (0, 0)) ∧ s.size ≤ pos + f ∧ pos ≤ s.size ∧ l ≤ pos + 1 ∧ c ≤ pos + 1) (fun _ _ w' => s.size - w'.iterPos w2.heap.size)
  case atStart =>
    exact ⟨0, s.size, 1, 1, rfl, rfl, It.start w2 s, G_start s, by
      show colE (s.extract 0 0) = (1, 1)
      unfold colE
      rw [coF_end _ _ _ _ _ (by rw [head_size s 0 (by omega)]; omega)], h, by omega, by omega, by omega, by omega⟩
  case round =>
    obtain ⟨pos, f, l, c, rfl, rfl, hI, HG, HC, HK, hf, hps, hl, hc⟩ := hrel
    have hm := hI.pos
    have hr60 : s.size ≤ 1152921504606846976 := by omega
    have cC : Hid (∀ W, Calls Tryd.prog 16 #[.string s, .int .i64 pos] W fun e w' => e = .returned (.tuple #[.int .i64 l, .int .i64 c, .int .i64 0]) ∧ Below W.heap.size W w') := fun W => by
      have := column_in s pos W hps hr60
      rw [HC.out] at this
      exact this
    by_cases hp : pos < s.size
    · have hnx : ∀ ty, (Instr.next (.pointer (some ⟨w2.heap.size, 0, none⟩)) true ty).run Tryd.prog wr = _ := fun ty => run_next_any_at wr w2.heap.size s pos ty hI.at_ hp
      obtain ⟨f, rfl⟩ : ∃ g, f = g + 1 := ⟨f - 1, by omega⟩
      have hw := width_pos s pos hp
      have hw2 := dec_le s pos hp
      have hbad : bad s pos = false := by
        cases hb : bad s pos
        · rfl
        · have := HK.out; rw [chkF_bad s f pos hp hb] at this; simp at this
      have HK' : Hid (chkF s f (pos + (Utf8.decode s pos).2) = (0, 0)) := (chkF_good s f pos hp hbad).symm.trans HK.out
      have HG' : Hid (G s (pos + (Utf8.decode s pos).2)) := G_step s pos hp hbad HG.out
      have HC' : Hid (colE (s.extract 0 (pos + (Utf8.decode s pos).2)) = if (Utf8.decode s pos).1 = 10 then (l + 1, 1) else (l, c + 1)) := col_step s pos l c hp hbad HG.out HC.out
      clear HG HC HK hbad
      have hI1 := hI.next (pos + (Utf8.decode s pos).2)
      by_cases hr : (Utf8.decode s pos).1 = 10
      · rw [if_pos hr] at HC'
        have hri : (((Utf8.decode s pos).1 : Int) == 10) = true := by simp; omega
        clear hr
        generalize (Utf8.decode s pos).2 = v at *
        generalize ((Utf8.decode s pos).1 : Int) = r at *
        go_wp2_with (go_at_call 16; refine (cC.out _).mono ?_; rintro e w3 ⟨rfl, hb3⟩)
        have hI3 := hI1.call hb3
        exact ⟨⟨pos + v, f, l + 1, 1, by go_num, rfl, hI3, HG', HC', HK', by omega, by omega, by omega, by omega⟩, by rw [hI3.pos, hm]; omega⟩
      · rw [if_neg hr] at HC'
        have hri : (((Utf8.decode s pos).1 : Int) == 10) = false := by simp; omega
        clear hr
        generalize (Utf8.decode s pos).2 = v at *
        generalize ((Utf8.decode s pos).1 : Int) = r at *
        go_wp2_with (go_at_call 16; refine (cC.out _).mono ?_; rintro e w3 ⟨rfl, hb3⟩)
        have hI3 := hI1.call hb3
        exact ⟨⟨pos + v, f, l, c + 1, rfl, by go_num, hI3, HG', HC', HK', by omega, by omega, by omega, by omega⟩, by rw [hI3.pos, hm]; omega⟩
    · have hnx : ∀ ty, (Instr.next (.pointer (some ⟨w2.heap.size, 0, none⟩)) true ty).run Tryd.prog wr = _ := fun ty => run_next_end_at wr w2.heap.size s pos ty hI.at_ hp
      have hpe : pos = s.size := by omega
      rw [hpe] at cC
      clear HG HC HK hpe
      go_wp2_with (go_at_call 16; refine (cC.out _).mono ?_; rintro e w3 ⟨rfl, hb3⟩)
      go_ret
      exact ⟨ret_bool (by simp), B2.trans ((hI.call hb3).below.mono B2.size)⟩

set_option maxHeartbeats 4000000 in
theorem walk_bad (s : ByteArray) (w : World) (hT : Tabs w) (hs : s.size ≤ 70368744177664) (p : Nat) (h : chk s = (p, 4)) :
    Calls Tryd.prog 7 #[.string s] w fun e w' => e = .returned (.bool true) ∧ Below w.heap.size w w' := by
  have hbk := back_eq s
  rw [h] at hbk
  have hbk : ((runesBytes (rl s)).toList == s.toList) = false := hbk
  obtain ⟨hps, hpb, hpg⟩ := bad_first s p s.size 0 (by omega) (G_start s) h
  have hd : Utf8.decode s p = (65533, 1) := bad_eq hpb
  have hg2 : (chk (s.extract 0 p)).2 = 0 := hpg.2
  have hpz : (p : Int) ≤ (s.size : Int) := by omega
  have hpz2 : (p : Int) < (s.size : Int) := by omega
  have hd0 : decide ((p : Int) < 0) = false := by simp
  have hd1 : decide (s.size ≤ p) = false := by simp; omega
  have HH := head_size s p (by omega)
  go_enter Tryd.func7, Tryd.ntmps7
  go_wp2_with fail
  refine (awake_any _ hT).mono ?_
  rintro e w0 ⟨rfl, B0⟩
  have hT0 := hT.below B0
  have c1 := check_any s w0 hT0
  rw [h] at c1
  go_wp2_with fail
  refine c1.mono ?_
  rintro e w1 ⟨rfl, hb1⟩
  clear c1
  have hT1 := hT0.below hb1
  have B1 := B0.trans (hb1.mono B0.size)
  obtain ⟨ca, w2, hc1, hb2, hz2, hc2⟩ := conv_runes s w1 hs
  have hcb := conv_back s ca w1.heap.size w2 hc2
  clear hc2 hpg
  have hT2 := hT1.below hb2
  have B2 := B1.trans (hb2.mono B1.size)
  clear hz2
  generalize runesBytes (rl s) = RB at *
  have c2 := check_any (s.extract 0 p) w2 hT2
  rw [hg2] at c2
  generalize (chk (s.extract 0 p)).1 = p2 at *
  go_wp2_with fail
  refine c2.mono ?_
  rintro e w3 ⟨rfl, hb3⟩
  clear c2 hc1 hcb
  have B3 := B2.trans (hb3.mono B2.size)
  have hSz := tail_size s p
  have hD := dec_tail s p 0
  rw [Nat.add_zero, hd] at hD
  clear hd h hpb hg2 hbk
  go_wp2
  generalize s.extract p s.size = S at *
  go_loopw [7] (fun a w' => a = .int .i64 0 ∧ ∃ q : Nat, It w3 S q w' ∧ (q = 0 ∨ q = 1)) (fun _ w' => S.size - w'.iterPos w3.heap.size)
  case atStart => exact ⟨rfl, 0, It.start w3 S, .inl rfl⟩
  case round =>
    obtain ⟨rfl, q, hI, hq⟩ := hrel
    have hm := hI.pos
    rcases hq with rfl | rfl
    · have hnx : ∀ ty, (Instr.next (.pointer (some ⟨w3.heap.size, 0, none⟩)) true ty).run Tryd.prog wr = _ := fun ty => run_next_any_at wr w3.heap.size S 0 ty hI.at_ (by omega)
      rw [hD] at hnx
      have hI1 := hI.next 1
      go_wp2
      exact ⟨⟨rfl, 1, hI1, .inr rfl⟩, by rw [hI1.pos, hm]; omega⟩
    · by_cases hlt : 1 < S.size
      · have hnx : ∀ ty, (Instr.next (.pointer (some ⟨w3.heap.size, 0, none⟩)) true ty).run Tryd.prog wr = _ := fun ty => run_next_any_at wr w3.heap.size S 1 ty hI.at_ hlt
        have hI1 := hI.next (1 + (Utf8.decode S 1).2)
        go_wp2
        go_ret
        exact ⟨rfl, B3.trans (hI1.below.mono B3.size)⟩
      · have hnx : ∀ ty, (Instr.next (.pointer (some ⟨w3.heap.size, 0, none⟩)) true ty).run Tryd.prog wr = _ := fun ty => run_next_end_at wr w3.heap.size S 1 ty hI.at_ hlt
        have hpl : ((p : Int) == (s.size : Int) - 1) = true := by simp; omega
        go_wp2
        go_ret
        exact ⟨ret_bool (by simp), B3.trans (hI.below.mono B3.size)⟩

theorem walk (s : ByteArray) (w : World) (hT : Tabs w) (hs : s.size ≤ 70368744177664) :
    Calls Tryd.prog 7 #[.string s] w fun e w' => e = .returned (.bool true) ∧ Below w.heap.size w w' := by
  rcases chk_cases s with h | ⟨p, h⟩
  · exact walk_good s w hT hs h
  · exact walk_bad s w hT hs p h
end Go.Proofs.YthmcgfiaimnplaaDoor.range

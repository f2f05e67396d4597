/-
  The document's Apply.
-/
import Derived.Test.YtkgfcamlfnlpoaaDoorArRf
set_option linter.unusedSimpArgs false
set_option linter.unusedVariables false
namespace Go.Proofs.YtkgfcamlfnlpoaaDoor
open Go.RowKit Go.Lib

set_option maxRecDepth 100000 in
set_option maxHeartbeats 4000000 in
theorem refApply_one (op : Int) (v : Value) (x : Int) (w : World) (hA : Ags w v [x]) (h : op = 3 ∨ op = 4) :
    Calls Tryd.prog 68 #[.int .i64 op, v] w fun e w' => e = .returned (.tuple #[.int .i64 (ap1 op x), .int .i64 0]) ∧ w' = w := by
  have ca : Hid (∀ W, Calls Tryd.prog 56 #[.int .i64 op] W fun e w' => e = .returned (.int .i64 1) ∧ w' = W) := fun W => by
    have := refArityA_any op W
    rw [if_neg (by omega), show aaK op = 1 by unfold aaK; rw [if_pos h] ] at this
    exact this
  obtain ⟨a, c, rfl, hx⟩ := hA
  obtain hx | ⟨b, o, rfl, hx⟩ := hx
  · simp at hx
  have h0 := hx 0 x rfl
  rw [Nat.add_zero] at h0
  simp only [List.length_cons, List.length_nil, Nat.zero_add]
  clear hx
  have e3 : ap1 3 x = wrap64 (-x) := by simp [ap1]
  have e4 : ap1 4 x = wrap64 (-1 - x) := by
    have : ap1 4 x = (~~~ B6 x).toInt := by simp [ap1, bits_not]
    rw [this]
    refine b6_inj (toInt_in _) (w6_in _) ?_
    have e1 : B6 (-1) = -1#64 := by decide
    rw [b6_toInt, b6_w6, b6_sub, e1]
    have e2 := BitVec.neg_eq_not_add (x := B6 x)
    have e3 : (-1#64) - B6 x = -(B6 x) - 1#64 := by rw [BitVec.sub_eq_add_neg, BitVec.sub_eq_add_neg, BitVec.add_comm]
    rw [e3, e2, BitVec.add_sub_cancel]
  rcases h with rfl | rfl
  · rw [e3]
    clear e3 e4
    go_enter Tryd.func68, Tryd.ntmps68
    go_wp2_with (go_at_call 56; refine (ca.out _).mono ?_; rintro e w2 ⟨rfl, hw⟩; obtain rfl := hw.symm)
    go_ret2
    exact ⟨retII (by simp) rfl, by first | rfl | trivial⟩
  · rw [e4]
    clear e3 e4
    go_enter Tryd.func68, Tryd.ntmps68
    go_wp2_with (go_at_call 56; refine (ca.out _).mono ?_; rintro e w2 ⟨rfl, hw⟩; obtain rfl := hw.symm)
    go_ret2
    exact ⟨retII (by simp) rfl, by first | rfl | trivial⟩

set_option maxRecDepth 100000 in
set_option maxHeartbeats 4000000 in
theorem refApply_three (v : Value) (x y z : Int) (w : World) (hA : Ags w v [x, y, z]) :
    Calls Tryd.prog 68 #[.int .i64 17, v] w fun e w' => e = .returned (.tuple #[.int .i64 (if x = 0 then z else y), .int .i64 0]) ∧ w' = w := by
  have ca : Hid (∀ W, Calls Tryd.prog 56 #[.int .i64 17] W fun e w' => e = .returned (.int .i64 3) ∧ w' = W) := fun W => refArityA_any 17 W
  obtain ⟨r, hr⟩ : ∃ r, (if x = 0 then z else y) = r := ⟨_, rfl⟩
  have HR : Hid ((if x = 0 then z else y) = r) := hr
  rw [hr]
  obtain ⟨a, c, rfl, hx⟩ := hA
  obtain hx | ⟨b, o, rfl, hx⟩ := hx
  · simp at hx
  have h0 := hx 0 x rfl
  have h1 := hx 1 y rfl
  have h2 := hx 2 z rfl
  rw [Nat.add_zero] at h0
  simp only [List.length_cons, List.length_nil, Nat.zero_add]
  clear hx hr
  go_enter Tryd.func68, Tryd.ntmps68
  go_wp2_with (go_at_call 56; refine (ca.out _).mono ?_; rintro e w2 ⟨rfl, hw⟩; obtain rfl := hw.symm)
  all_goals
    go_ret2
    have hR := HR.out
    refine ⟨retII ?_ rfl, by first | rfl | trivial⟩
    rw [← hR]
    simp_all

set_option maxRecDepth 100000 in
set_option maxHeartbeats 4000000 in
theorem refApply_two (op : Int) (v : Value) (x y : Int) (w : World) (hA : Ags w v [x, y]) (h : 5 ≤ op ∧ op ≤ 16) (hx6 : i6 x) (hy6 : i6 y) :
    Calls Tryd.prog 68 #[.int .i64 op, v] w fun e w' => e = .returned (.tuple #[.int .i64 (apR op [x, y]).1, .int .i64 (apR op [x, y]).2]) ∧ ∃ m, w' = w.drewN m := by
  have ca : Hid (∀ W, Calls Tryd.prog 56 #[.int .i64 op] W fun e w' => e = .returned (.int .i64 2) ∧ w' = W) := fun W => by
    have := refArityA_any op W
    rw [if_neg (by omega), show aaK op = 2 by unfold aaK; rw [if_neg (by omega), if_pos h] ] at this
    exact this
  obtain ⟨a, c, rfl, hx⟩ := hA
  obtain hx | ⟨b, o, rfl, hx⟩ := hx
  · simp at hx
  have h0 := hx 0 x rfl
  have h1 := hx 1 y rfl
  rw [Nat.add_zero] at h0
  simp only [List.length_cons, List.length_nil, Nat.zero_add]
  clear hx
  have g3 : (op == 3) = false := by rw [beq_eq_false_iff_ne]; omega
  have g4 : (op == 4) = false := by rw [beq_eq_false_iff_ne]; omega
  have g17 : (op == 17) = false := by rw [beq_eq_false_iff_ne]; omega
  by_cases hz : (op = 8 ∨ op = 9) ∧ y = 0
  · have e : apR op [x, y] = (0, 12) := by simp only [apR]; rw [if_pos h, if_pos hz]
    rw [e]
    obtain ⟨h89, rfl⟩ := hz
    clear hx6 hy6 h
    rcases h89 with rfl | rfl
    all_goals
      clear g3 g4 g17
      go_enter Tryd.func68, Tryd.ntmps68
      go_wp2_with (go_at_call 56; refine (ca.out _).mono ?_; rintro e w2 ⟨rfl, hw⟩; obtain rfl := hw.symm)
      go_ret2
      exact ⟨rfl, 0, rfl⟩
  · have e : apR op [x, y] = (ap2 op x y, 0) := by simp only [apR]; rw [if_pos h, if_neg hz]
    rw [e]
    have ct : Hid (∀ W, Calls Tryd.prog 95 #[.int .i64 op, .int .i64 x, .int .i64 y] W fun e w' => e = .returned (.int .i64 (ap2 op x y)) ∧ w' = W) := fun W => two_any op x y W hx6 hy6 h (fun h8 c => hz ⟨h8, c⟩)
    generalize ap2 op x y = R at *
    simp only
    have hzz : ((op == 8 || op == 9) && y == 0) = false := by
      rw [Bool.eq_false_iff]; intro c; apply hz; simpa using c
    by_cases h8 : op = 8 ∨ op = 9
    · have hy : (y == 0) = false := by rw [beq_eq_false_iff_ne]; intro c; exact hz ⟨h8, c⟩
      clear e hz hzz hx6 hy6 h
      rcases h8 with rfl | rfl
      all_goals
        clear g3 g4 g17
        go_enter Tryd.func68, Tryd.ntmps68
        go_wp2_with (go_at_call 56; refine (ca.out _).mono ?_; rintro e w2 ⟨rfl, hw⟩; obtain rfl := hw.symm)
        go_quiet ((go_at_call 95; exact Calls.quiet_of (Calls.same (ct.out _))))
        go_wp2
        go_ret2
        exact ⟨rfl, _, rfl⟩
    · have g8 : (op == 8) = false := by rw [beq_eq_false_iff_ne]; omega
      have g9 : (op == 9) = false := by rw [beq_eq_false_iff_ne]; omega
      clear e hz hzz hx6 hy6 h h8
      go_enter Tryd.func68, Tryd.ntmps68
      go_wp2_with (go_at_call 56; refine (ca.out _).mono ?_; rintro e w2 ⟨rfl, hw⟩; obtain rfl := hw.symm)
      go_quiet ((go_at_call 95; exact Calls.quiet_of (Calls.same (ct.out _))))
      go_wp2
      go_ret2
      exact ⟨rfl, _, rfl⟩

/-- WHAT THE DOCUMENT's APPLY ANSWERS. -/
theorem refApply_any (op : Int) (v : Value) (l : List Int) (w : World) (hA : Ags w v l) (hl : ∀ x ∈ l, i6 x) :
    Calls Tryd.prog 68 #[.int .i64 op, v] w fun e w' => e = .returned (.tuple #[.int .i64 (apR op l).1, .int .i64 (apR op l).2]) ∧ ∃ m, w' = w.drewN m := by
  by_cases hb : (op < 3 ∨ 17 < op) ∨ (l.length : Int) ≠ aaK op
  · have e : apR op l = (0, 2) := by
      unfold aaK at hb
      unfold apR
      split
      · rw [if_neg]; intro h; rw [if_pos h] at hb; simp at hb; omega
      · rw [if_neg]; intro h; rw [if_neg (by omega), if_pos h] at hb; simp at hb; omega
      · rw [if_neg]; intro h; rw [if_neg (by omega), if_neg (by omega), if_pos h] at hb; simp at hb; omega
      · rfl
    rw [e]; exact Calls.same (refApply_bad op v l w hA hb)
  have hr : ¬ (op < 3 ∨ 17 < op) := fun c => hb (.inl c)
  have hn : (l.length : Int) = aaK op := Decidable.byContradiction fun c => hb (.inr c)
  by_cases h34 : op = 3 ∨ op = 4
  · have e : aaK op = 1 := by unfold aaK; rw [if_pos (by omega)]
    rw [e] at hn
    match l, hn, hA with
    | [x], _, hA =>
      have e2 : apR op [x] = (ap1 op x, 0) := by simp only [apR]; rw [if_pos (by omega)]
      rw [e2]; exact Calls.same (refApply_one op v x w hA h34)
  by_cases h17 : op = 17
  · subst h17
    match l, hn, hA with
    | [x, y, z], _, hA => exact Calls.same (refApply_three v x y z w hA)
  · have e : aaK op = 2 := by unfold aaK; rw [if_neg (by omega), if_pos (by omega)]
    rw [e] at hn
    match l, hn, hA, hl with
    | [x, y], _, hA, hl => exact refApply_two op v x y w hA (by omega) (hl x (by simp)) (hl y (by simp))
end Go.Proofs.YtkgfcamlfnlpoaaDoor

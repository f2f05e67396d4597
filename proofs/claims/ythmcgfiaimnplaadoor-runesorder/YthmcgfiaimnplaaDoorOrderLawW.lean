/-
  RunesOrder: the order is one, and that of the bytes.
-/
import Derived.Test.YthmcgfiaimnplaaDoorCheckW
import Derived.Test.YthmcgfiaimnplaaDoorBytePure
set_option linter.unusedSimpArgs false
set_option linter.unusedVariables false
namespace Go.Proofs.YthmcgfiaimnplaaDoor.order
open Go.RowKit Go.Lib

theorem chkF_range (s : ByteArray) : ∀ f pos, (chkF s f pos).2 = 0 ∨ (chkF s f pos).2 = 4
  | 0, _ => by simp [chkF]
  | f + 1, pos => by
    unfold chkF
    split
    · split
      · simp
      · exact chkF_range s f _
    · simp

theorem gtr_run (a b : ByteArray) (w : World) : (binOp .gtr 9 (.string a) (.string b)).run Tryd.prog w = .ok (.bool (!(Op.bytesLess a.toList b.toList || a.toList == b.toList))) w := by
  kernel_rfl
/-- What the order says of a, b and c, with x for a against b; l, g: is a less, is a greater by its bytes. -/
structure Facts (a b c : ByteArray) (x : Int) (l g : Bool) : Prop where
  self : ordI a a = 0
  ab : ordI a b = x
  ba : ordI b a = -x
  ac : x ≤ 0 → ordI b c ≤ 0 → ordI a c ≤ 0
  pre : (chk a).2 = 0 → ordI a (a ++ b) ≤ 0
  lon : ¬ b.size = 0 → ordI (a ++ ⟨#[120]⟩ ++ b) (a ++ ⟨#[120]⟩) = 1
  lss : (chk a).2 = 0 → (chk b).2 = 0 → Op.bytesLess a.toList b.toList = l
  gtr : (chk a).2 = 0 → (chk b).2 = 0 → ∀ W, (binOp .gtr 9 (.string a) (.string b)).run Tryd.prog W = .ok (.bool g) W

theorem facts (a b c : ByteArray) : Facts a b c (-1) true false ∨ Facts a b c 0 false false ∨ Facts a b c 1 false true := by
  have h0 := cmpL_range (rl a) (rl b)
  rcases h0 with h | h | h
  · refine .inl ⟨ord_self a, h, by rw [ord_neg b a]; unfold ordI; rw [h], fun _ => ord_trans a b c (by unfold ordI; rw [h]; decide), ord_prefix a b, ord_longer a b, fun k k' => ?_, fun k k' W => ?_⟩
    · rw [less_good a b k k']; unfold ordI; rw [h]; rfl
    · rw [gtr_run, less_good a b k k', eq_good a b k k']; unfold ordI; rw [h]; rfl
  · refine .inr (.inl ⟨ord_self a, h, by rw [ord_neg b a]; unfold ordI; rw [h], fun _ => ord_trans a b c (by unfold ordI; rw [h]; decide), ord_prefix a b, ord_longer a b, fun k k' => ?_, fun k k' W => ?_⟩)
    · rw [less_good a b k k']; unfold ordI; rw [h]; rfl
    · rw [gtr_run, less_good a b k k', eq_good a b k k']; unfold ordI; rw [h]; rfl
  · refine .inr (.inr ⟨ord_self a, h, by rw [ord_neg b a]; unfold ordI; rw [h], fun k => absurd k (by decide), ord_prefix a b, ord_longer a b, fun k k' => ?_, fun k k' W => ?_⟩)
    · rw [less_good a b k k']; unfold ordI; rw [h]; rfl
    · rw [gtr_run, less_good a b k k', eq_good a b k k']; unfold ordI; rw [h]; rfl

set_option maxHeartbeats 4000000 in
theorem core1 (a b c : ByteArray) (w : World) (hT : Tabs w) (ha : a.size ≤ 1152921504606846976) (hb : b.size ≤ 1152921504606846976) (F : Facts a b c (1) false true) :
    Calls Tryd.prog 6 #[.string a, .string b, .string c] w fun e w' => e = .returned (.bool true) ∧ Below w.heap.size w w' := by
  have sx : (⟨#[120]⟩ : ByteArray).size = 1 := rfl
  have o1 := F.self
  have o2 := F.ab
  have o3 : ordI b a = -1 := F.ba
  by_cases hz : b.size = 0
  all_goals
    rcases chkF_range a a.size 0 with he | he
    · have he : (chk a).2 = 0 := he
      have o4 := F.pre he
      rcases chkF_range b b.size 0 with hf | hf
      · have hf : (chk b).2 = 0 := hf
        have o6 := F.lss he hf
        have o7 := F.gtr he hf
        try have o5 := F.lon hz
        go_enter Tryd.func6, Tryd.ntmps6
        have Bc : Below w.heap.size w w := Below.refl _ _
        go_wp2_with (first
          | (go_at_call 9; refine (awake_any _ hT).mono ?_; rintro e w0 ⟨rfl, hb0⟩; have hTc := hT.below hb0; have Bc := Bc.trans (hb0.mono Bc.size))
          | (go_at_call 22; refine (order_any _ _ _ hTc).mono ?_; rintro e w1 ⟨rfl, hb1⟩; have hTc := hTc.below hb1; have Bc := Bc.trans (hb1.mono Bc.size))
          | (go_at_call 10; refine (check_any _ _ hTc).mono ?_; rintro e w2 ⟨rfl, hb2⟩; have hTc := hTc.below hb2; have Bc := Bc.trans (hb2.mono Bc.size)))
        go_ret
        exact ⟨ret_bool (by simp), Bc⟩
      · have hf : (chk b).2 = 4 := hf
        try have o5 := F.lon hz
        go_enter Tryd.func6, Tryd.ntmps6
        have Bc : Below w.heap.size w w := Below.refl _ _
        go_wp2_with (first
          | (go_at_call 9; refine (awake_any _ hT).mono ?_; rintro e w0 ⟨rfl, hb0⟩; have hTc := hT.below hb0; have Bc := Bc.trans (hb0.mono Bc.size))
          | (go_at_call 22; refine (order_any _ _ _ hTc).mono ?_; rintro e w1 ⟨rfl, hb1⟩; have hTc := hTc.below hb1; have Bc := Bc.trans (hb1.mono Bc.size))
          | (go_at_call 10; refine (check_any _ _ hTc).mono ?_; rintro e w2 ⟨rfl, hb2⟩; have hTc := hTc.below hb2; have Bc := Bc.trans (hb2.mono Bc.size)))
        go_ret
        exact ⟨rfl, Bc⟩
    · have he : (chk a).2 = 4 := he
      try have o5 := F.lon hz
      go_enter Tryd.func6, Tryd.ntmps6
      have Bc : Below w.heap.size w w := Below.refl _ _
      go_wp2_with (first
        | (go_at_call 9; refine (awake_any _ hT).mono ?_; rintro e w0 ⟨rfl, hb0⟩; have hTc := hT.below hb0; have Bc := Bc.trans (hb0.mono Bc.size))
        | (go_at_call 22; refine (order_any _ _ _ hTc).mono ?_; rintro e w1 ⟨rfl, hb1⟩; have hTc := hTc.below hb1; have Bc := Bc.trans (hb1.mono Bc.size))
        | (go_at_call 10; refine (check_any _ _ hTc).mono ?_; rintro e w2 ⟨rfl, hb2⟩; have hTc := hTc.below hb2; have Bc := Bc.trans (hb2.mono Bc.size)))
      go_ret
      exact ⟨rfl, Bc⟩

set_option maxHeartbeats 4000000 in
theorem core2 (a b c : ByteArray) (w : World) (hT : Tabs w) (ha : a.size ≤ 1152921504606846976) (hb : b.size ≤ 1152921504606846976) (F : Facts a b c (-1) true false) (h2 : ordI b c ≤ 0) :
    Calls Tryd.prog 6 #[.string a, .string b, .string c] w fun e w' => e = .returned (.bool true) ∧ Below w.heap.size w w' := by
  have sx : (⟨#[120]⟩ : ByteArray).size = 1 := rfl
  have o1 := F.self
  have o2 := F.ab
  have o3 : ordI b a = 1 := F.ba
  have o8 := F.ac (by decide) h2
  by_cases hz : b.size = 0
  all_goals
    rcases chkF_range a a.size 0 with he | he
    · have he : (chk a).2 = 0 := he
      have o4 := F.pre he
      rcases chkF_range b b.size 0 with hf | hf
      · have hf : (chk b).2 = 0 := hf
        have o6 := F.lss he hf
        have o7 := F.gtr he hf
        try have o5 := F.lon hz
        go_enter Tryd.func6, Tryd.ntmps6
        have Bc : Below w.heap.size w w := Below.refl _ _
        go_wp2_with (first
          | (go_at_call 9; refine (awake_any _ hT).mono ?_; rintro e w0 ⟨rfl, hb0⟩; have hTc := hT.below hb0; have Bc := Bc.trans (hb0.mono Bc.size))
          | (go_at_call 22; refine (order_any _ _ _ hTc).mono ?_; rintro e w1 ⟨rfl, hb1⟩; have hTc := hTc.below hb1; have Bc := Bc.trans (hb1.mono Bc.size))
          | (go_at_call 10; refine (check_any _ _ hTc).mono ?_; rintro e w2 ⟨rfl, hb2⟩; have hTc := hTc.below hb2; have Bc := Bc.trans (hb2.mono Bc.size)))
        go_ret
        exact ⟨ret_bool (by simp), Bc⟩
      · have hf : (chk b).2 = 4 := hf
        try have o5 := F.lon hz
        go_enter Tryd.func6, Tryd.ntmps6
        have Bc : Below w.heap.size w w := Below.refl _ _
        go_wp2_with (first
          | (go_at_call 9; refine (awake_any _ hT).mono ?_; rintro e w0 ⟨rfl, hb0⟩; have hTc := hT.below hb0; have Bc := Bc.trans (hb0.mono Bc.size))
          | (go_at_call 22; refine (order_any _ _ _ hTc).mono ?_; rintro e w1 ⟨rfl, hb1⟩; have hTc := hTc.below hb1; have Bc := Bc.trans (hb1.mono Bc.size))
          | (go_at_call 10; refine (check_any _ _ hTc).mono ?_; rintro e w2 ⟨rfl, hb2⟩; have hTc := hTc.below hb2; have Bc := Bc.trans (hb2.mono Bc.size)))
        go_ret
        exact ⟨rfl, Bc⟩
    · have he : (chk a).2 = 4 := he
      try have o5 := F.lon hz
      go_enter Tryd.func6, Tryd.ntmps6
      have Bc : Below w.heap.size w w := Below.refl _ _
      go_wp2_with (first
        | (go_at_call 9; refine (awake_any _ hT).mono ?_; rintro e w0 ⟨rfl, hb0⟩; have hTc := hT.below hb0; have Bc := Bc.trans (hb0.mono Bc.size))
        | (go_at_call 22; refine (order_any _ _ _ hTc).mono ?_; rintro e w1 ⟨rfl, hb1⟩; have hTc := hTc.below hb1; have Bc := Bc.trans (hb1.mono Bc.size))
        | (go_at_call 10; refine (check_any _ _ hTc).mono ?_; rintro e w2 ⟨rfl, hb2⟩; have hTc := hTc.below hb2; have Bc := Bc.trans (hb2.mono Bc.size)))
      go_ret
      exact ⟨rfl, Bc⟩

set_option maxHeartbeats 4000000 in
theorem core3 (a b c : ByteArray) (w : World) (hT : Tabs w) (ha : a.size ≤ 1152921504606846976) (hb : b.size ≤ 1152921504606846976) (F : Facts a b c (-1) true false) (h2 : ¬ ordI b c ≤ 0) :
    Calls Tryd.prog 6 #[.string a, .string b, .string c] w fun e w' => e = .returned (.bool true) ∧ Below w.heap.size w w' := by
  have sx : (⟨#[120]⟩ : ByteArray).size = 1 := rfl
  have o1 := F.self
  have o2 := F.ab
  have o3 : ordI b a = 1 := F.ba
  by_cases hz : b.size = 0
  all_goals
    rcases chkF_range a a.size 0 with he | he
    · have he : (chk a).2 = 0 := he
      have o4 := F.pre he
      rcases chkF_range b b.size 0 with hf | hf
      · have hf : (chk b).2 = 0 := hf
        have o6 := F.lss he hf
        have o7 := F.gtr he hf
        try have o5 := F.lon hz
        go_enter Tryd.func6, Tryd.ntmps6
        have Bc : Below w.heap.size w w := Below.refl _ _
        go_wp2_with (first
          | (go_at_call 9; refine (awake_any _ hT).mono ?_; rintro e w0 ⟨rfl, hb0⟩; have hTc := hT.below hb0; have Bc := Bc.trans (hb0.mono Bc.size))
          | (go_at_call 22; refine (order_any _ _ _ hTc).mono ?_; rintro e w1 ⟨rfl, hb1⟩; have hTc := hTc.below hb1; have Bc := Bc.trans (hb1.mono Bc.size))
          | (go_at_call 10; refine (check_any _ _ hTc).mono ?_; rintro e w2 ⟨rfl, hb2⟩; have hTc := hTc.below hb2; have Bc := Bc.trans (hb2.mono Bc.size)))
        go_ret
        exact ⟨ret_bool (by simp), Bc⟩
      · have hf : (chk b).2 = 4 := hf
        try have o5 := F.lon hz
        go_enter Tryd.func6, Tryd.ntmps6
        have Bc : Below w.heap.size w w := Below.refl _ _
        go_wp2_with (first
          | (go_at_call 9; refine (awake_any _ hT).mono ?_; rintro e w0 ⟨rfl, hb0⟩; have hTc := hT.below hb0; have Bc := Bc.trans (hb0.mono Bc.size))
          | (go_at_call 22; refine (order_any _ _ _ hTc).mono ?_; rintro e w1 ⟨rfl, hb1⟩; have hTc := hTc.below hb1; have Bc := Bc.trans (hb1.mono Bc.size))
          | (go_at_call 10; refine (check_any _ _ hTc).mono ?_; rintro e w2 ⟨rfl, hb2⟩; have hTc := hTc.below hb2; have Bc := Bc.trans (hb2.mono Bc.size)))
        go_ret
        exact ⟨rfl, Bc⟩
    · have he : (chk a).2 = 4 := he
      try have o5 := F.lon hz
      go_enter Tryd.func6, Tryd.ntmps6
      have Bc : Below w.heap.size w w := Below.refl _ _
      go_wp2_with (first
        | (go_at_call 9; refine (awake_any _ hT).mono ?_; rintro e w0 ⟨rfl, hb0⟩; have hTc := hT.below hb0; have Bc := Bc.trans (hb0.mono Bc.size))
        | (go_at_call 22; refine (order_any _ _ _ hTc).mono ?_; rintro e w1 ⟨rfl, hb1⟩; have hTc := hTc.below hb1; have Bc := Bc.trans (hb1.mono Bc.size))
        | (go_at_call 10; refine (check_any _ _ hTc).mono ?_; rintro e w2 ⟨rfl, hb2⟩; have hTc := hTc.below hb2; have Bc := Bc.trans (hb2.mono Bc.size)))
      go_ret
      exact ⟨rfl, Bc⟩

set_option maxHeartbeats 4000000 in
theorem core4 (a b c : ByteArray) (w : World) (hT : Tabs w) (ha : a.size ≤ 1152921504606846976) (hb : b.size ≤ 1152921504606846976) (F : Facts a b c (0) false false) (h2 : ordI b c ≤ 0) :
    Calls Tryd.prog 6 #[.string a, .string b, .string c] w fun e w' => e = .returned (.bool true) ∧ Below w.heap.size w w' := by
  have sx : (⟨#[120]⟩ : ByteArray).size = 1 := rfl
  have o1 := F.self
  have o2 := F.ab
  have o3 : ordI b a = 0 := F.ba
  have o8 := F.ac (by decide) h2
  by_cases hz : b.size = 0
  all_goals
    rcases chkF_range a a.size 0 with he | he
    · have he : (chk a).2 = 0 := he
      have o4 := F.pre he
      rcases chkF_range b b.size 0 with hf | hf
      · have hf : (chk b).2 = 0 := hf
        have o6 := F.lss he hf
        have o7 := F.gtr he hf
        try have o5 := F.lon hz
        go_enter Tryd.func6, Tryd.ntmps6
        have Bc : Below w.heap.size w w := Below.refl _ _
        go_wp2_with (first
          | (go_at_call 9; refine (awake_any _ hT).mono ?_; rintro e w0 ⟨rfl, hb0⟩; have hTc := hT.below hb0; have Bc := Bc.trans (hb0.mono Bc.size))
          | (go_at_call 22; refine (order_any _ _ _ hTc).mono ?_; rintro e w1 ⟨rfl, hb1⟩; have hTc := hTc.below hb1; have Bc := Bc.trans (hb1.mono Bc.size))
          | (go_at_call 10; refine (check_any _ _ hTc).mono ?_; rintro e w2 ⟨rfl, hb2⟩; have hTc := hTc.below hb2; have Bc := Bc.trans (hb2.mono Bc.size)))
        go_ret
        exact ⟨ret_bool (by simp), Bc⟩
      · have hf : (chk b).2 = 4 := hf
        try have o5 := F.lon hz
        go_enter Tryd.func6, Tryd.ntmps6
        have Bc : Below w.heap.size w w := Below.refl _ _
        go_wp2_with (first
          | (go_at_call 9; refine (awake_any _ hT).mono ?_; rintro e w0 ⟨rfl, hb0⟩; have hTc := hT.below hb0; have Bc := Bc.trans (hb0.mono Bc.size))
          | (go_at_call 22; refine (order_any _ _ _ hTc).mono ?_; rintro e w1 ⟨rfl, hb1⟩; have hTc := hTc.below hb1; have Bc := Bc.trans (hb1.mono Bc.size))
          | (go_at_call 10; refine (check_any _ _ hTc).mono ?_; rintro e w2 ⟨rfl, hb2⟩; have hTc := hTc.below hb2; have Bc := Bc.trans (hb2.mono Bc.size)))
        go_ret
        exact ⟨rfl, Bc⟩
    · have he : (chk a).2 = 4 := he
      try have o5 := F.lon hz
      go_enter Tryd.func6, Tryd.ntmps6
      have Bc : Below w.heap.size w w := Below.refl _ _
      go_wp2_with (first
        | (go_at_call 9; refine (awake_any _ hT).mono ?_; rintro e w0 ⟨rfl, hb0⟩; have hTc := hT.below hb0; have Bc := Bc.trans (hb0.mono Bc.size))
        | (go_at_call 22; refine (order_any _ _ _ hTc).mono ?_; rintro e w1 ⟨rfl, hb1⟩; have hTc := hTc.below hb1; have Bc := Bc.trans (hb1.mono Bc.size))
        | (go_at_call 10; refine (check_any _ _ hTc).mono ?_; rintro e w2 ⟨rfl, hb2⟩; have hTc := hTc.below hb2; have Bc := Bc.trans (hb2.mono Bc.size)))
      go_ret
      exact ⟨rfl, Bc⟩

set_option maxHeartbeats 4000000 in
theorem core5 (a b c : ByteArray) (w : World) (hT : Tabs w) (ha : a.size ≤ 1152921504606846976) (hb : b.size ≤ 1152921504606846976) (F : Facts a b c (0) false false) (h2 : ¬ ordI b c ≤ 0) :
    Calls Tryd.prog 6 #[.string a, .string b, .string c] w fun e w' => e = .returned (.bool true) ∧ Below w.heap.size w w' := by
  have sx : (⟨#[120]⟩ : ByteArray).size = 1 := rfl
  have o1 := F.self
  have o2 := F.ab
  have o3 : ordI b a = 0 := F.ba
  by_cases hz : b.size = 0
  all_goals
    rcases chkF_range a a.size 0 with he | he
    · have he : (chk a).2 = 0 := he
      have o4 := F.pre he
      rcases chkF_range b b.size 0 with hf | hf
      · have hf : (chk b).2 = 0 := hf
        have o6 := F.lss he hf
        have o7 := F.gtr he hf
        try have o5 := F.lon hz
        go_enter Tryd.func6, Tryd.ntmps6
        have Bc : Below w.heap.size w w := Below.refl _ _
        go_wp2_with (first
          | (go_at_call 9; refine (awake_any _ hT).mono ?_; rintro e w0 ⟨rfl, hb0⟩; have hTc := hT.below hb0; have Bc := Bc.trans (hb0.mono Bc.size))
          | (go_at_call 22; refine (order_any _ _ _ hTc).mono ?_; rintro e w1 ⟨rfl, hb1⟩; have hTc := hTc.below hb1; have Bc := Bc.trans (hb1.mono Bc.size))
          | (go_at_call 10; refine (check_any _ _ hTc).mono ?_; rintro e w2 ⟨rfl, hb2⟩; have hTc := hTc.below hb2; have Bc := Bc.trans (hb2.mono Bc.size)))
        go_ret
        exact ⟨ret_bool (by simp), Bc⟩
      · have hf : (chk b).2 = 4 := hf
        try have o5 := F.lon hz
        go_enter Tryd.func6, Tryd.ntmps6
        have Bc : Below w.heap.size w w := Below.refl _ _
        go_wp2_with (first
          | (go_at_call 9; refine (awake_any _ hT).mono ?_; rintro e w0 ⟨rfl, hb0⟩; have hTc := hT.below hb0; have Bc := Bc.trans (hb0.mono Bc.size))
          | (go_at_call 22; refine (order_any _ _ _ hTc).mono ?_; rintro e w1 ⟨rfl, hb1⟩; have hTc := hTc.below hb1; have Bc := Bc.trans (hb1.mono Bc.size))
          | (go_at_call 10; refine (check_any _ _ hTc).mono ?_; rintro e w2 ⟨rfl, hb2⟩; have hTc := hTc.below hb2; have Bc := Bc.trans (hb2.mono Bc.size)))
        go_ret
        exact ⟨rfl, Bc⟩
    · have he : (chk a).2 = 4 := he
      try have o5 := F.lon hz
      go_enter Tryd.func6, Tryd.ntmps6
      have Bc : Below w.heap.size w w := Below.refl _ _
      go_wp2_with (first
        | (go_at_call 9; refine (awake_any _ hT).mono ?_; rintro e w0 ⟨rfl, hb0⟩; have hTc := hT.below hb0; have Bc := Bc.trans (hb0.mono Bc.size))
        | (go_at_call 22; refine (order_any _ _ _ hTc).mono ?_; rintro e w1 ⟨rfl, hb1⟩; have hTc := hTc.below hb1; have Bc := Bc.trans (hb1.mono Bc.size))
        | (go_at_call 10; refine (check_any _ _ hTc).mono ?_; rintro e w2 ⟨rfl, hb2⟩; have hTc := hTc.below hb2; have Bc := Bc.trans (hb2.mono Bc.size)))
      go_ret
      exact ⟨rfl, Bc⟩

theorem walk (a b c : ByteArray) (w : World) (hT : Tabs w) (ha : a.size ≤ 1152921504606846976) (hb : b.size ≤ 1152921504606846976) :
    Calls Tryd.prog 6 #[.string a, .string b, .string c] w fun e w' => e = .returned (.bool true) ∧ Below w.heap.size w w' := by
  rcases facts a b c with F | F | F
  · by_cases h2 : ordI b c ≤ 0
    · exact core2 a b c w hT ha hb F h2
    · exact core3 a b c w hT ha hb F h2
  · by_cases h2 : ordI b c ≤ 0
    · exact core4 a b c w hT ha hb F h2
    · exact core5 a b c w hT ha hb F h2
  · exact core1 a b c w hT ha hb F
end Go.Proofs.YthmcgfiaimnplaaDoor.order

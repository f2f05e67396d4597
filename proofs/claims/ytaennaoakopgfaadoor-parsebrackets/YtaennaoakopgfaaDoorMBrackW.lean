/-
  ParseBrackets, walked.
-/
import Derived.Test.YtaennaoakopgfaaDoorMGBr
set_option linter.unusedSimpArgs false
set_option linter.unusedVariables false
namespace Go.Proofs.YtaennaoakopgfaaDoor
open Go.RowKit Go.Lib Go.Sort

set_option maxRecDepth 20000 in
set_option maxHeartbeats 8000000 in
theorem pbracks.walk (s : ByteArray) (n : Nat) (hn : n < 256) (w : World) (hT : Tabs w) (hz : s.size ≤ 140737488351232) :
    Calls Tryd.prog 6 #[.string s, .int .u8 n] w fun e w' => e = .returned (.bool true) ∧ Below w.heap.size w w' := by
  have cA : Hid (∀ W, Tabs W → Calls Tryd.prog 23 #[] W fun e w' => e = .returned (.bool true) ∧ Below W.heap.size W w') := pawake_any
  obtain ⟨k, hk⟩ : ∃ k, n % 5 = k := ⟨_, rfl⟩
  have hk5 : k < 5 := by omega
  have c1 : Hid (∀ W, Tabs W → Calls Tryd.prog 24 #[.string s] W fun e w' => Tri W (psRead s false 64) e w') := fun W h => parseT W s (by unfold maxLen; omega) h
  have HB : Hid (∀ m : Nat, (∀ p, p ≤ s.size → opn s p ≤ m) → (lay s k).size ≤ 4096 → m + k ≤ 100 → BF (pl3 (psRead s false 64)).1 (pl3 (psRead s false 64)).2.1 (pl3 (psRead s false 64)).2.2 (pl3 (psRead (lay s k) false 64)).1 (pl3 (psRead (lay s k) false 64)).2.1 (pl3 (psRead (lay s k) false 64)).2.2 s.size (lay s k).size k) := fun m h1 h2 h3 => bf h1 h2 h3
  have hzz := lay_size s k
  have c2 : Hid (∀ W, Tabs W → Calls Tryd.prog 24 #[.string (lay s k)] W fun e w' => Tri W (psRead (lay s k) false 64) e w') := fun W h => parseT W _ (by unfold maxLen; omega) h
  generalize psRead s false 64 = X at *
  generalize psRead (lay s k) false 64 = Y at *
  unfold Tri at c1 c2
  generalize pl3 X = x3 at *
  generalize pl3 Y = y3 at *
  obtain ⟨xl, xp, xe⟩ := x3
  obtain ⟨yl, yp, ye⟩ := y3
  simp only at c1 c2 HB
  have HT : Hid (∀ W, Below w.heap.size w W → Tabs W) := fun W h => hT.below h
  have hb : Below w.heap.size w w := Below.refl _ _
  obtain ⟨XL, hXL⟩ : ∃ n, xl.length = n := ⟨_, rfl⟩
  obtain ⟨YL, hYL⟩ : ∃ n, yl.length = n := ⟨_, rfl⟩
  rw [hXL] at c1
  rw [hYL] at c2
  clear hT
  go_enter Tryd.func6, Tryd.ntmps6
  go_wp2_with fail
  go_at_call 23
  refine (cA.out _ (HT.out _ hb)).mono ?_
  rintro x w1 ⟨rfl, hc⟩
  replace hb := hb.trans (hc.mono hb.size)
  clear hc
  go_wp2_with fail
  go_at_call 24
  refine (c1.out _ (HT.out _ hb)).mono ?_
  rintro x w2 ⟨ao, acap, rfl, hra, hc⟩
  have Ra : Hid (Rd w2 ao acap xl) := hra
  replace hb := hb.trans (hc.mono hb.size)
  clear hc hra
  go_wp2_with fail
  have hkI : ((n : Int) % 5) = (k : Int) := by omega
  rw [hkI]
  go_loopw [8, 10] (fun x i wr => ∃ j : Nat, j ≤ k ∧ x = .string (lay s j) ∧ i = .int .i64 j ∧ Hid (Rd wr ao acap xl) ∧ Hid (Below w.heap.size w wr)) (fun _ i _ => k - (RowKit.intOf i).toNat)
  case atStart => exact ⟨0, by omega, rfl, rfl, Ra, hb⟩
  case round =>
    obtain ⟨j, hj, rfl, rfl, Ra2, HB2⟩ := hrel
    have hsz := lay_size s j
    by_cases hjk : j < k
    · go_wp2_with fail
      exact ⟨⟨j + 1, by omega, rfl, by go_num, Ra2, HB2⟩, by simp [RowKit.intOf]; omega⟩
    · have e : j = k := by omega
      subst e
      by_cases h4 : 4096 < (lay s j).size
      · go_wp2_with fail
        go_ret
        exact ⟨rfl, HB2.out⟩
      go_wp2_with fail
      go_at_call 30
      refine (nest_le _ s (by omega)).mono ?_
      rintro x w4 ⟨m, rfl, hm, hms, hc⟩
      have Ra4 : Hid (Rd w4 ao acap xl) := Ra2.out.below hc hc.size
      have HM : Hid (_) := hm
      have hb4 := HB2.out.trans (hc.mono HB2.out.size)
      clear hc Ra2 hm HB2
      by_cases hm1 : 100 < m + j
      · go_wp2_with fail
        go_ret
        exact ⟨rfl, hb4⟩
      have F : Hid (_) := HB.out m HM.out (by omega) (by omega)
      go_wp2_with fail
      go_at_call 24
      refine (c2.out _ (HT.out _ hb4)).mono ?_
      rintro x w5 ⟨bo, bcap, rfl, hrb, hc⟩
      have Ra5 : Hid (Rd w5 ao acap xl) := Ra4.out.below hc hc.size
      have Rb5 : Hid (Rd w5 bo bcap yl) := hrb
      have hb5 := hb4.trans (hc.mono hb4.size)
      clear hc hrb Ra4
      by_cases hx : xe = 0
      · obtain ⟨e1, e2, e3⟩ := F.out.good hx
        subst hx e1 e2 e3
        have e4 : YL = XL := by omega
        subst e4
        go_wp2_with fail
        go_at_call 15
        have cS := sameR Ra5.out Rb5.out true (by simp)
        rw [hXL] at cS
        refine cS.mono ?_
        rintro x w6 ⟨rfl, hc⟩
        replace hb5 := hb5.trans (hc.mono hb5.size)
        clear hc
        go_wp2_with fail
        go_ret
        exact ⟨rfl, hb5⟩
      by_cases hx4 : xe = 4
      · obtain ⟨e0, e1, e2⟩ := F.out.utf hx4
        subst hx4 e1 e2
        go_wp2_with fail
        go_ret
        exact ⟨rfl, hb5⟩
      have hnil : XL = 0 := by rw [← hXL, F.out.none hx]; rfl
      by_cases hx10 : xe = 10 ∧ xp = s.size
      · obtain ⟨e0, e00⟩ := hx10
        obtain ⟨e1, e2⟩ := F.out.large e0 e00
        subst e0 e1 e00 e2
        go_wp2_with fail
        go_ret
        exact ⟨rfl, hb5⟩
      have hrest := F.out.rest hx hx10
      have hsame := F.out.same
      subst hnil
      by_cases hj0 : j = 0
      · obtain ⟨e1, e2⟩ := hsame hj0
        replace e1 := e1.symm
        replace e2 := e2.symm
        subst e1 e2 hj0
        by_cases hx1 : xe = 10
        · have hxp : xp ≠ s.size := fun c => hx10 ⟨hx1, c⟩
          go_wp2_with fail
          go_ret
          exact ⟨rfl, hb5⟩
        · go_wp2_with fail
          go_ret
          exact ⟨rfl, hb5⟩
      rcases hrest with hy | h6
      · by_cases hx1 : xe = 10
        · have hxp : xp ≠ s.size := fun c => hx10 ⟨hx1, c⟩
          go_wp2_with fail
          all_goals (go_ret; exact ⟨by first | rfl | simp [hy, hj0] | (simp; omega), hb5⟩)
        · go_wp2_with fail
          all_goals (go_ret; exact ⟨by first | rfl | simp [hy, hj0] | (simp; omega), hb5⟩)
      · subst h6
        go_wp2_with fail
        all_goals (go_ret; exact ⟨by first | rfl | simp [hj0] | (simp; omega), hb5⟩)
end Go.Proofs.YtaennaoakopgfaaDoor

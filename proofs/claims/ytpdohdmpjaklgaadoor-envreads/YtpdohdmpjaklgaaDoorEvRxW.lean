/-
  Read of the document, walked; EnvReads.
-/
import Derived.Test.YtpdohdmpjaklgaaDoorEvRpW
import Derived.Test.YtpdohdmpjaklgaaDoorEvRqW
set_option linter.unusedSimpArgs false
set_option linter.unusedVariables false
namespace Go.Proofs.YtpdohdmpjaklgaaDoor
open Go.RowKit Go.Lib Go.Sort

theorem bindQ_any (s : ByteArray) (a : Nat) (w : World) (hs : s.size ≤ 4096) (ha : a ≤ s.size) :
    Calls Tryd.prog 33 #[.string s, .int .i64 (a : Int)] w (BindQ w s a) := by
  by_cases hk : kd (rn s a) = 1
  · cases hn : nameB (s.extract a (spF s s.size a))
    · exact bindQ_early s a w hs ha (.inr (.inl hn))
    · cases he : byB s (skE s (spF s s.size a)) 61
      · exact bindQ_early s a w hs ha (.inr (.inr he))
      · by_cases hz : digZ (rn s (skE s (skE s (spF s s.size a) + 1) + mwd s (skE s (skE s (spF s s.size a) + 1)))) = 0
        · exact bindQ_none s a w hs ha hk hn he hz
        · exact bindQ_num s a w hs ha hk hn he hz
  · exact bindQ_early s a w hs ha (.inl hk)

theorem readE_bad {w W' : World} {s : ByteArray} {p : Nat} {er : Int} (he : evR s = ([], p, er)) (hB : Below w.heap.size w W') : ReadE w s (.returned (.tuple #[.slice none 0 0, .int .i64 (p : Int), .int .i64 er])) W' :=
  ⟨⟨_, by rw [he], by rw [he]; exact OwnB_nil _ _⟩, hB⟩

set_option maxRecDepth 100000 in
set_option maxHeartbeats 8000000 in
theorem refReadE_any (s : ByteArray) (w : World) (hsz : s.size ≤ maxLen) :
    Calls Tryd.prog 18 #[.string s] w (ReadE w s) := by
  have hsz' := hsz
  unfold maxLen at hsz'
  obtain ⟨i0, hi, hz0, hz1, hz2⟩ := info_parts Tryd.infoBind
  by_cases h4 : 4096 < s.size
  · have HE : Hid (evR s = ([], 0, 3)) := by show _ = _; unfold evR; rw [if_pos h4]
    have hg : (4096 : Int) < (s.size : Int) := by omega
    clear h4
    go_enter Tryd.func18, Tryd.ntmps18
    go_wp2_with fail
    go_ret3
    exact readE_bad HE.out (Below.refl _ _)
  · have hg : ¬ (4096 : Int) < (s.size : Int) := by omega
    have cC := refUtf_any s w hsz
    have hE : evR s = if (chk s).2 = 0 then (if skE s 0 = s.size then ([], 0, 0) else evF s 64 (skE s 0) []) else ([], (chk s).1, (chk s).2) := by unfold evR; rw [if_neg h4]
    obtain ⟨c1, c2, hcc⟩ : ∃ c1 c2, chk s = (c1, c2) := ⟨(chk s).1, (chk s).2, rfl⟩
    rw [hcc] at cC hE
    simp only at cC hE
    have CC : Hid (Calls Tryd.prog 31 #[.string s] w fun e w' => e = .returned (.tuple #[.int .i64 (c1 : Int), .int .i64 c2]) ∧ Below w.heap.size w w') := cC
    clear cC hcc
    have hs : s.size ≤ 4096 := by omega
    by_cases hc : c2 = 0
    · rw [if_pos hc] at hE
      subst hc
      have cK : Hid (∀ W, Calls Tryd.prog 32 #[.string s, .int .i64 0] W fun x w' => x = .returned (.int .i64 ((skE s 0 : Nat) : Int)) ∧ Below W.heap.size W w') := fun W => skipE_any s 0 W hs (Nat.zero_le _)
      have hk0 := (skE_in (s := s) (a := 0) (Nat.zero_le _)).2
      obtain ⟨A, hA⟩ : ∃ A, skE s 0 = A := ⟨_, rfl⟩
      rw [hA] at cK hE hk0
      clear hA h4
      by_cases hAs : A = s.size
      · rw [if_pos hAs] at hE
        have HE : Hid (evR s = ([], 0, 0)) := hE
        have hAI : ((A : Int) == (s.size : Int)) = true := by simp; omega
        clear hE hAs
        go_enter Tryd.func18, Tryd.ntmps18
        go_wp2_with (first | (go_at_call 32; refine (cK.out _).mono ?_; rintro e w3 ⟨rfl, b3⟩) | (go_at_call 31; refine CC.out.mono ?_; rintro e w2 ⟨rfl, b2⟩))
        go_ret3
        exact readE_bad HE.out (b2.trans (b3.mono b2.size))
      · rw [if_neg hAs] at hE
        have hAI : ((A : Int) == (s.size : Int)) = false := by simp; omega
        have HX : Hid (evF s 64 A [] = evR s) := hE.symm
        clear hE hAs
        go_enter Tryd.func18, Tryd.ntmps18
        go_wp2_with (first | (go_at_call 32; refine (cK.out _).mono ?_; rintro e w3 ⟨rfl, b3⟩) | (go_at_call 31; refine CC.out.mono ?_; rintro e w2 ⟨rfl, b2⟩))
        have B3 := b2.trans (b3.mono b2.size)
        clear b2 b3 cK CC
        go_loopw [7, 8] (fun i v wr => ∃ (l : List Bd) (f a : Nat), i = .int .i64 (a : Int) ∧ a ≤ s.size ∧ OwnB wr w.heap.size v l ∧ l.length + f = 64 ∧ 0 < f ∧ Hid (evF s f a l = evR s) ∧ Below w.heap.size w wr) (fun _ v _ => 64 - lenV v)
        case atStart => exact ⟨[], 64, A, rfl, hk0, OwnB_nil _ _, rfl, by omega, HX.out, B3⟩
        case round =>
          obtain ⟨l, f, a, rfl, ha, Or, hlf, hf0, HE, Br⟩ := hrel
          obtain ⟨f, rfl⟩ : ∃ g, f = g + 1 := ⟨f - 1, by omega⟩
          have hst : evF s (f + 1) a l = if (bindP s a).2.2 = 0 then
              (if (bindP s a).2.1 = s.size then (l ++ [(bindP s a).1], 0, 0)
              else if byB s (bindP s a).2.1 44 = false then ([], (bindP s a).2.1, 6)
              else if (l ++ [(bindP s a).1]).length = 64 then ([], (bindP s a).2.1, 10)
              else evF s f (skE s ((bindP s a).2.1 + 1)) (l ++ [(bindP s a).1]))
            else ([], (bindP s a).2.1, (bindP s a).2.2) := rfl
          have hpi := bindP_in s a ha
          have cB := bindQ_any s a wr hs ha
          unfold BindQ at cB
          generalize bindP s a = Y at *
          obtain ⟨y0, yp, ye⟩ := Y
          simp only at cB hst hpi
          rw [HE.out] at hst
          have HST : Hid (evR s = if ye = 0 then (if yp = s.size then (l ++ [y0], 0, 0) else if byB s yp 44 = false then ([], yp, 6) else if (l ++ [y0]).length = 64 then ([], yp, 10) else evF s f (skE s (yp + 1)) (l ++ [y0])) else ([], yp, ye)) := hst
          have CB : Hid (Calls Tryd.prog 33 #[.string s, .int .i64 (a : Int)] wr fun x w' => (∃ y : Bd, x = .returned (.tuple #[bdV y, .int .i64 (yp : Int), .int .i64 ye]) ∧ (ye = 0 → y = y0)) ∧ Below wr.heap.size wr w') := cB
          obtain ⟨va, vc, hv⟩ := Or.form
          subst hv
          have HOr : Hid (OwnB wr w.heap.size (.slice va l.length vc) l) := Or
          have HBr : Hid (Below w.heap.size w wr) := Br
          have hgs := Br.size
          clear cB hst HE Or Br
          by_cases hye : ye = 0
          · have hye1 : (ye != 0) = false := by simp [hye]
            have HY0 : Hid (ye = 0) := hye
            clear hye
            go_wp2_with fail
            refine CB.out.mono ?_
            rintro e w5 ⟨⟨y, rfl, hy⟩, b5⟩
            obtain rfl := hy HY0.out
            obtain ⟨ynm, yn⟩ := y
            simp only [bdV]
            have hws5 := b5.size
            have b6 : Below wr.heap.size wr ((w5.alloc (.cells #[.string ynm, .int .i64 yn] 38)).alloc (.cells #[.string ynm, .int .i64 yn] 38)) := (b5.alloc hws5 _).alloc (by simp; omega) _
            have HO7 : Hid (((w5.alloc (.cells #[.string ynm, .int .i64 yn] 38)).alloc (.cells #[.string ynm, .int .i64 yn] 38)).ownsRow w.heap.size 38 2 (.slice va l.length vc) l.length (bdCells l)) := HOr.out.below b6
            have HG6 : Hid (Below w.heap.size w ((w5.alloc (.cells #[.string ynm, .int .i64 yn] 38)).alloc (.cells #[.string ynm, .int .i64 yn] 38))) := HBr.out.trans (b6.mono hgs)
            have hl64 : l.length ≤ 63 := by omega
            clear b5 b6 hy
            have hlen1 : (l ++ [(ynm, yn)]).length = l.length + 1 := by simp
            have hST := HST.out
            rw [if_pos HY0.out] at hST
            by_cases hend : yp = s.size
            · rw [if_pos hend] at hST
              have HXX : Hid (evR s = (l ++ [(ynm, yn)], 0, 0)) := hST
              have hyI : ((yp : Int) == (s.size : Int)) = true := by simp; omega
              clear hend hST
              go_wp2_with (at_builtin; refine wpList_append_own _ rfl _ _ 22 rfl w.heap.size 38 i0 (.agg #[.string ⟨#[]⟩, .int .i64 0]) 2 24 Tryd.underlying22 hi hz0 hz1 hz2 rfl (by decide) _ _ _ rfl HO7.out ⟨w5.heap.size + 1, 0, none⟩ 1 1 [.string ynm, .int .i64 yn] rfl (by simp) (news2 _ _ _ _ _ (by simp)) (by simp [Value.oneCell']) (by unfold maxLen; omega) (by omega) (by simp; omega) ?_; intro v' w8 hown hgrow _; have HO8 : Hid (OwnB w8 w.heap.size v' (l ++ [(ynm, yn)])) := (bd_snoc hown); obtain ⟨va8, vc8, hv8⟩ := HO8.out.form; subst hv8; have HG8 : Hid (Below w.heap.size w w8) := (HG6.out.grown hgrow (by simp; omega) (fun k hk => ownsRow_blkE HO7.out k hk)); clear hown hgrow)
              go_ret3
              have hO9 := HO8.out
              rw [hlen1] at hO9
              refine ⟨⟨.slice va8 (l.length + 1) vc8, ?_, ?_⟩, HG8.out⟩
              · rw [HXX.out]; rfl
              · rw [HXX.out]; exact hO9
            · rw [if_neg hend] at hST
              have hyI : ((yp : Int) == (s.size : Int)) = false := by simp; omega
              have hyl : yp < s.size := by omega
              have hyl2 : (yp : Int) < (s.size : Int) := by omega
              have hbg := by_get s yp hyl 44
              obtain ⟨V, hV⟩ : ∃ V : Int, ((s[yp]'hyl).toNat : Int) = V := ⟨_, rfl⟩
              rw [hV] at hbg
              clear hend
              by_cases hV44 : V = 44
              · have hv1 : (V != 44) = false := by simp [hV44]
                have hb1 : byB s yp 44 = true := by rw [hbg, decide_eq_true]; rw [hV44]; rfl
                rw [if_neg (by simp [hb1]), hlen1] at hST
                clear hbg hb1 hV44
                by_cases h64 : l.length + 1 = 64
                · rw [if_pos h64] at hST
                  have HXX : Hid (evR s = ([], yp, 10)) := hST
                  have h64I : (l.length : Int) + 1 = 64 := by omega
                  clear hST h64
                  go_wp2_with (at_builtin; refine wpList_append_own _ rfl _ _ 22 rfl w.heap.size 38 i0 (.agg #[.string ⟨#[]⟩, .int .i64 0]) 2 24 Tryd.underlying22 hi hz0 hz1 hz2 rfl (by decide) _ _ _ rfl HO7.out ⟨w5.heap.size + 1, 0, none⟩ 1 1 [.string ynm, .int .i64 yn] rfl (by simp) (news2 _ _ _ _ _ (by simp)) (by simp [Value.oneCell']) (by unfold maxLen; omega) (by omega) (by simp; omega) ?_; intro v' w8 hown hgrow _; have HO8 : Hid (OwnB w8 w.heap.size v' (l ++ [(ynm, yn)])) := (bd_snoc hown); obtain ⟨va8, vc8, hv8⟩ := HO8.out.form; rw [hlen1] at hv8; subst hv8; have HG8 : Hid (Below w.heap.size w w8) := (HG6.out.grown hgrow (by simp; omega) (fun k hk => ownsRow_blkE HO7.out k hk)); clear hown hgrow)
                  go_ret3
                  exact readE_bad HXX.out HG8.out
                · rw [if_neg h64] at hST
                  have HXX : Hid (evR s = evF s f (skE s (yp + 1)) (l ++ [(ynm, yn)])) := hST
                  have h64I : ((l.length : Int) + 1 == 64) = false := by simp; omega
                  have cK2 : Hid (∀ W, Calls Tryd.prog 32 #[.string s, .int .i64 ((yp : Int) + 1)] W fun x w' => x = .returned (.int .i64 ((skE s (yp + 1) : Nat) : Int)) ∧ Below W.heap.size W w') := fun W => skipE_any s (yp + 1) W hs (by omega)
                  have hsk := (skE_in (s := s) (a := yp + 1) (by omega)).2
                  have h63 : (yp : Int) + 1 ≤ 5000 := by omega
                  clear hST
                  go_wp2_with (first | (at_builtin; refine wpList_append_own _ rfl _ _ 22 rfl w.heap.size 38 i0 (.agg #[.string ⟨#[]⟩, .int .i64 0]) 2 24 Tryd.underlying22 hi hz0 hz1 hz2 rfl (by decide) _ _ _ rfl HO7.out ⟨w5.heap.size + 1, 0, none⟩ 1 1 [.string ynm, .int .i64 yn] rfl (by simp) (news2 _ _ _ _ _ (by simp)) (by simp [Value.oneCell']) (by unfold maxLen; omega) (by omega) (by simp; omega) ?_; intro v' w8 hown hgrow _; have HO8 : Hid (OwnB w8 w.heap.size v' (l ++ [(ynm, yn)])) := (bd_snoc hown); obtain ⟨va8, vc8, hv8⟩ := HO8.out.form; rw [hlen1] at hv8; subst hv8; have HG8 : Hid (Below w.heap.size w w8) := (HG6.out.grown hgrow (by simp; omega) (fun k hk => ownsRow_blkE HO7.out k hk)); clear hown hgrow) | (go_at_call 32; refine (cK2.out _).mono ?_; rintro e w9 ⟨rfl, b9⟩))
                  refine ⟨⟨l ++ [(ynm, yn)], f, skE s (yp + 1), by go_num, hsk, HO8.out.below b9, by omega, by omega, HXX.out.symm, HG8.out.trans (b9.mono HG8.out.size)⟩, ?_⟩
                  simp [lenV]
                  omega
              · have hv1 : (V != 44) = true := by simp [hV44]
                have hb1 : byB s yp 44 = false := by rw [hbg, decide_eq_false]; exact hV44
                rw [if_pos hb1] at hST
                have HXX : Hid (evR s = ([], yp, 6)) := hST
                clear hbg hb1 hV44 hST
                go_wp2_with (at_builtin; refine wpList_append_own _ rfl _ _ 22 rfl w.heap.size 38 i0 (.agg #[.string ⟨#[]⟩, .int .i64 0]) 2 24 Tryd.underlying22 hi hz0 hz1 hz2 rfl (by decide) _ _ _ rfl HO7.out ⟨w5.heap.size + 1, 0, none⟩ 1 1 [.string ynm, .int .i64 yn] rfl (by simp) (news2 _ _ _ _ _ (by simp)) (by simp [Value.oneCell']) (by unfold maxLen; omega) (by omega) (by simp; omega) ?_; intro v' w8 hown hgrow _; have HO8 : Hid (OwnB w8 w.heap.size v' (l ++ [(ynm, yn)])) := (bd_snoc hown); obtain ⟨va8, vc8, hv8⟩ := HO8.out.form; rw [hlen1] at hv8; subst hv8; have HG8 : Hid (Below w.heap.size w w8) := (HG6.out.grown hgrow (by simp; omega) (fun k hk => ownsRow_blkE HO7.out k hk)); clear hown hgrow)
                go_ret3
                exact readE_bad HXX.out HG8.out
          · have hye1 : (ye != 0) = true := by simp [hye]
            have HXX : Hid (evR s = ([], yp, ye)) := by show _ = _; rw [HST.out, if_neg hye]
            clear hye
            go_wp2_with fail
            refine CB.out.mono ?_
            rintro e w5 ⟨⟨y, rfl, hy⟩, b5⟩
            obtain ⟨ynm, yn⟩ := y
            simp only [bdV]
            go_wp2_with fail
            go_ret3
            exact readE_bad HXX.out (HBr.out.trans ((b5.alloc b5.size _).mono hgs))
    · rw [if_neg hc] at hE
      have HE : Hid (evR s = ([], c1, c2)) := hE
      have hc1 : (c2 != 0) = true := by simp [hc]
      clear hE hc h4
      go_enter Tryd.func18, Tryd.ntmps18
      go_wp2_with (go_at_call 31; refine CC.out.mono ?_; rintro e w2 ⟨rfl, b2⟩)
      go_ret3
      exact readE_bad HE.out b2

set_option maxRecDepth 100000 in
set_option maxHeartbeats 4000000 in
theorem envReads.walk (s : ByteArray) (w : World) (hT : Tabs w) (hsz : s.size ≤ maxLen) :
    Calls Tryd.prog 4 #[.string s] w fun e W' => e = .returned (.bool true) ∧ Below w.heap.size w W' := by
  have HT : Hid (Tabs w) := hT
  clear hT
  obtain ⟨X, hX⟩ : ∃ X, evR s = X := ⟨_, rfl⟩
  have HX : Hid (evR s = X) := hX
  clear hX
  obtain ⟨XL, xp, xe⟩ := X
  go_enter Tryd.func4, Tryd.ntmps4
  go_wp2_with fail
  refine (awake_any _).mono ?_
  rintro e w1 ⟨rfl, b1⟩
  go_wp2_with fail
  refine (readE_any s _ (HT.out.below b1) hsz).mono ?_
  rintro e w2 ⟨⟨v2, rfl, o2⟩, b2⟩
  rw [HX.out] at o2 ⊢
  simp only at o2 ⊢
  obtain ⟨a2, c2, rfl, R2, _⟩ := o2.read
  go_wp2_with fail
  refine (refReadE_any s _ hsz).mono ?_
  rintro e w3 ⟨⟨v3, rfl, o3⟩, b3⟩
  rw [HX.out] at o3 ⊢
  simp only at o3 ⊢
  obtain ⟨a3, c3, rfl, R3, _⟩ := o3.read
  have R23 := R2.below b3
  have G3 := b1.trans ((b2.trans (b3.mono b2.size)).mono b1.size)
  have HG3 : Hid (Below w.heap.size w w3) := G3
  clear o2 o3 R2 b1 b2 b3 G3
  go_wp2_with fail
  refine (same_any a2 a3 c2 c3 XL XL _ R23 R3).mono ?_
  rw [decide_eq_true rfl]
  rintro e w4 ⟨rfl, b4⟩
  go_wp2
  go_ret
  exact ⟨rfl, HG3.out.trans (b4.mono HG3.out.size)⟩
end Go.Proofs.YtpdohdmpjaklgaaDoor

/-
  The reader of environments, walked: bindings, Read.
-/
import Derived.Test.YtpdohdmpjaklgaaDoorEvRuW
import Derived.Test.YtpdohdmpjaklgaaDoorEvSetW
set_option linter.unusedSimpArgs false
set_option linter.unusedVariables false
namespace Go.Proofs.YtpdohdmpjaklgaaDoor
open Go.RowKit Go.Lib Go.Sort

theorem numE_in (s : ByteArray) (c : Nat) (hc : c ≤ s.size) : (numE s c).2.1 ≤ s.size := by
  have hd := (mwd_in s c hc).1
  have hg := (dgE_in s (digZ (rn s (c + mwd s c))) s.size _ hd).2
  unfold numE
  split
  · exact hc
  · split
    · exact (skE_in hg).2
    · exact hd
theorem bindP_in (s : ByteArray) (a : Nat) (ha : a ≤ s.size) : (bindP s a).2.1 ≤ s.size := by
  have h1 := (spF_le s s.size a ha).2
  have h2 := (skE_in h1).2
  unfold bindP
  split
  · split
    · exact ha
    · split
      · exact h2
      · rename_i h
        have hb : skE s (spF s s.size a) + 1 ≤ s.size := by unfold byB at h; simp at h; omega
        exact numE_in s _ (skE_in hb).2
  · exact ha
theorem OwnB.gr {w w' : World} {base R : Nat} {v : Value} {l : List Bd} (h : OwnB w base v l) (hg : w.grownBy w' (some R)) (hR : R < base) : OwnB w' base v l :=
  World.ownsRow.kept h hg (by
    cases hv : v.ownBlock
    · exact .inl rfl
    · rename_i k
      have := h.blk k hv
      exact .inr (by simp; omega))
theorem gr_row {w w4 w5 : World} {R : Nat} {o : Option Nat} (h : w.grownBy w4 (some R)) (hg : w4.grownBy w5 o) (ho : ∀ k, o = some k → w.heap.size ≤ k) : w.grownBy w5 (some R) :=
  ⟨hg.os.trans h.os, hg.tape.trans h.tape, hg.output.trans h.output, Nat.le_trans h.size hg.size, fun k hk hne => (hg.block k (by have := h.size; omega) (fun e => by have := ho k e.symm; omega)).trans (h.block k hk hne)⟩
theorem ownsRow_blkE {w : World} {base : Nat} {e : TypeId} {s n : Nat} {v : Value} {xs : List Value} (h : w.ownsRow base e s v n xs) : ∀ k, v.ownBlock = some k → base ≤ k := by
  intro k hk
  rcases h.2 with ⟨rfl, _⟩ | ⟨g, cp, cur, rfl, hb, _⟩
  · cases hk
  · cases hk; exact hb
theorem news2 (W : World) (a b : Value) (T : TypeId) (k : Nat) (hk : W.heap.size = k) : ∀ (j : Nat) u, [a, b][j]? = some u → (W.alloc (.cells #[a, b] T)).cell? ((⟨k, 0, none⟩ : Addr).add j) = some u := by
  subst hk
  intro j u hj
  rcases j with _ | _ | j
  · simp at hj; subst hj; simp [Go.WideShapes.add_plain]
  · simp at hj; subst hj; simp [Go.WideShapes.add_plain]
  · simp at hj
def lenV : Value → Nat
  | .slice _ n _ => n
  | _ => 0
/-- What bindings leaves. -/
def BndP (w : World) (R : Nat) (s : ByteArray) (X : List Bd × Nat × Int) (x : Ending) (w' : World) : Prop :=
  (∃ v, x = .returned (.tuple #[v, .int .i64 X.2.2]) ∧ OwnB w' w.heap.size v X.1) ∧ (∃ p : Nat, RdE w' R s p ∧ (X.2.2 ≠ 0 → p = X.2.1)) ∧ w.grownBy w' (some R)
theorem bnd_bad {w w' : World} {R : Nat} {s : ByteArray} {X : List Bd × Nat × Int} {p : Nat} {er : Int} (hX : X = ([], p, er)) (hM : RdE w' R s p) (hg : w.grownBy w' (some R)) : BndP w R s X (.returned (.tuple #[.slice none 0 0, .int .i64 er])) w' := by
  subst hX
  exact ⟨⟨_, rfl, OwnB_nil _ _⟩, ⟨p, hM, fun _ => rfl⟩, hg⟩

set_option maxRecDepth 100000 in
set_option maxHeartbeats 8000000 in
theorem bindings_any (w : World) (R : Nat) (s : ByteArray) (a0 : Nat) (hT : TS w R) (hM : RdE w R s a0) (hs : s.size ≤ 4096) :
    Calls Tryd.prog 30 #[.pointer (some ⟨R, 0, none⟩)] w (BndP w R s (if skE s 0 = s.size then ([], 0, 0) else evF s 64 (skE s 0) [])) := by
  have hl := hM.lt
  obtain ⟨i0, hi, hz0, hz1, hz2⟩ := info_parts Tryd.infoBind
  have cG : Hid (Calls Tryd.prog 54 #[.pointer (some ⟨R, 0, none⟩), .int .i64 0] w fun x w' => x = .returned (.tuple #[]) ∧ RdE w' R s (skE s 0) ∧ w.grownBy w' (some R)) := goTo_any w R s a0 0 hT.now.spans hM hs (Nat.zero_le _)
  have hk0 := (skE_in (s := s) (a := 0) (Nat.zero_le _)).2
  have HT : Hid (TS w R) := hT
  have cE : Hid (∀ W a, RdE W R s a → Calls Tryd.prog 55 #[.pointer (some ⟨R, 0, none⟩)] W fun x w' => x = .returned (.bool (decide (a = s.size))) ∧ Below W.heap.size W w') := fun W a h => ended_any W R s a h
  clear hT hM
  obtain ⟨A, hA⟩ : ∃ A, skE s 0 = A := ⟨_, rfl⟩
  rw [hA] at cG hk0 ⊢
  clear hA
  by_cases hA : A = s.size
  · rw [if_pos hA]
    have cE1 : Hid (∀ W, RdE W R s A → Calls Tryd.prog 55 #[.pointer (some ⟨R, 0, none⟩)] W fun x w' => x = .returned (.bool true) ∧ Below W.heap.size W w') := fun W h => by
      have := cE.out W A h; rw [decide_eq_true hA] at this; exact this
    clear hA cE
    go_enter Tryd.func30, Tryd.ntmps30
    go_wp2_with (first | (go_at_call 55; refine (cE1.out _ M2).mono ?_; rintro e w3 ⟨rfl, b3⟩) | (go_at_call 54; refine cG.out.mono ?_; rintro e w2 ⟨rfl, M2, G2⟩))
    go_ret2
    exact ⟨⟨_, rfl, OwnB_nil _ _⟩, ⟨A, M2.below b3, fun h => absurd rfl h⟩, grE_trans G2 b3⟩
  · rw [if_neg hA]
    have cE1 : Hid (∀ W, RdE W R s A → Calls Tryd.prog 55 #[.pointer (some ⟨R, 0, none⟩)] W fun x w' => x = .returned (.bool false) ∧ Below W.heap.size W w') := fun W h => by
      have := cE.out W A h; rw [decide_eq_false hA] at this; exact this
    clear hA
    obtain ⟨X, hX⟩ : ∃ X, evF s 64 A [] = X := ⟨_, rfl⟩
    have HX : Hid (evF s 64 A [] = X) := hX
    rw [hX]
    clear hX
    go_enter Tryd.func30, Tryd.ntmps30
    go_wp2_with (first | (go_at_call 55; refine (cE1.out _ M2).mono ?_; rintro e w3 ⟨rfl, b3⟩) | (go_at_call 54; refine cG.out.mono ?_; rintro e w2 ⟨rfl, M2, G2⟩))
    have M3 := M2.below b3
    have G3 := grE_trans G2 b3
    clear M2 G2 b3 cE1 cG
    go_loopw [4] (fun v wr => ∃ (l : List Bd) (f a : Nat), RdE wr R s a ∧ a ≤ s.size ∧ OwnB wr w.heap.size v l ∧ l.length + f = 64 ∧ 0 < f ∧ Hid (evF s f a l = X) ∧ w.grownBy wr (some R)) (fun v _ => 64 - lenV v)
    case atStart => exact ⟨[], 64, A, M3, hk0, OwnB_nil _ _, rfl, by omega, HX.out, G3⟩
    case round =>
      obtain ⟨l, f, a, Mr, ha, Or, hlf, hf0, HE, Gr⟩ := hrel
      obtain ⟨f, rfl⟩ : ∃ g, f = g + 1 := ⟨f - 1, by omega⟩
      have hst : evF s (f + 1) a l = if (bindP s a).2.2 = 0 then
          (if (bindP s a).2.1 = s.size then (l ++ [(bindP s a).1], 0, 0)
          else if byB s (bindP s a).2.1 44 = false then ([], (bindP s a).2.1, 6)
          else if (l ++ [(bindP s a).1]).length = 64 then ([], (bindP s a).2.1, 10)
          else evF s f (skE s ((bindP s a).2.1 + 1)) (l ++ [(bindP s a).1]))
        else ([], (bindP s a).2.1, (bindP s a).2.2) := rfl
      have hpi := bindP_in s a ha
      have cB := binding_any wr R s a (HT.out.gr Gr) Mr hs ha
      unfold BindP at cB
      generalize bindP s a = Y at *
      obtain ⟨y0, yp, ye⟩ := Y
      simp only at cB hst hpi
      rw [HE.out] at hst
      have HST : Hid (X = if ye = 0 then (if yp = s.size then (l ++ [y0], 0, 0) else if byB s yp 44 = false then ([], yp, 6) else if (l ++ [y0]).length = 64 then ([], yp, 10) else evF s f (skE s (yp + 1)) (l ++ [y0])) else ([], yp, ye)) := hst
      have CB : Hid (Calls Tryd.prog 56 #[.pointer (some ⟨R, 0, none⟩)] wr fun x w' => (∃ y : Bd, x = .returned (.tuple #[bdV y, .int .i64 ye]) ∧ (ye = 0 → y = y0)) ∧ RdE w' R s yp ∧ wr.grownBy w' (some R)) := cB
      have HOr : Hid (OwnB wr w.heap.size _ l) := Or
      obtain ⟨va, vc, hv⟩ := Or.form
      subst hv
      have HGr : Hid (w.grownBy wr (some R)) := Gr
      have hgs := Gr.size
      clear cB hst HE Mr Or Gr
      by_cases hye : ye = 0
      · have hye1 : (ye != 0) = false := by simp [hye]
        have HY0 : Hid (ye = 0) := hye
        clear hye
        go_wp2_with fail
        refine CB.out.mono ?_
        rintro e w5 ⟨⟨y, rfl, hy⟩, M5, G5⟩
        obtain rfl := hy HY0.out
        obtain ⟨ynm, yn⟩ := y
        simp only [bdV]
        have hws5 := G5.size
        have b6 : Below w5.heap.size w5 ((w5.alloc (.cells #[.string ynm, .int .i64 yn] 38)).alloc (.cells #[.string ynm, .int .i64 yn] 38)) := ((Below.refl _ _).alloc (Nat.le_refl _) _).alloc (by simp) _
        have HO7 : Hid (((w5.alloc (.cells #[.string ynm, .int .i64 yn] 38)).alloc (.cells #[.string ynm, .int .i64 yn] 38)).ownsRow w.heap.size 38 2 (.slice va l.length vc) l.length (bdCells l)) := (HOr.out.gr G5 hl).below b6
        have HM6 : Hid (RdE ((w5.alloc (.cells #[.string ynm, .int .i64 yn] 38)).alloc (.cells #[.string ynm, .int .i64 yn] 38)) R s yp) := M5.below b6
        have HG6 : Hid (w.grownBy ((w5.alloc (.cells #[.string ynm, .int .i64 yn] 38)).alloc (.cells #[.string ynm, .int .i64 yn] 38)) (some R)) := grE_trans (HGr.out.trans G5) b6
        have hl64 : l.length ≤ 63 := by omega
        clear M5 G5 b6 hy
        have cEE : Hid (∀ W, RdE W R s yp → Calls Tryd.prog 55 #[.pointer (some ⟨R, 0, none⟩)] W fun x w' => x = .returned (.bool (decide (yp = s.size))) ∧ Below W.heap.size W w') := fun W h => cE.out W yp h
        have cCC : Hid (∀ W, TS W R → RdE W R s yp → Calls Tryd.prog 57 #[.pointer (some ⟨R, 0, none⟩), .int .i64 ((l.length : Int) + 1)] W fun x w' => x = .returned (.int .i64 (comR s yp (l.length + 1)).1) ∧ RdE w' R s (comR s yp (l.length + 1)).2 ∧ W.grownBy w' (some R)) := fun W h1 h2 => comma_any W R s yp (l.length + 1) h1 h2 hs hpi
        by_cases hend : yp = s.size
        · rw [decide_eq_true hend] at cEE
          have hXX : X = (l ++ [(ynm, yn)], 0, 0) := by rw [HST.out, if_pos HY0.out, if_pos hend]
          have HXX : Hid (X = (l ++ [(ynm, yn)], 0, 0)) := hXX
          clear hend hXX
          go_wp2_with (first | (at_builtin; refine wpList_append_own _ rfl _ _ 22 rfl w.heap.size 38 i0 (.agg #[.string ⟨#[]⟩, .int .i64 0]) 2 24 Tryd.underlying22 hi hz0 hz1 hz2 rfl (by decide) _ _ _ rfl HO7.out ⟨w5.heap.size + 1, 0, none⟩ 1 1 [.string ynm, .int .i64 yn] rfl (by simp) (news2 _ _ _ _ _ (by simp)) (by simp [Value.oneCell']) (by unfold maxLen; omega) (by omega) (by simp; omega) ?_; intro v' w8 hown hgrow _; have HO8 : Hid (OwnB w8 w.heap.size v' (l ++ [(ynm, yn)])) := (bd_snoc hown); obtain ⟨va8, vc8, hv8⟩ := HO8.out.form; subst hv8; have HG8 : Hid (w.grownBy w8 (some R)) := (gr_row HG6.out hgrow (fun k hk => ownsRow_blkE HO7.out k hk)); have HM8 : Hid (RdE w8 R s yp) := ⟨(hgrow.block R (HM6.out.lt) (fun e => absurd (ownsRow_blkE HO7.out R e.symm) (by omega))).trans HM6.out.blk⟩; clear hown hgrow) | (go_at_call 55; refine (cEE.out _ HM8.out).mono ?_; rintro e w9 ⟨rfl, b9⟩))
          go_ret2
          rw [HXX.out]
          have hO9 := HO8.out.below b9
          rw [show (l ++ [(ynm, yn)]).length = l.length + 1 by simp] at hO9
          exact ⟨⟨_, rfl, hO9⟩, ⟨yp, HM8.out.below b9, fun h => absurd rfl h⟩, grE_trans HG8.out b9⟩
        · rw [decide_eq_false hend] at cEE
          have hlen1 : (l ++ [(ynm, yn)]).length = l.length + 1 := by simp
          have hcast : (((l ++ [(ynm, yn)]).length : Nat) : Int) = (l.length : Int) + 1 := by rw [hlen1]; omega
          have hST := HST.out
          rw [if_pos HY0.out, if_neg hend] at hST
          clear hend
          cases hcm : byB s yp 44
          · have e1 : comR s yp (l.length + 1) = (6, yp) := by unfold comR; rw [if_pos hcm]
            rw [hcm, if_pos rfl] at hST
            rw [e1] at cCC
            simp only at cCC
            have HXX : Hid (X = ([], yp, 6)) := hST
            clear hST hcm e1
            go_wp2_with (first | (at_builtin; refine wpList_append_own _ rfl _ _ 22 rfl w.heap.size 38 i0 (.agg #[.string ⟨#[]⟩, .int .i64 0]) 2 24 Tryd.underlying22 hi hz0 hz1 hz2 rfl (by decide) _ _ _ rfl HO7.out ⟨w5.heap.size + 1, 0, none⟩ 1 1 [.string ynm, .int .i64 yn] rfl (by simp) (news2 _ _ _ _ _ (by simp)) (by simp [Value.oneCell']) (by unfold maxLen; omega) (by omega) (by simp; omega) ?_; intro v' w8 hown hgrow _; have HO8 : Hid (OwnB w8 w.heap.size v' (l ++ [(ynm, yn)])) := (bd_snoc hown); obtain ⟨va8, vc8, hv8⟩ := HO8.out.form; subst hv8; have HG8 : Hid (w.grownBy w8 (some R)) := (gr_row HG6.out hgrow (fun k hk => ownsRow_blkE HO7.out k hk)); have HM8 : Hid (RdE w8 R s yp) := ⟨(hgrow.block R (HM6.out.lt) (fun e => absurd (ownsRow_blkE HO7.out R e.symm) (by omega))).trans HM6.out.blk⟩; clear hown hgrow) | (go_at_call 57; refine (cCC.out _ (HT.out.gr HG9.out) HM9.out).mono ?_; rintro e w10 ⟨rfl, M10, G10⟩) | (go_at_call 55; refine (cEE.out _ HM8.out).mono ?_; rintro e w9 ⟨rfl, b9⟩; have HM9 : Hid (RdE w9 R s yp) := (HM8.out.below b9); have HG9 : Hid (w.grownBy w9 (some R)) := (grE_trans HG8.out b9); have HO9 : Hid (OwnB w9 w.heap.size _ (l ++ [(ynm, yn)])) := (HO8.out.below b9)))
            go_ret2
            exact bnd_bad HXX.out M10 (HG9.out.trans G10)
          · rw [hcm, if_neg (by simp), hlen1] at hST
            by_cases h64 : l.length + 1 = 64
            · have e1 : comR s yp (l.length + 1) = (10, yp) := by unfold comR; rw [if_neg (by simp [hcm]), if_pos h64]
              rw [if_pos h64] at hST
              rw [e1] at cCC
              simp only at cCC
              have HXX : Hid (X = ([], yp, 10)) := hST
              clear hST hcm e1 h64
              go_wp2_with (first | (at_builtin; refine wpList_append_own _ rfl _ _ 22 rfl w.heap.size 38 i0 (.agg #[.string ⟨#[]⟩, .int .i64 0]) 2 24 Tryd.underlying22 hi hz0 hz1 hz2 rfl (by decide) _ _ _ rfl HO7.out ⟨w5.heap.size + 1, 0, none⟩ 1 1 [.string ynm, .int .i64 yn] rfl (by simp) (news2 _ _ _ _ _ (by simp)) (by simp [Value.oneCell']) (by unfold maxLen; omega) (by omega) (by simp; omega) ?_; intro v' w8 hown hgrow _; have HO8 : Hid (OwnB w8 w.heap.size v' (l ++ [(ynm, yn)])) := (bd_snoc hown); obtain ⟨va8, vc8, hv8⟩ := HO8.out.form; subst hv8; have HG8 : Hid (w.grownBy w8 (some R)) := (gr_row HG6.out hgrow (fun k hk => ownsRow_blkE HO7.out k hk)); have HM8 : Hid (RdE w8 R s yp) := ⟨(hgrow.block R (HM6.out.lt) (fun e => absurd (ownsRow_blkE HO7.out R e.symm) (by omega))).trans HM6.out.blk⟩; clear hown hgrow) | (go_at_call 57; refine (cCC.out _ (HT.out.gr HG9.out) HM9.out).mono ?_; rintro e w10 ⟨rfl, M10, G10⟩) | (go_at_call 55; refine (cEE.out _ HM8.out).mono ?_; rintro e w9 ⟨rfl, b9⟩; have HM9 : Hid (RdE w9 R s yp) := (HM8.out.below b9); have HG9 : Hid (w.grownBy w9 (some R)) := (grE_trans HG8.out b9); have HO9 : Hid (OwnB w9 w.heap.size _ (l ++ [(ynm, yn)])) := (HO8.out.below b9)))
              go_ret2
              exact bnd_bad HXX.out M10 (HG9.out.trans G10)
            · have e1 : comR s yp (l.length + 1) = (0, skE s (yp + 1)) := by unfold comR; rw [if_neg (by simp [hcm]), if_neg h64]
              rw [if_neg h64] at hST
              rw [e1] at cCC
              simp only at cCC
              have HXX : Hid (X = evF s f (skE s (yp + 1)) (l ++ [(ynm, yn)])) := hST
              have hy1 : yp + 1 ≤ s.size := by unfold byB at hcm; simp at hcm; omega
              have hsk := (skE_in hy1).2
              clear hST hcm e1
              go_wp2_with (first | (at_builtin; refine wpList_append_own _ rfl _ _ 22 rfl w.heap.size 38 i0 (.agg #[.string ⟨#[]⟩, .int .i64 0]) 2 24 Tryd.underlying22 hi hz0 hz1 hz2 rfl (by decide) _ _ _ rfl HO7.out ⟨w5.heap.size + 1, 0, none⟩ 1 1 [.string ynm, .int .i64 yn] rfl (by simp) (news2 _ _ _ _ _ (by simp)) (by simp [Value.oneCell']) (by unfold maxLen; omega) (by omega) (by simp; omega) ?_; intro v' w8 hown hgrow _; have HO8 : Hid (OwnB w8 w.heap.size v' (l ++ [(ynm, yn)])) := (bd_snoc hown); obtain ⟨va8, vc8, hv8⟩ := HO8.out.form; subst hv8; have HG8 : Hid (w.grownBy w8 (some R)) := (gr_row HG6.out hgrow (fun k hk => ownsRow_blkE HO7.out k hk)); have HM8 : Hid (RdE w8 R s yp) := ⟨(hgrow.block R (HM6.out.lt) (fun e => absurd (ownsRow_blkE HO7.out R e.symm) (by omega))).trans HM6.out.blk⟩; clear hown hgrow) | (go_at_call 57; refine (cCC.out _ (HT.out.gr HG9.out) HM9.out).mono ?_; rintro e w10 ⟨rfl, M10, G10⟩) | (go_at_call 55; refine (cEE.out _ HM8.out).mono ?_; rintro e w9 ⟨rfl, b9⟩; have HM9 : Hid (RdE w9 R s yp) := (HM8.out.below b9); have HG9 : Hid (w.grownBy w9 (some R)) := (grE_trans HG8.out b9); have HO9 : Hid (OwnB w9 w.heap.size _ (l ++ [(ynm, yn)])) := (HO8.out.below b9)))
              have HO10 := HO9.out.gr G10 hl
              rw [show (l ++ [(ynm, yn)]).length = l.length + 1 by simp] at HO10
              refine ⟨⟨l ++ [(ynm, yn)], f, skE s (yp + 1), M10, hsk, HO10, by simp; omega, by omega, HXX.out.symm, HG9.out.trans G10⟩, ?_⟩
              simp [lenV]
              omega
      · have hye1 : (ye != 0) = true := by simp [hye]
        have HXX : Hid (X = ([], yp, ye)) := by show _ = _; rw [HST.out, if_neg hye]
        clear hye
        go_wp2_with fail
        refine CB.out.mono ?_
        rintro e w5 ⟨⟨y, rfl, hy⟩, M5, G5⟩
        obtain ⟨ynm, yn⟩ := y
        simp only [bdV]
        go_wp2_with fail
        go_ret2
        have b6 : Below w5.heap.size w5 (w5.alloc (.cells #[.string ynm, .int .i64 yn] 38)) := (Below.refl _ _).alloc (Nat.le_refl _) _
        exact bnd_bad HXX.out (M5.below b6) (grE_trans (HGr.out.trans G5) b6)

/-- What Read leaves. -/
def ReadE (w : World) (s : ByteArray) (x : Ending) (w' : World) : Prop :=
  (∃ v, x = .returned (.tuple #[v, .int .i64 ((evR s).2.1 : Int), .int .i64 (evR s).2.2]) ∧ OwnB w' w.heap.size v (evR s).1) ∧ Below w.heap.size w w'
theorem evF_zero (s : ByteArray) : ∀ (f a : Nat) (l : List Bd), (evF s f a l).2.2 = 0 → (evF s f a l).2.1 = 0
  | 0, _, _, _ => rfl
  | f + 1, a, l, h => by
    unfold evF at h ⊢
    split
    · rename_i h0
      rw [if_pos h0] at h
      split
      · rfl
      · rename_i h1
        rw [if_neg h1] at h
        split
        · rename_i h2; rw [if_pos h2] at h; exact absurd h (by simp)
        · rename_i h2
          rw [if_neg h2] at h
          split
          · rename_i h3; rw [if_pos h3] at h; exact absurd h (by simp)
          · rename_i h3; rw [if_neg h3] at h; exact evF_zero s f _ _ h
    · rename_i h0
      rw [if_neg h0] at h
      exact absurd h h0

theorem evF_nil (s : ByteArray) : ∀ (f a : Nat) (l : List Bd), (evF s f a l).2.2 ≠ 0 → (evF s f a l).1 = []
  | 0, _, _, _ => rfl
  | f + 1, a, l, h => by
    unfold evF at h ⊢
    split
    · rename_i h0
      rw [if_pos h0] at h
      split
      · rename_i h1; rw [if_pos h1] at h; exact absurd rfl h
      · rename_i h1
        rw [if_neg h1] at h
        split
        · rfl
        · rename_i h2
          rw [if_neg h2] at h
          split
          · rfl
          · rename_i h3; rw [if_neg h3] at h; exact evF_nil s f _ _ h
    · rfl

set_option maxRecDepth 100000 in
set_option maxHeartbeats 4000000 in
theorem readE_any (s : ByteArray) (w : World) (hT : Tabs w) (hsz : s.size ≤ maxLen) :
    Calls Tryd.prog 17 #[.string s] w (ReadE w s) := by
  have hsz' := hsz
  unfold maxLen at hsz'
  unfold ReadE
  by_cases h4 : 4096 < s.size
  · have e : evR s = ([], 0, 3) := by unfold evR; rw [if_pos h4]
    rw [e]
    have hg : (4096 : Int) < (s.size : Int) := by omega
    clear e h4
    go_enter Tryd.func17, Tryd.ntmps17
    go_wp2_with fail
    go_ret3
    exact ⟨⟨_, rfl, OwnB_nil _ _⟩, Below.refl _ _⟩
  · have hg : ¬ (4096 : Int) < (s.size : Int) := by omega
    have cC := utfCheck_any s w hT
    have hE : evR s = if (chk s).2 = 0 then (if skE s 0 = s.size then ([], 0, 0) else evF s 64 (skE s 0) []) else ([], (chk s).1, (chk s).2) := by unfold evR; rw [if_neg h4]
    by_cases hc : (chk s).2 = 0
    · rw [if_pos hc] at hE
      have hs : s.size ≤ 4096 := by omega
      obtain ⟨X, hX⟩ : ∃ X, (if skE s 0 = s.size then ([], 0, 0) else evF s 64 (skE s 0) []) = X := ⟨_, rfl⟩
      have hX0 : X.2.2 = 0 → X.2.1 = 0 := by
        rw [← hX]; split
        · exact fun _ => rfl
        · exact evF_zero s _ _ _
      have hXl : X.2.2 ≠ 0 → X.1 = [] := by
        rw [← hX]; split
        · exact fun _ => rfl
        · exact evF_nil s _ _ _
      have cB : ∀ W R a, TS W R → RdE W R s a → Calls Tryd.prog 30 #[.pointer (some ⟨R, 0, none⟩)] W (BndP W R s X) := fun W R a h1 h2 => by rw [← hX]; exact bindings_any W R s a h1 h2 hs
      rw [hX] at hE
      rw [hE]
      obtain ⟨c1, c2, hcc⟩ : ∃ c1 c2, chk s = (c1, c2) := ⟨(chk s).1, (chk s).2, rfl⟩
      rw [hcc] at cC hc
      simp only at cC hc
      subst hc
      obtain ⟨XL, xp, xe⟩ := X
      simp only at hX0 hXl ⊢
      have CB : Hid (∀ W R a, TS W R → RdE W R s a → Calls Tryd.prog 30 #[.pointer (some ⟨R, 0, none⟩)] W (BndP W R s (XL, xp, xe))) := cB
      have CC : Hid (Calls Tryd.prog 29 #[.string s] w fun e w' => e = .returned (.tuple #[.int .i64 (c1 : Int), .int .i64 0]) ∧ Below w.heap.size w w') := cC
      have HT : Hid (Tabs w) := hT
      clear cB cC hE hX hT
      have HX0 : Hid (xe = 0 → xp = 0) := hX0
      have HXL : Hid (xe ≠ 0 → XL = []) := hXl
      clear hX0 hXl
      by_cases hxe : xe = 0
      · have hxe1 : (xe != 0) = false := by simp [hxe]
        have hxp := HX0.out hxe
        have HXE : Hid (xe = 0) := hxe
        subst hxp
        clear hxe
        go_enter Tryd.func17, Tryd.ntmps17
        go_wp2_with fail
        refine CC.out.mono ?_
        rintro e w2 ⟨rfl, b2⟩
        have T2 := HT.out.below b2
        have M3 : RdE (w2.alloc (.cells #[.string s, .int .i64 0] 57)) w2.heap.size s 0 := ⟨heap_alloc_new w2 _⟩
        have S3 : TS (w2.alloc (.cells #[.string s, .int .i64 0] 57)) w2.heap.size := fun W hW => T2.below (((Below.refl _ w2).alloc (Nat.le_refl _) _).trans (belowE_gr hW (by simp)))
        have hb2 := b2.size
        go_wp2_with (go_at_call 30; refine (CB.out _ _ _ S3 M3).mono ?_; rintro e w4 ⟨⟨v, rfl, hO⟩, ⟨p, hM4, hp⟩, hG4⟩; obtain ⟨va, vc, rfl⟩ := hO.form)
        go_ret3
        have b4 : Below w2.heap.size w2 w4 := ((Below.refl _ w2).alloc (Nat.le_refl _) _).trans (belowE_gr hG4 (by simp))
        refine ⟨⟨_, by rw [HXE.out]; rfl, hO.mono (by simp; omega)⟩, b2.trans (b4.mono hb2)⟩
      · have hxe1 : (xe != 0) = true := by simp [hxe]
        have HXE : Hid (xe ≠ 0) := hxe
        clear hxe
        go_enter Tryd.func17, Tryd.ntmps17
        go_wp2_with fail
        refine CC.out.mono ?_
        rintro e w2 ⟨rfl, b2⟩
        have T2 := HT.out.below b2
        have M3 : RdE (w2.alloc (.cells #[.string s, .int .i64 0] 57)) w2.heap.size s 0 := ⟨heap_alloc_new w2 _⟩
        have S3 : TS (w2.alloc (.cells #[.string s, .int .i64 0] 57)) w2.heap.size := fun W hW => T2.below (((Below.refl _ w2).alloc (Nat.le_refl _) _).trans (belowE_gr hW (by simp)))
        have hb2 := b2.size
        go_wp2_with fail
        refine (CB.out _ _ _ S3 M3).mono ?_
        rintro e w4 ⟨⟨v, rfl, hO⟩, ⟨p, hM4, hp⟩, hG4⟩
        obtain rfl := hp HXE.out
        obtain ⟨va, vc, rfl⟩ := hO.form
        have b4 : Hid (Below w2.heap.size w2 w4) := ((Below.refl _ w2).alloc (Nat.le_refl _) _).trans (belowE_gr hG4 (by simp))
        obtain ⟨k0, k1⟩ := hM4.cells
        have g1 := cell_regrown k1
        simp only
        clear hO hM4 hG4 hp k0 k1 M3 S3
        go_wp2_with fail
        refine wp_region_quiet_below (by kernel_rfl) (by kernel_rfl) ?_
        iterate 6 (go_big_quiet_step (fail))
        refine wpQuiet_nil ?_
        intro _ hw'
        obtain ⟨⟨ds, oss⟩, hw''⟩ := hw'
        subst hw''
        have b5 := below_regrown w4 ds oss
        generalize grow (redrawn w4 ds) oss = w5 at *
        go_wp2_with fail
        go_ret3
        have hb4 := b4.out.size
        refine ⟨⟨_, rfl, ?_⟩, b2.trans ((b4.out.trans (b5.mono hb4)).mono hb2)⟩
        rw [HXL.out HXE.out]
        exact OwnB_nil _ _
    · rw [if_neg hc] at hE
      rw [hE]
      obtain ⟨c1, c2, hcc⟩ : ∃ c1 c2, chk s = (c1, c2) := ⟨(chk s).1, (chk s).2, rfl⟩
      rw [hcc] at cC hc ⊢
      simp only at cC hc ⊢
      have hc1 : (c2 != 0) = true := by simp [hc]
      have CC : Hid (Calls Tryd.prog 29 #[.string s] w fun e w' => e = .returned (.tuple #[.int .i64 (c1 : Int), .int .i64 c2]) ∧ Below w.heap.size w w') := cC
      clear cC hE hcc hc
      go_enter Tryd.func17, Tryd.ntmps17
      go_wp2_with (go_at_call 29; refine CC.out.mono ?_; rintro e w2 ⟨rfl, b2⟩)
      go_ret3
      exact ⟨⟨_, rfl, OwnB_nil _ _⟩, b2⟩
end Go.Proofs.YtpdohdmpjaklgaaDoor

/-
  EnvPlays, walked: every Get, Set, Text.
-/
import Derived.Test.YtpdohdmpjaklgaaDoorEvTyW
set_option linter.unusedSimpArgs false
set_option linter.unusedVariables false
namespace Go.Proofs.YtpdohdmpjaklgaaDoor
open Go.RowKit Go.Lib Go.Sort

theorem setR_len (l : List Bd) (nm : ByteArray) (n : Int) (w : World) (base : Nat) (v : Value) (h : OwnB w base v (setR l nm n).1) : ∃ a c, v = .slice a (setR l nm n).1.length c ∧ Bds w a c (setR l nm n).1 := by
  obtain ⟨a, c, h1, h2, _⟩ := h.read
  exact ⟨a, c, h1, h2⟩

set_option maxRecDepth 100000 in
set_option maxHeartbeats 4000000 in
theorem envPlays.walk (w : World) (ao : Option Addr) (cap : Nat) (l : List Bd) (nm : ByteArray) (n : Int) (hT : SpanCells w) (hP : Pows w) (hI : Bds w ao cap l) (hok : BdOk l) (hr : Rch l) (hsz : nm.size ≤ maxLen) :
    Calls Tryd.prog 3 #[.slice ao l.length cap, .string nm, .int .i64 n] w fun e W' => e = .returned (.bool true) ∧ Below w.heap.size w W' := by
  have HI : Hid (Bds w ao cap l) := hI
  have HT : Hid (SpanCells w) := hT
  have HP : Hid (Pows w) := hP
  have HK : Hid (BdOk l) := hok
  clear hI hT hP hok
  obtain ⟨G, hG⟩ : ∃ G, getB l nm = G := ⟨_, rfl⟩
  have HG : Hid (getB l nm = G) := hG
  obtain ⟨X, hX⟩ : ∃ X, setR l nm n = X := ⟨_, rfl⟩
  have HX : Hid (setR l nm n = X) := hX
  obtain ⟨Y, hY⟩ : ∃ Y, txR l = Y := ⟨_, rfl⟩
  have HY : Hid (txR l = Y) := hY
  clear hG hX hY
  obtain ⟨XL, xe⟩ := X
  obtain ⟨YT, ye⟩ := Y
  go_enter Tryd.func3, Tryd.ntmps3
  go_wp2_with fail
  refine (awake_any _).mono ?_
  rintro e w1 ⟨rfl, b1⟩
  go_wp2_with fail
  refine (copiedR ao cap l hr _ (HI.out.below b1)).mono ?_
  rintro e w2 ⟨⟨a2, c2, rfl, R2⟩, b2⟩
  go_wp2_with fail
  refine (get_any a2 c2 l nm hr _ R2).mono ?_
  rw [HG.out]
  rintro e w3 ⟨rfl, b3⟩
  have G3 := b1.trans ((b2.trans (b3.mono b2.size)).mono b1.size)
  go_wp2_with fail
  refine (refGet_any ao cap l nm _ (HI.out.below G3)).mono ?_
  rw [HG.out]
  rintro e w4 ⟨rfl, hw4⟩
  obtain rfl := hw4.symm
  have HG3 : Hid (Below w.heap.size w w3) := G3
  clear G3 b1 b2 b3 R2
  go_wp2_with fail
  refine (copiedR ao cap l hr _ (HI.out.below HG3.out)).mono ?_
  rintro e w5 ⟨⟨a5, c5, rfl, R5⟩, b5⟩
  have G5 := HG3.out.trans (b5.mono HG3.out.size)
  go_wp2_with fail
  refine (set_any a5 c5 l nm n hr _ (HT.out.below G5) R5).mono ?_
  rintro e w6 ⟨⟨v6, rfl, o6⟩, b6⟩
  obtain ⟨a6, c6, rfl, R6⟩ := setR_len l nm n _ _ _ o6
  rw [HX.out] at R6 ⊢
  have G6 := G5.trans (b6.mono G5.size)
  simp only at R6 ⊢
  go_wp2_with fail
  refine (refSet_any ao cap l nm n hsz hr _ (HI.out.below G6)).mono ?_
  rintro e w7 ⟨⟨v7, rfl, o7⟩, b7⟩
  obtain ⟨a7, c7, rfl, R7⟩ := setR_len l nm n _ _ _ o7
  rw [HX.out] at R7 ⊢
  have G7 := G6.trans (b7.mono G6.size)
  simp only at R7 ⊢
  have HR6 : Hid (Bds w7 a6 c6 XL) := R6.below b7
  have HR7 : Hid (Bds w7 a7 c7 XL) := R7
  have HG7 : Hid (Below w.heap.size w w7) := G7
  clear o6 o7 R6 R7 G5 G6 G7 b5 b6 b7 R5
  go_wp2_with fail
  refine (copiedR ao cap l hr _ (HI.out.below HG7.out)).mono ?_
  rintro e w8 ⟨⟨a8, c8, rfl, R8⟩, b8⟩
  have G8 := HG7.out.trans (b8.mono HG7.out.size)
  go_wp2_with fail
  refine (envText_any a8 c8 l _ (HT.out.below G8) (HP.out.below G8) R8 HK.out).mono ?_
  rintro e w9 ⟨rfl, b9⟩
  rw [HY.out]
  simp only
  have G9 := G8.trans (b9.mono G8.size)
  go_wp2_with fail
  refine (refTextE_any ao cap l _ (HI.out.below G9) HK.out).mono ?_
  rintro e w10 ⟨rfl, b10⟩
  rw [HY.out]
  simp only
  have G10 := G9.trans (b10.mono G9.size)
  have HG10 : Hid (Below w.heap.size w w10) := G10
  have R610 := ((HR6.out.below b8).below b9).below b10
  have R710 := ((HR7.out.below b8).below b9).below b10
  clear G8 G9 G10 R8
  go_wp2_with fail
  refine (same_any a6 a7 c6 c7 XL XL _ R610 R710).mono ?_
  rw [decide_eq_true rfl]
  rintro e w11 ⟨rfl, b11⟩
  go_wp2
  go_ret
  exact ⟨rfl, HG10.out.trans (b11.mono HG10.out.size)⟩
end Go.Proofs.YtpdohdmpjaklgaaDoor

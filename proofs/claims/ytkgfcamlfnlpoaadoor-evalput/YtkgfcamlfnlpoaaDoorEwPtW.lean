/-
  EvalPut, walked.
-/
import Derived.Test.YtkgfcamlfnlpoaaDoorEwLwW
import Derived.Test.YtkgfcamlfnlpoaaDoorEwPtP
set_option linter.unusedSimpArgs false
set_option linter.unusedVariables false
namespace Go.Proofs.YtkgfcamlfnlpoaaDoor
open Go.RowKit Go.Lib

set_option maxRecDepth 20000 in
set_option maxHeartbeats 2000000 in
theorem evPut.bad (w : World) (ao : Option Addr) (cap : Nat) (l : List Nd) (at_ : Int) (eo : Option Addr) (ec : Nat) (bs : List Bd) (h : EvIn w ao cap l eo ec bs) (hF : Fit l) (hbad : begL l = none ∨ (∃ fr, begL l = some fr ∧ (at_ < 0 ∨ (l.length : Int) ≤ at_))) :
    Calls Tryd.prog 7 #[.slice ao l.length cap, .int .i64 at_, .slice eo bs.length ec] w fun e w' => e = .returned (.bool true) ∧ Below w.heap.size w w' := by
  have HH : Hid (EvIn w ao cap l eo ec bs) := h
  have cP : Hid (∀ V a c, Below w.heap.size w V → Rd V a c l → Calls Tryd.prog 13 #[.slice a l.length c, .int .i64 at_] V fun e w' => ∃ er : Int, e = .returned (.tuple #[.slice none 0 0, .int .i64 er]) ∧ (er = 1 ∨ er = 2) ∧ Below V.heap.size V w') := fun V a c hV hR => by
    rcases hbad with hb | ⟨fr, hb, hat⟩
    · exact (part_none _ l at_ V _ (Nat.le_refl _) (h.below hV).T hR hb).mono fun e w' ⟨h1, h2⟩ => ⟨1, h1, .inl rfl, h2⟩
    · exact (part_out _ l fr at_ V _ (Nat.le_refl _) (h.below hV).T hR hb hat).mono fun e w' ⟨h1, h2⟩ => ⟨2, h1, .inr rfl, h2⟩
  clear h hbad
  go_enter Tryd.func7, Tryd.ntmps7
  go_wp2_with fail
  refine (awake8_any w HH.out.T HH.out.G).mono ?_
  rintro e w1 ⟨rfl, hb1⟩
  have B1 : Hid (Below w.heap.size w w1) := hb1
  clear hb1
  go_wp2_with fail
  refine (copyR (HH.out.below B1.out).R hF).mono ?_
  rintro e w2 ⟨a2, c2, rfl, hR2, hb2⟩
  have B2 : Hid (Below w.heap.size w w2) := B1.out.trans (hb2.mono B1.out.size)
  have R2 : Hid (Rd w2 a2 c2 l) := hR2
  clear hR2 hb2 B1
  go_wp2_with fail
  refine (cP.out w2 a2 c2 B2.out R2.out).mono ?_
  rintro e w3 ⟨er, rfl, her, hb3⟩
  have B3 : Hid (Below w.heap.size w w3) := B2.out.trans (hb3.mono B2.out.size)
  clear hb3 B2 R2 cP
  rcases her with rfl | rfl
  · go_wp2_with fail
    go_ret
    exact ⟨rfl, B3.out⟩
  · go_wp2_with fail
    go_ret
    exact ⟨rfl, B3.out⟩

set_option maxRecDepth 20000 in
set_option maxHeartbeats 2000000 in
theorem evPut.good (w : World) (ao : Option Addr) (cap : Nat) (l : List Nd) (i : Nat) (eo : Option Addr) (ec : Nat) (bs : List Bd) (h : EvIn w ao cap l eo ec bs) (hF : Fit l) (fr : List Nat) (hb : begL l = some fr) (hi : i < l.length) :
    Calls Tryd.prog 7 #[.slice ao l.length cap, .int .i64 i, .slice eo bs.length ec] w fun e w' => e = .returned (.bool true) ∧ Below w.heap.size w w' := by
  have HH : Hid (EvIn w ao cap l eo ec bs) := h
  have hbo := begOk_of (begL_some hb).2.2.1
  have hlo := hbo.low i
  have h64 := (begL_some hb).2.1
  have hPE := evA_part (bs := bs) hb i hi
  have cE : Hid (∀ V a c a' c' m, Below w.heap.size w V → Rd V a c m → Bds V a' c' bs → Calls Tryd.prog 24 #[.slice a m.length c, .slice a' bs.length c'] V fun e w' => e = .returned (.tuple #[.int .i64 (evA bs m).1, .int .i64 (evA bs m).2]) ∧ Below V.heap.size V w') := fun V a c a' c' m hV hR hB => eval_any ⟨(h.below hV).T, (h.below hV).G, hR, hB, h.reach⟩
  obtain ⟨P, hP⟩ : ∃ P, partL l (fr.getD i 0) i = P := ⟨_, rfl⟩
  have cP : Hid (∀ V a c, Below w.heap.size w V → Rd V a c l → Calls Tryd.prog 13 #[.slice a l.length c, .int .i64 i] V fun e w' => ∃ ao' cap', e = .returned (.tuple #[.slice ao' P.length cap', .int .i64 0]) ∧ Rd w' ao' cap' P ∧ Below V.heap.size V w') := fun V a c hV hR => partR (h.below hV).T hR hb i i rfl hi hP
  rw [hP] at hPE
  cases hv : vA bs l i with
  | none =>
    rw [hv] at hPE
    have hPE : evA bs P = (0, 12) := hPE
    have hLE : evA bs l = (0, 12) := by
      have e := trap_up (bs := bs) hbo (l.length - 1) (by omega) i (by rw [(begL_some hb).2.2.2]; omega) (by omega) hv
      unfold evA; rw [if_pos (snd_some hb), e]
    have cE1 : Hid (∀ V a c a' c', Below w.heap.size w V → Rd V a c l → Bds V a' c' bs → Calls Tryd.prog 24 #[.slice a l.length c, .slice a' bs.length c'] V fun e w' => e = .returned (.tuple #[.int .i64 0, .int .i64 12]) ∧ Below V.heap.size V w') := fun V a c a' c' h1 h2 h3 => by
      have := cE.out V a c a' c' l h1 h2 h3; rw [hLE] at this; exact this
    have cE2 : Hid (∀ V a c a' c', Below w.heap.size w V → Rd V a c P → Bds V a' c' bs → Calls Tryd.prog 24 #[.slice a P.length c, .slice a' bs.length c'] V fun e w' => e = .returned (.tuple #[.int .i64 0, .int .i64 12]) ∧ Below V.heap.size V w') := fun V a c a' c' h1 h2 h3 => by
      have := cE.out V a c a' c' P h1 h2 h3; rw [hPE] at this; exact this
    clear h hbo hPE hLE cE hP hv
    go_enter Tryd.func7, Tryd.ntmps7
    go_wp2_with fail
    refine (awake8_any w HH.out.T HH.out.G).mono ?_
    rintro e w1 ⟨rfl, hb1⟩
    have B1 : Hid (Below w.heap.size w w1) := hb1
    clear hb1
    go_wp2_with fail
    refine (copyR (HH.out.below B1.out).R hF).mono ?_
    rintro e w2 ⟨a2, c2, rfl, hR2, hb2⟩
    have B2 : Hid (Below w.heap.size w w2) := B1.out.trans (hb2.mono B1.out.size)
    have R2 : Hid (Rd w2 a2 c2 l) := hR2
    clear hR2 hb2 B1
    go_wp2_with fail
    refine (cP.out w2 a2 c2 B2.out R2.out).mono ?_
    rintro e w3 ⟨a3, c3, rfl, hR3, hb3⟩
    have B3 : Hid (Below w.heap.size w w3) := B2.out.trans (hb3.mono B2.out.size)
    have R3 : Hid (Rd w3 a3 c3 P) := hR3
    clear hR3 hb3 B2 R2
    go_wp2_with fail
    refine (copyR (HH.out.below B3.out).R hF).mono ?_
    rintro e w4 ⟨a4, c4, rfl, hR4, hb4⟩
    have B4 : Hid (Below w.heap.size w w4) := B3.out.trans (hb4.mono B3.out.size)
    have R4 : Hid (Rd w4 a4 c4 l) := hR4
    have P4 : Hid (Rd w4 a3 c3 P) := R3.out.below hb4 hb4.size
    clear hR4 hb4 B3 R3
    go_wp2_with fail
    refine (copied8_rd HH.out.reach (HH.out.below B4.out).B).mono ?_
    rintro e w5 ⟨a5, c5, rfl, hB5, hb5⟩
    have B5 : Hid (Below w.heap.size w w5) := B4.out.trans (hb5.mono B4.out.size)
    have R5 : Hid (Rd w5 a4 c4 l) := R4.out.below hb5 hb5.size
    have P5 : Hid (Rd w5 a3 c3 P) := P4.out.below hb5 hb5.size
    have Q5 : Hid (Bds w5 a5 c5 bs) := hB5
    clear hB5 hb5 B4 R4 P4
    go_wp2_with fail
    refine (cE1.out w5 a4 c4 a5 c5 B5.out R5.out Q5.out).mono ?_
    rintro e w6 ⟨rfl, hb6⟩
    have B6 : Hid (Below w.heap.size w w6) := B5.out.trans (hb6.mono B5.out.size)
    have P6 : Hid (Rd w6 a3 c3 P) := P5.out.below hb6 hb6.size
    clear hb6 B5 R5 P5 Q5
    go_wp2_with fail
    refine (copied8_rd HH.out.reach (HH.out.below B6.out).B).mono ?_
    rintro e w7 ⟨a7, c7, rfl, hB7, hb7⟩
    have B7 : Hid (Below w.heap.size w w7) := B6.out.trans (hb7.mono B6.out.size)
    have P7 : Hid (Rd w7 a3 c3 P) := P6.out.below hb7 hb7.size
    have Q7 : Hid (Bds w7 a7 c7 bs) := hB7
    clear hB7 hb7 B6 P6
    go_wp2_with fail
    refine (cE2.out w7 a3 c3 a7 c7 B7.out P7.out Q7.out).mono ?_
    rintro e w8 ⟨rfl, hb8⟩
    have B8 : Hid (Below w.heap.size w w8) := B7.out.trans (hb8.mono B7.out.size)
    clear hb8 B7 P7 Q7
    go_wp2_with fail
    go_ret
    exact ⟨rfl, B8.out⟩
  | some n =>
    rw [hv] at hPE
    have hPE : evA bs P = (n, 0) := hPE
    obtain ⟨fo, hfo, hXE⟩ := evA_put hb i hi n hv
    have hlit := litN_snd n
    obtain ⟨X, hX⟩ : ∃ X, putL l (fr.getD i 0) i [litN n] = X := ⟨_, rfl⟩
    have hXE : evA bs X = evA bs l := by rw [← hX]; exact hXE
    have cU : Hid (∀ V a c b d, Below w.heap.size w V → Rd V a c l → Rd V b d [litN n] → Calls Tryd.prog 16 #[.slice a l.length c, .int .i64 i, .slice b 1 d] V fun e w' => ∃ ao' cap', e = .returned (.tuple #[.slice ao' X.length cap', .int .i64 0]) ∧ Rd w' ao' cap' X ∧ Below V.heap.size V w') := fun V a c b d hV h1 h2 => putR (h.below hV).T h1 h2 hb hlit i i rfl hi (by show l.length + 1 + fr.getD i 0 ≤ 64 + (i + 1); omega) hX
    have cE1 : Hid (∀ V a c a' c', Below w.heap.size w V → Rd V a c l → Bds V a' c' bs → Calls Tryd.prog 24 #[.slice a l.length c, .slice a' bs.length c'] V fun e w' => e = .returned (.tuple #[.int .i64 (evA bs l).1, .int .i64 (evA bs l).2]) ∧ Below V.heap.size V w') := fun V a c a' c' h1 h2 h3 => cE.out V a c a' c' l h1 h2 h3
    have cE2 : Hid (∀ V a c a' c', Below w.heap.size w V → Rd V a c P → Bds V a' c' bs → Calls Tryd.prog 24 #[.slice a P.length c, .slice a' bs.length c'] V fun e w' => e = .returned (.tuple #[.int .i64 n, .int .i64 0]) ∧ Below V.heap.size V w') := fun V a c a' c' h1 h2 h3 => by
      have := cE.out V a c a' c' P h1 h2 h3; rw [hPE] at this; exact this
    have cE3 : Hid (∀ V a c a' c', Below w.heap.size w V → Rd V a c X → Bds V a' c' bs → Calls Tryd.prog 24 #[.slice a X.length c, .slice a' bs.length c'] V fun e w' => e = .returned (.tuple #[.int .i64 (evA bs l).1, .int .i64 (evA bs l).2]) ∧ Below V.heap.size V w') := fun V a c a' c' h1 h2 h3 => by
      have := cE.out V a c a' c' X h1 h2 h3; rw [hXE] at this; exact this
    clear h hbo hPE hXE cE hP hv hfo hX hlit
    generalize evA bs l = A at *
    obtain ⟨x1, x2⟩ := A
    simp only at cE1 cE3
    go_enter Tryd.func7, Tryd.ntmps7
    go_wp2_with fail
    refine (awake8_any w HH.out.T HH.out.G).mono ?_
    rintro e w1 ⟨rfl, hb1⟩
    have B1 : Hid (Below w.heap.size w w1) := hb1
    clear hb1
    go_wp2_with fail
    refine (copyR (HH.out.below B1.out).R hF).mono ?_
    rintro e w2 ⟨a2, c2, rfl, hR2, hb2⟩
    have B2 : Hid (Below w.heap.size w w2) := B1.out.trans (hb2.mono B1.out.size)
    have R2 : Hid (Rd w2 a2 c2 l) := hR2
    clear hR2 hb2 B1
    go_wp2_with fail
    refine (cP.out w2 a2 c2 B2.out R2.out).mono ?_
    rintro e w3 ⟨a3, c3, rfl, hR3, hb3⟩
    have B3 : Hid (Below w.heap.size w w3) := B2.out.trans (hb3.mono B2.out.size)
    have R3 : Hid (Rd w3 a3 c3 P) := hR3
    clear hR3 hb3 B2 R2
    go_wp2_with fail
    refine (copyR (HH.out.below B3.out).R hF).mono ?_
    rintro e w4 ⟨a4, c4, rfl, hR4, hb4⟩
    have B4 : Hid (Below w.heap.size w w4) := B3.out.trans (hb4.mono B3.out.size)
    have R4 : Hid (Rd w4 a4 c4 l) := hR4
    have P4 : Hid (Rd w4 a3 c3 P) := R3.out.below hb4 hb4.size
    clear hR4 hb4 B3 R3
    go_wp2_with fail
    refine (copied8_rd HH.out.reach (HH.out.below B4.out).B).mono ?_
    rintro e w5 ⟨a5, c5, rfl, hB5, hb5⟩
    have B5 : Hid (Below w.heap.size w w5) := B4.out.trans (hb5.mono B4.out.size)
    have R5 : Hid (Rd w5 a4 c4 l) := R4.out.below hb5 hb5.size
    have P5 : Hid (Rd w5 a3 c3 P) := P4.out.below hb5 hb5.size
    have Q5 : Hid (Bds w5 a5 c5 bs) := hB5
    clear hB5 hb5 B4 R4 P4
    go_wp2_with fail
    refine (cE1.out w5 a4 c4 a5 c5 B5.out R5.out Q5.out).mono ?_
    rintro e w6 ⟨rfl, hb6⟩
    have B6 : Hid (Below w.heap.size w w6) := B5.out.trans (hb6.mono B5.out.size)
    have P6 : Hid (Rd w6 a3 c3 P) := P5.out.below hb6 hb6.size
    clear hb6 B5 R5 P5 Q5
    go_wp2_with fail
    refine (copied8_rd HH.out.reach (HH.out.below B6.out).B).mono ?_
    rintro e w7 ⟨a7, c7, rfl, hB7, hb7⟩
    have B7 : Hid (Below w.heap.size w w7) := B6.out.trans (hb7.mono B6.out.size)
    have P7 : Hid (Rd w7 a3 c3 P) := P6.out.below hb7 hb7.size
    have Q7 : Hid (Bds w7 a7 c7 bs) := hB7
    clear hB7 hb7 B6 P6
    go_wp2_with fail
    refine (cE2.out w7 a3 c3 a7 c7 B7.out P7.out Q7.out).mono ?_
    rintro e w8 ⟨rfl, hb8⟩
    have B8 : Hid (Below w.heap.size w w8) := B7.out.trans (hb8.mono B7.out.size)
    clear hb8 B7 P7 Q7
    go_wp2_with fail
    refine (copyR (HH.out.below B8.out).R hF).mono ?_
    rintro e w9 ⟨a9, c9, rfl, hR9, hb9⟩
    have B9 : Hid (Below w.heap.size w w9) := B8.out.trans (hb9.mono B8.out.size)
    have R9 : Hid (Rd w9 a9 c9 l) := hR9
    clear hR9 hb9 B8
    have hbA : Below w9.heap.size w9 (w9.alloc (.cells #[.int .i64 1, .int .i64 n, .string ⟨#[]⟩, .slice none 0 0] 46)) := (Below.refl _ _).alloc (Nat.le_refl _) _
    have BA : Hid (Below w.heap.size w (w9.alloc (.cells #[.int .i64 1, .int .i64 n, .string ⟨#[]⟩, .slice none 0 0] 46))) := B9.out.trans (hbA.mono B9.out.size)
    have RA : Hid (Rd (w9.alloc (.cells #[.int .i64 1, .int .i64 n, .string ⟨#[]⟩, .slice none 0 0] 46)) a9 c9 l) := R9.out.below hbA hbA.size
    have LA : Hid (Rd (w9.alloc (.cells #[.int .i64 1, .int .i64 n, .string ⟨#[]⟩, .slice none 0 0] 46)) (some ⟨w9.heap.size, 0, none⟩) 1 [litN n]) := Rd_lit w9 n
    clear hbA R9 B9
    go_wp2_with fail
    refine (cU.out _ a9 c9 _ 1 BA.out RA.out LA.out).mono ?_
    rintro e w10 ⟨a10, c10, rfl, hR10, hb10⟩
    have B10 : Hid (Below w.heap.size w w10) := BA.out.trans (hb10.mono BA.out.size)
    have R10 : Hid (Rd w10 a10 c10 X) := hR10
    clear hR10 hb10 BA RA LA
    go_wp2_with fail
    refine (copied8_rd HH.out.reach (HH.out.below B10.out).B).mono ?_
    rintro e w11 ⟨a11, c11, rfl, hB11, hb11⟩
    have B11 : Hid (Below w.heap.size w w11) := B10.out.trans (hb11.mono B10.out.size)
    have R11 : Hid (Rd w11 a10 c10 X) := R10.out.below hb11 hb11.size
    have Q11 : Hid (Bds w11 a11 c11 bs) := hB11
    clear hB11 hb11 B10 R10
    go_wp2_with fail
    refine (cE3.out w11 a10 c10 a11 c11 B11.out R11.out Q11.out).mono ?_
    rintro e w12 ⟨rfl, hb12⟩
    have B12 : Hid (Below w.heap.size w w12) := B11.out.trans (hb12.mono B11.out.size)
    clear hb12 B11 R11 Q11
    go_wp2_with fail
    go_ret
    exact ⟨by simp, B12.out⟩

theorem evPut.walk (w : World) (ao : Option Addr) (cap : Nat) (l : List Nd) (at_ : Int) (eo : Option Addr) (ec : Nat) (bs : List Bd) (h : EvIn w ao cap l eo ec bs) (hF : Fit l) :
    Calls Tryd.prog 7 #[.slice ao l.length cap, .int .i64 at_, .slice eo bs.length ec] w fun e w' => e = .returned (.bool true) ∧ Below w.heap.size w w' := by
  cases hb : begL l with
  | none => exact evPut.bad w ao cap l at_ eo ec bs h hF (.inl hb)
  | some fr =>
    by_cases hat : at_ < 0 ∨ (l.length : Int) ≤ at_
    · exact evPut.bad w ao cap l at_ eo ec bs h hF (.inr ⟨fr, hb, hat⟩)
    · obtain ⟨i, rfl⟩ : ∃ i : Nat, at_ = (i : Int) := ⟨at_.toNat, by omega⟩
      exact evPut.good w ao cap l i eo ec bs h hF fr hb (by omega)
end Go.Proofs.YtkgfcamlfnlpoaaDoor

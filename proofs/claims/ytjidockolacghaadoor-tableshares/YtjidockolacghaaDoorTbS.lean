/-
  TableShares, walked.
-/
import Derived.Test.YtjidockolacghaaDoorTbL2
set_option linter.unusedSimpArgs false
set_option linter.unusedVariables false
namespace Go.Proofs.YtjidockolacghaaDoor
open Go.RowKit Go.Lib Go.Sort Go.Maps

theorem adP_cases {L l : List Nd} {R : Nat} {E : Int} {L' : List Nd} (hI : TbI L) (hr : L.length + 64 ≤ 1048576) (h : adP L l = (R, E, L')) :
    (begL l = none ∧ E = 1 ∧ L' = L) ∨ (∃ fr ids, begL l = some fr ∧ E = 0 ∧ AdOk L l ids L' ∧ R = ids.getD (l.length - 1) 0) := by
  cases hb : begL l with
  | none =>
    rw [adP_bad hb] at h
    simp only [Prod.mk.injEq] at h
    exact .inl ⟨rfl, h.2.1.symm, h.2.2.symm⟩
  | some fr =>
    obtain ⟨ids, L2, h1, h2⟩ := adP_snd hI hb hr
    rw [h2] at h
    simp only [Prod.mk.injEq] at h
    obtain ⟨rfl, rfl, rfl⟩ := h
    exact .inr ⟨fr, ids, rfl, rfl, h1, rfl⟩
/-- Of two expressions, the second added later: one number just if they are the same. -/
theorem shares_two {L0 L1 L2 L3 a b : List Nd} {ids1 ids2 : List Nat} {fr1 fr2 : List Nat} (hb1 : begL a = some fr1) (hb2 : begL b = some fr2) (h1 : AdOk L0 a ids1 L1) (hp : ∃ M, L2 = L1 ++ M) (hI2 : TbI L2) (h2 : AdOk L2 b ids2 L3) :
    ids1.getD (a.length - 1) 0 = ids2.getD (b.length - 1) 0 ↔ a = b := by
  obtain ⟨M, rfl⟩ := hp
  obtain ⟨M2, hM2, _⟩ := h2.pre
  have hl1 := h1.lt (begL_some hb1).1
  constructor
  · intro e
    have e1 := h1.whole hb1
    have e2 := h2.whole hb2
    rw [← e2, ← e, hM2, List.append_assoc, exA_app hl1, e1]
  · rintro rfl
    have hf : Fnd (L1 ++ M) a ids1 := h1.fnd.more
    have hr := fnd_run (kidsLo_ok (begOk_of (begL_some hb1).2.2.1)) hI2.nodup hf
    rw [h2.run] at hr
    simp only [Option.some.injEq, Prod.mk.injEq] at hr
    rw [hr.2]
theorem shares_plain {a b c L1 L2 L3 : List Nd} {R1 R2 R3 : Nat} {E1 E2 E3 : Int} (h1 : adP [] a = (R1, E1, L1)) (h2 : adP L1 b = (R2, E2, L2)) (h3 : adP L2 c = (R3, E3, L3)) :
    (E1 = 0 ∨ E1 = 1) ∧ (E2 = 0 ∨ E2 = 1) ∧ (E3 = 0 ∨ E3 = 1) ∧ (E1 = 0 → E2 = 0 → (R1 = R2 ↔ a = b)) ∧ (E2 = 0 → E3 = 0 → (R2 = R3 ↔ b = c)) ∧ (E1 = 0 → E3 = 0 → (R1 = R3 ↔ a = c)) ∧ L1.length ≤ 64 ∧ L2.length ≤ 128 ∧ L3.length ≤ 192 ∧ TbI L1 ∧ TbI L2 ∧ TbI L3 := by
  have i0 := TbI.nil
  have l1 := adP_len (l := a) i0 (by simp)
  rw [h1] at l1
  simp only [List.length_nil, Nat.zero_add] at l1
  have l2 := adP_len (l := b) l1.2 (by omega)
  rw [h2] at l2
  simp only at l2
  have l3 := adP_len (l := c) l2.2 (by omega)
  rw [h3] at l3
  simp only at l3
  have c1 := adP_cases i0 (by simp) h1
  have c2 := adP_cases l1.2 (by omega) h2
  have c3 := adP_cases l2.2 (by omega) h3
  have p2 : ∃ M, L2 = L1 ++ M := by
    rcases c2 with ⟨_, _, rfl⟩ | ⟨_, _, _, _, h, _⟩
    · exact ⟨[], by simp⟩
    · obtain ⟨M, hM, _⟩ := h.pre; exact ⟨M, hM⟩
  refine ⟨?_, ?_, ?_, fun e1 e2 => ?_, fun e2 e3 => ?_, fun e1 e3 => ?_, by omega, by omega, by omega, l1.2, l2.2, l3.2⟩
  · rcases c1 with ⟨_, h, _⟩ | ⟨_, _, _, h, _⟩
    · exact .inr h
    · exact .inl h
  · rcases c2 with ⟨_, h, _⟩ | ⟨_, _, _, h, _⟩
    · exact .inr h
    · exact .inl h
  · rcases c3 with ⟨_, h, _⟩ | ⟨_, _, _, h, _⟩
    · exact .inr h
    · exact .inl h
  · rcases c1 with ⟨_, h, _⟩ | ⟨f1, i1, b1, _, a1, r1⟩
    · omega
    · rcases c2 with ⟨_, h, _⟩ | ⟨f2, i2, b2, _, a2, r2⟩
      · omega
      · rw [r1, r2]; exact shares_two b1 b2 a1 ⟨[], by simp⟩ a1.inv a2
  · rcases c2 with ⟨_, h, _⟩ | ⟨f1, i1, b1, _, a1, r1⟩
    · omega
    · rcases c3 with ⟨_, h, _⟩ | ⟨f2, i2, b2, _, a2, r2⟩
      · omega
      · rw [r1, r2]; exact shares_two b1 b2 a1 ⟨[], by simp⟩ a1.inv a2
  · rcases c1 with ⟨_, h, _⟩ | ⟨f1, i1, b1, _, a1, r1⟩
    · omega
    · rcases c3 with ⟨_, h, _⟩ | ⟨f2, i2, b2, _, a2, r2⟩
      · omega
      · rw [r1, r2]; exact shares_two b1 b2 a1 p2 l2.2 a2
/-- Of an entry: Find and Put. -/
theorem entry_sh {L : List Nd} (h : TbI L) {i : Nat} (hi : i < L.length) : shE L (edA L i) = 0 ∧ ixL L (edA L i) = some i := by
  refine ⟨?_, ixL_of h.nodup hi rfl⟩
  unfold shE
  rw [if_pos (h.form i hi), if_pos]
  rw [List.all_eq_true]
  intro k hk
  have := h.kids i hi k hk
  exact hasT_iff.2 ⟨k.toNat, by omega, by omega⟩
theorem entry_find {L : List Nd} (h : TbI L) {i : Nat} (hi : i < L.length) : fdR L (edA L i) = (i, 0) := by
  obtain ⟨h1, h2⟩ := entry_sh h hi
  unfold fdR
  rw [if_pos h1, h2]
theorem entry_put {L : List Nd} (h : TbI L) {i : Nat} (hi : i < L.length) : ptR L (edA L i) = (i, 0, L) := by
  obtain ⟨h1, h2⟩ := entry_sh h hi
  unfold ptR putS
  rw [if_pos h1, h2]

/-- Copy, and Add of it. -/
theorem copy_own (w : World) (ao : Option Addr) (cap : Nat) (l : List Nd) (hR : Rd w ao cap l) (hF : FitX l) :
    Calls Tryd.prog 11 #[.slice ao l.length cap] w fun e w' => ∃ v', e = .returned v' ∧ OwnN w' w.heap.size v' l ∧ Below w.heap.size w w' :=
  copy_any _ l w _ (Nat.le_refl _) hR (by have := hF.len; omega) (fun x hx => by have := hF.kids x hx; omega)

set_option maxRecDepth 20000 in
set_option maxHeartbeats 32000000 in
theorem tableShares_walk (w : World) (ao bo co : Option Addr) (ac bc cc : Nat) (a b c : List Nd) (hT : SpanCells w) (hRa : Rd w ao ac a) (hRb : Rd w bo bc b) (hRc : Rd w co cc c) (hFa : FitX a) (hFb : FitX b) (hFc : FitX c) :
    Calls Tryd.prog 6 #[.slice ao a.length ac, .slice bo b.length bc, .slice co c.length cc] w fun e w' => e = .returned (.bool true) ∧ Below w.heap.size w w' := by
  obtain ⟨⟨R1, E1, L1⟩, hA1⟩ : ∃ t, adP [] a = t := ⟨_, rfl⟩
  obtain ⟨⟨R2, E2, L2⟩, hA2⟩ : ∃ t, adP L1 b = t := ⟨_, rfl⟩
  obtain ⟨⟨R3, E3, L3⟩, hA3⟩ : ∃ t, adP L2 c = t := ⟨_, rfl⟩
  obtain ⟨hE1, hE2, hE3, hs12, hs23, hs13, hl1, hl2, hl3, hI1, hI2, hI3⟩ := shares_plain hA1 hA2 hA3
  have HS : Sld ((E1 = 0 → E2 = 0 → (R1 = R2 ↔ a = b)) ∧ (E2 = 0 → E3 = 0 → (R2 = R3 ↔ b = c)) ∧ (E1 = 0 → E3 = 0 → (R1 = R3 ↔ a = c))) := ⟨hs12, hs23, hs13⟩
  have HI3 : Sld (TbI L3) := ⟨hI3⟩
  have HRa : Sld (∀ W, Below w.heap.size w W → Rd W ao ac a) := ⟨fun W hW => hRa.below hW hW.size⟩
  have HRb : Sld (∀ W, Below w.heap.size w W → Rd W bo bc b) := ⟨fun W hW => hRb.below hW hW.size⟩
  have HRc : Sld (∀ W, Below w.heap.size w W → Rd W co cc c) := ⟨fun W hW => hRc.below hW hW.size⟩
  have HT : Sld (SpanCells w) := ⟨hT⟩
  have HF : Sld (FitX a ∧ FitX b ∧ FitX c) := ⟨hFa, hFb, hFc⟩
  have C1 : Sld (∀ W ev mv base vs, TbM W w.heap.size ev mv [] → Below w.heap.size w W → OwnN W base vs a → Calls Tryd.prog 29 #[.pointer (some ⟨w.heap.size, 0, none⟩), vs] W fun e w' => e = .returned (.tuple #[.int .i64 (R1 : Nat), .int .i64 E1]) ∧ ∃ ev' mv', TbT W w.heap.size ev mv ev' mv' L1 w') := ⟨fun W ev mv base vs h1 h2 h3 => by
    have := tAdd_room W w.heap.size ev mv [] a base vs h1 (hT.below h2) h3 hFa.num (by simp)
    rw [hA1] at this
    exact this⟩
  have C2 : Sld (∀ W ev mv base vs, TbM W w.heap.size ev mv L1 → Below w.heap.size w W → OwnN W base vs b → Calls Tryd.prog 29 #[.pointer (some ⟨w.heap.size, 0, none⟩), vs] W fun e w' => e = .returned (.tuple #[.int .i64 (R2 : Nat), .int .i64 E2]) ∧ ∃ ev' mv', TbT W w.heap.size ev mv ev' mv' L2 w') := ⟨fun W ev mv base vs h1 h2 h3 => by
    have := tAdd_room W w.heap.size ev mv L1 b base vs h1 (hT.below h2) h3 hFb.num (by omega)
    rw [hA2] at this
    exact this⟩
  have C3 : Sld (∀ W ev mv base vs, TbM W w.heap.size ev mv L2 → Below w.heap.size w W → OwnN W base vs c → Calls Tryd.prog 29 #[.pointer (some ⟨w.heap.size, 0, none⟩), vs] W fun e w' => e = .returned (.tuple #[.int .i64 (R3 : Nat), .int .i64 E3]) ∧ ∃ ev' mv', TbT W w.heap.size ev mv ev' mv' L3 w') := ⟨fun W ev mv base vs h1 h2 h3 => by
    have := tAdd_room W w.heap.size ev mv L2 c base vs h1 (hT.below h2) h3 hFc.num (by omega)
    rw [hA3] at this
    exact this⟩
  obtain ⟨w1, hw1⟩ : ∃ w1, w.alloc (.cells #[.slice none 0 0, .map none] 80) = w1 := ⟨_, rfl⟩
  have HB1 : Sld (Below w.heap.size w w1) := ⟨by rw [← hw1]; exact (Below.refl _ _).alloc (Nat.le_refl _) _⟩
  have HM1 : Sld (TbM w1 w.heap.size (.slice none 0 0) (.map none) []) := ⟨by rw [← hw1]; exact TbM.fresh w⟩
  have CN : Sld (Calls Tryd.prog 23 #[] w fun e w' => e = .returned (.pointer (some ⟨w.heap.size, 0, none⟩)) ∧ w' = w1) := ⟨by rw [← hw1]; exact tnew_any w⟩
  have CA : Sld (Calls Tryd.prog 24 #[] w1 fun e w' => e = .returned (.bool true) ∧ Below w1.heap.size w1 w') := ⟨awake10_any w1 (hT.below HB1.out)⟩
  clear hw1 hT hRa hRb hRc hFa hFb hFc hA1 hA2 hA3 hs12 hs23 hs13 hI1 hI2 hI3
  go_enter Tryd.func6, Tryd.ntmps6
  go_wp2_with fail
  refine CN.out.mono ?_
  rintro e w2 ⟨rfl, hw2⟩
  subst hw2
  go_wp2_with fail
  refine CA.out.mono ?_
  rintro e w3 ⟨rfl, hb3⟩
  have HB3 : Sld (Below w.heap.size w w3) := ⟨HB1.out.trans (hb3.mono HB1.out.size)⟩
  have HM3 : Sld (TbM w3 w.heap.size (.slice none 0 0) (.map none) []) := ⟨HM1.out.below hb3⟩
  clear hb3
  go_wp2_with fail
  refine (copy_own w3 ao ac a (HRa.out w3 HB3.out) HF.out.1).mono ?_
  rintro e w4 ⟨v4, rfl, hO4, hb4⟩
  have HB4 : Sld (Below w.heap.size w w4) := ⟨HB3.out.trans (hb4.mono HB3.out.size)⟩
  have HM4 : Sld (TbM w4 w.heap.size (.slice none 0 0) (.map none) []) := ⟨HM3.out.below hb4⟩
  have D1 := C1.out w4 _ _ _ v4 HM4.out HB4.out hO4
  have HD1 : Sld (Calls Tryd.prog 29 #[.pointer (some ⟨w.heap.size, 0, none⟩), v4] w4 fun e w' => e = .returned (.tuple #[.int .i64 (R1 : Nat), .int .i64 E1]) ∧ ∃ ev' mv', TbT w4 w.heap.size (.slice none 0 0) (.map none) ev' mv' L1 w') := ⟨D1⟩
  clear hO4 hb4 D1
  go_wp2_with fail
  refine HD1.out.mono ?_
  rintro e w5 ⟨rfl, ev5, mv5, hT5⟩
  have HB5 : Sld (Below w.heap.size w w5) := ⟨hT5.b HM4.out HB4.out (Nat.le_refl _)⟩
  have HM5 : Sld (TbM w5 w.heap.size ev5 mv5 L1) := ⟨hT5.tb⟩
  clear hT5
  go_wp2_with fail
  refine (copy_own w5 bo bc b (HRb.out w5 HB5.out) HF.out.2.1).mono ?_
  rintro e w6 ⟨v6, rfl, hO6, hb6⟩
  have HB6 : Sld (Below w.heap.size w w6) := ⟨HB5.out.trans (hb6.mono HB5.out.size)⟩
  have HM6 : Sld (TbM w6 w.heap.size ev5 mv5 L1) := ⟨HM5.out.below hb6⟩
  have D2 := C2.out w6 _ _ _ v6 HM6.out HB6.out hO6
  have HD2 : Sld (Calls Tryd.prog 29 #[.pointer (some ⟨w.heap.size, 0, none⟩), v6] w6 fun e w' => e = .returned (.tuple #[.int .i64 (R2 : Nat), .int .i64 E2]) ∧ ∃ ev' mv', TbT w6 w.heap.size ev5 mv5 ev' mv' L2 w') := ⟨D2⟩
  clear hO6 hb6 D2
  go_wp2_with fail
  refine HD2.out.mono ?_
  rintro e w7 ⟨rfl, ev7, mv7, hT7⟩
  have HB7 : Sld (Below w.heap.size w w7) := ⟨hT7.b HM6.out HB6.out (Nat.le_refl _)⟩
  have HM7 : Sld (TbM w7 w.heap.size ev7 mv7 L2) := ⟨hT7.tb⟩
  clear hT7
  go_wp2_with fail
  refine (copy_own w7 co cc c (HRc.out w7 HB7.out) HF.out.2.2).mono ?_
  rintro e w8 ⟨v8, rfl, hO8, hb8⟩
  have HB8 : Sld (Below w.heap.size w w8) := ⟨HB7.out.trans (hb8.mono HB7.out.size)⟩
  have HM8 : Sld (TbM w8 w.heap.size ev7 mv7 L2) := ⟨HM7.out.below hb8⟩
  have D3 := C3.out w8 _ _ _ v8 HM8.out HB8.out hO8
  have HD3 : Sld (Calls Tryd.prog 29 #[.pointer (some ⟨w.heap.size, 0, none⟩), v8] w8 fun e w' => e = .returned (.tuple #[.int .i64 (R3 : Nat), .int .i64 E3]) ∧ ∃ ev' mv', TbT w8 w.heap.size ev7 mv7 ev' mv' L3 w') := ⟨D3⟩
  clear hO8 hb8 D3
  go_wp2_with fail
  refine HD3.out.mono ?_
  rintro e w9 ⟨rfl, ev9, mv9, hT9⟩
  have HB9 : Sld (Below w.heap.size w w9) := ⟨hT9.b HM8.out HB8.out (Nat.le_refl _)⟩
  have HM9 : Sld (TbM w9 w.heap.size ev9 mv9 L3) := ⟨hT9.tb⟩
  clear hT9 HD1 HD2 HD3 C1 C2 C3 HM1 HM3 HM4 HM5 HM6 HM7 HM8 HB1 HB3 HB4 HB5 HB6 HB7 HB8 CN CA
  obtain ⟨B12, hB12⟩ : ∃ B, ((R1 : Int) == (R2 : Int)) = B := ⟨_, rfl⟩
  obtain ⟨B23, hB23⟩ : ∃ B, ((R2 : Int) == (R3 : Int)) = B := ⟨_, rfl⟩
  obtain ⟨B13, hB13⟩ : ∃ B, ((R1 : Int) == (R3 : Int)) = B := ⟨_, rfl⟩
  have S12 : Sld (E1 = 0 → E2 = 0 → ∀ W, Below w.heap.size w W → TbM W w.heap.size ev9 mv9 L3 → Calls Tryd.prog 15 #[.slice ao a.length ac, .slice bo b.length bc] W fun e w' => e = .returned (.bool B12) ∧ Below w.heap.size w w' ∧ TbM w' w.heap.size ev9 mv9 L3) := ⟨fun h1 h2 W hW hMW => (sameR (HRa.out W hW) (HRb.out W hW) B12 (by
    have hh := HS.out.1 h1 h2
    rw [← hB12, Bool.eq_iff_iff]; simp only [decide_eq_true_eq, beq_iff_eq]
    exact ⟨fun h => by have := hh.2 h; omega, fun h => hh.1 (by omega)⟩)).mono fun e w' ⟨h3, h4⟩ => ⟨h3, hW.trans (h4.mono hW.size), hMW.below h4⟩⟩
  have S23 : Sld (E2 = 0 → E3 = 0 → ∀ W, Below w.heap.size w W → TbM W w.heap.size ev9 mv9 L3 → Calls Tryd.prog 15 #[.slice bo b.length bc, .slice co c.length cc] W fun e w' => e = .returned (.bool B23) ∧ Below w.heap.size w w' ∧ TbM w' w.heap.size ev9 mv9 L3) := ⟨fun h1 h2 W hW hMW => (sameR (HRb.out W hW) (HRc.out W hW) B23 (by
    have hh := HS.out.2.1 h1 h2
    rw [← hB23, Bool.eq_iff_iff]; simp only [decide_eq_true_eq, beq_iff_eq]
    exact ⟨fun h => by have := hh.2 h; omega, fun h => hh.1 (by omega)⟩)).mono fun e w' ⟨h3, h4⟩ => ⟨h3, hW.trans (h4.mono hW.size), hMW.below h4⟩⟩
  have S13 : Sld (E1 = 0 → E3 = 0 → ∀ W, Below w.heap.size w W → TbM W w.heap.size ev9 mv9 L3 → Calls Tryd.prog 15 #[.slice ao a.length ac, .slice co c.length cc] W fun e w' => e = .returned (.bool B13) ∧ Below w.heap.size w w' ∧ TbM w' w.heap.size ev9 mv9 L3) := ⟨fun h1 h2 W hW hMW => (sameR (HRa.out W hW) (HRc.out W hW) B13 (by
    have hh := HS.out.2.2 h1 h2
    rw [← hB13, Bool.eq_iff_iff]; simp only [decide_eq_true_eq, beq_iff_eq]
    exact ⟨fun h => by have := hh.2 h; omega, fun h => hh.1 (by omega)⟩)).mono fun e w' ⟨h3, h4⟩ => ⟨h3, hW.trans (h4.mono hW.size), hMW.below h4⟩⟩
  have hB9 := HB9.out
  have hM9 := HM9.out
  rcases hE1 with rfl | rfl <;> rcases hE2 with rfl | rfl <;> rcases hE3 with rfl | rfl
  all_goals
    try have T12 : Sld _ := ⟨S12.out rfl rfl⟩
    try have T23 : Sld _ := ⟨S23.out rfl rfl⟩
    try have T13 : Sld _ := ⟨S13.out rfl rfl⟩
    clear S12 S23 S13
    go_wp2_with (first | (go_at_call_of 15 (Value.slice ao a.length ac); go_at_call_of 15 (Value.slice bo b.length bc); refine (T12.out _ (by assumption) (by assumption)).mono ?_; rintro e wS1 ⟨rfl, hBS1, hMS1⟩) | (go_at_call_of 15 (Value.slice bo b.length bc); go_at_call_of 15 (Value.slice co c.length cc); refine (T23.out _ (by assumption) (by assumption)).mono ?_; rintro e wS2 ⟨rfl, hBS2, hMS2⟩) | (go_at_call_of 15 (Value.slice ao a.length ac); go_at_call_of 15 (Value.slice co c.length cc); refine (T13.out _ (by assumption) (by assumption)).mono ?_; rintro e wS3 ⟨rfl, hBS3, hMS3⟩))
    go_loopw [14] (fun i wr => ∃ (k : Nat) (ev mv : Value), k ≤ L3.length ∧ i = .int .i64 k ∧ TbM wr w.heap.size ev mv L3 ∧ Below w.heap.size w wr) (fun i _ => L3.length - (RowKit.intOf i).toNat)
    case atStart => exact ⟨0, ev9, mv9, by omega, rfl, by assumption, by assumption⟩
    case round =>
      obtain ⟨k, ev, mv, hk, rfl, hM, hB⟩ := hrel
      have HM : Sld (TbM wr w.heap.size ev mv L3) := ⟨hM⟩
      have HB : Sld (Below w.heap.size w wr) := ⟨hB⟩
      have CL : Sld (Calls Tryd.prog 26 #[.pointer (some ⟨w.heap.size, 0, none⟩)] wr fun e w' => e = .returned (.int .i64 L3.length) ∧ w' = wr) := ⟨tlen_any wr _ _ _ _ hM⟩
      clear hM hB
      by_cases hlt : k < L3.length
      · have hltI : (k : Int) < (L3.length : Int) := by omega
        have hkd := HI3.out.kids k hlt
        have hfm := HI3.out.form k hlt
        have CNd : Sld (Calls Tryd.prog 32 #[.pointer (some ⟨w.heap.size, 0, none⟩), .int .i64 k] wr fun e w' => ∃ ao cap, e = .returned (.tuple #[.agg #[.int .i64 (edA L3 k).op, .int .i64 (edA L3 k).n, .string (edA L3 k).name, .slice ao (edA L3 k).kids.length cap], .int .i64 0]) ∧ OwnI w' wr.heap.size (.slice ao (edA L3 k).kids.length cap) (edA L3 k).kids ∧ Below wr.heap.size wr w') := ⟨tNode_ok wr _ _ _ _ k HM.out hlt⟩
        have hnk := HM.out.ndk hlt
        have hk3 := formB_kids hfm
        have hnm := (form_name hfm).2
        have COw : Sld (∀ W ka kc, Ints W W.heap.size (.slice ka (edA L3 k).kids.length kc) (edA L3 k).kids → Calls Tryd.prog 34 #[.agg #[.int .i64 (edA L3 k).op, .int .i64 (edA L3 k).n, .string (edA L3 k).name, .slice ka (edA L3 k).kids.length kc]] W fun e w' => ∃ ao cap, e = .returned (.agg #[.int .i64 (edA L3 k).op, .int .i64 (edA L3 k).n, .string (edA L3 k).name, .slice ao (edA L3 k).kids.length cap]) ∧ OwnI w' W.heap.size (.slice ao (edA L3 k).kids.length cap) (edA L3 k).kids ∧ Below W.heap.size W w') := ⟨fun W ka kc hI => own10_any _ ka kc W hI (by omega)⟩
        have CFi : Sld (∀ W ev mv ka kc, TbM W w.heap.size ev mv L3 → Below w.heap.size w W → Ints W W.heap.size (.slice ka (edA L3 k).kids.length kc) (edA L3 k).kids → Calls Tryd.prog 33 #[.pointer (some ⟨w.heap.size, 0, none⟩), .agg #[.int .i64 (edA L3 k).op, .int .i64 (edA L3 k).n, .string (edA L3 k).name, .slice ka (edA L3 k).kids.length kc]] W fun e w' => e = .returned (.tuple #[.int .i64 (k : Nat), .int .i64 0]) ∧ Below W.heap.size W w') := ⟨fun W ev mv ka kc h1 h2 h3 => by
          have := tFind_any W w.heap.size ev mv L3 (edA L3 k) ka kc h1 (HT.out.below h2) ⟨h3, hnk.key.n, by omega⟩
          rw [entry_find HI3.out hlt] at this
          exact this⟩
        have CPu : Sld (∀ W ev mv ka kc, TbM W w.heap.size ev mv L3 → Below w.heap.size w W → Ints W W.heap.size (.slice ka (edA L3 k).kids.length kc) (edA L3 k).kids → Calls Tryd.prog 35 #[.pointer (some ⟨w.heap.size, 0, none⟩), .agg #[.int .i64 (edA L3 k).op, .int .i64 (edA L3 k).n, .string (edA L3 k).name, .slice ka (edA L3 k).kids.length kc]] W fun e w' => e = .returned (.tuple #[.int .i64 (k : Nat), .int .i64 0]) ∧ ∃ ev' mv', TbT W w.heap.size ev mv ev' mv' L3 w') := ⟨fun W ev mv ka kc h1 h2 h3 => by
          have := tPut_any W w.heap.size ev mv L3 (edA L3 k) ka kc h1 (HT.out.below h2) ⟨h3, hnk.key.n, by omega⟩
          rw [entry_put HI3.out hlt] at this
          exact this⟩
        have CFo : Sld (∀ W ka kc, Calls Tryd.prog 36 #[.agg #[.int .i64 (edA L3 k).op, .int .i64 (edA L3 k).n, .string (edA L3 k).name, .slice ka (edA L3 k).kids.length kc]] W fun e w' => e = .returned (.bool true) ∧ Below W.heap.size W w') := ⟨fun W ka kc => by
          have := form_any (edA L3 k).op (edA L3 k).n (edA L3 k).name ka (edA L3 k).kids.length kc W (by unfold maxLen; omega) (by unfold maxLen; omega)
          rw [show fitB (edA L3 k).op (edA L3 k).n (edA L3 k).name ((edA L3 k).kids.length : Nat) = true from hfm] at this
          exact this⟩
        have HKD : Sld (∀ q ∈ (edA L3 k).kids, 0 ≤ q ∧ q < (k : Int)) := ⟨hkd⟩
        clear hkd hfm hnk hnm
        generalize edA L3 k = X at *
        obtain ⟨op, n, nm, ks⟩ := X
        simp only at CNd COw CFi CPu CFo HKD hk3
        go_wp2_with fail
        refine CL.out.mono ?_
        rintro e w10 ⟨rfl, hw10⟩
        subst hw10
        go_wp2_with fail
        refine CNd.out.mono ?_
        rintro e w11 ⟨ka, kc, rfl, hO11, hb11⟩
        obtain ⟨w12, hw12⟩ : ∃ w12, w11.alloc (.cells #[.int .i64 op, .int .i64 n, .string nm, .slice ka ks.length kc] 47) = w12 := ⟨_, rfl⟩
        have hb12 : Below w10.heap.size w10 w12 := by rw [← hw12]; exact hb11.alloc hb11.size _
        have hN12 : w12.heap[w11.heap.size]? = some (.cells #[.int .i64 op, .int .i64 n, .string nm, .slice ka ks.length kc] 47 (0, 0)) := by rw [← hw12, Deep.blk_alloc_new]
        have hI12 : Ints w12 w12.heap.size (.slice ka ks.length kc) ks := by
          have h1 : Below w11.heap.size w11 w12 := by rw [← hw12]; exact (Below.refl _ _).alloc (Nat.le_refl _) _
          exact (Ints_of_own hO11 (Nat.le_refl _)).below h1 h1.size
        have HI : Sld (∀ W, Below w12.heap.size w12 W → Ints W W.heap.size (.slice ka ks.length kc) ks ∧ W.heap[w11.heap.size]? = some (.cells #[.int .i64 op, .int .i64 n, .string nm, .slice ka ks.length kc] 47 (0, 0))) := ⟨fun W hW => ⟨hI12.below hW hW.size, (hW.block _ (lt_of_block hN12)).trans hN12⟩⟩
        have HM12 : Sld (TbM w12 w.heap.size ev mv L3) := ⟨HM.out.below hb12⟩
        have HB12 : Sld (Below w.heap.size w w12) := ⟨HB.out.trans (hb12.mono HB.out.size)⟩
        obtain ⟨y0, y1, y2, y3, _⟩ := blk4 hN12
        have HN12 : Sld (w12.heap[w11.heap.size]? = some (.cells #[.int .i64 op, .int .i64 n, .string nm, .slice ka ks.length kc] 47 (0, 0)) ∧ Ints w12 w12.heap.size (.slice ka ks.length kc) ks) := ⟨hN12, hI12⟩
        have HO12 : Sld (OwnI w12 w10.heap.size (.slice ka ks.length kc) ks) := ⟨by rw [← hw12]; exact hO11.below ((Below.refl _ _).alloc (Nat.le_refl _) _)⟩
        clear hO11 hb11 hb12 hN12 hI12
        go_wp2_with fail
        try rw [hw12]
        clear hw12
        refine (COw.out _ ka kc HN12.out.2).mono ?_
        rintro e w13 ⟨ka3, kc3, rfl, hO13, hb13⟩
        have HB13 : Sld (Below w12.heap.size w12 w13) := ⟨hb13⟩
        have HF13 := CFi.out w13 ev mv ka3 kc3 (HM12.out.below hb13) (HB12.out.trans (hb13.mono HB12.out.size)) (Ints_of_own hO13 (Nat.le_refl _))
        have HFF : Sld _ := ⟨HF13⟩
        clear hO13 hb13 HF13 y0 y1 y2 y3
        go_wp2_with fail
        refine HFF.out.mono ?_
        rintro e w14 ⟨rfl, hb14⟩
        have hb14' := HB13.out.trans (hb14.mono HB13.out.size)
        have HB14 : Sld (Below w12.heap.size w12 w14) := ⟨hb14'⟩
        obtain ⟨hI14, hN14⟩ := HI.out w14 hb14'
        obtain ⟨y0, y1, y2, y3, _⟩ := blk4 hN14
        have HI14 : Sld (Ints w14 w14.heap.size (.slice ka ks.length kc) ks) := ⟨hI14⟩
        clear hb14 hb14' hI14 hN14
        go_wp2_with fail
        refine (COw.out _ ka kc HI14.out).mono ?_
        rintro e w15 ⟨ka5, kc5, rfl, hO15, hb15⟩
        have hb15' := HB14.out.trans (hb15.mono HB14.out.size)
        have HB15 : Sld (Below w12.heap.size w12 w15) := ⟨hb15'⟩
        have HM15 : Sld (TbM w15 w.heap.size ev mv L3) := ⟨HM12.out.below hb15'⟩
        have HBB15 : Sld (Below w.heap.size w w15) := ⟨HB12.out.trans (hb15'.mono HB12.out.size)⟩
        have HPP : Sld _ := ⟨CPu.out w15 ev mv ka5 kc5 HM15.out HBB15.out (Ints_of_own hO15 (Nat.le_refl _))⟩
        clear hO15 hb15 hb15' y0 y1 y2 y3
        go_wp2_with fail
        refine HPP.out.mono ?_
        rintro e w16 ⟨rfl, ev6, mv6, hT16⟩
        have hO16 := (HO12.out.below HB15.out).tb HM15.out hT16.tk
        have hN15 := (HI.out w15 HB15.out).2
        have hN16 : w16.heap[w11.heap.size]? = some (.cells #[.int .i64 op, .int .i64 n, .string nm, .slice ka ks.length kc] 47 (0, 0)) := (hT16.tk.same _ (lt_of_block hN15) (HM15.out.typed hN15 (by decide) (by decide))).trans hN15
        have HK16 : Sld (∀ W, Below w16.heap.size w16 W → Ints W W.heap.size (.slice ka ks.length kc) ks ∧ W.heap[w11.heap.size]? = some (.cells #[.int .i64 op, .int .i64 n, .string nm, .slice ka ks.length kc] 47 (0, 0))) := ⟨fun W hW => ⟨(Ints_of_own hO16 (Nat.le_refl _)).below hW hW.size, (hW.block _ (lt_of_block hN16)).trans hN16⟩⟩
        have HM16 : Sld (TbM w16 w.heap.size ev6 mv6 L3) := ⟨hT16.tb⟩
        have HB16 : Sld (Below w.heap.size w w16) := ⟨hT16.b HM15.out HBB15.out (Nat.le_refl _)⟩
        obtain ⟨y0, y1, y2, y3, _⟩ := blk4 hN16
        have hkk : ((k : Int) != (k : Int)) = false := by simp
        clear hO16 hN15 hN16 hT16
        go_wp2_with fail
        refine (CFo.out _ ka kc).mono ?_
        rintro e w17 ⟨rfl, hb17⟩
        obtain ⟨hI17, hN17⟩ := HK16.out w17 hb17
        have HM17 : Sld (TbM w17 w.heap.size ev6 mv6 L3) := ⟨HM16.out.below hb17⟩
        have HB17 : Sld (Below w.heap.size w w17) := ⟨HB16.out.trans (hb17.mono HB16.out.size)⟩
        obtain ⟨ao', cap', hv, hl1', hm1', hc⟩ := hI17
        simp only [Value.slice.injEq, true_and] at hv
        obtain ⟨rfl, rfl⟩ := hv
        have HC : Sld (ks = [] ∨ ∃ b o, ka = some ⟨b, o, none⟩ ∧ b < w17.heap.size ∧ ∀ j, j < ks.length → w17.cell? ⟨b, o + j, none⟩ = some (.int .i64 (ks.getD j 0))) := ⟨hc⟩
        obtain ⟨z0, z1, z2, z3, _⟩ := blk4 hN17
        have hm1 := hm1'.1
        unfold maxLen at hm1
        clear hb17 hc hN17 y0 y1 y2 y3 hm1'
        go_wp2_with fail
        go_loopw [21] (fun i wq => ∃ j : Nat, j ≤ ks.length ∧ i = .int .i64 j ∧ wq = w17) (fun i _ => ks.length - (RowKit.intOf i).toNat)
        case atStart => exact ⟨0, by omega, rfl, rfl⟩
        case round =>
          obtain ⟨j, hj, rfl, hwq⟩ := hrel
          subst hwq
          by_cases hjl : j < ks.length
          · have hjlI : (j : Int) < (ks.length : Int) := by omega
            obtain ⟨kb, ko, rfl, hkb, hc⟩ : ∃ b o, ka = some ⟨b, o, none⟩ ∧ b < wr.heap.size ∧ ∀ j, j < ks.length → wr.cell? ⟨b, o + j, none⟩ = some (.int .i64 (ks.getD j 0)) := by
              rcases HC.out with h | h
              · subst h; simp at hjl
              · exact h
            have kc1 := hc j hjl
            obtain ⟨hq1, hq2⟩ := HKD.out (ks.getD j 0) (by simp [hjl])
            generalize ks.getD j 0 = qq at *
            clear hc
            go_wp2_with fail
            exact ⟨⟨j + 1, by omega, by go_num, trivial⟩, by simp [RowKit.intOf]; omega⟩
          · have hje : j = ks.length := by omega
            subst hje
            go_wp2_with fail
            exact ⟨⟨k + 1, ev6, mv6, by omega, by go_num, HM17.out, HB17.out⟩, by simp [RowKit.intOf]; omega⟩
      · have hke : k = L3.length := by omega
        subst hke
        go_wp2_with fail
        refine CL.out.mono ?_
        rintro e w10 ⟨rfl, hw10⟩
        subst hw10
        go_wp2_with fail
        go_ret
        exact ⟨rfl, HB.out⟩
end Go.Proofs.YtjidockolacghaaDoor

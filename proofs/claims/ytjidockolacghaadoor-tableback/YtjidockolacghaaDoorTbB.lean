/-
  TableBack: the document's Part, and the law.
-/
import Derived.Test.YtjidockolacghaaDoorTbC3
import Derived.Test.YtjidockolacghaaDoorTbL2
set_option linter.unusedSimpArgs false
set_option linter.unusedVariables false
namespace Go.Proofs.YtjidockolacghaaDoor
open Go.RowKit Go.Lib Go.Sort Go.Maps

theorem part_num {l : List Nd} {a i : Nat} (h : ∀ x ∈ l, (Lit.int .i64 x.n).wf = true) : ∀ x ∈ partL l a i, (Lit.int .i64 x.n).wf = true := fun x hx => by
  obtain ⟨y, hy, rfl⟩ := List.mem_map.1 hx
  exact h y (List.mem_of_mem_drop (List.mem_of_mem_take hy))
/-- A part of what was added. -/
theorem back_part {L e : List Nd} {ids fr : List Nat} (hI : TbI L) (hb : begL e = some fr) (h : Fnd L e ids) {i : Nat} (hi : i < e.length) :
    ∃ k, k < L.length ∧ exA L k = partL e (fr.getD i 0) i ∧ adP L (partL e (fr.getD i 0) i) = (k, 0, L) ∧ (partL e (fr.getD i 0) i).length ≤ 64 := by
  obtain ⟨_, _, hbr, _⟩ := begL_some hb
  have hf := h.part (begOk_of hbr) hi
  obtain ⟨fo, hfo⟩ := part_snd hb i hi
  obtain ⟨h0, h64, _, _⟩ := begL_some hfo
  exact ⟨_, (hf.at_ _ (by omega)).1, hf.whole hI hfo, adP_fnd hI hfo hf, h64⟩

/-- Copy, all of its memory young. -/
theorem copy_ownB (w : World) (ao : Option Addr) (cap : Nat) (l : List Nd) (hR : Rd w ao cap l) (hF : FitX l) :
    Calls Tryd.prog 11 #[.slice ao l.length cap] w fun e w' => ∃ v', e = .returned v' ∧ OwnN w' w.heap.size v' l ∧ Below w.heap.size w w' :=
  copy_any _ l w _ (Nat.le_refl _) hR (by have := hF.len; omega) (fun x hx => by have := hF.kids x hx; omega)

set_option maxRecDepth 20000 in
set_option maxHeartbeats 4000000 in
theorem refPart_any (w : World) (ao : Option Addr) (cap : Nat) (l : List Nd) (fr : List Nat) (i : Nat) (hR : Rd w ao cap l) (hF : FitX l) (hb : begL l = some fr) (hi : i < l.length) :
    Calls Tryd.prog 14 #[.slice ao l.length cap, .int .i64 i] w fun e w' => ∃ ao' cap' base, e = .returned (.tuple #[.slice ao' (partL l (fr.getD i 0) i).length cap', .int .i64 0]) ∧ OwnN w' base (.slice ao' (partL l (fr.getD i 0) i).length cap') (partL l (fr.getD i 0) i) ∧ Below w.heap.size w w' := by
  have CC : Sld (Calls Tryd.prog 12 #[.slice ao l.length cap] w fun e w' => e = .returned (.int .i64 0) ∧ Below w.heap.size w w') := ⟨rchkR hR hF.fit 0 (chkE_yes (by simp [sndB, hb]))⟩
  have CP : Sld (∀ W, Below w.heap.size w W → Calls Tryd.prog 43 #[.slice ao l.length cap, .int .i64 i] W fun e w' => ∃ ao' cap', e = .returned (.slice ao' (partL l (fr.getD i 0) i).length cap') ∧ ExO W (.slice ao' (partL l (fr.getD i 0) i).length cap') (partL l (fr.getD i 0) i) w') := ⟨fun W hW => partOf_any W ao cap l fr i (hR.below hW hW.size) hF hb hi⟩
  have hiI : (i : Int) < (l.length : Int) := by omega
  obtain ⟨m, hm⟩ : ∃ m, partL l (fr.getD i 0) i = m := ⟨_, rfl⟩
  rw [hm] at CP ⊢
  clear hb hm hR hF
  go_enter Tryd.func14, Tryd.ntmps14
  go_wp2_with fail
  refine CC.out.mono ?_
  rintro e w2 ⟨rfl, hb2⟩
  have HB2 : Sld (Below w.heap.size w w2) := ⟨hb2⟩
  clear hb2
  go_wp2_with fail
  refine (CP.out w2 HB2.out).mono ?_
  rintro e w3 ⟨ao', cap', rfl, hx⟩
  have HX : Sld (ExO w2 (.slice ao' m.length cap') m w3) := ⟨hx⟩
  clear hx
  go_wp2_with fail
  go_ret2
  exact ⟨ao', cap', w2.heap.size, rfl, HX.out.own, HB2.out.trans (HX.out.below.mono HB2.out.size)⟩

set_option maxRecDepth 20000 in
set_option maxHeartbeats 32000000 in
theorem tableBack_walk (w : World) (ao bo : Option Addr) (ac bc : Nat) (a b : List Nd) (hT : SpanCells w) (hRa : Rd w ao ac a) (hRb : Rd w bo bc b) (hFa : FitX a) (hFb : FitX b) :
    Calls Tryd.prog 5 #[.slice ao a.length ac, .slice bo b.length bc] w fun e w' => e = .returned (.bool true) ∧ Below w.heap.size w w' := by
  obtain ⟨⟨R0, E0, L0⟩, hA0⟩ : ∃ t, adP [] b = t := ⟨_, rfl⟩
  have hlen0 := adP_len (l := b) TbI.nil (by simp)
  rw [hA0] at hlen0
  obtain ⟨hl0, hI0⟩ := hlen0
  simp only [List.length_nil, Nat.zero_add] at hl0 hI0
  obtain ⟨⟨R1, E1, L1⟩, hA1⟩ : ∃ t, adP L0 a = t := ⟨_, rfl⟩
  have hlen1 := adP_len (l := a) hI0 (by omega)
  rw [hA1] at hlen1
  obtain ⟨hl1, hI1⟩ := hlen1
  simp only at hl1 hI1
  have HRa : Sld (∀ W, Below w.heap.size w W → Rd W ao ac a) := ⟨fun W hW => hRa.below hW hW.size⟩
  have HRb : Sld (∀ W, Below w.heap.size w W → Rd W bo bc b) := ⟨fun W hW => hRb.below hW hW.size⟩
  have HT : Sld (SpanCells w) := ⟨hT⟩
  have HF : Sld (FitX a ∧ FitX b) := ⟨hFa, hFb⟩
  have C0 : Sld (∀ W ev mv base vs, TbM W w.heap.size ev mv [] → Below w.heap.size w W → OwnN W base vs b → Calls Tryd.prog 29 #[.pointer (some ⟨w.heap.size, 0, none⟩), vs] W fun e w' => e = .returned (.tuple #[.int .i64 (R0 : Nat), .int .i64 E0]) ∧ ∃ ev' mv', TbT W w.heap.size ev mv ev' mv' L0 w') := ⟨fun W ev mv base vs h1 h2 h3 => by
    have := tAdd_room W w.heap.size ev mv [] b base vs h1 (hT.below h2) h3 hFb.num (by simp)
    rw [hA0] at this
    exact this⟩
  have C1 : Sld (∀ W ev mv base vs, TbM W w.heap.size ev mv L0 → Below w.heap.size w W → OwnN W base vs a → Calls Tryd.prog 29 #[.pointer (some ⟨w.heap.size, 0, none⟩), vs] W fun e w' => e = .returned (.tuple #[.int .i64 (R1 : Nat), .int .i64 E1]) ∧ ∃ ev' mv', TbT W w.heap.size ev mv ev' mv' L1 w') := ⟨fun W ev mv base vs h1 h2 h3 => by
    have := tAdd_room W w.heap.size ev mv L0 a base vs h1 (hT.below h2) h3 hFa.num (by omega)
    rw [hA1] at this
    exact this⟩
  obtain ⟨w1, hw1⟩ : ∃ w1, w.alloc (.cells #[.slice none 0 0, .map none] 80) = w1 := ⟨_, rfl⟩
  have HB1 : Sld (Below w.heap.size w w1) := ⟨by rw [← hw1]; exact (Below.refl _ _).alloc (Nat.le_refl _) _⟩
  have HM1 : Sld (TbM w1 w.heap.size (.slice none 0 0) (.map none) []) := ⟨by rw [← hw1]; exact TbM.fresh w⟩
  have CN : Sld (Calls Tryd.prog 23 #[] w fun e w' => e = .returned (.pointer (some ⟨w.heap.size, 0, none⟩)) ∧ w' = w1) := ⟨by rw [← hw1]; exact tnew_any w⟩
  have CA : Sld (Calls Tryd.prog 24 #[] w1 fun e w' => e = .returned (.bool true) ∧ Below w1.heap.size w1 w') := ⟨awake10_any w1 (hT.below HB1.out)⟩
  have CK : Sld (∀ W, Below w.heap.size w W → Calls Tryd.prog 12 #[.slice ao a.length ac] W fun e w' => e = .returned (.int .i64 (chkE a)) ∧ Below W.heap.size W w') := ⟨fun W hW => rchkR (HRa.out W hW) hFa.fit _ rfl⟩
  have HA1 : Sld (adP L0 a = (R1, E1, L1)) := ⟨hA1⟩
  have HI01 : Sld (TbI L0 ∧ TbI L1) := ⟨hI0, hI1⟩
  clear hw1 hT hRa hRb hFa hFb hA0 hA1 hI0 hI1
  go_enter Tryd.func5, Tryd.ntmps5
  go_wp2_with fail
  refine CN.out.mono ?_
  rintro e w2 ⟨rfl, hw2⟩
  subst hw2
  go_wp2_with fail
  refine CA.out.mono ?_
  rintro e w3 ⟨rfl, hb3⟩
  have HB3 : Sld (Below w.heap.size w w3) := ⟨HB1.out.trans (hb3.mono HB1.out.size)⟩
  have HM3 : Sld (TbM w3 w.heap.size (.slice none 0 0) (.map none) []) := ⟨HM1.out.below hb3⟩
  clear hb3
  go_wp2_with fail
  refine (copy_ownB w3 bo bc b (HRb.out w3 HB3.out) HF.out.2).mono ?_
  rintro e w4 ⟨v4, rfl, hO4, hb4⟩
  have HB4 : Sld (Below w.heap.size w w4) := ⟨HB3.out.trans (hb4.mono HB3.out.size)⟩
  have HM4 : Sld (TbM w4 w.heap.size (.slice none 0 0) (.map none) []) := ⟨HM3.out.below hb4⟩
  have HD1 : Sld _ := ⟨C0.out w4 _ _ _ v4 HM4.out HB4.out hO4⟩
  clear hO4 hb4
  go_wp2_with fail
  refine HD1.out.mono ?_
  rintro e w5 ⟨rfl, ev5, mv5, hT5⟩
  have HB5 : Sld (Below w.heap.size w w5) := ⟨hT5.b HM4.out HB4.out (Nat.le_refl _)⟩
  have HM5 : Sld (TbM w5 w.heap.size ev5 mv5 L0) := ⟨hT5.tb⟩
  clear hT5 HD1 HM4 HB4 HM3 HB3 HM1 HB1 CN CA C0 HRb
  go_wp2_with fail
  refine (tlen_any w5 _ _ _ _ HM5.out).mono ?_
  rintro e w5' ⟨rfl, hw5⟩
  subst hw5
  go_wp2_with fail
  refine (copy_ownB _ ao ac a (HRa.out _ HB5.out) HF.out.1).mono ?_
  rintro e w6 ⟨v6, rfl, hO6, hb6⟩
  have HB6 : Sld (Below w.heap.size w w6) := ⟨HB5.out.trans (hb6.mono HB5.out.size)⟩
  have HM6 : Sld (TbM w6 w.heap.size ev5 mv5 L0) := ⟨HM5.out.below hb6⟩
  have HD2 : Sld _ := ⟨C1.out w6 _ _ _ v6 HM6.out HB6.out hO6⟩
  clear hO6 hb6
  go_wp2_with fail
  refine HD2.out.mono ?_
  rintro e w7 ⟨rfl, ev7, mv7, hT7⟩
  have HB7 : Sld (Below w.heap.size w w7) := ⟨hT7.b HM6.out HB6.out (Nat.le_refl _)⟩
  have HM7 : Sld (TbM w7 w.heap.size ev7 mv7 L1) := ⟨hT7.tb⟩
  clear hT7 HD2 HM5 HB5 HM6 HB6 C1
  go_wp2_with fail
  refine (CK.out w7 HB7.out).mono ?_
  rintro e w8 ⟨rfl, hb8⟩
  have HB8 : Sld (Below w.heap.size w w8) := ⟨HB7.out.trans (hb8.mono HB7.out.size)⟩
  have HM8 : Sld (TbM w8 w.heap.size ev7 mv7 L1) := ⟨HM7.out.below hb8⟩
  clear hb8 HB7 HM7 CK
  cases hb : begL a with
  | none =>
    have hc : chkE a = 1 := chkE_no (by simp [sndB, hb])
    have hA := HA1.out
    rw [adP_bad hb] at hA
    obtain ⟨h1, h2⟩ := Prod.mk.inj hA
    obtain ⟨h3, h4⟩ := Prod.mk.inj h2
    subst h1 h3 h4
    rw [hc]
    clear hA h2 HA1
    go_wp2_with fail
    refine (tlen_any _ _ _ _ _ HM8.out).mono ?_
    rintro e w9 ⟨rfl, hw9⟩
    subst hw9
    go_wp2_with fail
    go_ret
    exact ⟨rfl, HB8.out⟩
  | some fr =>
    have hc : chkE a = 0 := chkE_yes (by simp [sndB, hb])
    obtain ⟨ids, L', hAd, hA⟩ := adP_snd HI01.out.1 hb (by omega)
    have hA' := HA1.out
    rw [hA] at hA'
    obtain ⟨h1, h2⟩ := Prod.mk.inj hA'
    obtain ⟨h3, h4⟩ := Prod.mk.inj h2
    subst h3
    have h4' := h4.symm
    subst h4'
    obtain ⟨ha0, ha64, _, _⟩ := begL_some hb
    have hlt : R1 < L1.length := by rw [← h1]; exact hAd.lt ha0
    have hex : exA L1 R1 = a := by rw [← h1]; exact hAd.whole hb
    have hag : adP L1 a = (R1, 0, L1) := by rw [← h1]; exact adP_fnd hAd.inv hb hAd.fnd
    have hsz : (szL L1).getD R1 0 = a.length := by rw [szA_ex HI01.out.2 R1 hlt, hex]; omega
    have hgr : L1.length ≤ L0.length + a.length := by obtain ⟨M, hM, hMl⟩ := hAd.pre; rw [hM, List.length_append]; omega
    have hge : L0.length ≤ L1.length := by obtain ⟨M, hM, hMl⟩ := hAd.pre; rw [hM, List.length_append]; omega
    have C1 : Sld (∀ W ev mv base vs, TbM W w.heap.size ev mv L1 → Below w.heap.size w W → OwnN W base vs a → Calls Tryd.prog 29 #[.pointer (some ⟨w.heap.size, 0, none⟩), vs] W fun e w' => e = .returned (.tuple #[.int .i64 (R1 : Nat), .int .i64 0]) ∧ ∃ ev' mv', TbT W w.heap.size ev mv ev' mv' L1 w') := ⟨fun W ev mv base vs h1 h2 h3 => by
      have := tAdd_room W w.heap.size ev mv L1 a base vs h1 (HT.out.below h2) h3 HF.out.1.num (by omega)
      rw [hag] at this
      exact this⟩
    have CE : Sld (∀ W ev mv, TbM W w.heap.size ev mv L1 → Calls Tryd.prog 30 #[.pointer (some ⟨w.heap.size, 0, none⟩), .int .i64 R1] W fun e w' => ∃ ao cap, e = .returned (.tuple #[.slice ao a.length cap, .int .i64 0]) ∧ ExO W (.slice ao a.length cap) a w') := ⟨fun W ev mv h => by
      have := tExpr_ok W w.heap.size ev mv L1 R1 h hlt (by rw [hex]; exact ha64)
      rw [hex] at this
      exact this⟩
    have CS : Sld (∀ W ev mv, TbM W w.heap.size ev mv L1 → Calls Tryd.prog 31 #[.pointer (some ⟨w.heap.size, 0, none⟩), .int .i64 R1] W fun e w' => e = .returned (.tuple #[.int .i64 (a.length : Nat), .int .i64 0]) ∧ w' = W) := ⟨fun W ev mv h => by
      have := tSize_ok W w.heap.size ev mv L1 R1 h hlt
      rw [hsz] at this
      exact this⟩
    have CP : Sld (∀ i, i < a.length → ∃ (k : Nat) (m : List Nd), (∀ W, Below w.heap.size w W → Calls Tryd.prog 14 #[.slice ao a.length ac, .int .i64 i] W fun e w' => ∃ ao' cap' base, e = .returned (.tuple #[.slice ao' m.length cap', .int .i64 0]) ∧ OwnN w' base (.slice ao' m.length cap') m ∧ Below W.heap.size W w') ∧
        (∀ W ev mv base vs, TbM W w.heap.size ev mv L1 → Below w.heap.size w W → OwnN W base vs m → Calls Tryd.prog 29 #[.pointer (some ⟨w.heap.size, 0, none⟩), vs] W fun e w' => e = .returned (.tuple #[.int .i64 (k : Nat), .int .i64 0]) ∧ ∃ ev' mv', TbT W w.heap.size ev mv ev' mv' L1 w') ∧
        (∀ W ev mv, TbM W w.heap.size ev mv L1 → Calls Tryd.prog 30 #[.pointer (some ⟨w.heap.size, 0, none⟩), .int .i64 k] W fun e w' => ∃ ao cap, e = .returned (.tuple #[.slice ao m.length cap, .int .i64 0]) ∧ ExO W (.slice ao m.length cap) m w')) := ⟨fun i hi => by
      obtain ⟨k, hk, hke, hka, hk64⟩ := back_part HI01.out.2 hb hAd.fnd hi
      refine ⟨k, partL a (fr.getD i 0) i, fun W hW => refPart_any W ao ac a fr i (HRa.out W hW) HF.out.1 hb hi, fun W ev mv base vs h1 h2 h3 => ?_, fun W ev mv h => ?_⟩
      · have := tAdd_room W w.heap.size ev mv L1 _ base vs h1 (HT.out.below h2) h3 (part_num HF.out.1.num) (by omega)
        rw [hka] at this
        exact this
      · have := tExpr_ok W w.heap.size ev mv L1 k h hk (by rw [hke]; exact hk64)
        rw [hke] at this
        exact this⟩
    rw [hc]
    clear hA hA' h1 h2 HA1 hAd hex hag hsz hb hc HI01
    have hn1 : (L1.length : Int) ≤ (L0.length : Int) + (a.length : Int) := by omega
    have hn2 : (L0.length : Int) ≤ (L1.length : Int) := by omega
    have hn3 : (L1.length : Int) ≤ 128 := by omega
    have hn4 : (a.length : Int) ≤ 64 := by omega
    have hgt : decide ((a.length : Int) < (L1.length : Int) - (L0.length : Int)) = false := by simp; omega
    clear hgr hge hl0 hl1
    go_wp2_with fail
    refine (tlen_any _ _ _ _ _ HM8.out).mono ?_
    rintro e w9 ⟨rfl, hw9⟩
    subst hw9
    go_wp2_with fail
    refine (copy_ownB _ ao ac a (HRa.out _ HB8.out) HF.out.1).mono ?_
    rintro e w10 ⟨v10, rfl, hO10, hb10⟩
    have HB10 : Sld (Below w.heap.size w w10) := ⟨HB8.out.trans (hb10.mono HB8.out.size)⟩
    have HM10 : Sld (TbM w10 w.heap.size ev7 mv7 L1) := ⟨HM8.out.below hb10⟩
    have HD3 : Sld _ := ⟨C1.out w10 _ _ _ v10 HM10.out HB10.out hO10⟩
    clear hO10 hb10
    go_wp2_with fail
    refine HD3.out.mono ?_
    rintro e w11 ⟨rfl, ev11, mv11, hT11⟩
    have HB11 : Sld (Below w.heap.size w w11) := ⟨hT11.b HM10.out HB10.out (Nat.le_refl _)⟩
    have HM11 : Sld (TbM w11 w.heap.size ev11 mv11 L1) := ⟨hT11.tb⟩
    clear hT11 HD3 HM10 HB10 HM8 HB8 C1
    go_wp2_with fail
    refine (CE.out w11 _ _ HM11.out).mono ?_
    rintro e w12 ⟨xo, xc, rfl, hx12⟩
    have HB12 : Sld (Below w.heap.size w w12) := ⟨HB11.out.trans (hx12.below.mono HB11.out.size)⟩
    have HM12 : Sld (TbM w12 w.heap.size ev11 mv11 L1) := ⟨HM11.out.below hx12.below⟩
    have HX : Sld (Rd w12 xo xc a) := ⟨Nodes_of_own hx12.own (Nat.le_refl _)⟩
    clear hx12 CE HB11 HM11
    go_wp2_with fail
    refine (CS.out w12 _ _ HM12.out).mono ?_
    rintro e w13 ⟨rfl, hw13⟩
    subst hw13
    have CSa : Sld (Calls Tryd.prog 15 #[.slice xo a.length xc, .slice ao a.length ac] w13 fun e w' => e = .returned (.bool true) ∧ Below w13.heap.size w13 w') := ⟨sameR HX.out (HRa.out _ HB12.out) true (by simp)⟩
    have CLe : Sld (Calls Tryd.prog 26 #[.pointer (some ⟨w.heap.size, 0, none⟩)] w13 fun e w' => e = .returned (.int .i64 L1.length) ∧ w' = w13) := ⟨tlen_any _ _ _ _ _ HM12.out⟩
    clear CS HX
    go_wp2_with fail
    refine CLe.out.mono ?_
    rintro e w14 ⟨rfl, hw14⟩
    subst hw14
    go_wp2_with fail
    refine CSa.out.mono ?_
    rintro e w15 ⟨rfl, hb15⟩
    have HB15 : Sld (Below w.heap.size w w15) := ⟨HB12.out.trans (hb15.mono HB12.out.size)⟩
    have HM15 : Sld (TbM w15 w.heap.size ev11 mv11 L1) := ⟨HM12.out.below hb15⟩
    clear hb15 HB12 HM12 CLe CSa
    go_wp2_with fail
    go_loopw [16] (fun i wr => ∃ (k : Nat) (ev mv : Value), k ≤ a.length ∧ i = .int .i64 k ∧ TbM wr w.heap.size ev mv L1 ∧ Below w.heap.size w wr) (fun i _ => a.length - (RowKit.intOf i).toNat)
    case atStart => exact ⟨0, ev11, mv11, by omega, rfl, HM15.out, HB15.out⟩
    case round =>
      obtain ⟨i, ev, mv, hk, rfl, hM, hB⟩ := hrel
      have HM : Sld (TbM wr w.heap.size ev mv L1) := ⟨hM⟩
      have HB : Sld (Below w.heap.size w wr) := ⟨hB⟩
      clear hM hB HM15 HB15
      by_cases hlt : i < a.length
      · have hltI : (i : Int) < (a.length : Int) := by omega
        obtain ⟨k, m, c1, c2, c3⟩ := CP.out i hlt
        have C1 : Sld _ := ⟨c1⟩
        have C2 : Sld _ := ⟨c2⟩
        have C3 : Sld _ := ⟨c3⟩
        clear c1 c2 c3 CP
        go_wp2_with fail
        refine (C1.out wr HB.out).mono ?_
        rintro e w16 ⟨po, pc, base, rfl, hO16, hb16⟩
        have HB16 : Sld (Below w.heap.size w w16) := ⟨HB.out.trans (hb16.mono HB.out.size)⟩
        have HM16 : Sld (TbM w16 w.heap.size ev mv L1) := ⟨HM.out.below hb16⟩
        have HO16 : Sld (OwnN w16 base (.slice po m.length pc) m) := ⟨hO16⟩
        clear hO16 hb16
        go_wp2_with fail
        refine (C2.out w16 _ _ _ _ HM16.out HB16.out HO16.out).mono ?_
        rintro e w17 ⟨rfl, ev17, mv17, hT17⟩
        have HB17 : Sld (Below w.heap.size w w17) := ⟨hT17.b HM16.out HB16.out (Nat.le_refl _)⟩
        have HM17 : Sld (TbM w17 w.heap.size ev17 mv17 L1) := ⟨hT17.tb⟩
        have HO17 : Sld (OwnN w17 base (.slice po m.length pc) m) := ⟨OwnN.tb HM16.out hT17.tk HO16.out⟩
        clear hT17 HM16 HB16 HO16
        go_wp2_with fail
        refine (C3.out w17 _ _ HM17.out).mono ?_
        rintro e w18 ⟨yo, yc, rfl, hx18⟩
        have HB18 : Sld (Below w.heap.size w w18) := ⟨HB17.out.trans (hx18.below.mono HB17.out.size)⟩
        have HM18 : Sld (TbM w18 w.heap.size ev17 mv17 L1) := ⟨HM17.out.below hx18.below⟩
        have hp18 : Rd w18 po pc m := Nodes.below (Nodes_of_own HO17.out (Nat.le_refl _)) hx18.below hx18.below.size
        have CSa : Sld (Calls Tryd.prog 15 #[.slice yo m.length yc, .slice po m.length pc] w18 fun e w' => e = .returned (.bool true) ∧ Below w18.heap.size w18 w') := ⟨sameR (Nodes_of_own hx18.own (Nat.le_refl _)) hp18 true (by simp)⟩
        clear hx18 hp18 HB17 HM17 HO17
        go_wp2_with fail
        refine CSa.out.mono ?_
        rintro e w19 ⟨rfl, hb19⟩
        have HB19 : Sld (Below w.heap.size w w19) := ⟨HB18.out.trans (hb19.mono HB18.out.size)⟩
        have HM19 : Sld (TbM w19 w.heap.size ev17 mv17 L1) := ⟨HM18.out.below hb19⟩
        clear hb19 HB18 HM18 CSa
        go_wp2_with fail
        refine (tlen_any _ _ _ _ _ HM19.out).mono ?_
        rintro e w20 ⟨rfl, hw20⟩
        subst hw20
        go_wp2_with fail
        exact ⟨⟨i + 1, ev17, mv17, by omega, by go_num, HM19.out, HB19.out⟩, by simp [RowKit.intOf]; omega⟩
      · have hie : i = a.length := by omega
        subst hie
        go_wp2_with fail
        go_ret
        exact ⟨rfl, HB.out⟩
end Go.Proofs.YtjidockolacghaaDoor

/-
  EvalParts, walked.
-/
import Derived.Test.YtkgfcamlfnlpoaaDoorEwLwW
import Derived.Test.YtkgfcamlfnlpoaaDoorEwPaP
import Derived.Deep.RegionHeld3
import Derived.Lib.QuietBelow
set_option linter.unusedSimpArgs false
set_option linter.unusedVariables false
namespace Go.Proofs.YtkgfcamlfnlpoaaDoor
open Go.RowKit Go.Lib Go.Sort

set_option maxRecDepth 20000 in
set_option maxHeartbeats 2000000 in
theorem evParts.bad (w : World) (ao : Option Addr) (cap : Nat) (l : List Nd) (eo : Option Addr) (ec : Nat) (bs : List Bd) (h : EvIn w ao cap l eo ec bs) (hF : Fit l) (hbg : begL l = none) :
    Calls Tryd.prog 5 #[.slice ao l.length cap, .slice eo bs.length ec] w fun e w' => e = .returned (.bool true) ∧ Below w.heap.size w w' := by
  have HH : Hid (EvIn w ao cap l eo ec bs) := h
  have HBG : Hid (begL l = none) := hbg
  have cE : Hid (∀ V a c a' c', Below w.heap.size w V → Rd V a c l → Bds V a' c' bs → Calls Tryd.prog 24 #[.slice a l.length c, .slice a' bs.length c'] V fun e w' => e = .returned (.tuple #[.int .i64 (evA bs l).1, .int .i64 (evA bs l).2]) ∧ Below V.heap.size V w') := fun V a c a' c' hV hR hB => eval_any ⟨(h.below hV).T, (h.below hV).G, hR, hB, h.reach⟩
  have cT : Hid (∀ V a c a' c', Below w.heap.size w V → Rd V a c l → Bds V a' c' bs → Calls Tryd.prog 27 #[.slice a l.length c, .slice a' bs.length c'] V fun e w' => e = .returned (.tuple #[.int .i64 (evT bs l).1, .int .i64 (evT bs l).2]) ∧ Below V.heap.size V w') := fun V a c a' c' hV hR hB => trap_any ⟨(h.below hV).T, (h.below hV).G, hR, hB, h.reach⟩
  have hA : evA bs l = (0, 1) := by unfold evA; rw [snd_none hbg]; rfl
  have hT : evT bs l = (0, 1) := by unfold evT; rw [snd_none hbg]; rfl
  rw [hA] at cE
  rw [hT] at cT
  simp only at cE cT
  clear h hA hT hbg
  go_enter Tryd.func5, Tryd.ntmps5
  go_wp2_with fail
  refine (awake8_any w HH.out.T HH.out.G).mono ?_
  rintro e w1 ⟨rfl, hb1⟩
  have B1 : Hid (Below w.heap.size w w1) := hb1
  clear hb1
  go_wp2_with fail
  refine (copyR (HH.out.below B1.out).R hF).mono ?_
  rintro e w2 ⟨a2, c2, rfl, hRx, hbx⟩
  have B2 : Hid (Below w.heap.size w w2) := B1.out.trans (hbx.mono B1.out.size)
  have R2 : Hid (Rd w2 a2 c2 l) := hRx
  clear hRx hbx B1
  go_wp2_with fail
  refine (copied8_rd HH.out.reach (HH.out.below B2.out).B).mono ?_
  rintro e w3 ⟨a3, c3, rfl, hBx, hbx⟩
  have B3 : Hid (Below w.heap.size w w3) := B2.out.trans (hbx.mono B2.out.size)
  have R3 : Hid (Rd w3 a2 c2 l) := R2.out.below hbx hbx.size
  have Q3 : Hid (Bds w3 a3 c3 bs) := hBx
  clear hBx hbx B2 R2
  go_wp2_with fail
  refine (cE.out w3 a2 c2 a3 c3 B3.out R3.out Q3.out).mono ?_
  rintro e w4 ⟨rfl, hbx⟩
  have B4 : Hid (Below w.heap.size w w4) := B3.out.trans (hbx.mono B3.out.size)
  clear hbx B3 R3 Q3
  go_wp2_with fail
  refine (copyR (HH.out.below B4.out).R hF).mono ?_
  rintro e w5 ⟨a5, c5, rfl, hRx, hbx⟩
  have B5 : Hid (Below w.heap.size w w5) := B4.out.trans (hbx.mono B4.out.size)
  have R5 : Hid (Rd w5 a5 c5 l) := hRx
  clear hRx hbx B4
  go_wp2_with fail
  refine (copied8_rd HH.out.reach (HH.out.below B5.out).B).mono ?_
  rintro e w6 ⟨a6, c6, rfl, hBx, hbx⟩
  have B6 : Hid (Below w.heap.size w w6) := B5.out.trans (hbx.mono B5.out.size)
  have R6 : Hid (Rd w6 a5 c5 l) := R5.out.below hbx hbx.size
  have Q6 : Hid (Bds w6 a6 c6 bs) := hBx
  clear hBx hbx B5 R5
  go_wp2_with fail
  refine (cT.out w6 a5 c5 a6 c6 B6.out R6.out Q6.out).mono ?_
  rintro e w7 ⟨rfl, hbx⟩
  have B7 : Hid (Below w.heap.size w w7) := B6.out.trans (hbx.mono B6.out.size)
  clear hbx B6 R6 Q6
  go_wp2_with fail
  refine (copyR (HH.out.below B7.out).R hF).mono ?_
  rintro e w8 ⟨a8, c8, rfl, hRx, hbx⟩
  have B8 : Hid (Below w.heap.size w w8) := B7.out.trans (hbx.mono B7.out.size)
  have R8 : Hid (Rd w8 a8 c8 l) := hRx
  clear hRx hbx B7
  go_wp2_with fail
  refine (check_none _ l _ _ (Nat.le_refl _) (HH.out.below B8.out).T R8.out HBG.out).mono ?_
  rintro e w9 ⟨rfl, hbx⟩
  have B9 : Hid (Below w.heap.size w w9) := B8.out.trans (hbx.mono B8.out.size)
  clear hbx B8 R8
  go_wp2_with fail
  go_ret
  exact ⟨rfl, B9.out⟩

set_option maxRecDepth 20000 in
set_option maxHeartbeats 4000000 in
theorem evParts.good (w : World) (ao : Option Addr) (cap : Nat) (l : List Nd) (eo : Option Addr) (ec : Nat) (bs : List Bd) (h : EvIn w ao cap l eo ec bs) (hF : Fit l) (fr : List Nat) (hbg : begL l = some fr) :
    Calls Tryd.prog 5 #[.slice ao l.length cap, .slice eo bs.length ec] w fun e w' => e = .returned (.bool true) ∧ Below w.heap.size w w' := by
  obtain ⟨i0, hi0, hz0, hz1, hz2⟩ := info_parts Tryd.infoL2
  have HH : Hid (EvIn w ao cap l eo ec bs) := h
  have HBG : Hid (begL l = some fr) := hbg
  have h64 := (begL_some hbg).2.1
  have hl0 := (begL_some hbg).1
  have hbo := begOk_of (begL_some hbg).2.2.1
  have hform := (hbo.at_ (l.length - 1) (by omega)).1
  have hk3 := formB_kids hform
  have hva := vA_at (bs := bs) hbo.kidsUp (i := l.length - 1) (by omega)
  have hkl := kid_last hbg
  have cE : Hid (∀ V a c a' c', Below w.heap.size w V → Rd V a c l → Bds V a' c' bs → Calls Tryd.prog 24 #[.slice a l.length c, .slice a' bs.length c'] V fun e w' => e = .returned (.tuple #[.int .i64 (evA bs l).1, .int .i64 (evA bs l).2]) ∧ Below V.heap.size V w') := fun V a c a' c' hV hR hB => eval_any ⟨(h.below hV).T, (h.below hV).G, hR, hB, h.reach⟩
  have cT : Hid (∀ V a c a' c', Below w.heap.size w V → Rd V a c l → Bds V a' c' bs → Calls Tryd.prog 27 #[.slice a l.length c, .slice a' bs.length c'] V fun e w' => e = .returned (.tuple #[.int .i64 (evT bs l).1, .int .i64 (evT bs l).2]) ∧ Below V.heap.size V w') := fun V a c a' c' hV hR hB => trap_any ⟨(h.below hV).T, (h.below hV).G, hR, hB, h.reach⟩
  have cP : Hid (∀ V a c (y : Nat), y < l.length → Below w.heap.size w V → Rd V a c l → Calls Tryd.prog 13 #[.slice a l.length c, .int .i64 y] V fun e w' => ∃ ao' cap', e = .returned (.tuple #[.slice ao' (partL l (fr.getD y 0) y).length cap', .int .i64 0]) ∧ Rd w' ao' cap' (partL l (fr.getD y 0) y) ∧ Below V.heap.size V w') := fun V a c y hy hV hR => partR (h.below hV).T hR hbg y y rfl hy rfl
  have cQ : Hid (∀ (y : Nat), y < l.length → ∀ V a c a' c', Below w.heap.size w V → Rd V a c (partL l (fr.getD y 0) y) → Bds V a' c' bs → Calls Tryd.prog 24 #[.slice a (partL l (fr.getD y 0) y).length c, .slice a' bs.length c'] V fun e w' => e = .returned (.tuple #[.int .i64 (match vA bs l y with | some v => (v, (0 : Int)) | none => (0, 12)).1, .int .i64 (match vA bs l y with | some v => (v, (0 : Int)) | none => (0, 12)).2]) ∧ Below V.heap.size V w') := fun y hy V a c a' c' hV hR hB => by
    have := eval_any (l := partL l (fr.getD y 0) y) ⟨(h.below hV).T, (h.below hV).G, hR, hB, h.reach⟩
    rw [evA_part hbg y hy] at this
    exact this
  have P1 : Hid (∀ k, k < l.length - 1 → vA bs l k = none → evA bs l = (0, 12) ∧ (evT bs l).2 = 0 ∧ (evT bs l).1 < (l.length : Int) - 1) := fun k hk hn => parts_trap hbg k hk hn
  have P2 : Hid ((∀ k ∈ (l.getD (l.length - 1) nd0).kids, vA bs l k.toNat ≠ none) → vA bs l (l.length - 1) = none → evA bs l = (0, 12) ∧ evT bs l = ((l.length : Int) - 1, 0)) := parts_last hbg
  have P3 : Hid (∀ v, vA bs l (l.length - 1) = some v → evA bs l = (v, 0) ∧ evT bs l = (0, 11)) := fun v => parts_some hbg
  obtain ⟨ao', cap', h1, hl, hm, hc⟩ := h.R
  cases h1
  unfold maxLen at hm
  obtain ⟨b, o, rfl, hbl, hc⟩ : ∃ b o, ao = some ⟨b, o, none⟩ ∧ b < w.heap.size ∧ ∀ i, i < l.length → ∃ kv, NodeAt w w.heap.size b (o + i * 4) (l.getD i nd0) kv := by
    rcases hc with h | h
    · subst h; simp at hl0
    · exact h
  obtain ⟨kv, c0, c1, c2, c3, hki⟩ := hc (l.length - 1) (by omega)
  clear hc
  obtain ⟨ka, kc, rfl, hkl1, ⟨hkm, _⟩, hkc⟩ := id hki
  unfold maxLen at hkm
  generalize hX : l.getD (l.length - 1) nd0 = x at *
  clear hX
  obtain ⟨op, n, nm, ks⟩ := x
  simp only at c0 c1 c2 c3 hki hk3 hva hkl hkl1 hkc P2 hform
  have HKC : Hid (ks = [] ∨ ∃ b o, ka = some ⟨b, o, none⟩ ∧ b < w.heap.size ∧ ∀ j, j < ks.length → w.cell? ⟨b, o + j, none⟩ = some (.int .i64 (ks.getD j 0))) := hkc
  have HKU : Hid (∀ k ∈ ks, 0 ≤ k ∧ k < (l.length : Int) - 1) := hkl
  have HVA : Hid (vA bs l (l.length - 1) = vlN bs (vt bs l) ⟨op, n, nm, ks⟩) := hva
  have HFM : Hid (formB ⟨op, n, nm, ks⟩ = true) := hform
  have HC : Hid (∀ W, Below w.heap.size w W → W.cell? ⟨b, o + (l.length - 1) * 4, none⟩ = some (.int .i64 op) ∧ W.cell? ⟨b, o + (l.length - 1) * 4 + 1, none⟩ = some (.int .i64 n) ∧ W.cell? ⟨b, o + (l.length - 1) * 4 + 2, none⟩ = some (.string nm) ∧ W.cell? ⟨b, o + (l.length - 1) * 4 + 3, none⟩ = some (.slice ka ks.length kc)) := fun W hW => ⟨(hW.cell (p := ⟨b, _, none⟩) hbl).trans c0, (hW.cell (p := ⟨b, _, none⟩) hbl).trans c1, (hW.cell (p := ⟨b, _, none⟩) hbl).trans c2, (hW.cell (p := ⟨b, _, none⟩) hbl).trans c3⟩
  clear hva hkc hkl hki hform c0 c1 c2 c3 h hbo hbg
  generalize evA bs l = A at *
  generalize evT bs l = T at *
  obtain ⟨x1, x2⟩ := A
  obtain ⟨y1, y2⟩ := T
  simp only at cE cT P1 P2 P3
  generalize hla : l.length - 1 = la at *
  have HLA : Hid (l.length - 1 = la) := hla
  clear hla
  go_enter Tryd.func5, Tryd.ntmps5
  go_wp2_with fail
  refine (awake8_any w HH.out.T HH.out.G).mono ?_
  rintro e w1 ⟨rfl, hb1⟩
  have B1 : Hid (Below w.heap.size w w1) := hb1
  clear hb1
  go_wp2_with fail
  refine (copyR (HH.out.below B1.out).R hF).mono ?_
  rintro e w2 ⟨a2, c2, rfl, hRx, hbx⟩
  have B2 : Hid (Below w.heap.size w w2) := B1.out.trans (hbx.mono B1.out.size)
  have R2 : Hid (Rd w2 a2 c2 l) := hRx
  clear hRx hbx B1
  go_wp2_with fail
  refine (copied8_rd HH.out.reach (HH.out.below B2.out).B).mono ?_
  rintro e w3 ⟨a3, c3, rfl, hBx, hbx⟩
  have B3 : Hid (Below w.heap.size w w3) := B2.out.trans (hbx.mono B2.out.size)
  have R3 : Hid (Rd w3 a2 c2 l) := R2.out.below hbx hbx.size
  have Q3 : Hid (Bds w3 a3 c3 bs) := hBx
  clear hBx hbx B2 R2
  go_wp2_with fail
  refine (cE.out w3 a2 c2 a3 c3 B3.out R3.out Q3.out).mono ?_
  rintro e w4 ⟨rfl, hbx⟩
  have B4 : Hid (Below w.heap.size w w4) := B3.out.trans (hbx.mono B3.out.size)
  clear hbx B3 R3 Q3
  go_wp2_with fail
  refine (copyR (HH.out.below B4.out).R hF).mono ?_
  rintro e w5 ⟨a5, c5, rfl, hRx, hbx⟩
  have B5 : Hid (Below w.heap.size w w5) := B4.out.trans (hbx.mono B4.out.size)
  have R5 : Hid (Rd w5 a5 c5 l) := hRx
  clear hRx hbx B4
  go_wp2_with fail
  refine (copied8_rd HH.out.reach (HH.out.below B5.out).B).mono ?_
  rintro e w6 ⟨a6, c6, rfl, hBx, hbx⟩
  have B6 : Hid (Below w.heap.size w w6) := B5.out.trans (hbx.mono B5.out.size)
  have R6 : Hid (Rd w6 a5 c5 l) := R5.out.below hbx hbx.size
  have Q6 : Hid (Bds w6 a6 c6 bs) := hBx
  clear hBx hbx B5 R5
  go_wp2_with fail
  refine (cT.out w6 a5 c5 a6 c6 B6.out R6.out Q6.out).mono ?_
  rintro e w7 ⟨rfl, hbx⟩
  have B7 : Hid (Below w.heap.size w w7) := B6.out.trans (hbx.mono B6.out.size)
  clear hbx B6 R6 Q6
  go_wp2_with fail
  refine (copyR (HH.out.below B7.out).R hF).mono ?_
  rintro e w8 ⟨a8, c8, rfl, hRx, hbx⟩
  have B8 : Hid (Below w.heap.size w w8) := B7.out.trans (hbx.mono B7.out.size)
  have R8 : Hid (Rd w8 a8 c8 l) := hRx
  clear hRx hbx B7
  go_wp2_with fail
  refine (check_some _ l fr _ _ (Nat.le_refl _) (HH.out.below B8.out).T R8.out HBG.out).mono ?_
  rintro e w9 ⟨rfl, hbx⟩
  have B9 : Hid (Below w.heap.size w w9) := B8.out.trans (hbx.mono B8.out.size)
  clear hbx B8 R8
  obtain ⟨c0, c1, c2, c3⟩ := HC.out w9 B9.out
  have hla2 : (l.length : Int) - 1 = (la : Int) := by have := HLA.out; omega
  have hla3 : la < l.length := by have := HLA.out; omega
  have hla4 : (la : Int) < (l.length : Int) := by omega
  obtain ⟨WT, hWT⟩ : ∃ WT, w9.alloc (.cells #[.int .i64 op, .int .i64 n, .string nm, .slice ka ks.length kc] 46) = WT := ⟨_, rfl⟩
  have HWT : Hid (w9.alloc (.cells #[.int .i64 op, .int .i64 n, .string nm, .slice ka ks.length kc] 46) = WT) := hWT
  have hszT : WT.heap.size = w9.heap.size + 1 := by rw [← hWT]; simp
  have t0 : WT.cell? ⟨w9.heap.size, 0, none⟩ = some (.int .i64 op) := by rw [← hWT]; simp
  have t1 : WT.cell? ⟨w9.heap.size, 1, none⟩ = some (.int .i64 n) := by rw [← hWT]; simp
  have t2 : WT.cell? ⟨w9.heap.size, 2, none⟩ = some (.string nm) := by rw [← hWT]; simp
  have t3 : WT.cell? ⟨w9.heap.size, 3, none⟩ = some (.slice ka ks.length kc) := by rw [← hWT]; simp
  have BT : Hid (Below w.heap.size w WT) := by rw [Hid, ← hWT]; exact B9.out.trans (((Below.refl _ _).alloc (Nat.le_refl _) _).mono B9.out.size)
  have hs9 : w.heap.size ≤ w9.heap.size := B9.out.size
  have HTC : Hid (∀ W, Below (w9.heap.size + 1) WT W → W.cell? ⟨w9.heap.size, 0, none⟩ = some (.int .i64 op) ∧ W.cell? ⟨w9.heap.size, 1, none⟩ = some (.int .i64 n) ∧ W.cell? ⟨w9.heap.size, 2, none⟩ = some (.string nm) ∧ W.cell? ⟨w9.heap.size, 3, none⟩ = some (.slice ka ks.length kc)) := fun W hW => by
    have hlt : w9.heap.size < w9.heap.size + 1 := by omega
    exact ⟨(hW.cell (p := ⟨w9.heap.size, 0, none⟩) hlt).trans t0, (hW.cell (p := ⟨w9.heap.size, 1, none⟩) hlt).trans t1, (hW.cell (p := ⟨w9.heap.size, 2, none⟩) hlt).trans t2, (hW.cell (p := ⟨w9.heap.size, 3, none⟩) hlt).trans t3⟩
  clear hWT t0 t1 t2 t3
  go_wp2_with fail
  rw [HWT.out]
  clear c0 c1 c2 c3
  go_loopw [10, 11] (fun v q wr => ∃ j : Nat, j ≤ ks.length ∧ q = .int .i64 j ∧ (∀ k ∈ ks.take j, vA bs l k.toNat ≠ none) ∧ wr.ownsRow (w9.heap.size + 1) 2 1 v j (((ks.take j).map fun k => (vA bs l k.toNat).getD 0).map (Value.int .i64)) ∧ Below (w9.heap.size + 1) WT wr) (fun _ q _ => ks.length - (RowKit.intOf q).toNat)
  case atStart => exact ⟨0, by omega, rfl, by simp, World.ownsRow_nil _ _ _ _, Below.refl _ _⟩
  case round =>
    obtain ⟨j, hj, rfl, hall, hown, hBr⟩ := hrel
    have BW : Hid (Below w.heap.size w wr) := BT.out.trans (hBr.mono (by omega))
    obtain ⟨e0r, e1r, e2r, e3r⟩ := HTC.out wr hBr
    have hszr : w9.heap.size + 1 ≤ wr.heap.size := by have := hBr.size; omega
    have HBR : Hid (Below (w9.heap.size + 1) WT wr) := hBr
    have HALL : Hid (∀ k ∈ ks.take j, vA bs l k.toNat ≠ none) := hall
    obtain ⟨va, vc, rfl⟩ := row_form' hown
    have HOWN : Hid (wr.ownsRow (w9.heap.size + 1) 2 1 (.slice va j vc) j (((ks.take j).map fun k => (vA bs l k.toNat).getD 0).map (Value.int .i64))) := hown
    clear hBr hall hown
    by_cases hjl : j < ks.length
    · obtain ⟨kb, ko, rfl, hkb, hkc⟩ : ∃ b o, ka = some ⟨b, o, none⟩ ∧ b < w.heap.size ∧ ∀ j, j < ks.length → w.cell? ⟨b, o + j, none⟩ = some (.int .i64 (ks.getD j 0)) := by
        rcases HKC.out with h | h
        · subst h; simp at hjl
        · exact h
      have hcj := (BW.out.cell (p := ⟨kb, ko + j, none⟩) hkb).trans (hkc j hjl)
      obtain ⟨hy0, hy1⟩ := HKU.out (ks.getD j 0) (by simp [hjl])
      have HTK : Hid (ks.take (j + 1) = ks.take j ++ [ks.getD j 0]) := by
        rw [Hid, List.take_succ_eq_append_getElem hjl]; simp [hjl]
      clear hkc
      generalize ks.getD j 0 = y at *
      obtain ⟨y, rfl⟩ : ∃ z : Nat, y = (z : Int) := ⟨y.toNat, by omega⟩
      have hyl : y < l.length := by omega
      have cQy := cQ.out y hyl
      have cPy := fun V a c => cP.out V a c y hyl
      have CP2 : Hid (∀ V a c, Below w.heap.size w V → Rd V a c l → Calls Tryd.prog 13 #[.slice a l.length c, .int .i64 y] V fun e w' => ∃ ao' cap', e = .returned (.tuple #[.slice ao' (partL l (fr.getD y 0) y).length cap', .int .i64 0]) ∧ Rd w' ao' cap' (partL l (fr.getD y 0) y) ∧ Below V.heap.size V w') := cPy
      clear cPy
      generalize partL l (fr.getD y 0) y = P at *
      have HCE : Hid (∀ w', Below wr.heap.size wr w' → w'.cell? ⟨w9.heap.size, 3, none⟩ = some (.slice (some ⟨kb, ko, none⟩) ks.length kc) ∧ w'.cell? ⟨kb, ko + j, none⟩ = some (.int .i64 (y : Int))) := fun w' hb =>
        ⟨(hb.cell (p := ⟨w9.heap.size, 3, none⟩) (by show w9.heap.size < wr.heap.size; omega)).trans e3r, (hb.cell (p := ⟨kb, ko + j, none⟩) (by show kb < wr.heap.size; omega)).trans hcj⟩
      have hjI : (j : Int) < (ks.length : Int) := by omega
      have Ar := (HH.out.below BW.out).R
      have HCQ : Hid (∀ V a c a' c', Below w.heap.size w V → Rd V a c P → Bds V a' c' bs → Calls Tryd.prog 24 #[.slice a P.length c, .slice a' bs.length c'] V fun e w' => e = .returned (.tuple #[.int .i64 (match vA bs l y with | some v => (v, (0 : Int)) | none => (0, 12)).1, .int .i64 (match vA bs l y with | some v => (v, (0 : Int)) | none => (0, 12)).2]) ∧ Below V.heap.size V w') := cQy
      clear cQy
      go_wp2_with fail
      go_region_held3 (fun W => W.cell? ⟨w9.heap.size, 3, none⟩ = some (.slice (some ⟨kb, ko, none⟩) ks.length kc) ∧ W.cell? ⟨kb, ko + j, none⟩ = some (.int .i64 (y : Int))) (go_keep) (first | (go_at_call 11; refine (copyR (Ar.below (Below.refl _ _).drew (Nat.le_refl _)) hF).mono ?_; rintro e w4' ⟨ao4, cap4, rfl, D4, hb4'⟩; have hb4 : Below wr.heap.size wr w4' := (Below.refl wr.heap.size wr).drew.trans hb4'; obtain ⟨k0, k1⟩ := HCE.out w4' hb4) | (go_at_call 13; refine (CP2.out w4' ao4 cap4 (BW.out.trans (Below.mono hb4 BW.out.size)) D4).mono ?_; rintro e w5' ⟨a5', c5', rfl, hO5, hb5⟩; obtain ⟨k0, k1⟩ := HCE.out w5' (Below.trans hb4 (Below.mono hb5 hb4.size))))
      have b5 : Below wr.heap.size wr w5' := hb4.trans (hb5.mono hb4.size)
      have HB5 : Hid (Below wr.heap.size wr w5') := b5
      have BW5 : Hid (Below w.heap.size w w5') := BW.out.trans (b5.mono BW.out.size)
      have R5 : Hid (Rd w5' a5' c5' P) := hO5
      clear D4 hb4 hb4' hb5 hO5 k0 k1 b5 Ar HCE e0r e1r e2r hcj CP2
      go_wp2_with fail
      refine (copied8_rd HH.out.reach (HH.out.below BW5.out).B).mono ?_
      rintro e w6' ⟨a6, c6, rfl, hBx, hbx⟩
      have HB6 : Hid (Below wr.heap.size wr w6') := HB5.out.trans (hbx.mono HB5.out.size)
      have BW6 : Hid (Below w.heap.size w w6') := BW5.out.trans (hbx.mono BW5.out.size)
      have R6 : Hid (Rd w6' a5' c5' P) := R5.out.below hbx hbx.size
      have Q6 : Hid (Bds w6' a6 c6 bs) := hBx
      clear hBx hbx HB5 BW5 R5
      have HI := HCQ.out w6' a5' c5' a6 c6 BW6.out R6.out Q6.out
      cases hv : vA bs l y with
      | none =>
        rw [hv] at HI
        obtain ⟨hA, hT1, hT2⟩ := P1.out y (by have := HLA.out; omega) hv
        obtain ⟨rfl, rfl⟩ := Prod.mk.inj hA
        subst hT1
        have hT3 : y1 < (la : Int) := by omega
        have HI2 : Hid (Calls Tryd.prog 24 #[.slice a5' P.length c5', .slice a6 bs.length c6] w6' fun e w' => e = .returned (.tuple #[.int .i64 0, .int .i64 12]) ∧ Below w6'.heap.size w6' w') := HI
        clear HI hv hA P1 P2 P3
        go_wp2_with fail
        refine HI2.out.mono ?_
        rintro e w7' ⟨rfl, hbx⟩
        have BW7 : Hid (Below w.heap.size w w7') := BW6.out.trans (hbx.mono BW6.out.size)
        clear hbx HI2
        go_wp2_with fail
        go_ret
        exact ⟨by first | rfl | (simp; omega), BW7.out⟩
      | some z =>
        rw [hv] at HI
        have HI2 : Hid (Calls Tryd.prog 24 #[.slice a5' P.length c5', .slice a6 bs.length c6] w6' fun e w' => e = .returned (.tuple #[.int .i64 z, .int .i64 0]) ∧ Below w6'.heap.size w6' w') := HI
        have HVY : Hid (vA bs l y = some z) := hv
        clear HI hv
        go_wp2_with fail
        refine HI2.out.mono ?_
        rintro e w7' ⟨rfl, hbx⟩
        have HB7 : Hid (Below wr.heap.size wr w7') := HB6.out.trans (hbx.mono HB6.out.size)
        have hown2 := ownsRow_below HOWN.out HB7.out
        have hsz2 := HB7.out.size
        clear hbx HI2 HOWN e3r HB6 BW6 R6 Q6
        go_wp2_with (at_builtin; refine wpList_append_lies _ rfl (.tmp 92) (.tmp 94) 47 rfl (w9.heap.size + 1) 2 i0 (.int .i64 0) 1 8 Tryd.underlying47 hi0 hz0 hz1 hz2 rfl (by decide) _ _ _ (by simp [Act.eval, Act.put]) (hown2.alloc _) ⟨w7'.heap.size, 0, none⟩ 1 1 [.int .i64 z] (by simp [Act.eval, Act.put]) rfl (cell_news_one w7' _ _) (by simp [Value.oneCell']) (by omega) (by unfold maxLen; omega) (by omega) (by simp; omega) _ rfl ?_; intro g6 cap6 w8' hown6 hg6 hat6 hl6)
        have hB6 : Below (w9.heap.size + 1) WT w8' := by
          have b1 := (HBR.out.trans (HB7.out.mono (by omega))).trans (((Below.refl w7'.heap.size w7').alloc (Nat.le_refl _) (.cells #[.int .i64 z] 2)).mono (by omega))
          exact b1.grown hg6 (by rw [World.size_alloc]; omega) (fun j hj => by have := (own_block' hown2 j hj).1; omega)
        refine ⟨⟨j + 1, by omega, by go_num, ?_, ?_, hB6⟩, by simp [RowKit.intOf]; omega⟩
        · rw [HTK.out]
          intro k hk
          rcases List.mem_append.1 hk with hk | hk
          · exact HALL.out k hk
          · simp at hk; subst hk; rw [Int.toNat_natCast, HVY.out]; simp
        · rw [HTK.out, List.map_append, List.map_append]
          simp only [List.map_cons, List.map_nil, Int.toNat_natCast, HVY.out, Option.getD_some]
          exact hown6
    · have hje : j = ks.length := by omega
      subst hje
      have hta : ks.take ks.length = ks := List.take_length
      have hal := HALL.out
      have how := HOWN.out
      rw [hta] at hal how
      have HAL : Hid (∀ k ∈ ks, vA bs l k.toNat ≠ none) := hal
      have HOW : Hid (wr.ownsRow (w9.heap.size + 1) 2 1 (.slice va ks.length vc) ks.length ((ks.map fun k => (vA bs l k.toNat).getD 0).map (Value.int .i64))) := how
      clear hta hal how HALL HOWN
      by_cases o1 : op = 1
      · subst o1
        have hv : vA bs l la = some n := by rw [HVA.out]; rfl
        obtain ⟨hA, hT⟩ := P3.out n hv
        obtain ⟨rfl, rfl⟩ := Prod.mk.inj hA
        obtain ⟨rfl, rfl⟩ := Prod.mk.inj hT
        clear hv hA hT P1 P2 P3
        go_wp2_with fail
        go_ret
        exact ⟨by first | rfl | simp, BW.out⟩
      · by_cases o2 : op = 2
        · subst o2
          have hv : vA bs l la = some (getB bs nm) := by rw [HVA.out]; rfl
          obtain ⟨hA, hT⟩ := P3.out _ hv
          obtain ⟨rfl, rfl⟩ := Prod.mk.inj hA
          obtain ⟨rfl, rfl⟩ := Prod.mk.inj hT
          clear hv hA hT P1 P2 P3
          have HCE : Hid (∀ w', Below wr.heap.size wr w' → w'.cell? ⟨w9.heap.size, 2, none⟩ = some (.string nm)) := fun w' hb =>
            (hb.cell (p := ⟨w9.heap.size, 2, none⟩) (by show w9.heap.size < wr.heap.size; omega)).trans e2r
          have Br := (HH.out.below BW.out).B
          have hreach := HH.out.reach
          clear e1r HVA HAL HOW HKC HKU HFM HC HTC cE cT cP cQ
          go_wp2_with fail
          go_region_held3 (fun W => W.cell? ⟨w9.heap.size, 2, none⟩ = some (.string nm)) (go_keep) (first | (go_at_call 25; refine (copied8_rd hreach (Br.below (Below.refl _ _).drew)).mono ?_; rintro e w4' ⟨a4, c4, rfl, D4, hb4'⟩; have hb4 : Below wr.heap.size wr w4' := (Below.refl wr.heap.size wr).drew.trans hb4'; have k0 := HCE.out w4' hb4) | (go_at_call 29; refine (get_any a4 c4 bs nm hreach w4' D4).mono ?_; rintro e w5' ⟨rfl, hb5⟩; have k0 := HCE.out w5' (Below.trans hb4 (Below.mono hb5 hb4.size))))
          all_goals
            have BZ : Hid (Below w.heap.size w w5') := BW.out.trans ((hb4.trans (hb5.mono hb4.size)).mono BW.out.size)
            clear D4 hb4 hb4' hb5 k0 Br HCE
            go_wp2_with fail
            go_ret
            exact ⟨by first | rfl | simp, BZ.out⟩
        · have g1 : (op == 1) = false := by simp [o1]
          have g2 : (op == 2) = false := by simp [o2]
          have HZ : Hid (vA bs l la = apO op (ks.map fun k => (vA bs l k.toNat).getD 0)) := by
            rw [Hid, HVA.out]
            show (if op = 1 then _ else if op = 2 then _ else _) = _
            rw [if_neg o1, if_neg o2, argsO_all ks (fun k hk => HAL.out k hk)]; rfl
          have how := HOW.out
          have hAg : Ags wr (.slice va ks.length vc) (ks.map fun k => (vA bs l k.toNat).getD 0) := by
            refine ⟨va, vc, by rw [List.length_map], ?_⟩
            rcases how.2 with ⟨h0, h1⟩ | ⟨g, cp, cur, hve, _⟩
            · left; simp [List.length_eq_zero_iff.1 h1]
            · right
              have hva : va = some ⟨g, 0, none⟩ := by cases hve; rfl
              refine ⟨g, 0, hva, fun q x hq => ?_⟩
              have := how.cells (g := g) (by rw [hva]; rfl) q (.int .i64 x) (by rw [List.getElem?_map, hq]; rfl)
              have e0 : (⟨g, 0, none⟩ : Addr).add q = ⟨g, 0 + q, none⟩ := by rw [Go.WideShapes.add_plain]
              rw [e0] at this
              exact this
          have cA := apply_any op _ _ wr (HH.out.below BW.out).G hAg
          clear how hAg HOW o1 o2
          generalize (ks.map fun k => (vA bs l k.toNat).getD 0) = args at *
          unfold apO at HZ
          generalize apR op args = R at *
          obtain ⟨r, er⟩ := R
          simp only at HZ cA
          have HCA : Hid (Calls Tryd.prog 30 #[.int .i64 op, .slice va ks.length vc] wr fun e w' => e = .returned (.tuple #[.int .i64 r, .int .i64 er]) ∧ ∃ m, w' = wr.drewN m) := cA
          clear cA
          by_cases her : er = 0
          · subst her
            have hv : vA bs l la = some r := by rw [HZ.out, if_pos rfl]
            obtain ⟨hA, hT⟩ := P3.out r hv
            obtain ⟨rfl, rfl⟩ := Prod.mk.inj hA
            obtain ⟨rfl, rfl⟩ := Prod.mk.inj hT
            clear hv hA hT P1 P2 P3 HZ
            go_wp2_with fail
            refine HCA.out.mono ?_
            rintro e w' ⟨rfl, m, rfl⟩
            go_wp2_with fail
            go_ret
            exact ⟨by first | rfl | simp, BW.out.trans ⟨rfl, rfl, rfl, Nat.le_refl _, fun _ _ => rfl⟩⟩
          · have hv : vA bs l la = none := by rw [HZ.out, if_neg her]
            obtain ⟨hA, hT⟩ := P2.out HAL.out hv
            obtain ⟨rfl, rfl⟩ := Prod.mk.inj hA
            obtain ⟨rfl, rfl⟩ := Prod.mk.inj hT
            have ge : (er != 0) = true := by simp [her]
            clear hv hA hT P1 P2 P3 HZ her
            go_wp2_with fail
            refine HCA.out.mono ?_
            rintro e w' ⟨rfl, m, rfl⟩
            go_wp2_with fail
            go_ret
            exact ⟨by first | rfl | simp, BW.out.trans ⟨rfl, rfl, rfl, Nat.le_refl _, fun _ _ => rfl⟩⟩
theorem evParts.walk (w : World) (ao : Option Addr) (cap : Nat) (l : List Nd) (eo : Option Addr) (ec : Nat) (bs : List Bd) (h : EvIn w ao cap l eo ec bs) (hF : Fit l) :
    Calls Tryd.prog 5 #[.slice ao l.length cap, .slice eo bs.length ec] w fun e w' => e = .returned (.bool true) ∧ Below w.heap.size w w' := by
  cases hb : begL l with
  | none => exact evParts.bad w ao cap l eo ec bs h hF hb
  | some fr => exact evParts.good w ao cap l eo ec bs h hF fr hb
end Go.Proofs.YtkgfcamlfnlpoaaDoor

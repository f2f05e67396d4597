/-
  The walk of BoxOpens.
-/
import Derived.Test.YtiobcipmieefaaaDoorBxExpW
set_option linter.unusedSimpArgs false
set_option linter.unusedVariables false
namespace Go.Proofs.YtiobcipmieefaaaDoor
open Go.RowKit Go.Lib

set_option maxRecDepth 20000 in
set_option maxHeartbeats 2000000 in
theorem opens_walk (w : World) (ao : Option Addr) (cap : Nat) (l : List Cl) (T0 : SpanCells w) (hN : Cls w ao cap l) (hnm : ∀ x ∈ l, x.name.size ≤ maxLen) (hlen : l.length * 64 ≤ 140737488351232) :
    Calls Tryd.prog 4 #[.slice ao l.length cap] w fun e w' => e = .returned (.bool true) ∧ Below w.heap.size w w' := by
  have hm := hN.2.1
  have hl := hN.1
  unfold maxLen at hm
  have HN0 : Hid (Cls w ao cap l) := hN
  have HNM : Hid (∀ x ∈ l, x.name.size ≤ maxLen) := hnm
  have HT : Hid (SpanCells w) := T0
  clear hN hnm T0
  have CN : Hid (∀ V, SpanCells V → Calls Tryd.prog 12 #[.nilIface] V fun e w' => ∃ ao cap, e = .returned (.tuple #[.slice ao 0 cap, .int .i64 1]) ∧ Below V.heap.size V w') := fun V hV => by
    have h := open_any .nil trivial V hV
    rw [want_nil, show sndB (flatT .nil) = false by decide +kernel] at h
    exact h.mono fun e w' ⟨a, c, h1, _, h2⟩ => ⟨a, c, h1, h2⟩
  go_enter Tryd.func4, Tryd.ntmps4
  go_wp2_with fail
  refine (awk3_any _).mono ?_
  rintro e w1 ⟨rfl, hb1⟩
  go_wp2_with fail
  refine (values_any ao cap l w1 (HN0.out.below hb1) (by omega)).mono ?_
  rintro e w2 ⟨ts, rfl, hV, htl, hG, hb2⟩
  have hb12 : Below w.heap.size w w2 := hb1.trans (hb2.mono hb1.size)
  have HV : Hid (Vals l ts) := hV
  have HG : Hid (∀ j, j < l.length → w2.cell? ⟨w1.heap.size, j, none⟩ = some (tv (ts.getD j .nil))) := hG
  have HB12 : Hid (Below w.heap.size w w2) := hb12
  generalize w1.heap.size = G at *
  clear hb12 hV hG hb1 hb2 w1
  go_wp2_with fail
  refine (exprs_any ao cap l ts w2 (HN0.out.below HB12.out) HV.out htl HNM.out (by omega)).mono ?_
  rintro e w3 ⟨v3, lpvs, rfl, hLs, hb3⟩
  have hlk : (ts.map wantT).length = l.length := by simp [htl]
  obtain ⟨la, lc, hv3⟩ := row_form hLs.row
  rw [hlk] at hv3
  subst hv3
  have HB3 : Hid (Below w.heap.size w w3) := HB12.out.trans (hb3.mono HB12.out.size)
  have HG3 : Hid (∀ j, j < l.length → w3.cell? ⟨G, j, none⟩ = some (tv (ts.getD j .nil)) ∧ G < w3.heap.size) := fun j hj => by
    have h := HG.out j hj
    have hlt := World.block_lt_of_cell? _ _ h
    exact ⟨(hb3.cell (p := ⟨G, j, none⟩) hlt).trans h, Nat.lt_of_lt_of_le hlt hb3.size⟩
  have HL3 : Hid (∀ i, i < l.length → ∃ lg lcap xa xc, Value.slice la l.length lc = .slice (some ⟨lg, 0, none⟩) l.length lcap ∧ lg < w3.heap.size ∧ w3.cell? ⟨lg, i, none⟩ = some (.slice xa (wantT (ts.getD i .nil)).length xc) ∧ Rd w3 xa xc (wantT (ts.getD i .nil))) := fun i hi => by
    obtain ⟨lg, lcap, h1, h2, h3⟩ := hLs.cell (i := i) (by omega)
    rw [hlk] at h1
    have h4 := hLs.each i (by omega)
    have e : (ts.map wantT).getD i [] = wantT (ts.getD i .nil) := by simp [show i < ts.length by omega]
    rw [e] at h4
    obtain ⟨xa, xc, h5, h6⟩ := Rd_of_own h4
    rw [h5] at h3
    exact ⟨lg, lcap, xa, xc, h1, h2, h3, h6⟩
  clear hLs hb3 HG
  go_wp2_with fail
  go_loopw [5] (fun i wr => ∃ k : Nat, k ≤ l.length ∧ i = .int .i64 k ∧ Below w3.heap.size w3 wr) (fun i _ => l.length - (RowKit.intOf i).toNat)
  case atStart => exact ⟨0, by omega, rfl, Below.refl _ _⟩
  case round =>
    obtain ⟨k, hk, rfl, hbr⟩ := hrel
    have HBR : Hid (Below w3.heap.size w3 wr) := hbr
    have hTr : SpanCells wr := HT.out.below (HB3.out.trans (hbr.mono HB3.out.size))
    have HTR : Hid (SpanCells wr) := hTr
    by_cases hlt : k < l.length
    · obtain ⟨hv, hGl⟩ := HG3.out k hlt
      obtain ⟨lg, lcap, xa, xc, hx, hlg, hcell, hR⟩ := HL3.out k hlt
      cases hx
      have htm : ts.getD k .nil ∈ ts := by simp [show k < ts.length by omega]
      have hOth := HV.out.othH _ htm
      obtain ⟨t, ht⟩ : ∃ t, ts.getD k .nil = t := ⟨_, rfl⟩
      rw [ht] at hv hcell hR hOth
      clear ht htm
      have vr : wr.cell? ⟨G, k, none⟩ = some (tv t) := (hbr.cell (p := ⟨G, k, none⟩) hGl).trans hv
      have cr : wr.cell? ⟨lg, k, none⟩ = some (.slice xa (wantT t).length xc) := (hbr.cell (p := ⟨lg, k, none⟩) hlg).trans hcell
      have HRr : Hid (Rd wr xa xc (wantT t)) := hR.below hbr hbr.size
      have hlr : lg < wr.heap.size := Nat.lt_of_lt_of_le hlg hbr.size
      have CO : Hid (∀ V, SpanCells V → Calls Tryd.prog 12 #[tv t] V fun e w' => ∃ ao cap, e = .returned (.tuple #[.slice ao (wantT t).length cap, .int .i64 (if sndB (flatT t) = true then 0 else 1)]) ∧ Rd w' ao cap (wantT t) ∧ Below V.heap.size V w') := fun V hV => open_any t hOth V hV
      have CS : Hid (∀ V a c b d, Rd V a c (wantT t) → Rd V b d (wantT t) → Calls Tryd.prog 15 #[.slice a (wantT t).length c, .slice b (wantT t).length d] V fun e w' => e = .returned (.bool true) ∧ Below V.heap.size V w') := fun V a c b d h1 h2 => sameR h1 h2 true (by simp)
      have hL := want_pos t
      obtain ⟨v, hvv⟩ : ∃ v, tv t = v := ⟨_, rfl⟩
      rw [hvv] at vr CO
      clear hv hcell hR hvv hbr hTr
      cases hs : sndB (flatT t) with
      | true =>
        rw [hs] at CO hL
        have hL := hL.2 rfl
        obtain ⟨L, hLL⟩ : ∃ L, (wantT t).length = L := ⟨_, rfl⟩
        rw [hLL] at cr CO CS hL
        simp only [if_true] at CO
        clear hs hLL
        have hL1 : (0 : Int) < (L : Int) := by omega
        go_wp2_with fail
        refine (CO.out _ HTR.out).mono ?_
        rintro e w5 ⟨a5, c5, rfl, hR5, hb5⟩
        have hX5 := HRr.out.below hb5 hb5.size
        have cr5 : w5.cell? ⟨lg, k, none⟩ = some (.slice xa L xc) := (hb5.cell (p := ⟨lg, k, none⟩) hlr).trans cr
        have HB5 : Hid (Below wr.heap.size wr w5) := hb5
        have hl5 : lg < w5.heap.size := Nat.lt_of_lt_of_le hlr hb5.size
        clear hb5
        go_wp2_with fail
        refine (CS.out _ _ _ _ _ hR5 hX5).mono ?_
        rintro e w6 ⟨rfl, hb6⟩
        have cr6 : w6.cell? ⟨lg, k, none⟩ = some (.slice xa L xc) := (hb6.cell (p := ⟨lg, k, none⟩) hl5).trans cr5
        have HB6 : Hid (Below w3.heap.size w3 w6) := HBR.out.trans ((HB5.out.trans (hb6.mono HB5.out.size)).mono HBR.out.size)
        clear hb6 hR5 hX5 cr5 cr
        go_wp2_with fail
        exact ⟨⟨k + 1, by omega, by go_num, HB6.out⟩, by simp [RowKit.intOf]; omega⟩
      | false =>
        rw [hs] at CO hL
        have hW0 : (wantT t).length = 0 := by
          by_cases h0 : 0 < (wantT t).length
          · exact absurd (hL.1 h0) (by simp)
          · omega
        rw [hW0] at cr CO CS
        clear hs hL hW0
        go_wp2_with fail
        refine (CO.out _ HTR.out).mono ?_
        rintro e w5 ⟨a5, c5, rfl, hR5, hb5⟩
        have hX5 := HRr.out.below hb5 hb5.size
        have cr5 : w5.cell? ⟨lg, k, none⟩ = some (.slice xa 0 xc) := (hb5.cell (p := ⟨lg, k, none⟩) hlr).trans cr
        have HB5 : Hid (Below wr.heap.size wr w5) := hb5
        have hl5 : lg < w5.heap.size := Nat.lt_of_lt_of_le hlr hb5.size
        clear hb5
        go_wp2_with fail
        refine (CS.out _ _ _ _ _ hR5 hX5).mono ?_
        rintro e w6 ⟨rfl, hb6⟩
        have cr6 : w6.cell? ⟨lg, k, none⟩ = some (.slice xa 0 xc) := (hb6.cell (p := ⟨lg, k, none⟩) hl5).trans cr5
        have HB6 : Hid (Below w3.heap.size w3 w6) := HBR.out.trans ((HB5.out.trans (hb6.mono HB5.out.size)).mono HBR.out.size)
        clear hb6 hR5 hX5 cr5 cr
        go_wp2_with fail
        exact ⟨⟨k + 1, by omega, by go_num, HB6.out⟩, by simp [RowKit.intOf]; omega⟩
    · have hke : k = l.length := by omega
      subst hke
      clear hbr hTr
      go_wp2_with fail
      refine (CN.out _ HTR.out).mono ?_
      rintro e w5 ⟨a5, c5, rfl, hb5⟩
      have HB5 : Hid (Below w.heap.size w w5) := HB3.out.trans ((HBR.out.trans (hb5.mono HBR.out.size)).mono HB3.out.size)
      clear hb5
      go_wp2_with fail
      go_ret
      exact ⟨rfl, HB5.out⟩
end Go.Proofs.YtiobcipmieefaaaDoor

/-
  PgG, RmPure.
-/
import Derived.Shelf.Unicode.DecodeSlow
import Derived.Laws.RangeAny
import Derived.Shelf.Strconv.Itoa0
import Derived.Shelf.LaysM
import Derived.Shelf.Strconv.Clone
import Derived.Shelf.Unicode.DecodeAny
import Derived.Test.YtlbmijcpalfaeaaDoorProg
import Derived.WalkKit
import Derived.Deep.DeepFit
import Derived.Lib.OthersKept
import Derived.Lib.RuneCountTail
import Derived.Deep.AppendLies
import Derived.Deep.OwnRows
import Derived.Laws.AppendOwnNone
import Derived.Deep.QuietTactic
import Derived.BigQuiet
import Derived.Deep.RegionWith
import Derived.Laws.DeepStrings4
import Derived.Below
import Derived.Lib.MapLaws
import Derived.Sort.Walk0
import Derived.Lib.QuietBelow
import Derived.StillTail
import Derived.Deep.RegionHeld3
import Derived.Laws.AppendOwn
import Derived.Deep.DeepCutAuto
import Derived.Maps.OwnSet
import Derived.Maps.Keyed
import Derived.DeepKeys4
import Derived.Laws.ResultCell
import Derived.Laws.CopyOwn
import Derived.Laws.OwnMore
import Derived.Deep.RegionLaw
import Derived.Laws.IdiomStrings
import Derived.WalkSmall
import Derived.Lib.SlBytesRow
import Derived.StringKeys
import Derived.Laws.Rows
import Derived.Test.YtlbmijcpalfaeaaDoorF01
import Derived.Test.YtlbmijcpalfaeaaDoorF02
import Derived.Test.YtlbmijcpalfaeaaDoorF03
import Derived.Test.YtlbmijcpalfaeaaDoorF04
import Derived.Test.YtlbmijcpalfaeaaDoorF05
import Derived.Test.YtlbmijcpalfaeaaDoorF06
import Derived.Test.YtlbmijcpalfaeaaDoorF07
import Derived.Test.YtlbmijcpalfaeaaDoorF08
import Derived.Test.YtlbmijcpalfaeaaDoorF09
import Derived.Test.YtlbmijcpalfaeaaDoorF10
import Derived.Test.YtlbmijcpalfaeaaDoorF11
import Derived.Test.YtlbmijcpalfaeaaDoorF12
import Derived.Test.YtlbmijcpalfaeaaDoorF13
import Derived.Test.YtlbmijcpalfaeaaDoorF14
import Derived.Test.YtlbmijcpalfaeaaDoorF15
import Derived.Test.YtlbmijcpalfaeaaDoorF16
import Derived.Test.YtlbmijcpalfaeaaDoorF17
import Derived.Test.YtlbmijcpalfaeaaDoorF18
import Derived.Test.YtlbmijcpalfaeaaDoorF19
import Derived.Test.YtlbmijcpalfaeaaDoorF20
import Derived.Test.YtlbmijcpalfaeaaDoorF21
import Derived.Test.YtlbmijcpalfaeaaDoorF22
import Derived.Test.YtlbmijcpalfaeaaDoorF23
import Derived.Test.YtlbmijcpalfaeaaDoorF24
import Derived.Test.YtlbmijcpalfaeaaDoorF25
import Derived.Test.YtlbmijcpalfaeaaDoorF26
import Derived.Test.YtlbmijcpalfaeaaDoorF27
import Derived.Test.YtlbmijcpalfaeaaDoorF28
import Derived.Test.YtlbmijcpalfaeaaDoorF29
import Derived.Test.YtlbmijcpalfaeaaDoorF30
import Derived.Test.YtlbmijcpalfaeaaDoorF31
import Derived.Test.YtlbmijcpalfaeaaDoorF32
import Derived.Test.YtlbmijcpalfaeaaDoorF40
set_option linter.unusedSimpArgs false
set_option linter.unusedVariables false
namespace Go.Proofs.YtlbmijcpalfaeaaDoor
open Go.RowKit Go.Lib Go.Sort

theorem cc_news {w : World} {a b : Value} {T : TypeId} : ∀ j v, [a, b][j]? = some v → (w.alloc (.cells #[a, b] T)).cell? ((⟨w.heap.size, 0, none⟩ : Addr).add j) = some v := fun j v h => by
  have hb : (w.alloc (.cells #[a, b] T)).heap[w.heap.size]? = some (.cells #[a, b] T (0, 0)) := by rw [Deep.blk_alloc_new]
  exact World.news_of_block hb j v (by simpa using h)
theorem row_sl {w : World} {base : Nat} {e : TypeId} {s n : Nat} {v : Value} {xs : List Value} (h : w.ownsRow base e s v n xs) : ∃ a c, v = .slice a n c := by
  rcases h.2 with ⟨rfl, rfl⟩ | ⟨g, cap, cur, rfl, _⟩
  · exact ⟨_, _, rfl⟩
  · exact ⟨_, _, rfl⟩
set_option maxRecDepth 20000 in
set_option maxHeartbeats 16000000 in
theorem copyP_any (cs : List Cls) (roots : List Int) (ca ra : Option Addr) (cc rc : Nat) (w : World) (hc : Clss w w.heap.size (.slice ca cs.length cc) cs) (hr : Ints w w.heap.size (.slice ra roots.length rc) roots) (hp : PicOk cs roots) :
    Calls Tryd.prog 36 #[.agg #[.slice ca cs.length cc, .slice ra roots.length rc]] w fun e w' => (∃ ca' cc' ra' rc', e = .returned (.agg #[.slice ca' cs.length cc', .slice ra' roots.length rc']) ∧ Clss w' w'.heap.size (.slice ca' cs.length cc') cs ∧ Ints w' w'.heap.size (.slice ra' roots.length rc') roots) ∧ Below w.heap.size w w' := by
  obtain ⟨i0, hi0, hz0, hz1, hz2⟩ := info_parts Tryd.infoI3
  obtain ⟨iC, hiC, hc0, hc1, hc2⟩ := info_parts Tryd.infoCls
  obtain ⟨W0, hW0⟩ : ∃ W0, w.alloc (.cells #[.slice ca cs.length cc, .slice ra roots.length rc] 56) = W0 := ⟨_, rfl⟩
  obtain ⟨W1, hW1⟩ : ∃ W1, W0.alloc (.cells #[.slice none 0 0, .slice none 0 0] 56) = W1 := ⟨_, rfl⟩
  have hs0 : W0.heap.size = w.heap.size + 1 := by rw [← hW0]; simp
  have hs1 : W1.heap.size = w.heap.size + 2 := by rw [← hW1]; simp [hs0]
  have hb0 : Below w.heap.size w W0 := by rw [← hW0]; exact (Below.refl _ _).alloc (Nat.le_refl _) _
  have hb1 : Below w.heap.size w W1 := by rw [← hW1]; exact hb0.alloc (by omega) _
  have hk0 : W0.heap[w.heap.size]? = some (.cells #[.slice ca cs.length cc, .slice ra roots.length rc] 56 (0, 0)) := by rw [← hW0, Deep.blk_alloc_new]
  have hk1 : W1.heap[w.heap.size]? = some (.cells #[.slice ca cs.length cc, .slice ra roots.length rc] 56 (0, 0)) := by rw [← hW1, Deep.blk_alloc_lt _ _ _ (by omega)]; exact hk0
  have hkr : W1.heap[W0.heap.size]? = some (.cells #[.slice none 0 0, .slice none 0 0] 56 (0, 0)) := by rw [← hW1, Deep.blk_alloc_new]
  obtain ⟨RB, hRB⟩ : ∃ RB, W0.heap.size = RB := ⟨_, rfl⟩
  obtain ⟨B, hB⟩ : ∃ B, W1.heap.size = B := ⟨_, rfl⟩
  rw [hRB] at hkr
  have hC1 := hc.below hb1 hb1.size
  have hR1 := hr.below hb1 hb1.size
  rw [hB] at hC1 hR1
  have HSW : Sld (∀ V, Below B W1 V → V.cell? ⟨w.heap.size, 0, none⟩ = some (.slice ca cs.length cc) ∧ V.cell? ⟨w.heap.size, 1, none⟩ = some (.slice ra roots.length rc) ∧ V.heap[RB]? = some (.cells #[.slice none 0 0, .slice none 0 0] 56 (0, 0)) ∧ Below w.heap.size w V) := ⟨fun V hV => by
    have h1 := (hV.block _ (by omega)).trans hk1
    exact ⟨by simp [World.cell?, h1], by simp [World.cell?, h1], (hV.block _ (by omega)).trans hkr, hb1.trans (hV.mono (by omega))⟩⟩
  have HBS : Sld (W1.heap.size = B ∧ RB < B ∧ w.heap.size < B ∧ w.heap.size ≤ RB) := ⟨hB, by omega, by omega, by omega⟩
  -- the roots
  have hbA : Below B W1 (W1.alloc (.cells #[] 3)) := by rw [← hB]; exact (Below.refl _ _).alloc (Nat.le_refl _) _
  obtain ⟨ao, cap, eh, hrl, ⟨hrm, hrn⟩, hrc⟩ := id hR1
  injection eh with e1 _ e2
  subst e1; subst e2
  have HS : Sld (∀ ad, ra = some ad → ∀ j u, (roots.map (Value.int .i64))[j]? = some u → (W1.alloc (.cells #[] 3)).cell? (ad.add j) = some u) := ⟨src_cells hrc hbA⟩
  have HO : Sld (((( w.alloc (.cells #[.slice ca cs.length cc, .slice ra roots.length rc] 56)).alloc (.cells #[.slice none 0 0, .slice none 0 0] 56)).alloc (.cells #[] 3)).ownsRow B 3 1 (.slice (some ⟨w.heap.size + 1 + 1, 0, none⟩) 0 0) 0 []) := ⟨by
    rw [hW0, hW1, show w.heap.size + 1 + 1 = W1.heap.size by omega]
    exact World.ownsRow_made W1 #[] 0 (by omega) (Nat.zero_le _) (by simp)⟩
  have HSX : Sld (∀ ad, ra = some ad → ∀ j u, (roots.map (Value.int .i64))[j]? = some u → ((( w.alloc (.cells #[.slice ca cs.length cc, .slice ra roots.length rc] 56)).alloc (.cells #[.slice none 0 0, .slice none 0 0] 56)).alloc (.cells #[] 3)).cell? (ad.add j) = some u) := ⟨by rw [hW0, hW1]; exact HS.out⟩
  have HBL : Sld (B = w.heap.size + 1 + 1) := ⟨by omega⟩
  have HRE : Sld (w.heap.size + 1 = RB) := ⟨by omega⟩
  have HL : Sld ((roots.map (Value.int .i64)).length = roots.length * 1) := ⟨by simp⟩
  have H1 : Sld (∀ u ∈ roots.map (Value.int .i64), u.oneCell' = true) := ⟨fun u hu => by
    obtain ⟨x, _, rfl⟩ := List.mem_map.1 hu; rfl⟩
  have HNN : Sld (ra = none → roots.length = 0 ∧ rc = 0) := ⟨fun h => by have := hrn h; omega⟩
  have hrw := hp.roots
  have HPP := Sld.mk hp
  have HC1 := Sld.mk hC1
  have HWW0 := Sld.mk hW0
  have HWW1 := Sld.mk hW1
  have HRB := Sld.mk hRB
  obtain ⟨p0, p1, _, _⟩ := HSW.out W1 (Below.refl _ _)
  have HBA := Sld.mk hbA
  unfold maxLen at hrm
  clear hW0 hW1 hb0 hb1 hk0 hk1 hkr hRB hC1 hR1 hbA hrc hc hr hp hs0 hs1 hrn
  go_enter Tryd.func36, Tryd.ntmps36
  go_wp2_with (at_builtin; refine wpList_append_src _ rfl (.tmp 5) (.tmp 7) 41 rfl B 3 i0 (.int .i64 0) 1 8 Tryd.underlying41 hi0 hz0 hz1 hz2 rfl (by decide) _ _ _ rfl HO.out ra roots.length rc (roots.map (Value.int .i64)) rfl HNN.out HL.out HSX.out H1.out (by unfold maxLen; omega) (by omega) (by have := HBL.out; simp; omega) ?_; intro v' w3 hown hg; obtain ⟨sa, sc, rfl⟩ := row_sl hown)
  have hg' : ((( w.alloc (.cells #[.slice ca cs.length cc, .slice ra roots.length rc] 56)).alloc (.cells #[.slice none 0 0, .slice none 0 0] 56)).alloc (.cells #[] 3)).grownBy w3 (some (w.heap.size + 1 + 1)) := hg
  rw [HWW0.out, HWW1.out, ← HBL.out] at hg'
  have hb3 : Below B W1 w3 := HBA.out.grown hg' (by have := HBS.out; have := HBA.out.size; omega) (fun b hb => by injection hb with hb; omega)
  obtain ⟨PB, hPB⟩ : ∃ PB, w3.heap.size = PB := ⟨_, rfl⟩
  obtain ⟨W4, hW4⟩ : ∃ W4, w3.alloc (.cells #[.slice none 0 0, .slice sa roots.length sc] 56) = W4 := ⟨_, rfl⟩
  have hb34 : Below w3.heap.size w3 W4 := by rw [← hW4]; exact (Below.refl _ _).alloc (Nat.le_refl _) _
  have hBP : B ≤ PB := by rw [← hPB]; have := hb3.size; have := HBS.out; omega
  have hpb : W4.heap[PB]? = some (.cells #[.slice none 0 0, .slice sa roots.length sc] 56 (0, 0)) := by rw [← hW4, ← hPB, Deep.blk_alloc_new]
  have hrr : OwnI w3 B (.slice sa roots.length sc) roots := by
    unfold OwnI
    rw [Nat.zero_add, List.nil_append] at hown
    exact hown
  have HM4 : Sld (CcM B PB (.slice none 0 0) [] (.slice sa roots.length sc) roots W4) := ⟨World.ownsRow_nil _ _ _ _, (fun r hr => by cases hr), hpb, hBP, hrr.below hb34⟩
  have HB4 : Sld (Below B W1 W4) := ⟨hb3.trans (hb34.mono (by rw [hPB]; exact hBP))⟩
  rw [hPB, hW4, HRE.out]
  have HBPs := Sld.mk hBP
  clear hg hg' hb3 hb34 hpb hrr hown hPB hW4 hBP p0 p1 HSX HS HO HNN HL H1
  go_loopw [4] (fun q wr => ∃ (j : Nat) (vc : Value) (R : List Ac), j ≤ cs.length ∧ q = .int .i64 j ∧ Sld (CcM B PB vc R (.slice sa roots.length sc) roots wr) ∧ Sld (Below B W1 wr) ∧ Sld (R.length = j ∧ (R.map fun r : Ac => (⟨r.2.1.map (·.1), r.2.2⟩ : Cls)) = cs.take j)) (fun q _ => cs.length - (RowKit.intOf q).toNat)
  case atStart => exact ⟨0, _, [], by omega, rfl, HM4, HB4, ⟨rfl, by simp⟩⟩
  case round =>
    clear HM4 HB4
    rename World => Y
    obtain ⟨j, vc, R, hj, rfl, HM, HB, HR⟩ := hrel
    obtain ⟨p0, p1, hkr, hbw⟩ := HSW.out Y HB.out
    obtain ⟨va, vcap, hvc, hv1, hv2⟩ := HM.out.form
    rw [HR.out.1] at hvc hv1
    subst hvc
    have hPl := lt_of_block HM.out.pb
    have q0 : Y.cell? ⟨PB, 0, none⟩ = some (.slice va j vcap) := by simp [World.cell?, HM.out.pb]
    unfold maxLen at hv2
    by_cases hlt : j < cs.length
    · obtain ⟨cb, co, na, nc, rfl, hcb, c0, c1, hNd⟩ := HC1.out.cellC hlt
      have hmem : clA cs j ∈ cs := clA_mem hlt
      have hnw := HPP.out.nodes _ hmem
      have hkw := HPP.out.kids _ hmem
      have hfw := HPP.out.few
      obtain ⟨_, hm1, hm2⟩ := hNd.bnd
      have hYB : B ≤ Y.heap.size := by have := HB.out.size; have := HBS.out; omega
      have cC : Sld (∀ V, Below Y.heap.size Y V → Calls Tryd.prog 10 #[.slice na (clA cs j).nodes.length nc] V fun e w' => ∃ a c p, e = .returned (.slice a (clA cs j).nodes.length c) ∧ OwnP w' B (.slice a (clA cs j).nodes.length c) p ∧ p.map (·.1) = (clA cs j).nodes ∧ Below Y.heap.size Y w') := ⟨fun V hV => by
        have h1 := copy_any (.slice na (clA cs j).nodes.length nc) (clA cs j).nodes V V.heap.size (Nat.le_refl _) (hNd.below (HB.out.trans (hV.mono hYB)) (by have := hV.size; omega)) (by omega) hkw
        refine h1.mono ?_
        rintro e w' ⟨v', rfl, ⟨p, hp1, hp2⟩, hb⟩
        have hpl : p.length = (clA cs j).nodes.length := by rw [← hp1, List.length_map]
        obtain ⟨a, c, e1⟩ := row_sl hp2.row
        subst e1
        rw [hpl] at hp2 ⊢
        exact ⟨a, c, p, rfl, ⟨ownsRow_mono hp2.row (by have := hV.size; omega), fun q hq => ownsRow_mono (hp2.kids q hq) (by have := hV.size; omega)⟩, hp1, hV.trans (hb.mono hV.size)⟩⟩
      have HKEEP : Sld (∀ V, Below Y.heap.size Y V → V.cell? ⟨PB, 0, none⟩ = some (.slice va j vcap) ∧ V.cell? ⟨w.heap.size, 0, none⟩ = some (.slice (some ⟨cb, co, none⟩) cs.length cc) ∧ V.cell? ⟨cb, co + j * 2, none⟩ = some (.slice na (clA cs j).nodes.length nc) ∧ V.cell? ⟨cb, co + j * 2 + 1, none⟩ = some (.int .i64 (clA cs j).size)) := ⟨fun V hV => by
        have hV1 := HB.out.trans (hV.mono hYB)
        exact ⟨(hV.cell (p := ⟨PB, 0, none⟩) hPl).trans q0, (HSW.out V hV1).1, (hV1.cell (p := ⟨cb, co + j * 2, none⟩) hcb).trans c0, (hV1.cell (p := ⟨cb, co + j * 2 + 1, none⟩) hcb).trans c1⟩⟩
      have HAFT : Sld (∀ (w5 : World) (a5 : Option Addr) (c5 : Nat) (p5 : List (Nd × Value)) (g6 cap6 : Nat) (w6 : World), OwnP w5 B (.slice a5 (clA cs j).nodes.length c5) p5 → p5.map (·.1) = (clA cs j).nodes → Below Y.heap.size Y w5 → w6.ownsRow B 106 2 (.slice (some ⟨g6, 0, none⟩) (j + 1) cap6) (j + 1) (acCells R ++ [.slice a5 (clA cs j).nodes.length c5, .int .i64 (clA cs j).size]) → (w5.alloc (.cells #[.slice a5 (clA cs j).nodes.length c5, .int .i64 (clA cs j).size] 106)).grownBy w6 (Value.slice va j vcap).ownBlock → (CcM B PB (.slice (some ⟨g6, 0, none⟩) (j + 1) cap6) (R ++ [(.slice a5 (clA cs j).nodes.length c5, p5, (clA cs j).size)]) (.slice sa roots.length sc) roots (w6.setCell ⟨PB, 0, none⟩ (.slice (some ⟨g6, 0, none⟩) (j + 1) cap6)) ∧ Below B W1 (w6.setCell ⟨PB, 0, none⟩ (.slice (some ⟨g6, 0, none⟩) (j + 1) cap6)) ∧ ((R ++ [(Value.slice a5 (clA cs j).nodes.length c5, p5, (clA cs j).size)]).map (fun r : Ac => (⟨r.2.1.map (·.1), r.2.2⟩ : Cls))) = cs.take (j + 1)) ∧ w6.cell? ⟨PB, 0, none⟩ = some (.slice va j vcap) ∧ w6.frozen? ⟨PB, 0, none⟩ = false ∧ w6.cell? ⟨w.heap.size, 0, none⟩ = some (.slice (some ⟨cb, co, none⟩) cs.length cc) ∧ w6.cell? ⟨cb, co + j * 2, none⟩ = some (.slice na (clA cs j).nodes.length nc) ∧ w6.cell? ⟨cb, co + j * 2 + 1, none⟩ = some (.int .i64 (clA cs j).size)) := ⟨fun w5 a5 c5 p5 g6 cap6 w6 h1 h2 h3 h4 h5 => by
        have hA : Below Y.heap.size Y (w5.alloc (.cells #[.slice a5 (clA cs j).nodes.length c5, .int .i64 (clA cs j).size] 106)) := h3.alloc h3.size _
        have hMA := HM.out.below hA
        have hB6 : Below B W1 w6 := (HB.out.trans (hA.mono hYB)).grown h5 (by have := hA.size; omega) (fun b hb => (rw_block HM.out.row hb).1)
        have hP := hMA.pb
        have hP6 := (h5.block PB (lt_of_block hP) (fun e => (neTy hMA.row hP (by decide) : _ ≠ some PB) e.symm)).trans hP
        refine ⟨⟨hMA.app HR.out.1 (h1.below ((Below.refl _ _).alloc (Nat.le_refl _) _)) h4 h5, hB6.setCell (p := ⟨PB, 0, none⟩) HBPs.out _, ?_⟩, by simp [World.cell?, hP6], by simp [World.frozen?, hP6], (HSW.out w6 hB6).1, (hB6.cell (p := ⟨cb, co + j * 2, none⟩) hcb).trans c0, (hB6.cell (p := ⟨cb, co + j * 2 + 1, none⟩) hcb).trans c1⟩
        rw [List.map_append, HR.out.2, List.take_add_one, List.getElem?_eq_getElem hlt]
        have e : clA cs j = cs[j] := by unfold clA; rw [List.getD_eq_getElem?_getD, List.getElem?_eq_getElem hlt]; rfl
        simp only [List.map_cons, List.map_nil, h2, e]
        rfl⟩
      have HRW : Sld (∀ w5, Below Y.heap.size Y w5 → w5.ownsRow B 106 2 (.slice va j vcap) j (acCells R)) := ⟨fun w5 h => by have := (HM.out.below h).row; rw [HR.out.1] at this; exact this⟩
      obtain ⟨k0, k1, k2, k3⟩ := HKEEP.out Y (Below.refl _ _)
      have HRl := Sld.mk HR.out.1
      have hj8 : (j + 1) * 32 ≤ 140737488355328 := by omega
      generalize (clA cs j).nodes.length = m at *
      generalize (clA cs j).size = z at *
      clear hNd hmem hnw hkw q0 c0 c1 hkr hbw HR HM p1
      go_wp2_with fail
      go_region_law (first | (refine step_append_lies _ rfl (.tmp 18) (.tmp 33) 54 rfl B 106 iC (.agg #[.slice none 0 0, .int .i64 0]) 2 32 Tryd.underlying54 hiC hc0 hc1 hc2 rfl (by decide) _ _ _ (by simp [Act.eval, Act.put]) (hrow5.alloc _) ⟨w5.heap.size, 0, none⟩ 1 1 [.slice a5 m c5, .int .i64 z] (by simp [Act.eval, Act.put]) rfl (cc_news) (by simp [Value.oneCell']) (by omega) (by unfold maxLen; omega) (by omega) (by have := hb5.size; simp; omega) _ rfl ?_; intro g6 cap6 w6 hown6 hg6 hat6 hl6; obtain ⟨haf, q0, q0f, _⟩ := HAFT.out w5 a5 c5 p5 g6 cap6 w6 ho5 hp5 hb5 hown6 hg6) | (go_simp; go_wp2_with (go_at_call 10; refine (cC.out _ (Below.refl _ _).drew).mono ?_; rintro e w5 ⟨a5, c5, p5, rfl, ho5, hp5, hb5⟩; obtain ⟨l0, l1, l2, l3⟩ := HKEEP.out w5 hb5; have hrow5 := HRW.out w5 hb5; have zl : PB < w5.heap.size := Nat.lt_of_lt_of_le hPl hb5.size; have z0 : ∀ o, (w5.alloc o).cell? ⟨PB, 0, none⟩ = some (.slice va j vcap) := fun o => (World.cell?_alloc_past _ _ _ zl).trans l0)))
      all_goals
        have HA1 := Sld.mk haf.1
        have HA2 := Sld.mk haf.2.1
        have HA3 := Sld.mk haf.2.2
        clear haf hown6 hg6 hat6 hl6 hrow5 ho5 hp5 hb5 zl z0 l0 l1 l2 l3 HAFT HKEEP HRW cC
        go_wp2_with fail
        exact ⟨⟨j + 1, _, _, by omega, by go_num, HA1, HA2, ⟨by rw [List.length_append, HRl.out]; rfl, HA3.out⟩⟩, by simp [RowKit.intOf]; omega⟩
    · have hje : j = cs.length := by omega
      have HRE2 : Sld ((R.map fun r : Ac => (⟨r.2.1.map (·.1), r.2.2⟩ : Cls)) = cs) := ⟨by have := HR.out.2; rw [hje, List.take_length] at this; exact this⟩
      subst hje
      obtain ⟨hW1s, hRB, hwB, hwR⟩ := HBS.out
      have kf : ∀ o, Y.frozen? ⟨RB, o, none⟩ = false := fun o => frozen_of_heap hkr _
      obtain ⟨k0, k1⟩ : Y.cell? ⟨RB, 0, none⟩ = some (.slice none 0 0) ∧ Y.cell? ⟨RB, 1, none⟩ = some (.slice none 0 0) := by simp [World.cell?, hkr]
      have kf0 := kf 0
      have kf1 := kf 1
      have q1 : Y.cell? ⟨PB, 1, none⟩ = some (.slice sa roots.length sc) := by simp [World.cell?, HM.out.pb]
      have hne : PB ≠ RB := by have := HBPs.out; omega
      have h1 := heap_setCell_same Y RB 0 _ _ (.slice va cs.length vcap) hkr
      have HBK : Sld (((Y.setCell ⟨RB, 0, none⟩ (.slice va cs.length vcap)).setCell ⟨RB, 1, none⟩ (.slice sa roots.length sc)).heap[RB]? = some (.cells #[.slice va cs.length vcap, .slice sa roots.length sc] 56 (0, 0))) := ⟨heap_setCell_same _ RB 1 _ _ (.slice sa roots.length sc) h1⟩
      have HMF := Sld.mk ((HM.out.setO (o := 0) (u := .slice va cs.length vcap) hkr hne).setO (o := 1) (u := .slice sa roots.length sc) h1 hne)
      have HBW : Sld (Below w.heap.size w ((Y.setCell ⟨RB, 0, none⟩ (.slice va cs.length vcap)).setCell ⟨RB, 1, none⟩ (.slice sa roots.length sc))) := ⟨(hbw.setCell (p := ⟨RB, 0, none⟩) hwR _).setCell (p := ⟨RB, 1, none⟩) hwR _⟩
      clear hkr kf hbw HM h1
      go_wp2_with fail
      have hbk := HBK.out
      refine bodyPost_ret (v := .agg #[.slice va cs.length vcap, .slice sa roots.length sc]) ?_ rfl ⟨⟨va, vcap, sa, sc, rfl, ?_, ?_⟩, HBW.out⟩
      · exact results_cell_row rfl _ _ RB _ _ _ _ rfl hbk Tryd.underlying56 rfl (by kernel_rfl)
      · have := HMF.out.clss; rw [HRE2.out] at this; exact this
      · exact Ints_of_own HMF.out.rr (Nat.le_refl _)
end Go.Proofs.YtlbmijcpalfaeaaDoor

set_option linter.unusedSimpArgs false
set_option linter.unusedVariables false
namespace Go.Proofs.YtlbmijcpalfaeaaDoor
open Go.RowKit Go.Lib

/-- The marks behind a list of numbers, and behind a list of nodes. -/
def spL (k : Nat) : List Int := (List.range k).map fun (j : Nat) => 7000 + (j : Int)
theorem spL_succ (k : Nat) : spL (k + 1) = spL k ++ [7000 + (k : Int)] := by simp [spL, List.range_succ]
theorem spL_len (k : Nat) : (spL k).length = k := by simp [spL]
def exL (k : Nat) : List Nd := (List.range k).map fun (j : Nat) => ⟨7000 + (j : Int), 0, ⟨#[]⟩, []⟩
theorem exL_succ (k : Nat) : exL (k + 1) = exL k ++ [⟨7000 + (k : Int), 0, ⟨#[]⟩, []⟩] := by simp [exL, List.range_succ]
theorem exL_len (k : Nat) : (exL k).length = k := by simp [exL]

/-- Within the reach, with the marks. -/
structure FitR (l : List Nd) : Prop where
  len : l.length * 56 ≤ 140737488351232
  kids : ∀ x ∈ l, x.kids.length * 8 ≤ 140737488351232
  name : ∀ x ∈ l, x.name.size ≤ maxLen
theorem FitR.fit {l : List Nd} (h : FitR l) : Fit l := ⟨by have := h.len; omega, fun x hx => by have := h.kids x hx; omega, h.name⟩

theorem rm_block {w : World} {base : Nat} {e : TypeId} {s n : Nat} {v : Value} {xs : List Value} (h : w.ownsRow base e s v n xs) : ∀ b, v.ownBlock = some b → base ≤ b ∧ b < w.heap.size := by
  intro b hb
  rcases h.2 with ⟨rfl, _⟩ | ⟨g, cap, cur, rfl, h1, h2, _⟩
  · cases hb
  · simp [Value.ownBlock] at hb; subst hb; exact ⟨h1, lt_of_block h2⟩
theorem rm_same {w w' : World} {base : Nat} {e : TypeId} {s n : Nat} {v : Value} {xs : List Value} (h : w.ownsRow base e s v n xs) (hb : ∀ b, v.ownBlock = some b → w'.heap[b]? = w.heap[b]?) : w'.ownsRow base e s v n xs := by
  rcases h with ⟨h1, h2⟩
  refine ⟨h1, ?_⟩
  rcases h2 with h2 | ⟨g, cap, cur, rfl, hg, h3, r⟩
  · exact .inl h2
  · exact .inr ⟨g, cap, cur, rfl, hg, (hb g rfl).trans h3, r⟩
theorem rm_form {w : World} {base : Nat} {e : TypeId} {s n : Nat} {v : Value} {xs : List Value} (h : w.ownsRow base e s v n xs) : ∃ ao cap, v = .slice ao n cap := by
  rcases h.2 with ⟨rfl, h0⟩ | ⟨g', cap', cur, rfl, _⟩
  · exact ⟨none, 0, by rw [h0]⟩
  · exact ⟨_, _, rfl⟩
/-- A row is no block of another type. -/
theorem rm_ne {w : World} {base M : Nat} {e T : TypeId} {s n : Nat} {v : Value} {xs : List Value} {c : Array Value} (h : w.ownsRow base e s v n xs) (hb : w.heap[M]? = some (.cells c T (0, 0))) (hne : e ≠ T) : v.ownBlock ≠ some M := by
  intro hv
  rcases h.2 with ⟨rfl, _⟩ | ⟨g, cap, cur, rfl, _, h2, _⟩
  · cases hv
  · simp [Value.ownBlock] at hv; subst hv; rw [hb] at h2; simp at h2; exact hne h2.2.symm
/-- The first part of a row. -/
theorem rm_cut {w : World} {base g cap : Nat} {ks ms : List Int} (h : OwnI w base (.slice (some ⟨g, 0, none⟩) (ks ++ ms).length cap) (ks ++ ms)) : OwnI w base (.slice (some ⟨g, 0, none⟩) ks.length cap) ks := by
  obtain ⟨h1, h2⟩ := h
  refine ⟨by simp, ?_⟩
  rcases h2 with ⟨h2, _⟩ | ⟨g', cap', cur, h3, hb, hg, hn, hm, hs, ht⟩
  · cases h2
  · cases h3
    refine .inr ⟨g, cap, cur, rfl, hb, hg, by simp at hn; omega, hm, hs, ?_⟩
    have e : cur.toList.take (ks.length * 1) = (cur.toList.take ((ks ++ ms).length * 1)).take ks.length := by
      rw [List.take_take]; congr 1; simp
    rw [e, ht]
    simp

/-- In Roomy's first loop; the room's block is the first behind wC. -/
structure RMid (wC : World) (l : List Nd) (k : Nat) (vw vf vk : Value) (p : List (Nd × Value)) (ks : List Value) (wr : World) : Prop where
  blk : wr.heap[wC.heap.size]? = some (.cells #[vw, vf, vk] 120 (0, 0))
  full : OwnP wr (wC.heap.size + 1) vf p
  nodes : p.map (·.1) = l.take k
  klist : wr.ownsRow (wC.heap.size + 1) 41 1 vk k ks
  kids : ∀ i, i < k → OwnI wr (wC.heap.size + 1) (ks.getD i (.slice none 0 0)) ((l.getD i nd0).kids ++ spL 7)
  bel : Below wC.heap.size wC wr
  ap : KdAp p

theorem RMid.below {wC wr w' : World} {l : List Nd} {k : Nat} {vw vf vk : Value} {p : List (Nd × Value)} {ks : List Value} (h : RMid wC l k vw vf vk p ks wr) (hb : Below wr.heap.size wr w') : RMid wC l k vw vf vk p ks w' :=
  ⟨(hb.block _ (lt_of_block h.blk)).trans h.blk, h.full.below hb, h.nodes, ownsRow_below h.klist hb, fun i hi => (h.kids i hi).below hb, h.bel.trans (hb.mono h.bel.size), h.ap⟩

/-- One list of numbers more. -/
theorem RMid.addKids {wC wr w1 : World} {l : List Nd} {k : Nat} {vw vf vk vk' v : Value} {p : List (Nd × Value)} {ks : List Value} {o : Obj}
    (h : RMid wC l k vw vf vk p ks wr) (hv : OwnI wr (wC.heap.size + 1) v ((l.getD k nd0).kids ++ spL 7)) (hlen : ks.length = k)
    (hown : w1.ownsRow (wC.heap.size + 1) 41 1 vk' (k + 1) (ks ++ [v])) (hg : (wr.alloc o).grownBy w1 vk.ownBlock) :
    (w1.setCell ⟨wC.heap.size, 2, none⟩ vk').heap[wC.heap.size]? = some (.cells #[vw, vf, vk'] 120 (0, 0)) ∧
    OwnP (w1.setCell ⟨wC.heap.size, 2, none⟩ vk') (wC.heap.size + 1) vf p ∧
    (w1.setCell ⟨wC.heap.size, 2, none⟩ vk').ownsRow (wC.heap.size + 1) 41 1 vk' (k + 1) (ks ++ [v]) ∧
    (∀ i, i < k + 1 → OwnI (w1.setCell ⟨wC.heap.size, 2, none⟩ vk') (wC.heap.size + 1) ((ks ++ [v]).getD i (.slice none 0 0)) ((l.getD i nd0).kids ++ spL 7)) ∧
    Below wC.heap.size wC (w1.setCell ⟨wC.heap.size, 2, none⟩ vk') ∧
    (∀ b, b < wr.heap.size → b ≠ wC.heap.size → vk.ownBlock ≠ some b → (w1.setCell ⟨wC.heap.size, 2, none⟩ vk').heap[b]? = wr.heap[b]?) := by
  have hR := lt_of_block h.blk
  have keep : ∀ b, b < wr.heap.size → b ≠ wC.heap.size → vk.ownBlock ≠ some b → (w1.setCell ⟨wC.heap.size, 2, none⟩ vk').heap[b]? = wr.heap[b]? := fun b hb h1 h2 => by
    rw [Deep.blk_setCell_other _ _ _ _ h1, hg.block b (by rw [World.size_alloc]; omega) (fun e => h2 e.symm)]
    exact Deep.blk_alloc_lt _ _ _ hb
  have hneT : ∀ {e : TypeId} {s n : Nat} {v : Value} {xs : List Value}, wr.ownsRow (wC.heap.size + 1) e s v n xs → e ≠ 41 → (w1.setCell ⟨wC.heap.size, 2, none⟩ vk').ownsRow (wC.heap.size + 1) e s v n xs := fun hr hne => by
    refine rm_same hr fun b hb => keep b (rm_block hr b hb).2 (by have := (rm_block hr b hb).1; omega) (fun e => ?_)
    rcases ownBlock_ne hr h.klist hne with h1 | h1
    · rw [h1] at hb; cases hb
    · exact h1 (hb.trans e.symm)
  have hb1 : w1.heap[wC.heap.size]? = wr.heap[wC.heap.size]? := by
    rw [hg.block wC.heap.size (by rw [World.size_alloc]; omega) (fun e => by have := (rm_block h.klist _ e.symm).1; omega)]
    exact Deep.blk_alloc_lt _ _ _ hR
  refine ⟨?_, ⟨hneT h.full.row (by decide), fun q hq => hneT (h.full.kids q hq) (by decide)⟩, ?_, fun i hi => ?_, ?_, keep⟩
  · have := heap_setCell_same w1 wC.heap.size 2 _ _ vk' (hb1.trans h.blk)
    simpa using this
  · refine rm_same hown fun b hb => Deep.blk_setCell_other _ _ _ _ ?_
    have := (rm_block hown b hb).1
    show b ≠ wC.heap.size
    omega
  · by_cases hlt : i < k
    · have e1 : (ks ++ [v]).getD i (.slice none 0 0) = ks.getD i (.slice none 0 0) := by simp only [List.getD_eq_getElem?_getD]; rw [List.getElem?_append_left (by omega)]
      rw [e1]
      exact hneT (h.kids i hlt) (by decide)
    · have he : i = k := by omega
      subst he
      have e1 : (ks ++ [v]).getD i (.slice none 0 0) = v := by rw [← hlen]; simp
      rw [e1]
      exact hneT hv (by decide)
  · have hb2 : Below wC.heap.size wC w1 := (h.bel.alloc (by omega) _).grown hg (by rw [World.size_alloc]; omega) (fun b hb => by have := (rm_block h.klist b hb).1; omega)
    exact hb2.setCell (Nat.le_refl _) _

theorem ownP_same {w w' : World} {base R : Nat} {v : Value} {p : List (Nd × Value)} {u : Value} {o : Nat} (h : OwnP w base v p) (hR : R < base) (hw : w' = w.setCell ⟨R, o, none⟩ u) : OwnP w' base v p := by
  subst hw
  exact ⟨rm_same h.row fun b hb => Deep.blk_setCell_other _ _ _ _ (by have := (rm_block h.row b hb).1; show b ≠ R; omega), fun q hq => rm_same (h.kids q hq) fun b hb => Deep.blk_setCell_other _ _ _ _ (by have := (rm_block (h.kids q hq) b hb).1; show b ≠ R; omega)⟩

/-- One node more. -/
theorem RMid.addNode {wC w6 w7 : World} {l : List Nd} {k : Nat} {vw vf vf' vk kv : Value} {p : List (Nd × Value)} {ks : List Value} {o : Obj} {x : Nd}
    (blk : w6.heap[wC.heap.size]? = some (.cells #[vw, vf, vk] 120 (0, 0))) (full : OwnP w6 (wC.heap.size + 1) vf p) (nodes : p.map (·.1) = l.take k) (hk : k < l.length) (hx : l.getD k nd0 = x)
    (klist : w6.ownsRow (wC.heap.size + 1) 41 1 vk (k + 1) ks) (kids : ∀ i, i < k + 1 → OwnI w6 (wC.heap.size + 1) (ks.getD i (.slice none 0 0)) ((l.getD i nd0).kids ++ spL 7)) (bel : Below wC.heap.size wC w6) (hap : KdAp (p ++ [(x, kv)]))
    (hkv : OwnI w6 (wC.heap.size + 1) kv x.kids) (hown : w7.ownsRow (wC.heap.size + 1) 43 4 vf' (p.length + 1) (ndCells p ++ [.int .i64 x.op, .int .i64 x.n, .string x.name, kv])) (hg : (w6.alloc o).drew.grownBy w7 vf.ownBlock) :
    RMid wC l (k + 1) vw vf' vk (p ++ [(x, kv)]) ks (w7.setCell ⟨wC.heap.size, 1, none⟩ vf') := by
  have hR := lt_of_block blk
  have b0 : Below w6.heap.size w6 (w6.alloc o).drew := ((Below.refl _ _).alloc (Nat.le_refl _) _).drew
  have full0 := full.below b0
  have hf7 := OwnP.snoc full0 (x := x) (hkv.below b0) hown hg
  have hneT : ∀ {e : TypeId} {s n : Nat} {v : Value} {xs : List Value}, w6.ownsRow (wC.heap.size + 1) e s v n xs → e ≠ 43 → (w7.setCell ⟨wC.heap.size, 1, none⟩ vf').ownsRow (wC.heap.size + 1) e s v n xs := fun hr hne => by
    have h1 := World.ownsRow.kept (ownsRow_below hr b0) hg (ownBlock_ne (ownsRow_below hr b0) full0.row hne)
    refine rm_same h1 fun b hb => Deep.blk_setCell_other _ _ _ _ ?_
    have := (rm_block h1 b hb).1
    show b ≠ wC.heap.size
    omega
  have hs0 : (w6.alloc o).drew.heap.size = w6.heap.size + 1 := World.size_alloc _ _
  have hb7 : w7.heap[wC.heap.size]? = w6.heap[wC.heap.size]? := by
    rw [hg.block wC.heap.size (by omega) (fun e => by have := (rm_block full.row _ e.symm).1; omega)]
    exact Deep.blk_alloc_lt _ _ _ hR
  refine ⟨?_, ownP_same hf7 (by omega) rfl, ?_, hneT klist (by decide), fun i hi => hneT (kids i hi) (by decide), ?_, hap⟩
  · have := heap_setCell_same w7 wC.heap.size 1 _ _ vf' (hb7.trans blk)
    simpa using this
  · have e : l.take (k + 1) = l.take k ++ [l.getD k nd0] := by rw [List.take_succ_eq_append_getElem hk]; simp [hk]
    rw [e, List.map_append, nodes, hx]; rfl
  · have hb2 : Below wC.heap.size wC w7 := (bel.trans (b0.mono bel.size)).grown hg (by rw [hs0]; have := bel.size; omega) (fun b hb => by have := (rm_block full.row b hb).1; omega)
    exact hb2.setCell (Nat.le_refl _) _
end Go.Proofs.YtlbmijcpalfaeaaDoor

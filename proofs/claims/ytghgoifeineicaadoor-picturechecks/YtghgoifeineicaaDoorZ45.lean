/-
  PgF, PgG.
-/
import Derived.Shelf.Unicode.DecodeSlow
import Derived.Laws.RangeAny
import Derived.Shelf.Strconv.Itoa0
import Derived.Shelf.LaysM
import Derived.Shelf.Strconv.Clone
import Derived.Shelf.Unicode.DecodeAny
import Derived.Shelf.Slices.CompactS
import Derived.Test.YtghgoifeineicaaDoorProg
import Derived.WalkKit
import Derived.Deep.DeepFit
import Derived.Lib.OthersKept
import Derived.Lib.RuneCountTail
import Derived.Deep.AppendLies
import Derived.Deep.OwnRows
import Derived.Laws.AppendOwnNone
import Derived.Deep.QuietTactic
import Derived.BigQuiet
import Derived.Deep.RegionWith
import Derived.Laws.DeepStrings4
import Derived.Below
import Derived.Lib.MapLaws
import Derived.Sort.Walk0
import Derived.Lib.QuietBelow
import Derived.StillTail
import Derived.Deep.RegionHeld3
import Derived.Laws.AppendOwn
import Derived.Deep.DeepCutAuto
import Derived.Maps.OwnSet
import Derived.Maps.Keyed
import Derived.DeepKeys4
import Derived.Laws.ResultCell
import Derived.Laws.CopyOwn
import Derived.Laws.OwnMore
import Derived.Deep.RegionLaw
import Derived.Laws.IdiomStrings
import Derived.WalkSmall
import Derived.Lib.SlBytesRow
import Derived.StringKeys
import Derived.Laws.Rows
import Derived.Test.YtghgoifeineicaaDoorZ01
import Derived.Test.YtghgoifeineicaaDoorZ02
import Derived.Test.YtghgoifeineicaaDoorZ03
import Derived.Test.YtghgoifeineicaaDoorZ04
import Derived.Test.YtghgoifeineicaaDoorZ05
import Derived.Test.YtghgoifeineicaaDoorZ06
import Derived.Test.YtghgoifeineicaaDoorZ07
import Derived.Test.YtghgoifeineicaaDoorZ08
import Derived.Test.YtghgoifeineicaaDoorZ09
import Derived.Test.YtghgoifeineicaaDoorZ10
import Derived.Test.YtghgoifeineicaaDoorZ11
import Derived.Test.YtghgoifeineicaaDoorZ12
import Derived.Test.YtghgoifeineicaaDoorZ13
import Derived.Test.YtghgoifeineicaaDoorZ14
import Derived.Test.YtghgoifeineicaaDoorZ15
import Derived.Test.YtghgoifeineicaaDoorZ16
import Derived.Test.YtghgoifeineicaaDoorZ17
import Derived.Test.YtghgoifeineicaaDoorZ29
import Derived.Test.YtghgoifeineicaaDoorZ30
import Derived.Test.YtghgoifeineicaaDoorZ31
import Derived.Test.YtghgoifeineicaaDoorZ32
import Derived.Test.YtghgoifeineicaaDoorZ33
import Derived.Test.YtghgoifeineicaaDoorZ34
import Derived.Test.YtghgoifeineicaaDoorZ35
import Derived.Test.YtghgoifeineicaaDoorZ36
import Derived.Test.YtghgoifeineicaaDoorZ37
import Derived.Test.YtghgoifeineicaaDoorZ38
import Derived.Test.YtghgoifeineicaaDoorZ39
import Derived.Test.YtghgoifeineicaaDoorZ40
import Derived.Test.YtghgoifeineicaaDoorZA1
import Derived.Test.YtghgoifeineicaaDoorZA4
set_option linter.unusedSimpArgs false
set_option linter.unusedVariables false
namespace Go.Proofs.YtghgoifeineicaaDoor
open Go.RowKit Go.Lib Go.Sort

/-- A copy of a picture in the making. -/
structure CcM (B PB : Nat) (vc : Value) (R : List Ac) (rv : Value) (rs : List Int) (w : World) : Prop where
  row : w.ownsRow B 93 2 vc R.length (acCells R)
  own : ∀ r ∈ R, OwnP w B r.1 r.2.1
  pb : w.heap[PB]? = some (.cells #[vc, rv] 56 (0, 0))
  pbB : B ≤ PB
  rr : OwnI w B rv rs
theorem CcM.below {B PB : Nat} {vc rv : Value} {R : List Ac} {rs : List Int} {w w2 : World} (h : CcM B PB vc R rv rs w) (hb : Below w.heap.size w w2) : CcM B PB vc R rv rs w2 :=
  ⟨ownsRow_below h.row hb, fun r hr => (h.own r hr).below hb, (hb.block _ (lt_of_block h.pb)).trans h.pb, h.pbB, h.rr.below hb⟩
theorem acCells_snoc (l : List Ac) (a : Ac) : acCells (l ++ [a]) = acCells l ++ [a.1, .int .i64 a.2.2] := by
  induction l with
  | nil => rfl
  | cons b r ih => simp [acCells, ih]
theorem CcM.app {B PB n g cap : Nat} {vc rv v' : Value} {R : List Ac} {rs : List Int} {p : List (Nd × Value)} {z : Int} {w w6 : World} (h : CcM B PB vc R rv rs w) (hn : R.length = n) (hv : OwnP w B v' p) (hown : w6.ownsRow B 93 2 (.slice (some ⟨g, 0, none⟩) (n + 1) cap) (n + 1) (acCells R ++ [v', .int .i64 z])) (hg : w.grownBy w6 vc.ownBlock) : CcM B PB (.slice (some ⟨g, 0, none⟩) (n + 1) cap) (R ++ [(v', p, z)]) rv rs (w6.setCell ⟨PB, 0, none⟩ (.slice (some ⟨g, 0, none⟩) (n + 1) cap)) := by
  have hP : vc.ownBlock ≠ some PB := neTy h.row h.pb (by decide)
  have hpb6 : w6.heap[PB]? = some (.cells #[vc, rv] 56 (0, 0)) := (hg.block PB (lt_of_block h.pb) (fun e => hP e.symm)).trans h.pb
  have hk : ∀ {v : Value} {q : List (Nd × Value)}, OwnP w B v q → OwnP w6 B v q := fun ho => ⟨World.ownsRow.kept ho.row hg (ownBlock_ne ho.row h.row (by decide)), fun r hr => World.ownsRow.kept (ho.kids r hr) hg (ownBlock_ne (ho.kids r hr) h.row (by decide))⟩
  have hrr : OwnI w6 B rv rs := World.ownsRow.kept h.rr hg (ownBlock_ne h.rr h.row (by decide))
  refine ⟨?_, fun r hr => ?_, ?_, h.pbB, ownSetO hrr (neTy hrr hpb6 (by decide))⟩
  · rw [acCells_snoc, List.length_append, hn]
    exact ownSetO hown (neTy hown hpb6 (by decide))
  · rw [List.mem_append, List.mem_singleton] at hr
    rcases hr with hr | rfl
    · exact ownPset (hk (h.own r hr)) hpb6 (by decide) (by decide)
    · exact ownPset (hk hv) hpb6 (by decide) (by decide)
  · have := heap_setCell_same w6 PB 0 _ _ (.slice (some ⟨g, 0, none⟩) (n + 1) cap) hpb6
    rw [this]; rfl
theorem CcM.setO {B PB : Nat} {vc rv : Value} {R : List Ac} {rs : List Int} {w : World} (h : CcM B PB vc R rv rs w) {b o : Nat} {u : Value} {cs : Array Value} {fr : Nat × Nat} (hb : w.heap[b]? = some (.cells cs 56 fr)) (hne : PB ≠ b) : CcM B PB vc R rv rs (w.setCell ⟨b, o, none⟩ u) :=
  ⟨ownSetO h.row (neTy h.row hb (by decide)), fun r hr => ownPset (h.own r hr) hb (by decide) (by decide), (Deep.blk_setCell_other _ _ _ _ (by show PB ≠ b; exact hne)).trans h.pb, h.pbB, ownSetO h.rr (neTy h.rr hb (by decide))⟩
theorem CcM.form {B PB : Nat} {vc rv : Value} {R : List Ac} {rs : List Int} {w : World} (h : CcM B PB vc R rv rs w) : ∃ a c, vc = .slice a R.length c ∧ R.length ≤ c ∧ c ≤ maxLen := by
  rcases h.row.2 with ⟨e, e2⟩ | ⟨g, cap, cur, e, hb, hg, h1, h2, _⟩
  · exact ⟨none, 0, by rw [e2]; exact e, by omega, by unfold maxLen; omega⟩
  · exact ⟨_, _, e, h1, h2⟩
theorem CcM.clss {B PB : Nat} {vc rv : Value} {R : List Ac} {rs : List Int} {w : World} (h : CcM B PB vc R rv rs w) : Clss w w.heap.size vc (R.map fun r => ⟨r.2.1.map (·.1), r.2.2⟩) := by
  obtain ⟨a, c, hv, hl, hm⟩ := h.form
  refine ⟨a, c, by rw [List.length_map]; exact hv, by rw [List.length_map]; exact hl, hm, ?_⟩
  rcases h.row.2 with ⟨_, e2⟩ | ⟨g, cap, cur, e, hb, hg, h1, h2, _⟩
  · left
    rw [List.length_eq_zero_iff.1 e2]; rfl
  · right
    rw [hv] at e
    injection e with e3 _ _
    refine ⟨g, 0, e3, lt_of_block hg, fun i hi => ?_⟩
    rw [List.length_map] at hi
    obtain ⟨a0, a1⟩ := acCells_at R i hi
    have hr := rdr_own h.row
    have hmem : R.getD i ac0 ∈ R := by rw [List.getD_eq_getElem?_getD, List.getElem?_eq_getElem hi]; exact List.getElem_mem _
    have ho := h.own _ hmem
    have e : (R.map fun r : Ac => (⟨r.2.1.map (·.1), r.2.2⟩ : Cls)).getD i cls0 = ⟨(R.getD i ac0).2.1.map (·.1), (R.getD i ac0).2.2⟩ := by
      simp only [List.getD_eq_getElem?_getD, List.getElem?_map]
      rw [List.getElem?_eq_getElem hi]; rfl
    rw [e, Nat.zero_add]
    obtain ⟨na, nc, e2, hN⟩ : ∃ na nc, (R.getD i ac0).1 = .slice na ((R.getD i ac0).2.1.map (·.1)).length nc ∧ Nodes w w.heap.size (.slice na ((R.getD i ac0).2.1.map (·.1)).length nc) ((R.getD i ac0).2.1.map (·.1)) := by
      have := Nodes_of_own (w := w) (base := B) (v := (R.getD i ac0).1) (l := (R.getD i ac0).2.1.map (·.1)) ⟨_, rfl, ho⟩ (Nat.le_refl _)
      obtain ⟨ao, cap, e, _⟩ := id this
      exact ⟨ao, cap, e, by rw [← e]; exact this⟩
    have hob : vc.ownBlock = some g := by rw [hv, e3]; rfl
    refine ⟨na, nc, ?_, hr.cell (b := g) hob a1, hN⟩
    rw [← e2]
    exact hr.cell (b := g) hob a0
end Go.Proofs.YtghgoifeineicaaDoor


set_option linter.unusedSimpArgs false
set_option linter.unusedVariables false
namespace Go.Proofs.YtghgoifeineicaaDoor
open Go.RowKit Go.Lib Go.Sort

theorem cc_news {w : World} {a b : Value} {T : TypeId} : ∀ j v, [a, b][j]? = some v → (w.alloc (.cells #[a, b] T)).cell? ((⟨w.heap.size, 0, none⟩ : Addr).add j) = some v := fun j v h => by
  have hb : (w.alloc (.cells #[a, b] T)).heap[w.heap.size]? = some (.cells #[a, b] T (0, 0)) := by rw [Deep.blk_alloc_new]
  exact World.news_of_block hb j v (by simpa using h)
theorem row_sl {w : World} {base : Nat} {e : TypeId} {s n : Nat} {v : Value} {xs : List Value} (h : w.ownsRow base e s v n xs) : ∃ a c, v = .slice a n c := by
  rcases h.2 with ⟨rfl, rfl⟩ | ⟨g, cap, cur, rfl, _⟩
  · exact ⟨_, _, rfl⟩
  · exact ⟨_, _, rfl⟩
set_option maxRecDepth 20000 in
set_option maxHeartbeats 16000000 in
theorem copyP_any (cs : List Cls) (roots : List Int) (ca ra : Option Addr) (cc rc : Nat) (w : World) (hc : Clss w w.heap.size (.slice ca cs.length cc) cs) (hr : Ints w w.heap.size (.slice ra roots.length rc) roots) (hp : PicOk cs roots) :
    Calls Tryd.prog 35 #[.agg #[.slice ca cs.length cc, .slice ra roots.length rc]] w fun e w' => (∃ ca' cc' ra' rc', e = .returned (.agg #[.slice ca' cs.length cc', .slice ra' roots.length rc']) ∧ Clss w' w'.heap.size (.slice ca' cs.length cc') cs ∧ Ints w' w'.heap.size (.slice ra' roots.length rc') roots) ∧ Below w.heap.size w w' := by
  obtain ⟨i0, hi0, hz0, hz1, hz2⟩ := info_parts Tryd.infoI3
  obtain ⟨iC, hiC, hc0, hc1, hc2⟩ := info_parts Tryd.infoCls
  obtain ⟨W0, hW0⟩ : ∃ W0, w.alloc (.cells #[.slice ca cs.length cc, .slice ra roots.length rc] 56) = W0 := ⟨_, rfl⟩
  obtain ⟨W1, hW1⟩ : ∃ W1, W0.alloc (.cells #[.slice none 0 0, .slice none 0 0] 56) = W1 := ⟨_, rfl⟩
  have hs0 : W0.heap.size = w.heap.size + 1 := by rw [← hW0]; simp
  have hs1 : W1.heap.size = w.heap.size + 2 := by rw [← hW1]; simp [hs0]
  have hb0 : Below w.heap.size w W0 := by rw [← hW0]; exact (Below.refl _ _).alloc (Nat.le_refl _) _
  have hb1 : Below w.heap.size w W1 := by rw [← hW1]; exact hb0.alloc (by omega) _
  have hk0 : W0.heap[w.heap.size]? = some (.cells #[.slice ca cs.length cc, .slice ra roots.length rc] 56 (0, 0)) := by rw [← hW0, Deep.blk_alloc_new]
  have hk1 : W1.heap[w.heap.size]? = some (.cells #[.slice ca cs.length cc, .slice ra roots.length rc] 56 (0, 0)) := by rw [← hW1, Deep.blk_alloc_lt _ _ _ (by omega)]; exact hk0
  have hkr : W1.heap[W0.heap.size]? = some (.cells #[.slice none 0 0, .slice none 0 0] 56 (0, 0)) := by rw [← hW1, Deep.blk_alloc_new]
  obtain ⟨RB, hRB⟩ : ∃ RB, W0.heap.size = RB := ⟨_, rfl⟩
  obtain ⟨B, hB⟩ : ∃ B, W1.heap.size = B := ⟨_, rfl⟩
  rw [hRB] at hkr
  have hC1 := hc.below hb1 hb1.size
  have hR1 := hr.below hb1 hb1.size
  rw [hB] at hC1 hR1
  have HSW : Sld (∀ V, Below B W1 V → V.cell? ⟨w.heap.size, 0, none⟩ = some (.slice ca cs.length cc) ∧ V.cell? ⟨w.heap.size, 1, none⟩ = some (.slice ra roots.length rc) ∧ V.heap[RB]? = some (.cells #[.slice none 0 0, .slice none 0 0] 56 (0, 0)) ∧ Below w.heap.size w V) := ⟨fun V hV => by
    have h1 := (hV.block _ (by omega)).trans hk1
    exact ⟨by simp [World.cell?, h1], by simp [World.cell?, h1], (hV.block _ (by omega)).trans hkr, hb1.trans (hV.mono (by omega))⟩⟩
  have HBS : Sld (W1.heap.size = B ∧ RB < B ∧ w.heap.size < B ∧ w.heap.size ≤ RB) := ⟨hB, by omega, by omega, by omega⟩
  -- the roots
  have hbA : Below B W1 (W1.alloc (.cells #[] 3)) := by rw [← hB]; exact (Below.refl _ _).alloc (Nat.le_refl _) _
  obtain ⟨ao, cap, eh, hrl, ⟨hrm, hrn⟩, hrc⟩ := id hR1
  injection eh with e1 _ e2
  subst e1; subst e2
  have HS : Sld (∀ ad, ra = some ad → ∀ j u, (roots.map (Value.int .i64))[j]? = some u → (W1.alloc (.cells #[] 3)).cell? (ad.add j) = some u) := ⟨src_cells hrc hbA⟩
  have HO : Sld (((( w.alloc (.cells #[.slice ca cs.length cc, .slice ra roots.length rc] 56)).alloc (.cells #[.slice none 0 0, .slice none 0 0] 56)).alloc (.cells #[] 3)).ownsRow B 3 1 (.slice (some ⟨w.heap.size + 1 + 1, 0, none⟩) 0 0) 0 []) := ⟨by
    rw [hW0, hW1, show w.heap.size + 1 + 1 = W1.heap.size by omega]
    exact World.ownsRow_made W1 #[] 0 (by omega) (Nat.zero_le _) (by simp)⟩
  have HSX : Sld (∀ ad, ra = some ad → ∀ j u, (roots.map (Value.int .i64))[j]? = some u → ((( w.alloc (.cells #[.slice ca cs.length cc, .slice ra roots.length rc] 56)).alloc (.cells #[.slice none 0 0, .slice none 0 0] 56)).alloc (.cells #[] 3)).cell? (ad.add j) = some u) := ⟨by rw [hW0, hW1]; exact HS.out⟩
  have HBL : Sld (B = w.heap.size + 1 + 1) := ⟨by omega⟩
  have HRE : Sld (w.heap.size + 1 = RB) := ⟨by omega⟩
  have HL : Sld ((roots.map (Value.int .i64)).length = roots.length * 1) := ⟨by simp⟩
  have H1 : Sld (∀ u ∈ roots.map (Value.int .i64), u.oneCell' = true) := ⟨fun u hu => by
    obtain ⟨x, _, rfl⟩ := List.mem_map.1 hu; rfl⟩
  have HNN : Sld (ra = none → roots.length = 0 ∧ rc = 0) := ⟨fun h => by have := hrn h; omega⟩
  have hrw := hp.roots
  have HPP := Sld.mk hp
  have HC1 := Sld.mk hC1
  have HWW0 := Sld.mk hW0
  have HWW1 := Sld.mk hW1
  have HRB := Sld.mk hRB
  obtain ⟨p0, p1, _, _⟩ := HSW.out W1 (Below.refl _ _)
  have HBA := Sld.mk hbA
  unfold maxLen at hrm
  clear hW0 hW1 hb0 hb1 hk0 hk1 hkr hRB hC1 hR1 hbA hrc hc hr hp hs0 hs1 hrn
  go_enter Tryd.func35, Tryd.ntmps35
  go_wp2_with (at_builtin; refine wpList_append_src _ rfl (.tmp 5) (.tmp 7) 41 rfl B 3 i0 (.int .i64 0) 1 8 Tryd.underlying41 hi0 hz0 hz1 hz2 rfl (by decide) _ _ _ rfl HO.out ra roots.length rc (roots.map (Value.int .i64)) rfl HNN.out HL.out HSX.out H1.out (by unfold maxLen; omega) (by omega) (by have := HBL.out; simp; omega) ?_; intro v' w3 hown hg; obtain ⟨sa, sc, rfl⟩ := row_sl hown)
  have hg' : ((( w.alloc (.cells #[.slice ca cs.length cc, .slice ra roots.length rc] 56)).alloc (.cells #[.slice none 0 0, .slice none 0 0] 56)).alloc (.cells #[] 3)).grownBy w3 (some (w.heap.size + 1 + 1)) := hg
  rw [HWW0.out, HWW1.out, ← HBL.out] at hg'
  have hb3 : Below B W1 w3 := HBA.out.grown hg' (by have := HBS.out; have := HBA.out.size; omega) (fun b hb => by injection hb with hb; omega)
  obtain ⟨PB, hPB⟩ : ∃ PB, w3.heap.size = PB := ⟨_, rfl⟩
  obtain ⟨W4, hW4⟩ : ∃ W4, w3.alloc (.cells #[.slice none 0 0, .slice sa roots.length sc] 56) = W4 := ⟨_, rfl⟩
  have hb34 : Below w3.heap.size w3 W4 := by rw [← hW4]; exact (Below.refl _ _).alloc (Nat.le_refl _) _
  have hBP : B ≤ PB := by rw [← hPB]; have := hb3.size; have := HBS.out; omega
  have hpb : W4.heap[PB]? = some (.cells #[.slice none 0 0, .slice sa roots.length sc] 56 (0, 0)) := by rw [← hW4, ← hPB, Deep.blk_alloc_new]
  have hrr : OwnI w3 B (.slice sa roots.length sc) roots := by
    unfold OwnI
    rw [Nat.zero_add, List.nil_append] at hown
    exact hown
  have HM4 : Sld (CcM B PB (.slice none 0 0) [] (.slice sa roots.length sc) roots W4) := ⟨World.ownsRow_nil _ _ _ _, (fun r hr => by cases hr), hpb, hBP, hrr.below hb34⟩
  have HB4 : Sld (Below B W1 W4) := ⟨hb3.trans (hb34.mono (by rw [hPB]; exact hBP))⟩
  rw [hPB, hW4, HRE.out]
  have HBPs := Sld.mk hBP
  clear hg hg' hb3 hb34 hpb hrr hown hPB hW4 hBP p0 p1 HSX HS HO HNN HL H1
  go_loopw [4] (fun q wr => ∃ (j : Nat) (vc : Value) (R : List Ac), j ≤ cs.length ∧ q = .int .i64 j ∧ Sld (CcM B PB vc R (.slice sa roots.length sc) roots wr) ∧ Sld (Below B W1 wr) ∧ Sld (R.length = j ∧ (R.map fun r : Ac => (⟨r.2.1.map (·.1), r.2.2⟩ : Cls)) = cs.take j)) (fun q _ => cs.length - (RowKit.intOf q).toNat)
  case atStart => exact ⟨0, _, [], by omega, rfl, HM4, HB4, ⟨rfl, by simp⟩⟩
  case round =>
    clear HM4 HB4
    rename World => Y
    obtain ⟨j, vc, R, hj, rfl, HM, HB, HR⟩ := hrel
    obtain ⟨p0, p1, hkr, hbw⟩ := HSW.out Y HB.out
    obtain ⟨va, vcap, hvc, hv1, hv2⟩ := HM.out.form
    rw [HR.out.1] at hvc hv1
    subst hvc
    have hPl := lt_of_block HM.out.pb
    have q0 : Y.cell? ⟨PB, 0, none⟩ = some (.slice va j vcap) := by simp [World.cell?, HM.out.pb]
    unfold maxLen at hv2
    by_cases hlt : j < cs.length
    · obtain ⟨cb, co, na, nc, rfl, hcb, c0, c1, hNd⟩ := HC1.out.cellC hlt
      have hmem : clA cs j ∈ cs := clA_mem hlt
      have hnw := HPP.out.nodes _ hmem
      have hkw := HPP.out.kids _ hmem
      have hfw := HPP.out.few
      obtain ⟨_, hm1, hm2⟩ := hNd.bnd
      have hYB : B ≤ Y.heap.size := by have := HB.out.size; have := HBS.out; omega
      have cC : Sld (∀ V, Below Y.heap.size Y V → Calls Tryd.prog 9 #[.slice na (clA cs j).nodes.length nc] V fun e w' => ∃ a c p, e = .returned (.slice a (clA cs j).nodes.length c) ∧ OwnP w' B (.slice a (clA cs j).nodes.length c) p ∧ p.map (·.1) = (clA cs j).nodes ∧ Below Y.heap.size Y w') := ⟨fun V hV => by
        have h1 := copy_any (.slice na (clA cs j).nodes.length nc) (clA cs j).nodes V V.heap.size (Nat.le_refl _) (hNd.below (HB.out.trans (hV.mono hYB)) (by have := hV.size; omega)) (by omega) hkw
        refine h1.mono ?_
        rintro e w' ⟨v', rfl, ⟨p, hp1, hp2⟩, hb⟩
        have hpl : p.length = (clA cs j).nodes.length := by rw [← hp1, List.length_map]
        obtain ⟨a, c, e1⟩ := row_sl hp2.row
        subst e1
        rw [hpl] at hp2 ⊢
        exact ⟨a, c, p, rfl, ⟨ownsRow_mono hp2.row (by have := hV.size; omega), fun q hq => ownsRow_mono (hp2.kids q hq) (by have := hV.size; omega)⟩, hp1, hV.trans (hb.mono hV.size)⟩⟩
      have HKEEP : Sld (∀ V, Below Y.heap.size Y V → V.cell? ⟨PB, 0, none⟩ = some (.slice va j vcap) ∧ V.cell? ⟨w.heap.size, 0, none⟩ = some (.slice (some ⟨cb, co, none⟩) cs.length cc) ∧ V.cell? ⟨cb, co + j * 2, none⟩ = some (.slice na (clA cs j).nodes.length nc) ∧ V.cell? ⟨cb, co + j * 2 + 1, none⟩ = some (.int .i64 (clA cs j).size)) := ⟨fun V hV => by
        have hV1 := HB.out.trans (hV.mono hYB)
        exact ⟨(hV.cell (p := ⟨PB, 0, none⟩) hPl).trans q0, (HSW.out V hV1).1, (hV1.cell (p := ⟨cb, co + j * 2, none⟩) hcb).trans c0, (hV1.cell (p := ⟨cb, co + j * 2 + 1, none⟩) hcb).trans c1⟩⟩
      have HAFT : Sld (∀ (w5 : World) (a5 : Option Addr) (c5 : Nat) (p5 : List (Nd × Value)) (g6 cap6 : Nat) (w6 : World), OwnP w5 B (.slice a5 (clA cs j).nodes.length c5) p5 → p5.map (·.1) = (clA cs j).nodes → Below Y.heap.size Y w5 → w6.ownsRow B 93 2 (.slice (some ⟨g6, 0, none⟩) (j + 1) cap6) (j + 1) (acCells R ++ [.slice a5 (clA cs j).nodes.length c5, .int .i64 (clA cs j).size]) → (w5.alloc (.cells #[.slice a5 (clA cs j).nodes.length c5, .int .i64 (clA cs j).size] 93)).grownBy w6 (Value.slice va j vcap).ownBlock → (CcM B PB (.slice (some ⟨g6, 0, none⟩) (j + 1) cap6) (R ++ [(.slice a5 (clA cs j).nodes.length c5, p5, (clA cs j).size)]) (.slice sa roots.length sc) roots (w6.setCell ⟨PB, 0, none⟩ (.slice (some ⟨g6, 0, none⟩) (j + 1) cap6)) ∧ Below B W1 (w6.setCell ⟨PB, 0, none⟩ (.slice (some ⟨g6, 0, none⟩) (j + 1) cap6)) ∧ ((R ++ [(Value.slice a5 (clA cs j).nodes.length c5, p5, (clA cs j).size)]).map (fun r : Ac => (⟨r.2.1.map (·.1), r.2.2⟩ : Cls))) = cs.take (j + 1)) ∧ w6.cell? ⟨PB, 0, none⟩ = some (.slice va j vcap) ∧ w6.frozen? ⟨PB, 0, none⟩ = false ∧ w6.cell? ⟨w.heap.size, 0, none⟩ = some (.slice (some ⟨cb, co, none⟩) cs.length cc) ∧ w6.cell? ⟨cb, co + j * 2, none⟩ = some (.slice na (clA cs j).nodes.length nc) ∧ w6.cell? ⟨cb, co + j * 2 + 1, none⟩ = some (.int .i64 (clA cs j).size)) := ⟨fun w5 a5 c5 p5 g6 cap6 w6 h1 h2 h3 h4 h5 => by
        have hA : Below Y.heap.size Y (w5.alloc (.cells #[.slice a5 (clA cs j).nodes.length c5, .int .i64 (clA cs j).size] 93)) := h3.alloc h3.size _
        have hMA := HM.out.below hA
        have hB6 : Below B W1 w6 := (HB.out.trans (hA.mono hYB)).grown h5 (by have := hA.size; omega) (fun b hb => (rw_block HM.out.row hb).1)
        have hP := hMA.pb
        have hP6 := (h5.block PB (lt_of_block hP) (fun e => (neTy hMA.row hP (by decide) : _ ≠ some PB) e.symm)).trans hP
        refine ⟨⟨hMA.app HR.out.1 (h1.below ((Below.refl _ _).alloc (Nat.le_refl _) _)) h4 h5, hB6.setCell (p := ⟨PB, 0, none⟩) HBPs.out _, ?_⟩, by simp [World.cell?, hP6], by simp [World.frozen?, hP6], (HSW.out w6 hB6).1, (hB6.cell (p := ⟨cb, co + j * 2, none⟩) hcb).trans c0, (hB6.cell (p := ⟨cb, co + j * 2 + 1, none⟩) hcb).trans c1⟩
        rw [List.map_append, HR.out.2, List.take_add_one, List.getElem?_eq_getElem hlt]
        have e : clA cs j = cs[j] := by unfold clA; rw [List.getD_eq_getElem?_getD, List.getElem?_eq_getElem hlt]; rfl
        simp only [List.map_cons, List.map_nil, h2, e]
        rfl⟩
      have HRW : Sld (∀ w5, Below Y.heap.size Y w5 → w5.ownsRow B 93 2 (.slice va j vcap) j (acCells R)) := ⟨fun w5 h => by have := (HM.out.below h).row; rw [HR.out.1] at this; exact this⟩
      obtain ⟨k0, k1, k2, k3⟩ := HKEEP.out Y (Below.refl _ _)
      have HRl := Sld.mk HR.out.1
      have hj8 : (j + 1) * 32 ≤ 140737488355328 := by omega
      generalize (clA cs j).nodes.length = m at *
      generalize (clA cs j).size = z at *
      clear hNd hmem hnw hkw q0 c0 c1 hkr hbw HR HM p1
      go_wp2_with fail
      go_region_law (first | (refine step_append_lies _ rfl (.tmp 18) (.tmp 33) 54 rfl B 93 iC (.agg #[.slice none 0 0, .int .i64 0]) 2 32 Tryd.underlying54 hiC hc0 hc1 hc2 rfl (by decide) _ _ _ (by simp [Act.eval, Act.put]) (hrow5.alloc _) ⟨w5.heap.size, 0, none⟩ 1 1 [.slice a5 m c5, .int .i64 z] (by simp [Act.eval, Act.put]) rfl (cc_news) (by simp [Value.oneCell']) (by omega) (by unfold maxLen; omega) (by omega) (by have := hb5.size; simp; omega) _ rfl ?_; intro g6 cap6 w6 hown6 hg6 hat6 hl6; obtain ⟨haf, q0, q0f, _⟩ := HAFT.out w5 a5 c5 p5 g6 cap6 w6 ho5 hp5 hb5 hown6 hg6) | (go_simp; go_wp2_with (go_at_call 9; refine (cC.out _ (Below.refl _ _).drew).mono ?_; rintro e w5 ⟨a5, c5, p5, rfl, ho5, hp5, hb5⟩; obtain ⟨l0, l1, l2, l3⟩ := HKEEP.out w5 hb5; have hrow5 := HRW.out w5 hb5; have zl : PB < w5.heap.size := Nat.lt_of_lt_of_le hPl hb5.size; have z0 : ∀ o, (w5.alloc o).cell? ⟨PB, 0, none⟩ = some (.slice va j vcap) := fun o => (World.cell?_alloc_past _ _ _ zl).trans l0)))
      all_goals
        have HA1 := Sld.mk haf.1
        have HA2 := Sld.mk haf.2.1
        have HA3 := Sld.mk haf.2.2
        clear haf hown6 hg6 hat6 hl6 hrow5 ho5 hp5 hb5 zl z0 l0 l1 l2 l3 HAFT HKEEP HRW cC
        go_wp2_with fail
        exact ⟨⟨j + 1, _, _, by omega, by go_num, HA1, HA2, ⟨by rw [List.length_append, HRl.out]; rfl, HA3.out⟩⟩, by simp [RowKit.intOf]; omega⟩
    · have hje : j = cs.length := by omega
      have HRE2 : Sld ((R.map fun r : Ac => (⟨r.2.1.map (·.1), r.2.2⟩ : Cls)) = cs) := ⟨by have := HR.out.2; rw [hje, List.take_length] at this; exact this⟩
      subst hje
      obtain ⟨hW1s, hRB, hwB, hwR⟩ := HBS.out
      have kf : ∀ o, Y.frozen? ⟨RB, o, none⟩ = false := fun o => frozen_of_heap hkr _
      obtain ⟨k0, k1⟩ : Y.cell? ⟨RB, 0, none⟩ = some (.slice none 0 0) ∧ Y.cell? ⟨RB, 1, none⟩ = some (.slice none 0 0) := by simp [World.cell?, hkr]
      have kf0 := kf 0
      have kf1 := kf 1
      have q1 : Y.cell? ⟨PB, 1, none⟩ = some (.slice sa roots.length sc) := by simp [World.cell?, HM.out.pb]
      have hne : PB ≠ RB := by have := HBPs.out; omega
      have h1 := heap_setCell_same Y RB 0 _ _ (.slice va cs.length vcap) hkr
      have HBK : Sld (((Y.setCell ⟨RB, 0, none⟩ (.slice va cs.length vcap)).setCell ⟨RB, 1, none⟩ (.slice sa roots.length sc)).heap[RB]? = some (.cells #[.slice va cs.length vcap, .slice sa roots.length sc] 56 (0, 0))) := ⟨heap_setCell_same _ RB 1 _ _ (.slice sa roots.length sc) h1⟩
      have HMF := Sld.mk ((HM.out.setO (o := 0) (u := .slice va cs.length vcap) hkr hne).setO (o := 1) (u := .slice sa roots.length sc) h1 hne)
      have HBW : Sld (Below w.heap.size w ((Y.setCell ⟨RB, 0, none⟩ (.slice va cs.length vcap)).setCell ⟨RB, 1, none⟩ (.slice sa roots.length sc))) := ⟨(hbw.setCell (p := ⟨RB, 0, none⟩) hwR _).setCell (p := ⟨RB, 1, none⟩) hwR _⟩
      clear hkr kf hbw HM h1
      go_wp2_with fail
      have hbk := HBK.out
      refine bodyPost_ret (v := .agg #[.slice va cs.length vcap, .slice sa roots.length sc]) ?_ rfl ⟨⟨va, vcap, sa, sc, rfl, ?_, ?_⟩, HBW.out⟩
      · exact results_cell_row rfl _ _ RB _ _ _ _ rfl hbk Tryd.underlying56 rfl (by kernel_rfl)
      · have := HMF.out.clss; rw [HRE2.out] at this; exact this
      · exact Ints_of_own HMF.out.rr (Nat.le_refl _)
end Go.Proofs.YtghgoifeineicaaDoor

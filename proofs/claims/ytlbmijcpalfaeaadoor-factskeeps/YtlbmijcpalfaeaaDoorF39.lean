/-
  FkS, FkC.
-/
import Derived.Shelf.Unicode.DecodeSlow
import Derived.Laws.RangeAny
import Derived.Shelf.Strconv.Itoa0
import Derived.Shelf.LaysM
import Derived.Shelf.Strconv.Clone
import Derived.Shelf.Unicode.DecodeAny
import Derived.Test.YtlbmijcpalfaeaaDoorProg
import Derived.WalkKit
import Derived.Deep.DeepFit
import Derived.Lib.OthersKept
import Derived.Lib.RuneCountTail
import Derived.Deep.AppendLies
import Derived.Deep.OwnRows
import Derived.Laws.AppendOwnNone
import Derived.Deep.QuietTactic
import Derived.BigQuiet
import Derived.Deep.RegionWith
import Derived.Laws.DeepStrings4
import Derived.Below
import Derived.Lib.MapLaws
import Derived.Sort.Walk0
import Derived.Lib.QuietBelow
import Derived.StillTail
import Derived.Deep.RegionHeld3
import Derived.Laws.AppendOwn
import Derived.Deep.DeepCutAuto
import Derived.Maps.OwnSet
import Derived.Maps.Keyed
import Derived.DeepKeys4
import Derived.Laws.ResultCell
import Derived.Laws.CopyOwn
import Derived.Laws.OwnMore
import Derived.Deep.RegionLaw
import Derived.Laws.IdiomStrings
import Derived.WalkSmall
import Derived.Lib.SlBytesRow
import Derived.StringKeys
import Derived.RowKit
import Derived.Laws.Entries
import Derived.Laws.StructEq
import Derived.Test.YtlbmijcpalfaeaaDoorF01
import Derived.Test.YtlbmijcpalfaeaaDoorF02
import Derived.Test.YtlbmijcpalfaeaaDoorF03
import Derived.Test.YtlbmijcpalfaeaaDoorF04
import Derived.Test.YtlbmijcpalfaeaaDoorF05
import Derived.Test.YtlbmijcpalfaeaaDoorF06
import Derived.Test.YtlbmijcpalfaeaaDoorF07
import Derived.Test.YtlbmijcpalfaeaaDoorF08
import Derived.Test.YtlbmijcpalfaeaaDoorF09
import Derived.Test.YtlbmijcpalfaeaaDoorF10
import Derived.Test.YtlbmijcpalfaeaaDoorF11
import Derived.Test.YtlbmijcpalfaeaaDoorF12
import Derived.Test.YtlbmijcpalfaeaaDoorF13
import Derived.Test.YtlbmijcpalfaeaaDoorF14
import Derived.Test.YtlbmijcpalfaeaaDoorF15
import Derived.Test.YtlbmijcpalfaeaaDoorF16
import Derived.Test.YtlbmijcpalfaeaaDoorF17
import Derived.Test.YtlbmijcpalfaeaaDoorF18
import Derived.Test.YtlbmijcpalfaeaaDoorF19
import Derived.Test.YtlbmijcpalfaeaaDoorF20
import Derived.Test.YtlbmijcpalfaeaaDoorF21
import Derived.Test.YtlbmijcpalfaeaaDoorF22
import Derived.Test.YtlbmijcpalfaeaaDoorF23
import Derived.Test.YtlbmijcpalfaeaaDoorF24
import Derived.Test.YtlbmijcpalfaeaaDoorF25
import Derived.Test.YtlbmijcpalfaeaaDoorF26
import Derived.Test.YtlbmijcpalfaeaaDoorF27
import Derived.Test.YtlbmijcpalfaeaaDoorF28
import Derived.Test.YtlbmijcpalfaeaaDoorF29
import Derived.Test.YtlbmijcpalfaeaaDoorF30
import Derived.Test.YtlbmijcpalfaeaaDoorF31
import Derived.Test.YtlbmijcpalfaeaaDoorF32
import Derived.Test.YtlbmijcpalfaeaaDoorF33
import Derived.Test.YtlbmijcpalfaeaaDoorF34
import Derived.Test.YtlbmijcpalfaeaaDoorF35
import Derived.Test.YtlbmijcpalfaeaaDoorF36
import Derived.Test.YtlbmijcpalfaeaaDoorF37
import Derived.Test.YtlbmijcpalfaeaaDoorF38
set_option linter.unusedSimpArgs false
set_option linter.unusedVariables false
namespace Go.Proofs.YtlbmijcpalfaeaaDoor
open Go.RowKit Go.Lib

theorem neq_fact (f h : Fc) (w : World) : (binOp .neq 65 (.agg #[.bool f.t, .bool f.c, .int .i64 f.n]) (.agg #[.bool h.t, .bool h.c, .int .i64 h.n])).run Tryd.prog w = .ok (.bool (decide (f ≠ h))) w := by
  have key : ∀ (r : Result Bool) (x : Bool), (r.andThen fun b w' => (.ok (.bool b) w' : Result Value)) = .ok (.bool x) w → (r.andThen fun b w' => (.ok (.bool (!b)) w' : Result Value)) = .ok (.bool (!x)) w := by
    intro r x h
    cases r with
    | halt y w' => cases h
    | ok b w' =>
      simp only [Result.andThen, Result.ok.injEq, Value.bool.injEq] at h ⊢
      obtain ⟨rfl, rfl⟩ := h
      exact ⟨rfl, rfl⟩
  rw [run_neq_struct, key _ _ ((run_eql_struct _ _ _ _).symm.trans (eql_fact f.t h.t f.c h.c f.n h.n w))]
  have e : (!(f.t == h.t && (f.c == h.c && f.n == h.n))) = decide (f ≠ h) := by
    obtain ⟨a, b, c⟩ := f
    obtain ⟨a', b', c'⟩ := h
    by_cases e1 : a = a' <;> by_cases e2 : b = b' <;> by_cases e3 : c = c' <;> simp [e1, e2, e3]
  rw [e]

/-- Between two rounds of a step. -/
structure StM (w : World) (n : Nat) (G : List Fc) (k : Nat) (wr : World) : Prop where
  ex : ∃ xs, wr.ownsRow w.heap.size 65 3 (.slice (some ⟨w.heap.size, 0, none⟩) n n) n xs ∧ FcX xs (G.take k)
  below : Below w.heap.size w wr
theorem StM.up {w wr w' : World} {n k : Nat} {G : List Fc} (h : StM w n G k wr) (hb : Below wr.heap.size wr w') : StM w n G k w' := by
  obtain ⟨xs, h1, h2⟩ := h.ex
  exact ⟨⟨xs, ownsRow_below h1 hb, h2⟩, h.below.trans (hb.mono h.below.size)⟩
theorem StM.free {w wr : World} {n k : Nat} {G : List Fc} (h : StM w n G k wr) (hi : k < n) : (∀ q, q < 3 → ∃ u, wr.cell? ⟨w.heap.size, k * 3 + q, none⟩ = some u) ∧ ∀ o, wr.frozen? ⟨w.heap.size, o, none⟩ = false := by
  obtain ⟨xs, h1, h2⟩ := h.ex
  have hl := h1.1
  refine ⟨fun q hq => ?_, fun o => rw_fro h1 o⟩
  obtain ⟨u, hu, _⟩ := rw_cell h1 (i := k * 3 + q) (by omega)
  exact ⟨u, hu⟩
theorem StM.store {w wr : World} {n k : Nat} {G : List Fc} (h : StM w n G k wr) (hi : k < n) (hG : G.length = n) (f : Fc) (hf : G.getD k fc0 = f) :
    StM w n G (k + 1) (((wr.setCell ⟨w.heap.size, k * 3, none⟩ (.bool f.t)).setCell ⟨w.heap.size, k * 3 + 1, none⟩ (.bool f.c)).setCell ⟨w.heap.size, k * 3 + 2, none⟩ (.int .i64 f.n)) := by
  obtain ⟨xs, h1, h2⟩ := h.ex
  have hl := h1.1
  have htl : (G.take k).length = k := by simp; omega
  have e : G.take (k + 1) = G.take k ++ [f] := by
    rw [List.take_succ_eq_append_getElem (by omega), ← hf]
    rw [List.getD_eq_getElem?_getD, List.getElem?_eq_getElem (by omega)]; rfl
  have p1 := own_put (i := k * 3) (u := .bool f.t) h1 (by omega)
  have p2 := own_put (i := k * 3 + 1) (u := .bool f.c) p1 (by simp; omega)
  have p3 := own_put (i := k * 3 + 2) (u := .int .i64 f.n) p2 (by simp; omega)
  have hs := h2.snoc f (by omega)
  rw [htl, ← e] at hs
  have hb := h.below
  have hB : ∀ (W : World) (o : Nat) (v : Value), Below w.heap.size w W → Below w.heap.size w (W.setCell ⟨w.heap.size, o, none⟩ v) := fun W o v hW => hW.setCell (p := ⟨w.heap.size, o, none⟩) (Nat.le_refl _) v
  exact ⟨⟨_, p3, hs⟩, hB _ _ _ (hB _ _ _ (hB _ _ _ hb))⟩

theorem cell_set3 {w : World} {A b : Nat} (h : b ≠ A) (o1 o2 o3 o : Nat) (v1 v2 v3 : Value) : (((w.setCell ⟨A, o1, none⟩ v1).setCell ⟨A, o2, none⟩ v2).setCell ⟨A, o3, none⟩ v3).cell? ⟨b, o, none⟩ = w.cell? ⟨b, o, none⟩ := by
  refine World.cell?_of_block (a := ⟨b, o, none⟩) ?_
  rw [Deep.blk_setCell_other _ _ _ _ h, Deep.blk_setCell_other _ _ _ _ h, Deep.blk_setCell_other _ _ _ _ h]
/-- Whether one of the first k differs. -/
def moF (G fs : List Fc) (k : Nat) : Bool := (List.range k).any fun i => decide (G.getD i fc0 ≠ fs.getD i fc0)
theorem moF_succ (G fs : List Fc) (k : Nat) : moF G fs (k + 1) = (moF G fs k || decide (G.getD k fc0 ≠ fs.getD k fc0)) := by
  unfold moF
  rw [List.range_succ, List.any_append]
  simp
theorem moF_all {G fs : List Fc} (h : G.length = fs.length) : moF G fs fs.length = decide (G ≠ fs) := by
  unfold moF
  by_cases he : G = fs
  · subst he
    rw [decide_eq_false (by simp), List.any_eq_false]
    intro i _
    simp
  · rw [decide_eq_true he, List.any_eq_true]
    refine Classical.byContradiction fun hc => he ?_
    refine List.ext_getElem h fun i h1 h2 => ?_
    refine Classical.byContradiction fun hn => hc ⟨i, by simpa using h2, ?_⟩
    rw [decide_eq_true_eq, List.getD_eq_getElem?_getD, List.getD_eq_getElem?_getD, List.getElem?_eq_getElem h1, List.getElem?_eq_getElem h2]
    exact hn

set_option maxRecDepth 100000 in
set_option maxHeartbeats 8000000 in
theorem step13_any (w : World) (cs : List Cls) (ca : Option Addr) (cc g c : Nat) (fs : List Fc) (hC : Clss w w.heap.size (.slice ca cs.length cc) cs) (hF : FcR w g fs) (hl : fs.length = cs.length) (hfc : fs.length ≤ c) (hcm : c ≤ maxLen) (hk : ∀ c ∈ cs, ∀ x ∈ c.nodes, NdOk cs.length x) (hG : GrpCells w) (hn : cs.length ≤ 4096) :
    Calls Tryd.prog 74 #[.slice ca cs.length cc, .slice (some ⟨g, 0, none⟩) cs.length c] w fun e w' => e = .returned (.tuple #[.slice (some ⟨w.heap.size, 0, none⟩) cs.length cs.length, .bool (decide (stF cs fs ≠ fs))]) ∧ StM w cs.length (stF cs fs) cs.length w' := by
  obtain ⟨i0, hi, hz0, hz1, hz2⟩ := info_parts Tryd.infoFact
  have hmk := run_make_full (P := Tryd.prog) w w.heap.size 69 65 i0 (.agg #[.bool false, .bool false, .int .i64 0]) 3 Tryd.underlying69 hi hz0 hz1 .i64 .i64 cs.length (by rw [hz2]; omega) (by unfold maxLen; omega) (Nat.le_refl _)
  obtain ⟨w1, hmk, hown1, hg1⟩ := hmk
  have HM0 : Sld (StM w cs.length (stF cs fs) 0 w1) := ⟨⟨⟨_, hown1, by rw [List.take_zero]; exact FcX.nil _⟩, (Below.refl _ _).grown hg1 (Nat.le_refl _) (by simp)⟩⟩
  have HGL : Sld ((stF cs fs).length = cs.length) := ⟨stF_len cs fs⟩
  have HGA : Sld (∀ i, i < cs.length → (stF cs fs).getD i fc0 = gwF fs (fs.getD i fc0) (cs.getD i cls0).nodes) := ⟨fun i h => stF_at cs fs h⟩
  have HMA : Sld (moF (stF cs fs) fs cs.length = decide (stF cs fs ≠ fs)) := ⟨by rw [← hl]; exact moF_all (by rw [stF_len, hl])⟩
  have HC := Sld.mk hC
  have HF := Sld.mk hF
  have HK := Sld.mk hk
  have HG := Sld.mk hG
  have hgl := hF.lt
  obtain ⟨_, _, d1, hm1, hm2, _⟩ := hC
  injection d1 with d1 d2 d3
  rw [← d3] at hm1 hm2
  unfold maxLen at hm2 hcm
  generalize stF cs fs = G at *
  clear d1 d2 d3 hF hk hG hown1 hg1
  go_enter Tryd.func74, Tryd.ntmps74
  go_wp2_with fail
  go_loopw [7, 15] (fun b i wr => ∃ k : Nat, k ≤ cs.length ∧ i = .int .i64 k ∧ b = .bool (moF G fs k) ∧ Sld (StM w cs.length G k wr)) (fun _ i _ => cs.length - (RowKit.intOf i).toNat)
  case atStart => exact ⟨0, Nat.zero_le _, rfl, rfl, HM0⟩
  case round =>
    obtain ⟨k, hk, rfl, rfl, HM⟩ := hrel
    have HB : Sld (Below w.heap.size w wr) := ⟨HM.out.below⟩
    by_cases hlt : k < cs.length
    · obtain ⟨b, o, na, nc, hca, hbl, c0, c1, hN⟩ : ∃ b o na nc, ca = some ⟨b, o, none⟩ ∧ b < wr.heap.size ∧ wr.cell? ⟨b, o + k * 2, none⟩ = some (.slice na (cs.getD k cls0).nodes.length nc) ∧ wr.cell? ⟨b, o + k * 2 + 1, none⟩ = some (.int .i64 (cs.getD k cls0).size) ∧ Nodes wr wr.heap.size (.slice na (cs.getD k cls0).nodes.length nc) (cs.getD k cls0).nodes := by
        obtain ⟨ao, cap, h1, _, _, h2⟩ := HC.out.below HB.out HB.out.size
        injection h1 with h1 _ _
        rcases h2 with h2 | ⟨b, o, h2, hbl, h3⟩
        · subst h2; simp at hlt
        · obtain ⟨na, nc, h4, h5, h6⟩ := h3 k hlt
          exact ⟨b, o, na, nc, h1.trans h2, hbl, h4, h5, h6⟩
      subst hca
      have hOK : ∀ x ∈ (cs.getD k cls0).nodes, NdOk fs.length x := by
        rw [hl]; exact HK.out _ (by rw [getD_atT hlt]; exact List.getElem_mem hlt)
      have HGK := Sld.mk (HGA.out k hlt)
      have HMS := Sld.mk (moF_succ G fs k)
      have hfr := HF.out.below HB.out
      obtain ⟨k0, k1, k2⟩ := hfr.at_ k (by omega)
      obtain ⟨hfree, hfz⟩ := HM.out.free hlt
      generalize cs.getD k cls0 = C at *
      obtain ⟨nodes, size⟩ := C
      simp only at c0 c1 hN hOK HGK
      have CG : Sld (∀ V, Below wr.heap.size wr V → Calls Tryd.prog 102 #[.agg #[.bool (fs.getD k fc0).t, .bool (fs.getD k fc0).c, .int .i64 (fs.getD k fc0).n], .slice na nodes.length nc, .slice (some ⟨g, 0, none⟩) cs.length c] V fun e w' => e = .returned (.agg #[.bool (G.getD k fc0).t, .bool (G.getD k fc0).c, .int .i64 (G.getD k fc0).n]) ∧ Below V.heap.size V w') := ⟨fun V hV => by
        have := grown_any V (fs.getD k fc0) nodes na nc g c fs (hN.below hV hV.size) (hfr.below hV) cs.length (by omega) (by omega) (by unfold maxLen; omega) hOK (HG.out.below (HB.out.trans (hV.mono HB.out.size)))
        rw [← HGK.out] at this
        exact this⟩
      have HST : Sld (∀ W, StM w cs.length G k W → StM w cs.length G (k + 1) (((W.setCell ⟨w.heap.size, k * 3, none⟩ (.bool (G.getD k fc0).t)).setCell ⟨w.heap.size, k * 3 + 1, none⟩ (.bool (G.getD k fc0).c)).setCell ⟨w.heap.size, k * 3 + 2, none⟩ (.int .i64 (G.getD k fc0).n))) := ⟨fun W hW => hW.store hlt HGL.out _ rfl⟩
      have hltI : (k : Int) < (cs.length : Int) := by omega
      have hgw : g ≠ w.heap.size := by omega
      have hgr : g < wr.heap.size := hfr.lt
      have hrw : wr.heap.size ≠ w.heap.size := by
        obtain ⟨xs, h1, _⟩ := HM.out.ex
        have := (rw_block h1 (b := w.heap.size) rfl).2.1
        omega
      obtain ⟨W5, hW5⟩ : ∃ W5, wr.alloc (.cells #[.slice na nodes.length nc, .int .i64 size] 106) = W5 := ⟨_, rfl⟩
      have hb5 : Below wr.heap.size wr W5 := by rw [← hW5]; exact (Below.refl _ _).alloc (Nat.le_refl _) _
      have hk5 : W5.heap[wr.heap.size]? = some (.cells #[.slice na nodes.length nc, .int .i64 size] 106 (0, 0)) := by rw [← hW5, Deep.blk_alloc_new]
      have v0 : W5.cell? ⟨wr.heap.size, 0, none⟩ = some (.slice na nodes.length nc) := by simp [World.cell?, hk5]
      have K0 := (hb5.cell (p := ⟨g, k * 3, none⟩) hgr).trans k0
      have K1 := (hb5.cell (p := ⟨g, k * 3 + 1, none⟩) hgr).trans k1
      have K2 := (hb5.cell (p := ⟨g, k * 3 + 2, none⟩) hgr).trans k2
      have HW5 := Sld.mk hW5
      have HB5 := Sld.mk hb5
      have hl5 : wr.heap.size < W5.heap.size := lt_of_block hk5
      have hM5 := HM.out.up hb5
      have HM5 := Sld.mk hM5
      generalize hfk : fs.getD k fc0 = fk at *
      generalize hgk : G.getD k fc0 = gk at *
      obtain ⟨xt, xc, xn⟩ := fk
      obtain ⟨yt, yc, yn⟩ := gk
      simp only at k0 k1 k2 K0 K1 K2 CG HST
      clear hfr hN hOK hW5 hb5 hM5 hfree
      go_upto_region 6 with fail
      rw [HW5.out]
      go_region_held3 (fun V => V.cell? ⟨g, k * 3, none⟩ = some (.bool xt) ∧ V.cell? ⟨g, k * 3 + 1, none⟩ = some (.bool xc) ∧ V.cell? ⟨g, k * 3 + 2, none⟩ = some (.int .i64 xn) ∧ V.cell? ⟨wr.heap.size, 0, none⟩ = some (.slice na nodes.length nc)) (go_keep) (first | (go_at_call 102; refine (CG.out _ (HB5.out.trans (Below.drew (Below.refl _ _)))).mono ?_; rintro e w6 ⟨rfl, hb6⟩; have hb56 : Below W5.heap.size W5 w6 := (Below.drew (Below.refl _ _)).trans hb6; have z0 := (hb56.cell (p := ⟨g, k * 3, none⟩) (Nat.lt_trans hgr hl5)).trans K0; have z1 := (hb56.cell (p := ⟨g, k * 3 + 1, none⟩) (Nat.lt_trans hgr hl5)).trans K1; have z2 := (hb56.cell (p := ⟨g, k * 3 + 2, none⟩) (Nat.lt_trans hgr hl5)).trans K2; have z3 := (hb56.cell (p := ⟨wr.heap.size, 0, none⟩) hl5).trans v0; have hs6 := hb56.size; obtain ⟨hfree, hfz6⟩ := (HM5.out.up hb56).free hlt; obtain ⟨u0, q0⟩ := hfree 0 (by omega); obtain ⟨u1, q1⟩ := hfree 1 (by omega); obtain ⟨u2, q2⟩ := hfree 2 (by omega); rw [Nat.add_zero] at q0; have y0 : (((w6.setCell ⟨w.heap.size, k * 3, none⟩ (.bool yt)).setCell ⟨w.heap.size, k * 3 + 1, none⟩ (.bool yc)).setCell ⟨w.heap.size, k * 3 + 2, none⟩ (.int .i64 yn)).cell? ⟨g, k * 3, none⟩ = some (.bool xt) := (cell_set3 hgw _ _ _ _ _ _ _).trans z0; have y1 : (((w6.setCell ⟨w.heap.size, k * 3, none⟩ (.bool yt)).setCell ⟨w.heap.size, k * 3 + 1, none⟩ (.bool yc)).setCell ⟨w.heap.size, k * 3 + 2, none⟩ (.int .i64 yn)).cell? ⟨g, k * 3 + 1, none⟩ = some (.bool xc) := (cell_set3 hgw _ _ _ _ _ _ _).trans z1; have y2 : (((w6.setCell ⟨w.heap.size, k * 3, none⟩ (.bool yt)).setCell ⟨w.heap.size, k * 3 + 1, none⟩ (.bool yc)).setCell ⟨w.heap.size, k * 3 + 2, none⟩ (.int .i64 yn)).cell? ⟨g, k * 3 + 2, none⟩ = some (.int .i64 xn) := (cell_set3 hgw _ _ _ _ _ _ _).trans z2; have y3 : (((w6.setCell ⟨w.heap.size, k * 3, none⟩ (.bool yt)).setCell ⟨w.heap.size, k * 3 + 1, none⟩ (.bool yc)).setCell ⟨w.heap.size, k * 3 + 2, none⟩ (.int .i64 yn)).cell? ⟨wr.heap.size, 0, none⟩ = some (.slice na nodes.length nc) := (cell_set3 hrw _ _ _ _ _ _ _).trans z3))
      have hM8 := HST.out w6 (HM5.out.up hb56)
      obtain ⟨W8, hW8⟩ : ∃ W8, ((w6.setCell ⟨w.heap.size, k * 3, none⟩ (.bool yt)).setCell ⟨w.heap.size, k * 3 + 1, none⟩ (.bool yc)).setCell ⟨w.heap.size, k * 3 + 2, none⟩ (.int .i64 yn) = W8 := ⟨_, rfl⟩
      rw [hW8] at hM8 y0 y1 y2 y3 ⊢
      have hn8 : W8.cell? ⟨w.heap.size, k * 3, none⟩ = some (.bool yt) ∧ W8.cell? ⟨w.heap.size, k * 3 + 1, none⟩ = some (.bool yc) ∧ W8.cell? ⟨w.heap.size, k * 3 + 2, none⟩ = some (.int .i64 yn) := by
        obtain ⟨xs, h1, h2⟩ := hM8.ex
        have hr := h2.read h1
        have hle : (G.take (k + 1)).length = k + 1 := by rw [List.length_take, HGL.out]; omega
        obtain ⟨r0, r1, r2⟩ := hr.at_ k (by omega)
        have e : (G.take (k + 1)).getD k fc0 = ⟨yt, yc, yn⟩ := by
          rw [← hgk, List.getD_eq_getElem?_getD, List.getD_eq_getElem?_getD, List.getElem?_take, if_pos (by omega)]
        rw [e] at r0 r1 r2
        exact ⟨r0, r1, r2⟩
      obtain ⟨n0, n1, n2⟩ := hn8
      have hq := neq_fact ⟨yt, yc, yn⟩ ⟨xt, xc, xn⟩
      simp only at hq
      have HM8 := Sld.mk hM8
      have HM8d : Sld (StM w cs.length G (k + 1) W8.drew) := ⟨hM8.up ((Below.refl _ _).drew)⟩
      have HMS2 := HMS
      generalize moF G fs k = mb at *
      have HDD : Sld (decide ((⟨yt, yc, yn⟩ : Fc) ≠ ⟨xt, xc, xn⟩) = decide (G.getD k fc0 ≠ fs.getD k fc0)) := ⟨by rw [hgk, hfk]⟩
      generalize decide ((⟨yt, yc, yn⟩ : Fc) ≠ ⟨xt, xc, xn⟩) = dd at *
      clear hM8 hW8 z0 z1 z2 z3 q0 q1 q2 hb6 hb56 K0 K1 K2 k0 k1 k2 v0 c0 c1 CG HST HM5 HMS y3
      cases mb with
      | true =>
        have HMC : Sld (moF G fs (k + 1) = true) := ⟨by rw [HMS2.out]; rfl⟩
        go_wp2_with fail
        go_region
        go_wp2_with fail
        exact ⟨⟨k + 1, by omega, by go_num, by rw [HMC.out], HM8d⟩, by simp [RowKit.intOf]; omega⟩
      | false =>
        have HMC : Sld (moF G fs (k + 1) = dd) := ⟨by rw [HMS2.out]; first | rfl | (rw [HDD.out]; rfl) | (rw [← HDD.out]; rfl)⟩
        go_wp2_with fail
        go_region
        go_wp2_with fail
        exact ⟨⟨k + 1, by omega, by go_num, by rw [HMC.out], HM8d⟩, by simp [RowKit.intOf]; omega⟩
    · have hke : k = cs.length := by omega
      subst hke
      have HE := HM
      have HD := HMA
      generalize moF G fs cs.length = dd at *
      go_wp2_with fail
      go_ret2
      exact ⟨by rw [← HD.out]; rfl, HE.out⟩
end Go.Proofs.YtlbmijcpalfaeaaDoor

set_option linter.unusedSimpArgs false
set_option linter.unusedVariables false
namespace Go.Proofs.YtlbmijcpalfaeaaDoor
open Go.RowKit Go.Lib

/-- What Classes answers: a row of its own. -/
def ClQ (w : World) (cs : List Cls) (b : Bool) (e : Ending) (w' : World) : Prop :=
  (b = true ∧ ∃ (g : Nat) (xs : List Value) (fs : List Fc), e = .returned (.tuple #[.slice (some ⟨g, 0, none⟩) cs.length cs.length, .int .i64 0]) ∧ w'.ownsRow w.heap.size 65 3 (.slice (some ⟨g, 0, none⟩) cs.length cs.length) cs.length xs ∧ FcX xs fs ∧ ClF cs fs) ∨
  (b = false ∧ e = .returned (.tuple #[.slice none 0 0, .int .i64 1]))

/-- How much is left to be known, as a row in memory tells it. -/
def isT : Option Value → Bool
  | some (.bool true) => true
  | _ => false
def rkC (w : World) (g o : Nat) : Nat := (if isT (w.cell? ⟨g, o + 1, none⟩) = true then 0 else 1) + (if isT (w.cell? ⟨g, o, none⟩) = true then 0 else 1)
def moB : Value → Nat
  | .bool true => 1
  | _ => 0
def rkV (w : World) (v : Value) (n : Nat) : Nat := match v with
  | .slice (some ⟨g, _, _⟩) _ _ => ((List.range n).map fun i => rkC w g (i * 3)).sum
  | _ => 0
theorem rkV_eq {w : World} {g c m : Nat} {fs : List Fc} (h : FcR w g fs) : rkV w (.slice (some ⟨g, 0, none⟩) m c) fs.length = rkL fs := by
  show ((List.range fs.length).map fun i => rkC w g (i * 3)).sum = (fs.map rkF).sum
  have e : (List.range fs.length).map (fun i => rkC w g (i * 3)) = fs.map rkF := by
    refine List.ext_getElem (by simp) fun i h1 h2 => ?_
    have hi : i < fs.length := by simpa using h1
    rw [List.getElem_map, List.getElem_map, List.getElem_range]
    have := h.at_ i hi
    have eg : fs.getD i fc0 = fs[i] := by rw [List.getD_eq_getElem?_getD, List.getElem?_eq_getElem hi]; rfl
    rw [eg] at this
    unfold rkC rkF
    rw [this.c0, this.c1]
    generalize fs[i] = f
    obtain ⟨a, b, c⟩ := f
    cases a <;> cases b <;> rfl
  rw [e]
theorem fcX_zero (n : Nat) : FcX (madeCells (Value.agg #[.bool false, .bool false, .int .i64 0]).cells (n * 3)).toList (List.replicate n fc0) := by
  intro j hj
  rw [List.length_replicate] at hj
  have e : (List.replicate n fc0).getD j fc0 = fc0 := by rw [List.getD_eq_getElem?_getD, List.getElem?_replicate]; split <;> rfl
  have key : ∀ q, q < 3 → (madeCells (Value.agg #[.bool false, .bool false, .int .i64 0]).cells (n * 3)).toList[j * 3 + q]? = some ((#[Value.bool false, .bool false, .int .i64 0])[q % 3]!) := by
    intro q hq
    unfold madeCells
    rw [Array.getElem?_toList, Array.getElem?_map, Array.getElem?_range, if_pos (by omega)]
    show some ((#[Value.bool false, .bool false, .int .i64 0])[(j * 3 + q) % 3]!) = _
    rw [show (j * 3 + q) % 3 = q % 3 by omega]
  rw [e]
  have k0 := key 0 (by omega)
  rw [Nat.add_zero] at k0
  exact ⟨k0, key 1 (by omega), key 2 (by omega)⟩
theorem ownsRow_base {w : World} {b b' : Nat} {e : TypeId} {s n : Nat} {v : Value} {xs : List Value} (h : w.ownsRow b e s v n xs) (hb : b' ≤ b) : w.ownsRow b' e s v n xs :=
  ⟨h.1, h.2.imp id fun ⟨g, cap, cur, h1, h2, h3⟩ => ⟨g, cap, cur, h1, by omega, h3⟩⟩
/-- Between two steps. -/
structure ClM (w : World) (cs : List Cls) (b : Bool) (fs : List Fc) (g c : Nat) (wr : World) : Prop where
  ex : ∃ xs, wr.ownsRow w.heap.size 65 3 (.slice (some ⟨g, 0, none⟩) cs.length cs.length) cs.length xs ∧ FcX xs fs
  it : ∃ t, fs = clI cs t
  stop : b = false → stF cs fs = fs
  below : Below w.heap.size w wr
theorem ClM.read {w wr : World} {cs : List Cls} {b : Bool} {fs : List Fc} {g c : Nat} (h : ClM w cs b fs g c wr) : FcR wr g fs := by
  obtain ⟨xs, h1, h2⟩ := h.ex
  exact h2.read h1
theorem ClM.len {w wr : World} {cs : List Cls} {b : Bool} {fs : List Fc} {g c : Nat} (h : ClM w cs b fs g c wr) : fs.length = cs.length := by
  obtain ⟨t, rfl⟩ := h.it
  exact clI_len cs t

set_option maxRecDepth 100000 in
set_option maxHeartbeats 8000000 in
theorem classes13_any (cs : List Cls) (roots : List Int) (ca ra : Option Addr) (cc rc : Nat) (w : World) (T : Tabs w) (hG : GrpCells w) (hc : Clss w w.heap.size (.slice ca cs.length cc) cs) (hr : Ints w w.heap.size (.slice ra roots.length rc) roots) (hp : PicOk cs roots) :
    Calls Tryd.prog 43 #[.agg #[.slice ca cs.length cc, .slice ra roots.length rc]] w fun e w' => ClQ w cs (ofB cs roots) e w' ∧ Below w.heap.size w w' := by
  obtain ⟨i0, hi, hz0, hz1, hz2⟩ := info_parts Tryd.infoFact
  obtain ⟨W1, hW1⟩ : ∃ W1, w.alloc (.cells #[.slice ca cs.length cc, .slice ra roots.length rc] 56) = W1 := ⟨_, rfl⟩
  have hb1 : Below w.heap.size w W1 := by rw [← hW1]; exact (Below.refl _ _).alloc (Nat.le_refl _) _
  have hk1 : W1.heap[w.heap.size]? = some (.cells #[.slice ca cs.length cc, .slice ra roots.length rc] 56 (0, 0)) := by rw [← hW1, Deep.blk_alloc_new]
  have p0 : W1.cell? ⟨w.heap.size, 0, none⟩ = some (.slice ca cs.length cc) := by simp [World.cell?, hk1]
  have p1 : W1.cell? ⟨w.heap.size, 1, none⟩ = some (.slice ra roots.length rc) := by simp [World.cell?, hk1]
  have CK := Sld.mk (pCheck_any cs roots ca ra cc rc W1 (T.below hb1) (hc.below hb1 hb1.size) (hr.below hb1 hb1.size) hp)
  have HP : Sld (∀ V, Below W1.heap.size W1 V → V.cell? ⟨w.heap.size, 0, none⟩ = some (.slice ca cs.length cc) ∧ w.heap.size < V.heap.size) := ⟨fun V hV => by
    have := (hV.block _ (lt_of_block hk1)).trans hk1
    exact ⟨by simp [World.cell?, this], lt_of_block this⟩⟩
  have HW1 := Sld.mk hW1
  have HB1 := Sld.mk hb1
  have HC := Sld.mk hc
  have HG := Sld.mk hG
  have HOK : Sld (ofB cs roots = true → (∀ c ∈ cs, ∀ x ∈ c.nodes, NdOk cs.length x) ∧ cs.length ≤ 4096) := ⟨fun h => ⟨ofB_nd h, by
    unfold ofB bdP at h
    simp only [Bool.and_eq_true, decide_eq_true_eq] at h
    exact h.1.1.1.1.1⟩⟩
  generalize ofB cs roots = B at *
  clear hW1 hb1 hk1 hr T hp hG
  obtain ⟨_, _, d1, hm1, hm2, _⟩ := hc
  injection d1 with d1 d2 d3
  rw [← d3] at hm1 hm2
  unfold maxLen at hm2
  clear d1 d2 d3
  go_enter Tryd.func43, Tryd.ntmps43
  go_wp2_with fail
  rw [HW1.out]
  refine CK.out.mono ?_
  rintro e w2 ⟨hq, hb2⟩
  have HB2 : Sld (Below W1.heap.size W1 w2) := ⟨hb2⟩
  have HBW2 : Sld (Below w.heap.size w w2) := ⟨HB1.out.trans (hb2.mono HB1.out.size)⟩
  obtain ⟨q0, q1⟩ := HP.out w2 hb2
  obtain ⟨z, rfl, hz⟩ := hq
  clear hb2 CK
  rcases hz with ⟨rfl, rfl⟩ | ⟨rfl, rfl⟩
  · obtain ⟨hOK, h4⟩ := HOK.out rfl
    have HK := Sld.mk hOK
    have hmk := run_make_full (P := Tryd.prog) w2 w2.heap.size 69 65 i0 (.agg #[.bool false, .bool false, .int .i64 0]) 3 Tryd.underlying69 hi hz0 hz1 .i64 .i64 cs.length (by rw [hz2]; omega) (by unfold maxLen; omega) (Nat.le_refl _)
    obtain ⟨w3, hmk, hown3, hg3⟩ := hmk
    have hb3 : Below w.heap.size w w3 := HBW2.out.grown hg3 HBW2.out.size (by simp)
    have hb13 : Below W1.heap.size W1 w3 := HB2.out.grown hg3 HB2.out.size (by simp)
    have HM0 : Sld (ClM w cs true (clI cs 0) w2.heap.size cs.length w3) := ⟨⟨⟨_, ownsRow_base hown3 HBW2.out.size, fcX_zero cs.length⟩, ⟨0, rfl⟩, (fun h => nomatch h), hb3⟩⟩
    have HB13 := Sld.mk hb13
    clear hown3 hg3 hb3 hb13
    go_wp2_with fail
    go_loopw [5, 6] (fun v b wr => ∃ (fs : List Fc) (g : Nat) (more : Bool), v = .slice (some ⟨g, 0, none⟩) cs.length cs.length ∧ b = .bool more ∧ Sld (ClM w cs more fs g cs.length wr) ∧ Sld (Below W1.heap.size W1 wr)) (fun v b wr => rkV wr v cs.length + moB b)
    case atStart => exact ⟨_, _, _, rfl, rfl, HM0, HB13⟩
    case round =>
      obtain ⟨fs, g, more, rfl, rfl, HM, HBr⟩ := hrel
      obtain ⟨r0, r1⟩ := HP.out wr HBr.out
      cases more with
      | false =>
        have HE : Sld (ClQ w cs true (.returned (.tuple #[.slice (some ⟨g, 0, none⟩) cs.length cs.length, .int .i64 0])) wr) := ⟨by
          obtain ⟨xs, h1, h2⟩ := HM.out.ex
          obtain ⟨t, h3⟩ := HM.out.it
          exact .inl ⟨rfl, g, xs, fs, rfl, h1, h2, t, h3, HM.out.stop rfl⟩⟩
        go_wp2_with fail
        go_ret2
        exact ⟨HE.out, HM.out.below⟩
      | true =>
        have hlf := HM.out.len
        have hbw := HM.out.below
        have CS := Sld.mk (step13_any wr cs ca cc g cs.length fs (HC.out.below hbw hbw.size) HM.out.read hlf (by omega) (by unfold maxLen; omega) HK.out (HG.out.below hbw) h4)
        have HRK := Sld.mk (stF_rk cs fs hlf)
        have HN : Sld (∀ w5, StM wr cs.length (stF cs fs) cs.length w5 → ClM w cs (decide (stF cs fs ≠ fs)) (stF cs fs) wr.heap.size cs.length w5 ∧ Below W1.heap.size W1 w5) := ⟨fun w5 h5 => by
          obtain ⟨xs, h1, h2⟩ := h5.ex
          obtain ⟨t, h3⟩ := HM.out.it
          refine ⟨⟨⟨xs, ownsRow_base h1 hbw.size, ?_⟩, ⟨t + 1, by rw [h3]; rfl⟩, fun hd => ?_, hbw.trans (h5.below.mono hbw.size)⟩, HBr.out.trans (h5.below.mono HBr.out.size)⟩
          · have e : (stF cs fs).take cs.length = stF cs fs := by rw [← stF_len cs fs, List.take_length]
            rw [e] at h2; exact h2
          · have : stF cs fs = fs := by simpa using hd
            rw [this]; exact this⟩
        have HMS : Sld (∀ w5, ClM w cs (decide (stF cs fs ≠ fs)) (stF cs fs) wr.heap.size cs.length w5 → rkV w5 (.slice (some ⟨wr.heap.size, 0, none⟩) cs.length cs.length) cs.length + moB (.bool (decide (stF cs fs ≠ fs))) < rkV wr (.slice (some ⟨g, 0, none⟩) cs.length cs.length) cs.length + moB (.bool true)) := ⟨fun w5 h5 => by
          have e1 := rkV_eq (c := cs.length) (m := cs.length) h5.read
          have e2 := rkV_eq (c := cs.length) (m := cs.length) HM.out.read
          rw [h5.len] at e1
          rw [hlf] at e2
          rw [e1, e2]
          obtain ⟨h1, h2⟩ := HRK.out
          by_cases hd : stF cs fs ≠ fs
          · have := h2 hd
            rw [decide_eq_true hd]
            omega
          · rw [decide_eq_false hd]
            show rkL (stF cs fs) + 0 < rkL fs + 1
            omega⟩
        generalize decide (stF cs fs ≠ fs) = D at *
        clear hbw
        go_wp2_with fail
        refine CS.out.mono ?_
        rintro e w5 ⟨rfl, h5⟩
        obtain ⟨hN1, hN2⟩ := HN.out w5 h5
        have HN1 := Sld.mk hN1
        have HN2 := Sld.mk hN2
        have HLT := Sld.mk (HMS.out w5 hN1)
        clear hN1 hN2 h5 CS
        go_wp2_with fail
        exact ⟨⟨_, _, _, rfl, rfl, HN1, HN2⟩, HLT.out⟩
  · go_wp2_with fail
    go_ret2
    exact ⟨.inr ⟨rfl, rfl⟩, HBW2.out⟩
end Go.Proofs.YtlbmijcpalfaeaaDoor

/-
  DcJ, DcK, DcN, DcO, PgD.
-/
import Derived.Shelf.Unicode.DecodeSlow
import Derived.Laws.RangeAny
import Derived.Shelf.Strconv.Itoa0
import Derived.Shelf.LaysM
import Derived.Shelf.Strconv.Clone
import Derived.Shelf.Unicode.DecodeAny
import Derived.Test.YtlbmijcpalfaeaaDoorProg
import Derived.WalkKit
import Derived.Deep.DeepFit
import Derived.Lib.OthersKept
import Derived.Lib.RuneCountTail
import Derived.Deep.AppendLies
import Derived.Deep.OwnRows
import Derived.Laws.AppendOwnNone
import Derived.Deep.QuietTactic
import Derived.BigQuiet
import Derived.Deep.RegionWith
import Derived.Laws.DeepStrings4
import Derived.Below
import Derived.Lib.MapLaws
import Derived.Sort.Walk0
import Derived.Lib.QuietBelow
import Derived.StillTail
import Derived.Deep.RegionHeld3
import Derived.Laws.AppendOwn
import Derived.Deep.DeepCutAuto
import Derived.Maps.OwnSet
import Derived.Maps.Keyed
import Derived.DeepKeys4
import Derived.Laws.ResultCell
import Derived.Laws.CopyOwn
import Derived.Laws.OwnMore
import Derived.Deep.RegionLaw
import Derived.Laws.IdiomStrings
import Derived.WalkSmall
import Derived.Lib.SlBytesRow
import Derived.Test.YtlbmijcpalfaeaaDoorF01
import Derived.Test.YtlbmijcpalfaeaaDoorF02
import Derived.Test.YtlbmijcpalfaeaaDoorF03
import Derived.Test.YtlbmijcpalfaeaaDoorF04
import Derived.Test.YtlbmijcpalfaeaaDoorF05
import Derived.Test.YtlbmijcpalfaeaaDoorF06
import Derived.Test.YtlbmijcpalfaeaaDoorF07
import Derived.Test.YtlbmijcpalfaeaaDoorF08
import Derived.Test.YtlbmijcpalfaeaaDoorF09
import Derived.Test.YtlbmijcpalfaeaaDoorF10
import Derived.Test.YtlbmijcpalfaeaaDoorF11
import Derived.Test.YtlbmijcpalfaeaaDoorF12
import Derived.Test.YtlbmijcpalfaeaaDoorF13
import Derived.Test.YtlbmijcpalfaeaaDoorF14
import Derived.Test.YtlbmijcpalfaeaaDoorF15
import Derived.Test.YtlbmijcpalfaeaaDoorF16
import Derived.Test.YtlbmijcpalfaeaaDoorF17
import Derived.Test.YtlbmijcpalfaeaaDoorF18
import Derived.Test.YtlbmijcpalfaeaaDoorF19
import Derived.Test.YtlbmijcpalfaeaaDoorF20
import Derived.Test.YtlbmijcpalfaeaaDoorF21
import Derived.Test.YtlbmijcpalfaeaaDoorF22
import Derived.Test.YtlbmijcpalfaeaaDoorF23
import Derived.Test.YtlbmijcpalfaeaaDoorF24
import Derived.Test.YtlbmijcpalfaeaaDoorF25
import Derived.Test.YtlbmijcpalfaeaaDoorF26
import Derived.Test.YtlbmijcpalfaeaaDoorF27
import Derived.Test.YtlbmijcpalfaeaaDoorF28
import Derived.Test.YtlbmijcpalfaeaaDoorF29
import Derived.Test.YtlbmijcpalfaeaaDoorF30
set_option linter.unusedSimpArgs false
set_option linter.unusedVariables false
namespace Go.Proofs.YtlbmijcpalfaeaaDoor
open Go.RowKit Go.Lib Go.Sort

/-- Which round it is: the classes of size ys[i], k cells having been looked at; behind the last all is done. -/
def LayS (n : Nat) (cells : List (Nd × Int)) (sz : Int → Int) (F : Nat) (ls : Int → Nd) (fd : Int → Bool) (ys : List Int) (i : Nat) : Prop :=
  (i < ys.length → LayI n cells sz F ls fd (ys.getD i 0) 0) ∧ (i = ys.length → LstO n cells sz ls F)
theorem LayS.start {n : Nat} {cells : List (Nd × Int)} {sz : Int → Int} {F : Nat} {ls : Int → Nd} {fd : Int → Bool} {ys zs : List Int} (hr : RkOk zs ys) (hl : zs.length = n) (hsz : sz = szLs zs) (hz : SzOk n cells sz F) (hf : ∀ q, fd q = false) : LayS n cells sz F ls fd ys 0 := by
  have hmem : ∀ q : Int, 0 ≤ q → q < (n : Int) → sz q ∈ ys := fun q a b => by
    rw [hr.mem, hsz]; unfold szLs; rw [List.getD_eq_getElem?_getD, List.getElem?_eq_getElem (by omega)]; exact List.getElem_mem _
  refine ⟨fun h0 => LayI.start (fun q a b => ?_) hf, fun h0 => ?_⟩
  · obtain ⟨j, hj, e⟩ := List.getElem_of_mem (hmem q a b)
    rw [List.getD_eq_getElem?_getD, List.getElem?_eq_getElem h0, ← e]
    simp only [Option.getD_some]
    by_cases e0 : j = 0
    · subst e0; exact Int.le_refl _
    · have := List.pairwise_iff_getElem.1 hr.up 0 j h0 hj (by omega); omega
  · have hys : ys = [] := List.length_eq_zero_iff.1 h0.symm
    have hno : ∀ q : Int, 0 ≤ q → q < (n : Int) → False := fun q a b => by have := hmem q a b; rw [hys] at this; cases this
    exact ⟨fun q a b => (hno q a b).elim, fun c hc _ => (hno _ (hz.inc.cl c hc).1 (hz.inc.cl c hc).2).elim⟩
theorem LayS.step {n : Nat} {cells : List (Nd × Int)} {sz : Int → Int} {F : Nat} {ls : Int → Nd} {fd : Int → Bool} {ys zs : List Int} {i : Nat} (hr : RkOk zs ys) (hl : zs.length = n) (hsz : sz = szLs zs) (hz : SzOk n cells sz F) (hi : i < ys.length) (h : LayI n cells sz F ls fd (ys.getD i 0) cells.length) : LayS n cells sz F ls fd ys (i + 1) := by
  have hmem : ∀ q : Int, 0 ≤ q → q < (n : Int) → sz q ∈ ys := fun q a b => by
    rw [hr.mem, hsz]; unfold szLs; rw [List.getD_eq_getElem?_getD, List.getElem?_eq_getElem (by omega)]; exact List.getElem_mem _
  have hp := List.pairwise_iff_getElem.1 hr.up
  have ei : ys.getD i 0 = ys[i] := by rw [List.getD_eq_getElem?_getD, List.getElem?_eq_getElem hi]; rfl
  rw [ei] at h
  refine ⟨fun h1 => ?_, fun h1 => h.done hz fun q a b => ?_⟩
  · have ei2 : ys.getD (i + 1) 0 = ys[i + 1] := by rw [List.getD_eq_getElem?_getD, List.getElem?_eq_getElem h1]; rfl
    rw [ei2]
    refine h.next hz (hp i (i + 1) hi h1 (by omega)) fun q a b => ?_
    obtain ⟨j, hj, e⟩ := List.getElem_of_mem (hmem q a b)
    rw [← e]
    by_cases hji : j ≤ i
    · left
      by_cases e2 : j = i
      · subst e2; exact Int.le_refl _
      · have := hp j i hj hi (by omega); omega
    · right
      by_cases e2 : j = i + 1
      · subst e2; exact Int.le_refl _
      · have := hp (i + 1) j h1 hj (by omega); omega
  · obtain ⟨j, hj, e⟩ := List.getElem_of_mem (hmem q a b)
    rw [← e]
    by_cases e2 : j = i
    · subst e2; exact Int.le_refl _
    · have := hp j i hj hi (by omega); omega

end Go.Proofs.YtlbmijcpalfaeaaDoor

set_option linter.unusedSimpArgs false
set_option linter.unusedVariables false
namespace Go.Proofs.YtlbmijcpalfaeaaDoor
open Go.RowKit Go.Lib Go.Sort

/-- Two rows in order, put together up to here. -/
structure MgI (c : Int → Int → Int) (a b : List Int) (i k : Nat) (os : List Int) : Prop where
  perm : os.Perm (a.take i ++ b.take k)
  srt : os.Pairwise fun x y => c x y ≤ 0
  la : ∀ x ∈ os, ∀ y ∈ a.drop i, c x y ≤ 0
  lb : ∀ x ∈ os, ∀ y ∈ b.drop k, c x y ≤ 0
theorem MgI.start (c : Int → Int → Int) (a b : List Int) : MgI c a b 0 0 [] := ⟨by simp, List.Pairwise.nil, fun x hx => (by cases hx), fun x hx => (by cases hx)⟩
theorem MgI.done {c : Int → Int → Int} {a b : List Int} {i : Nat} {os : List Int} (h : MgI c a b i b.length os) (sa : a.Pairwise fun x y => c x y ≤ 0) : (os ++ a.drop i).Perm (a ++ b) ∧ (os ++ a.drop i).Pairwise fun x y => c x y ≤ 0 := by
  refine ⟨?_, List.pairwise_append.2 ⟨h.srt, sa.sublist (List.drop_sublist _ _), h.la⟩⟩
  have e := h.perm.append_right (a.drop i)
  rw [List.take_length] at e
  refine e.trans ?_
  rw [List.append_assoc]
  refine (List.Perm.append_left _ List.perm_append_comm).trans ?_
  rw [← List.append_assoc, List.take_append_drop]
/-- A piece of a row. -/
theorem Ints.cut {w : World} {B : Nat} {ao : Option Addr} {n cap : Nat} {ks : List Int} (h : Ints w B (.slice ao n cap) ks) {m : Nat} (hm : m ≤ n) : Ints w B (.slice ao m cap) (ks.take m) := by
  obtain ⟨ao', cap', h1, h2, h3, h4⟩ := h
  injection h1 with h1 h5 h6
  subst h1; subst h6
  refine ⟨ao, cap, by rw [List.length_take]; congr 1; omega, by rw [List.length_take]; omega, h3, ?_⟩
  rcases h4 with rfl | ⟨b, o, rfl, hb, hc⟩
  · left; simp
  · right
    refine ⟨b, o, rfl, hb, fun j hj => ?_⟩
    rw [List.length_take] at hj
    rw [hc j (by omega)]
    congr 2
    simp only [List.getD_eq_getElem?_getD]
    rw [List.getElem?_take, if_pos (by omega)]
end Go.Proofs.YtlbmijcpalfaeaaDoor

set_option linter.unusedSimpArgs false
set_option linter.unusedVariables false
namespace Go.Proofs.YtlbmijcpalfaeaaDoor
open Go.RowKit Go.Lib

def u8V (b : UInt8) : Value := .int .u8 (b.toNat : Nat)
/-- Bytes of the call's own. -/
def OwnU (w : World) (base : Nat) (v : Value) (l : List UInt8) : Prop := w.ownsRow base 5 1 v l.length (l.map u8V)
theorem OwnU.slice {w : World} {base : Nat} {v : Value} {l : List UInt8} (h : OwnU w base v l) : ∃ va vc, v = .slice va l.length vc ∧ (0 < l.length → ∃ g, va = some ⟨g, 0, none⟩ ∧ ∀ j (hj : j < l.length), w.cell? ⟨g, j, none⟩ = some (.int .u8 (l[j].toNat : Nat))) := by
  rcases h.2 with ⟨rfl, e⟩ | ⟨g, cap, cur, rfl, hb, hg, h1, h2, _⟩
  · exact ⟨none, 0, by rw [e], fun h => by omega⟩
  · refine ⟨_, _, rfl, fun _ => ⟨g, rfl, fun j hj => ?_⟩⟩
    obtain ⟨u, a1, a2⟩ := rw_cell h (i := j) (by omega)
    rw [a1, ← a2, List.getElem?_map, List.getElem?_eq_getElem hj]
    rfl
theorem OwnU.below {w w2 : World} {base : Nat} {v : Value} {l : List UInt8} (h : OwnU w base v l) (hb : Below w.heap.size w w2) : OwnU w2 base v l := ownsRow_below h hb
end Go.Proofs.YtlbmijcpalfaeaaDoor

set_option linter.unusedSimpArgs false
set_option linter.unusedVariables false
namespace Go.Proofs.YtlbmijcpalfaeaaDoor
open Go.RowKit Go.Lib Go.Sort

theorem Clss.cellC {w : World} {B : Nat} {ao : Option Addr} {n cap : Nat} {cs : List Cls} (h : Clss w B (.slice ao n cap) cs) {i : Nat} (hi : i < cs.length) : ∃ b o na nc, ao = some ⟨b, o, none⟩ ∧ b < B ∧ w.cell? ⟨b, o + i * 2, none⟩ = some (.slice na (clA cs i).nodes.length nc) ∧ w.cell? ⟨b, o + i * 2 + 1, none⟩ = some (.int .i64 (clA cs i).size) ∧ Nodes w B (.slice na (clA cs i).nodes.length nc) (clA cs i).nodes := by
  obtain ⟨ao', cap', h1, _, _, h2⟩ := h
  injection h1 with h1 _ _
  rcases h2 with h2 | ⟨b, o, h2, h3, h4⟩
  · subst h2; simp at hi
  · obtain ⟨na, nc, h5, h6, h7⟩ := h4 i hi
    exact ⟨b, o, na, nc, h1.trans h2, h3, h5, h6, h7⟩
theorem Clss.bnd {w : World} {B : Nat} {ao : Option Addr} {n cap : Nat} {cs : List Cls} (h : Clss w B (.slice ao n cap) cs) : n = cs.length ∧ cs.length ≤ cap ∧ cap ≤ 9223372036854775807 := by
  obtain ⟨ao', cap', h1, h2, h3, _⟩ := h
  injection h1 with h1 h4 h5
  unfold maxLen at h3
  subst h5
  exact ⟨h4, h2, by omega⟩
end Go.Proofs.YtlbmijcpalfaeaaDoor

set_option linter.unusedSimpArgs false
set_option linter.unusedVariables false
namespace Go.Proofs.YtlbmijcpalfaeaaDoor.Gt
open Go.RowKit Go.Lib Go.Sort

/-- What graph.Of answers. -/
def GoQ (b : Bool) (e : Ending) : Prop := ∃ (v : Value) (z : Int), e = .returned (.tuple #[v, .int .i64 z]) ∧ (z = 0 ∧ b = true ∨ z = 1 ∧ b = false)
set_option maxRecDepth 20000 in
set_option maxHeartbeats 32000000 in
theorem gOf_any (cs : List Cls) (roots : List Int) (ca ra : Option Addr) (cc rc : Nat) (w : World) (T : Tabs w) (hc : Clss w w.heap.size (.slice ca cs.length cc) cs) (hr : Ints w w.heap.size (.slice ra roots.length rc) roots) (hw : ∀ c ∈ cs, c.nodes.length * 56 ≤ 140737488351232) (hrw : roots.length * 8 ≤ 140737488355328) (hN : ∀ c ∈ cellsL cs, N6 c.1.n ∧ c.1.name.size ≤ 281474976710656) :
    Calls Tryd.prog 72 #[.agg #[.slice ca cs.length cc, .slice ra roots.length rc]] w fun e w' => GoQ (ofB cs roots) e ∧ Below w.heap.size w w' := by
  obtain ⟨B, hB⟩ : ∃ B, ofB cs roots = B := ⟨_, rfl⟩
  have HNO : Sld (¬ OfOk cs roots → B = false) := ⟨fun h => by
    cases hb : B with
    | false => rfl
    | true => exact absurd (ofB_ok (hB.trans hb)) h⟩
  have HYES : Sld (ofB cs roots = B) := ⟨hB⟩
  have HLS : Sld ((bdP cs roots && lsA cs cs.length) = false → B = false) := ⟨fun h => by rw [← hB]; unfold ofB; rw [h]; rfl⟩
  rw [hB]
  obtain ⟨W1, hW1⟩ : ∃ W1, w.alloc (.cells #[.slice ca cs.length cc, .slice ra roots.length rc] 56) = W1 := ⟨_, rfl⟩
  have hb1 : Below w.heap.size w W1 := by rw [← hW1]; exact (Below.refl _ _).alloc (Nat.le_refl _) _
  have hk1 : W1.heap[w.heap.size]? = some (.cells #[.slice ca cs.length cc, .slice ra roots.length rc] 56 (0, 0)) := by rw [← hW1, Deep.blk_alloc_new]
  obtain ⟨_, hcc1, hcc2⟩ := hc.bnd
  obtain ⟨_, hrc1, hrc2⟩ := hr.bnd
  have HW1 := Sld.mk hW1
  have HB1 := Sld.mk hb1
  have HC1 := Sld.mk (hc.below hb1 hb1.size)
  have HR1 := Sld.mk (hr.below hb1 hb1.size)
  have HWW := Sld.mk hw
  have HNN : Sld (∀ (c : Nat), c < cs.length → ∀ x ∈ (clA cs c).nodes, N6 x.n ∧ x.name.size ≤ 281474976710656) := ⟨fun c hc x hx => hN (x, (c : Int)) (mem_cells.2 ⟨by omega, by omega, by simpa using hx⟩)⟩
  have HT1 := Sld.mk (T.below hb1)
  have HP : Sld (∀ V, Below W1.heap.size W1 V → V.cell? ⟨w.heap.size, 0, none⟩ = some (.slice ca cs.length cc) ∧ V.cell? ⟨w.heap.size, 1, none⟩ = some (.slice ra roots.length rc) ∧ Below w.heap.size w V) := ⟨fun V hV => by
    have h1 := (hV.block _ (lt_of_block hk1)).trans hk1
    exact ⟨by simp [World.cell?, h1], by simp [World.cell?, h1], hb1.trans (hV.mono hb1.size)⟩⟩
  obtain ⟨p0, p1, _⟩ := HP.out W1 (Below.refl _ _)
  have CL := Sld.mk (leasts_any cs roots ca ra cc rc W1 HT1.out HC1.out HR1.out HWW.out)
  clear hW1 hb1 hk1 hc hr hw hN hB
  go_enter Tryd.func72, Tryd.ntmps72
  go_wp2_with fail
  rw [HW1.out]
  go_wp2_with fail
  refine CL.out.mono ?_
  rintro e w2 ⟨hls, hb2⟩
  have HB2 := Sld.mk hb2
  rcases hls with ⟨hf, rfl⟩ | ⟨hf, v, rfl, hm⟩
  · have HF := Sld.mk (HLS.out hf)
    have HBW := Sld.mk ((HP.out _ hb2).2.2)
    clear hb2 CL hf
    go_wp2_with fail
    go_ret2
    exact ⟨⟨_, 1, rfl, .inr ⟨rfl, HF.out⟩⟩, HBW.out⟩
  · have HBD := Sld.mk hf
    have HLO := Sld.mk (LsOk.of hf)
    have HM := Sld.mk hm
    obtain ⟨va, vc, rfl⟩ := hm.form
    have hfew := HLO.out.few
    clear hb2 CL hf hm HLS p0 p1
    have CN := Sld.mk (gnew_any w2)
    go_wp2_with fail
    refine CN.out.mono ?_
    rintro e w3 ⟨rfl, hw3⟩
    obtain ⟨p, hp⟩ : ∃ p, w2.heap.size = p := ⟨_, rfl⟩
    have hg3 : GrM w3 p G00 := by rw [hw3, ← hp]; exact GrM.start w2
    have hb3 : Below w2.heap.size w2 w3 := by rw [hw3]; exact (Below.refl _ _).alloc (Nat.le_refl _) _
    have HG3 := Sld.mk hg3
    have HPW : Sld (W1.heap.size ≤ p) := ⟨by rw [← hp]; exact HB2.out.size⟩
    -- whatever has become of the graph, what lies ahead of it is as it was
    have HSW : Sld (∀ V G, GrT w3 p G00 G V → Below p w2 V ∧ Below W1.heap.size W1 V) := ⟨fun V G hg => by
      have h1 : Below p w2 V := by rw [← hp]; rw [← hp] at hg hg3; exact hb3.trans (hg.below hg3)
      exact ⟨h1, HB2.out.trans (h1.mono (by rw [← hp]; exact HB2.out.size))⟩⟩
    have HPE := Sld.mk hp
    rw [hp]
    clear hw3 hb3 hg3 CN hp
    go_wp2_with fail
    go_loopw [27] (fun q wr => ∃ (j : Nat) (G : Gs), j ≤ cs.length ∧ q = .int .i64 j ∧ Sld (GrT w3 p G00 G wr) ∧ Sld (Of1 cs j G)) (fun q _ => cs.length - (RowKit.intOf q).toNat)
    case atStart => exact ⟨0, G00, by omega, rfl, ⟨⟨HG3.out, Tk.refl _ _, fun b h => .inl h⟩⟩, ⟨OfI.start, rfl, fun k h => by omega, fun k h => by omega⟩⟩
    case round =>
      rename World => Y
      obtain ⟨j, G, hj, rfl, HG, HO⟩ := hrel
      obtain ⟨hBp, hB1⟩ := HSW.out Y G HG.out
      have HBp := Sld.mk hBp
      have HBY := Sld.mk hB1
      by_cases hlt : j < cs.length
      · obtain ⟨g, cap, ka, kc, hv, hj1, hj2, hgl, a0, a1, a2, a3, hki⟩ := HM.out.at_ hlt
        injection hv with hva _ hvc
        subst hva; subst hvc
        have hgp : g < p := by rw [← HPE.out]; exact hgl
        have d0 := (hBp.cell (p := ⟨g, j * 4, none⟩) hgp).trans a0
        have d1 := (hBp.cell (p := ⟨g, j * 4 + 1, none⟩) hgp).trans a1
        have d2 := (hBp.cell (p := ⟨g, j * 4 + 2, none⟩) hgp).trans a2
        have d3 := (hBp.cell (p := ⟨g, j * 4 + 3, none⟩) hgp).trans a3
        have hst := HO.out.step HLO.out hlt
        have hx := HNN.out j hlt _ (HLO.out.least hlt).1
        have HAF : Sld (formB (lsN cs j) = false → B = false) := ⟨fun hf => HNO.out (fun h => by
          have := h.form _ (clA_mem hlt) _ (HLO.out.least hlt).1
          rw [hf] at this; cases this)⟩
        have hjv : j ≤ cs.length := hj
        unfold maxLen at hj2
        generalize lsN cs j = x at *
        obtain ⟨Y1, hY1⟩ : ∃ Y1, Y.alloc (.cells #[.int .i64 x.op, .int .i64 x.n, .string x.name, .slice ka x.kids.length kc] 43) = Y1 := ⟨_, rfl⟩
        have hbY1 : Below Y.heap.size Y Y1 := by rw [← hY1]; exact (Below.refl _ _).alloc (Nat.le_refl _) _
        have hx1 : Y1.heap[Y.heap.size]? = some (.cells #[.int .i64 x.op, .int .i64 x.n, .string x.name, .slice ka x.kids.length kc] 43 (0, 0)) := by rw [← hY1, Deep.blk_alloc_new]
        obtain ⟨x0, x1, x2, x3⟩ := blk4N hx1
        have hB1' : Below W1.heap.size W1 Y1 := hB1.trans (hbY1.mono hB1.size)
        have hGY := HG.out.gr.below hbY1
        have HGT := Sld.mk (HG.out.trans (GrT.of_below HG.out.gr hbY1))
        have hLen : G.L.length = j := by rw [HO.out.L, lsL_len]
        have hS := seat_both hGY (HT1.out.below hB1').spans x ka kc ⟨hki.below hB1' hB1'.size, hx.1, hx.2⟩ (fun b o hk hn hs => by
          have h1 := Ints.far hki hk hn
          have h2 := hGY.base b hs
          have := HPW.out; omega) (-1) (.inl rfl) (HO.out.oi.gsB (by omega))
        have HY1 := Sld.mk hY1
        have HBW := Sld.mk ((HP.out _ hB1).2.2)
        cases hf : formB x with
        | false =>
          have HF := Sld.mk (HAF.out hf)
          rw [ptR_bad hf] at hS
          have CS := Sld.mk hS
          generalize (ptR G.L x).1 = id at *
          clear hst hx HAF hY1 hbY1 hx1 hB1' hGY hS hki hB1 hBp a0 a1 a2 a3 hf
          go_wp2_with (rw [HY1.out])
          refine CS.out.mono ?_
          rintro e w6 ⟨rfl, G', hg6, _⟩
          have HB6 := Sld.mk ((HP.out _ (HSW.out _ G' (HGT.out.trans hg6)).2).2.2)
          clear hg6 CS
          go_wp2_with fail
          go_ret2
          exact ⟨⟨_, 1, rfl, .inr ⟨rfl, HF.out⟩⟩, HB6.out⟩
        | true =>
          obtain ⟨hE, _, hnx⟩ := hst hf
          rw [hE] at hS
          have CS := Sld.mk hS
          have HNX := Sld.mk hnx
          generalize (ptR G.L x).1 = id at *
          clear hst hx HAF hY1 hbY1 hx1 hB1' hGY hS hki hB1 hBp a0 a1 a2 a3 hf hE hnx
          go_wp2_with (rw [HY1.out])
          refine CS.out.mono ?_
          rintro e w6 ⟨rfl, G', hg6, hs6⟩
          have HG6 := Sld.mk (HGT.out.trans hg6)
          have HO6 := Sld.mk (HNX.out G' hs6)
          clear hg6 hs6 CS HNX
          go_wp2_with fail
          exact ⟨⟨j + 1, G', by omega, by go_num, HG6, HO6⟩, by simp [RowKit.intOf]; omega⟩
      · have hje : j = cs.length := by omega
        subst hje
        have HO2 := Sld.mk (HO.out.two HLO.out)
        obtain ⟨p0, p1, _⟩ := HP.out Y hB1
        clear hBp hB1 HO
        go_wp2_with fail
        go_loopw [43] (fun q wr => ∃ (ci : Nat) (G : Gs), ci ≤ cs.length ∧ q = .int .i64 ci ∧ Sld (GrT w3 p G00 G wr) ∧ Sld (Of2 cs ci 0 G)) (fun q _ => cs.length - (RowKit.intOf q).toNat)
        case atStart => exact ⟨0, G, by omega, rfl, HG, HO2⟩
        case round =>
          clear HG HO2 HBp HBY p0 p1
          rename World => Y
          obtain ⟨ci, G, hci, rfl, HG, HO⟩ := hrel
          obtain ⟨hBp, hB1⟩ := HSW.out Y G HG.out
          by_cases hlt : ci < cs.length
          · obtain ⟨cb, co, na, nc, rfl, hcb, c0, c1, hNd⟩ := HC1.out.cellC hlt
            have d0 := (hB1.cell (p := ⟨cb, co + ci * 2, none⟩) hcb).trans c0
            have d1 := (hB1.cell (p := ⟨cb, co + ci * 2 + 1, none⟩) hcb).trans c1
            obtain ⟨_, hm1, hm2⟩ := hNd.bnd
            obtain ⟨Y1, hY1⟩ : ∃ Y1, Y.alloc (.cells #[.slice na (clA cs ci).nodes.length nc, .int .i64 (clA cs ci).size] 106) = Y1 := ⟨_, rfl⟩
            have hbY1 : Below Y.heap.size Y Y1 := by rw [← hY1]; exact (Below.refl _ _).alloc (Nat.le_refl _) _
            have hx1 : Y1.heap[Y.heap.size]? = some (.cells #[.slice na (clA cs ci).nodes.length nc, .int .i64 (clA cs ci).size] 106 (0, 0)) := by rw [← hY1, Deep.blk_alloc_new]
            have x0 : Y1.cell? ⟨Y.heap.size, 0, none⟩ = some (.slice na (clA cs ci).nodes.length nc) := by simp [World.cell?, hx1]
            have HGT := Sld.mk (HG.out.trans (GrT.of_below HG.out.gr hbY1))
            have HY1 := Sld.mk hY1
            have HND := Sld.mk hNd
            have hciI : (ci : Int) < (cs.length : Int) := by omega
            generalize (clA cs ci).size = csz at *
            clear hY1 hbY1 hx1 hNd hBp hB1 c0 c1
            go_wp2_with (rw [HY1.out])
            go_loopw [51] (fun q wr => ∃ (i : Nat) (G : Gs), i ≤ (clA cs ci).nodes.length ∧ q = .int .i64 i ∧ Sld (GrT w3 p G00 G wr) ∧ Sld (Of2 cs ci i G)) (fun q _ => (clA cs ci).nodes.length - (RowKit.intOf q).toNat)
            case atStart => exact ⟨0, G, by omega, rfl, HGT, HO⟩
            case round =>
              clear HGT HO HG x0
              rename World => Z
              obtain ⟨i, G, hi, rfl, HG, HO⟩ := hrel
              obtain ⟨hBp, hB1⟩ := HSW.out Z G HG.out
              by_cases hlt2 : i < (clA cs ci).nodes.length
              · obtain ⟨nb, no, ka, kc, rfl, hnb, hna⟩ := HND.out.cellN hlt2
                have hst := fun hI => HO.out.step HLO.out hI hlt hlt2
                have hTI : TbI G.L := (@TbM.facts G.gr _ _ _ _ _ HG.out.gr.tb).2.2.1
                have hst := hst hTI
                have hx := HNN.out ci hlt _ (ndA_mem hlt2)
                have HAF : Sld (formB (ndA (clA cs ci).nodes i) = false → B = false) := ⟨fun hf => HNO.out (fun h => by
                  have := h.form _ (clA_mem hlt) _ (ndA_mem hlt2)
                  rw [hf] at this; cases this)⟩
                obtain ⟨a0, a1, a2, a3, hki⟩ := hna
                generalize ndA (clA cs ci).nodes i = x at *
                have d0 := (hB1.cell (p := ⟨nb, no + i * 4, none⟩) hnb).trans a0
                have d1 := (hB1.cell (p := ⟨nb, no + i * 4 + 1, none⟩) hnb).trans a1
                have d2 := (hB1.cell (p := ⟨nb, no + i * 4 + 2, none⟩) hnb).trans a2
                have d3 := (hB1.cell (p := ⟨nb, no + i * 4 + 3, none⟩) hnb).trans a3
                obtain ⟨Z1, hZ1⟩ : ∃ Z1, Z.alloc (.cells #[.int .i64 x.op, .int .i64 x.n, .string x.name, .slice ka x.kids.length kc] 43) = Z1 := ⟨_, rfl⟩
                have hbZ1 : Below Z.heap.size Z Z1 := by rw [← hZ1]; exact (Below.refl _ _).alloc (Nat.le_refl _) _
                have hx1 : Z1.heap[Z.heap.size]? = some (.cells #[.int .i64 x.op, .int .i64 x.n, .string x.name, .slice ka x.kids.length kc] 43 (0, 0)) := by rw [← hZ1, Deep.blk_alloc_new]
                obtain ⟨x0, x1, x2, x3⟩ := blk4N hx1
                have hB1' : Below W1.heap.size W1 Z1 := hB1.trans (hbZ1.mono hB1.size)
                have hGY := HG.out.gr.below hbZ1
                have HGT := Sld.mk (HG.out.trans (GrT.of_below HG.out.gr hbZ1))
                have hLen : G.L.length ≤ 1048576 := hTI.le
                have hSS := HO.out.oi.ssLen
                have hGe := HO.out.ge
                have hS := seat_both hGY (HT1.out.below hB1').spans x ka kc ⟨hki.below hB1' hB1'.size, hx.1, hx.2⟩ (fun b o hk hn hs => by
                  have h1 := Ints.far hki hk hn
                  have h2 := hGY.base b hs
                  have := HPW.out; omega) (ci : Int) (.inr ⟨ci, rfl, by omega⟩) (HO.out.oi.gsB hLen)
                have HZ1 := Sld.mk hZ1
                cases hf : formB x with
                | false =>
                  have HF := Sld.mk (HAF.out hf)
                  rw [ptR_bad hf] at hS
                  have CS := Sld.mk hS
                  generalize (ptR G.L x).1 = id at *
                  clear hst hx HAF hZ1 hbZ1 hx1 hB1' hGY hS hki hB1 hBp a0 a1 a2 a3 hf
                  go_wp2_with (rw [HZ1.out])
                  refine CS.out.mono ?_
                  rintro e w6 ⟨rfl, G', hg6, _⟩
                  have HB6 := Sld.mk ((HP.out _ (HSW.out _ G' (HGT.out.trans hg6)).2).2.2)
                  clear hg6 CS
                  go_wp2_with fail
                  go_ret2
                  exact ⟨⟨_, 1, rfl, .inr ⟨rfl, HF.out⟩⟩, HB6.out⟩
                | true =>
                  obtain ⟨hE, c, hne, hnx⟩ := hst hf
                  rw [hE] at hS
                  have CS := Sld.mk hS
                  have HNX := Sld.mk hnx
                  have HNE := Sld.mk hne
                  generalize (ptR G.L x).1 = id at *
                  clear hst hx HAF hZ1 hbZ1 hx1 hB1' hGY hS hki hB1 hBp a0 a1 a2 a3 hf hE hnx hne
                  go_wp2_with (rw [HZ1.out])
                  refine CS.out.mono ?_
                  rintro e w6 ⟨rfl, G', hg6, hs6⟩
                  have HG6 := Sld.mk (HGT.out.trans hg6)
                  obtain ⟨⟨st, hstn⟩, hn6⟩ := HNX.out G' hs6
                  have CT := Sld.mk (stands_any hg6.gr hstn)
                  clear hg6 hs6 CS HNX hstn
                  by_cases hcc : c = ci
                  · have HO6 := Sld.mk (hn6 hcc)
                    subst hcc
                    clear hn6 HNE
                    go_wp2_with fail
                    refine CT.out.mono ?_
                    rintro e w7 ⟨rfl, rfl⟩
                    clear CT
                    go_wp2_with fail
                    exact ⟨⟨i + 1, G', by omega, by go_num, HG6, HO6⟩, by simp [RowKit.intOf]; omega⟩
                  · have HF := Sld.mk (HNO.out (HNE.out hcc))
                    have e1 : ((c : Int) != (ci : Int)) = true := by simp; omega
                    have HB6 := Sld.mk ((HP.out _ (HSW.out _ G' HG6.out).2).2.2)
                    clear hn6 HNE hcc
                    go_wp2_with fail
                    refine CT.out.mono ?_
                    rintro e w7 ⟨rfl, rfl⟩
                    clear CT
                    go_wp2_with fail
                    go_ret2
                    exact ⟨⟨_, 1, rfl, .inr ⟨rfl, HF.out⟩⟩, HB6.out⟩
              · have hie : i = (clA cs ci).nodes.length := by omega
                subst hie
                have HO6 := Sld.mk (HO.out.next hlt)
                clear HO hBp hB1
                go_wp2_with fail
                exact ⟨⟨ci + 1, G, by omega, by go_num, HG, HO6⟩, by simp [RowKit.intOf]; omega⟩
          · have hce : ci = cs.length := by omega
            subst hce
            have hTI : TbI G.L := (@TbM.facts G.gr _ _ _ _ _ HG.out.gr.tb).2.2.1
            have HB := Sld.mk (HYES.out.symm.trans (HO.out.end_ hTI HBD.out))
            obtain ⟨p0, p1, hbw⟩ := HP.out Y hB1
            have CC := Sld.mk (clone_any Y ra rc roots (HR1.out.below hB1 hB1.size) hrw)
            have HBW := Sld.mk hbw
            have HWP : Sld (w.heap.size ≤ p) := ⟨Nat.le_trans HB1.out.size HPW.out⟩
            clear HO hBp hB1 hTI hbw
            go_wp2_with fail
            refine CC.out.mono ?_
            rintro e w6 ⟨⟨sa, sn, sc, rfl⟩, hb6⟩
            obtain ⟨_, _, _, _, _, g5, gf⟩ := (HG.out.gr.below hb6).cells
            have gf5 := gf 5
            have HBX : Sld (Below w.heap.size w (w6.setCell ⟨p, 5, none⟩ (.slice sa sn sc))) := ⟨(HBW.out.trans (hb6.mono HBW.out.size)).setCell (p := ⟨p, 5, none⟩) HWP.out _⟩
            clear gf hb6 CC
            go_wp2_with fail
            go_ret2
            exact ⟨⟨_, 0, rfl, .inl ⟨rfl, HB.out⟩⟩, HBX.out⟩
end Go.Proofs.YtlbmijcpalfaeaaDoor.Gt

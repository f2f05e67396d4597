/-
  TbR2.
-/
import Derived.Shelf.Unicode.DecodeSlow
import Derived.Laws.RangeAny
import Derived.Shelf.Small.Bits
import Derived.Shelf.Strconv.Itoa0
import Derived.Shelf.LaysM
import Derived.Shelf.Strconv.Clone
import Derived.Shelf.Unicode.DecodeAny
import Derived.Shelf.Slices.CompactS
import Derived.Ground.SlsfProg
import Derived.Shelf.SlSortCmp.Insertion
import Derived.Shelf.SlSortCmp.SiftDown1
import Derived.Shelf.SlSortCmp.HeapSort1
import Derived.Shelf.SlSortCmp.Insertion1
import Derived.Shelf.SlSortCmp.Median1
import Derived.Shelf.SlSortCmp.Pivot1
import Derived.Shelf.SlSortCmp.ReverseRange1
import Derived.Shelf.SlSortCmp.PartialInsertion1
import Derived.Shelf.SlSortCmp.PartitionEqual1
import Derived.Shelf.SlSortCmp.Partition1
import Derived.Shelf.SlSortCmp.Pdq1
import Derived.Shelf.SlSortCmp.Whole1
import Derived.Test.YtpacjofepiojdaaDoorProg
import Derived.WalkKit
import Derived.Deep.DeepFit
import Derived.Lib.OthersKept
import Derived.Lib.RuneCountTail
import Derived.Deep.AppendLies
import Derived.Deep.OwnRows
import Derived.Laws.AppendOwnNone
import Derived.Deep.QuietTactic
import Derived.BigQuiet
import Derived.Deep.RegionWith
import Derived.Laws.DeepStrings4
import Derived.Below
import Derived.Maps.OwnSet
import Derived.Maps.Keyed
import Derived.DeepKeys4
import Derived.Lib.QuietBelow
import Derived.StillTail
import Derived.Deep.RegionHeld3
import Derived.Laws.ResultCell
import Derived.Laws.CopyOwn
import Derived.Deep.RegionLaw
import Derived.Test.YtpacjofepiojdaaDoorP01
import Derived.Test.YtpacjofepiojdaaDoorP02
import Derived.Test.YtpacjofepiojdaaDoorP03
import Derived.Test.YtpacjofepiojdaaDoorP04
import Derived.Test.YtpacjofepiojdaaDoorP05
import Derived.Test.YtpacjofepiojdaaDoorP06
import Derived.Test.YtpacjofepiojdaaDoorP07
import Derived.Test.YtpacjofepiojdaaDoorP08
import Derived.Test.YtpacjofepiojdaaDoorP09
import Derived.Test.YtpacjofepiojdaaDoorP10
import Derived.Test.YtpacjofepiojdaaDoorP11
import Derived.Test.YtpacjofepiojdaaDoorP12
import Derived.Test.YtpacjofepiojdaaDoorP13
import Derived.Test.YtpacjofepiojdaaDoorP14
import Derived.Test.YtpacjofepiojdaaDoorP15
import Derived.Test.YtpacjofepiojdaaDoorP16
import Derived.Test.YtpacjofepiojdaaDoorP17
set_option linter.unusedSimpArgs false
set_option linter.unusedVariables false
namespace Go.Proofs.YtpacjofepiojdaaDoor
open Go.RowKit Go.Lib Go.Sort Go.Maps

/-- The document's table behind a call. -/
structure RtT (z : Nat) (w : World) (q : Nat) (lv : Value) (pl : List (Nd × Value)) (lv' : Value) (pl' : List (Nd × Value)) (L' : List Nd) (w' : World) : Prop where
  rt : RtM w' q lv' pl' L'
  kp : ∀ b, b < w.heap.size → b ≠ q → lv.ownBlock ≠ some b → w'.heap[b]? = w.heap[b]?
  below : Below q w w'
  yo : lv'.ownBlock = lv.ownBlock ∨ ∀ b, lv'.ownBlock = some b → w.heap.size ≤ b
  ky : ∀ y ∈ pl', y ∈ pl ∨ ∀ b, y.2.ownBlock = some b → z ≤ b
theorem RtT.of_below {z : Nat} {w w' : World} {q : Nat} {lv : Value} {pl : List (Nd × Value)} {L : List Nd} (h : RtM w q lv pl L) (hb : Below w.heap.size w w') : RtT z w q lv pl lv pl L w' :=
  ⟨h.below hb, fun b hl _ _ => hb.block b hl, hb.mono (Nat.le_of_lt h.lt), .inl rfl, fun y hy => .inl hy⟩
theorem RtT.trans {z : Nat} {w w' w'' : World} {q : Nat} {lv lv' lv'' : Value} {pl pl' pl'' : List (Nd × Value)} {L' L'' : List Nd} (h : RtT z w q lv pl lv' pl' L' w') (k : RtT z w' q lv' pl' lv'' pl'' L'' w'') (hz : w.heap.size ≤ w'.heap.size) : RtT z w q lv pl lv'' pl'' L'' w'' := by
  refine ⟨k.rt, fun b hb hne hno => (k.kp b (by omega) hne (fun e => ?_)).trans (h.kp b hb hne hno), h.below.trans k.below, ?_, fun y hy => ?_⟩
  · rcases h.yo with h1 | h1
    · rw [h1] at e; exact hno e
    · have := h1 b e; omega
  · rcases k.yo with h1 | h1
    · rw [h1]; exact h.yo
    · exact .inr fun b hb => by have := h1 b hb; omega
  · rcases k.ky y hy with h1 | h1
    · exact h.ky y h1
    · exact .inr h1
/-- A new entry. -/
theorem RtM.put {w w7 w8 : World} {q : Nat} {lv : Value} {pl : List (Nd × Value)} {L : List Nd} (h : RtM w q lv pl L) {B0 : Nat} (hB0 : B0 ≤ w.heap.size) (hq0 : q < B0) (hb0 : ∀ b, lv.ownBlock = some b → b < B0) {o : Obj} {x : Nd} {kv : Value} {g cap : Nat} (hk : OwnI w B0 kv x.kids) (hg : (w.alloc o).grownBy w7 lv.ownBlock)
    (ho : w7.ownsRow (q + 1) 63 4 (.slice (some ⟨g, 0, none⟩) (L.length + 1) cap) (L.length + 1) (ndCells pl ++ [.int .i64 x.op, .int .i64 x.n, .string x.name, kv])) (hat : lv.ownBlock = some g ∨ g = (w.alloc o).heap.size) (he : w7.setCell ⟨q, 0, none⟩ (.slice (some ⟨g, 0, none⟩) (L.length + 1) cap) = w8) :
    RtT B0 w q lv pl (.slice (some ⟨g, 0, none⟩) (L.length + 1) cap) (pl ++ [(x, kv)]) (L ++ [x]) w8 := by
  subst he
  have hl := h.lt
  have hlen := h.len
  have hkk : ∀ b, b < w.heap.size → lv.ownBlock ≠ some b → w7.heap[b]? = w.heap[b]? := fun b hb hne => (hg.block b (by rw [World.size_alloc]; omega) (fun e => hne e.symm)).trans (Deep.blk_alloc_lt _ _ _ hb)
  have hnq : lv.ownBlock ≠ some q := fun e => by have := (rw_block h.own.row e).1; omega
  have hb7 := (hkk q hl hnq).trans h.blk
  have hb8 := heap_setCell_same w7 q 0 _ _ (.slice (some ⟨g, 0, none⟩) (L.length + 1) cap) hb7
  have oth : ∀ b, b ≠ q → (w7.setCell ⟨q, 0, none⟩ (.slice (some ⟨g, 0, none⟩) (L.length + 1) cap)).heap[b]? = w7.heap[b]? := fun b hb => Deep.blk_setCell_other _ _ _ _ hb
  have hrow : ∀ {bs n : Nat} {v : Value} {xs : List Value}, w.ownsRow bs 3 1 v n xs → q < bs → (w7.setCell ⟨q, 0, none⟩ (.slice (some ⟨g, 0, none⟩) (L.length + 1) cap)).ownsRow bs 3 1 v n xs := fun {bs n v xs} hr hqb => rw_same hr fun b hb => by
    obtain ⟨h1, h2, cap', cur, _, hc, _⟩ := rw_block hr hb
    rw [oth b (by omega), hkk b h2 (fun e => by
      obtain ⟨_, _, _, cur2, _, hc2, _⟩ := rw_block h.own.row e
      rw [hc] at hc2
      injection hc2 with hc2
      injection hc2 with _ hc2 _
      exact absurd hc2 (by decide))]
  refine ⟨⟨by simpa using hb8, ⟨?_, fun y hy => ?_⟩, by rw [List.map_append, h.nodes]; rfl⟩, fun b hb hne hno => (oth b hne).trans (hkk b hb hno), ?_, ?_, fun y hy => ?_⟩
  · rw [show (pl ++ [(x, kv)]).length = L.length + 1 by simp [hlen]]
    have e : ndCells (pl ++ [(x, kv)]) = ndCells pl ++ [.int .i64 x.op, .int .i64 x.n, .string x.name, kv] := by rw [ndCells_append]; rfl
    rw [e]
    exact rw_same ho fun b hb => oth b (fun e => by subst e; have := (rw_block ho hb).1; omega)
  · rcases List.mem_append.1 hy with h1 | h1
    · exact hrow (h.own.kids y h1) (by omega)
    · have : y = (x, kv) := by simpa using h1
      subst this
      have := hrow hk hq0
      exact ⟨this.1, this.2.imp id fun ⟨g, cap, cur, h1, h2, h3⟩ => ⟨g, cap, cur, h1, by omega, h3⟩⟩
  · have hb1 : Below q w w7 := ((Below.refl q w).alloc (by omega) o).trans (Below.grown (Below.refl q _) hg (by rw [World.size_alloc]; omega) (fun j hj => by have := (rw_block h.own.row hj).1; omega))
    exact hb1.setCell (p := ⟨q, 0, none⟩) (Nat.le_refl _) _
  · rcases hat with h1 | h1
    · exact .inl h1.symm
    · refine .inr fun b hb => ?_
      have : b = g := by simpa [Value.ownBlock] using hb.symm
      rw [this, h1, World.size_alloc]; omega
  · rcases List.mem_append.1 hy with h1 | h1
    · exact .inl h1
    · have : y = (x, kv) := by simpa using h1
      subst this
      exact .inr fun b hb => (rw_block hk hb).1
set_option maxRecDepth 20000 in
set_option maxHeartbeats 2000000 in
theorem rNode_ok (w : World) (q : Nat) (lv : Value) (pl : List (Nd × Value)) (L : List Nd) (i : Nat) (h : RtM w q lv pl L) (hi : i < L.length) :
    Calls Tryd.prog 67 #[.pointer (some ⟨q, 0, none⟩), .int .i64 i] w fun e w' => ∃ ka kc, e = .returned (.tuple #[.agg #[.int .i64 (edA L i).op, .int .i64 (edA L i).n, .string (edA L i).name, .slice ka (edA L i).kids.length kc], .int .i64 0]) ∧ OwnI w (q + 1) (.slice ka (edA L i).kids.length kc) (edA L i).kids ∧ Below w.heap.size w w' := by
  obtain ⟨w1, hw1⟩ : ∃ w1, w.alloc (.cells #[.int .i64 0, .int .i64 0, .string ⟨#[]⟩, .slice none 0 0] 63) = w1 := ⟨_, rfl⟩
  have hb1 : Below w.heap.size w w1 := by rw [← hw1]; exact (Below.refl _ _).alloc (Nat.le_refl _) _
  have HB1 : Sld (Below w.heap.size w w1) := ⟨hb1⟩
  have hbk : w1.heap[w.heap.size]? = some (.cells #[.int .i64 0, .int .i64 0, .string ⟨#[]⟩, .slice none 0 0] 63 (0, 0)) := by rw [← hw1, Deep.blk_alloc_new]
  have h1 := h.below hb1
  obtain ⟨g, cap, ka, kc, hlv, hc1, hc2, e0, e1, e2, e3, _⟩ := h1.at_ hi
  have hO : OwnI w (q + 1) (.slice ka (edA L i).kids.length kc) (edA L i).kids := by
    obtain ⟨g', cap', ka', kc', hlv', _, _, _, _, _, e3', hO'⟩ := h.at_ hi
    rw [hlv] at hlv'
    injection hlv' with hg' _ _
    injection hg' with hg'
    injection hg' with hg' _ _
    subst hg'
    have hgl : g < w.heap.size := World.block_lt_of_cell? w _ e3'
    have e3'' := (hb1.cell (p := ⟨g, i * 4 + 3, none⟩) hgl).trans e3'
    rw [e3] at e3''
    injection e3'' with e3''
    rw [e3'']; exact hO'
  subst hlv
  have c0 := h1.c0
  have hiI : (i : Int) < (L.length : Int) := by omega
  unfold maxLen at hc2
  have hcI : (L.length : Int) ≤ (cap : Int) := by omega
  have hcM : (cap : Int) ≤ 9223372036854775807 := by omega
  have HO : Sld (OwnI w (q + 1) (.slice ka (edA L i).kids.length kc) (edA L i).kids) := ⟨hO⟩
  have HW : Sld (w.alloc (.cells #[.int .i64 0, .int .i64 0, .string ⟨#[]⟩, .slice none 0 0] 63) = w1) := ⟨hw1⟩
  have HBK : Sld (w1.heap[w.heap.size]? = some (.cells #[.int .i64 0, .int .i64 0, .string ⟨#[]⟩, .slice none 0 0] 63 (0, 0))) := ⟨hbk⟩
  obtain ⟨y0, y1, y2, y3, yf⟩ := blk4 hbk
  clear h h1 hO hbk hb1 HW
  generalize edA L i = y at *
  obtain ⟨yo, yn, ym, yk⟩ := y
  simp only at e0 e1 e2 e3 HO ⊢
  go_enter Tryd.func67, Tryd.ntmps67
  go_wp2_with fail
  have hS := set4 HBK.out (.int .i64 yo) (.int .i64 yn) (.string ym) (.slice ka yk.length kc)
  have HBE := below_set4 HB1.out (Nat.le_refl w.heap.size) (.int .i64 yo) (.int .i64 yn) (.string ym) (.slice ka yk.length kc)
  generalize (((w1.setCell ⟨w.heap.size, 0, none⟩ (.int .i64 yo)).setCell ⟨w.heap.size, 1, none⟩ (.int .i64 yn)).setCell ⟨w.heap.size, 2, none⟩ (.string ym)).setCell ⟨w.heap.size, 3, none⟩ (.slice ka yk.length kc) = W at *
  obtain ⟨x0, x1, x2, x3, _⟩ := blk4 hS
  refine bodyPost_ret (v := .tuple #[.agg #[.int .i64 yo, .int .i64 yn, .string ym, .slice ka yk.length kc], .int .i64 0]) (by simp [results, Tryd.results67, go_sem, x0, x1, x2, x3]) rfl ⟨ka, kc, rfl, HO.out, HBE⟩
theorem ptR_fd (L : List Nd) (x : Nd) : ((fdR L x).2 ≠ 11 ∧ ptR L x = ((fdR L x).1, (fdR L x).2, L)) ∨ (fdR L x = (0, 11) ∧ shE L x = 0 ∧ ixL L x = none ∧ 1048576 ≤ L.length ∧ ptR L x = (0, 10, L)) ∨ (fdR L x = (0, 11) ∧ shE L x = 0 ∧ ixL L x = none ∧ L.length < 1048576 ∧ ptR L x = (L.length, 0, L ++ [x])) := by
  unfold ptR fdR putS
  rcases shE_cases L x with ⟨hs, _⟩ | ⟨hs, _⟩ | ⟨hs, _⟩
  · left; simp [hs]
  · left; simp [hs]
  · simp only [hs, if_true]
    cases hx : ixL L x with
    | some i => left; simp
    | none =>
      right
      by_cases hl : L.length < 1048576
      · right; simp [hl]
      · left; simp [hl]; omega
set_option maxRecDepth 20000 in
set_option maxHeartbeats 4000000 in
theorem rPut_any (w : World) (q : Nat) (lv : Value) (pl : List (Nd × Value)) (L : List Nd) (x : Nd) (ka : Option Addr) (kc : Nat) (h : RtM w q lv pl L) (hv : NdV w x ka kc) (hI : TbI L) (hkl : x.kids.length * 8 ≤ 140737488351232) :
    Calls Tryd.prog 63 #[.pointer (some ⟨q, 0, none⟩), .agg #[.int .i64 x.op, .int .i64 x.n, .string x.name, .slice ka x.kids.length kc]] w fun e w' => e = .returned (.tuple #[.int .i64 ((ptR L x).1 : Nat), .int .i64 (ptR L x).2.1]) ∧ ∃ lv' pl', RtT w.heap.size w q lv pl lv' pl' (ptR L x).2.2 w' := by
  have hle := hI.le
  have hlt := h.lt
  obtain ⟨w1, hw1⟩ : ∃ w1, w.alloc (.cells #[.int .i64 x.op, .int .i64 x.n, .string x.name, .slice ka x.kids.length kc] 63) = w1 := ⟨_, rfl⟩
  have hb1 : Below w.heap.size w w1 := by rw [← hw1]; exact (Below.refl _ _).alloc (Nat.le_refl _) _
  have hk1 : w1.heap[w.heap.size]? = some (.cells #[.int .i64 x.op, .int .i64 x.n, .string x.name, .slice ka x.kids.length kc] 63 (0, 0)) := by rw [← hw1, Deep.blk_alloc_new]
  have HW1 : Sld (w.alloc (.cells #[.int .i64 x.op, .int .i64 x.n, .string x.name, .slice ka x.kids.length kc] 63) = w1) := ⟨hw1⟩
  have CF : Sld (Calls Tryd.prog 65 #[.pointer (some ⟨q, 0, none⟩), .agg #[.int .i64 x.op, .int .i64 x.n, .string x.name, .slice ka x.kids.length kc]] w1 fun e w' => e = .returned (.tuple #[.int .i64 ((fdR L x).1 : Nat), .int .i64 (fdR L x).2]) ∧ Below w1.heap.size w1 w') := ⟨rFind_any w1 q lv pl L x ka kc (h.below hb1) (hv.below hb1) hI⟩
  have HM : Sld (RtM w q lv pl L ∧ NdV w x ka kc ∧ Below w.heap.size w w1 ∧ w1.heap[w.heap.size]? = some (.cells #[.int .i64 x.op, .int .i64 x.n, .string x.name, .slice ka x.kids.length kc] 63 (0, 0))) := ⟨h, hv, hb1, hk1⟩
  clear hw1
  rcases ptR_fd L x with ⟨hn, hp⟩ | ⟨hfd, hs, hix, hl, hp⟩ | ⟨hfd, hs, hix, hl, hp⟩
  · rw [hp]
    obtain ⟨⟨F1, F2⟩, hF⟩ : ∃ F, fdR L x = F := ⟨_, rfl⟩
    rw [hF] at CF hn ⊢
    simp only at CF hn ⊢
    have hn2 : (F2 != 11) = true := by simp [hn]
    clear hp hF h hv hb1 hk1
    go_enter Tryd.func63, Tryd.ntmps63
    go_wp2_with fail
    rw [HW1.out]
    refine CF.out.mono ?_
    rintro e w2 ⟨rfl, hb2⟩
    have HB2 : Sld (Below w.heap.size w w2) := ⟨HM.out.2.2.1.trans (hb2.mono HM.out.2.2.1.size)⟩
    clear hb2
    go_wp2_with fail
    go_ret2
    exact ⟨rfl, lv, pl, RtT.of_below HM.out.1 HB2.out⟩
  · rw [hp]
    rw [hfd] at CF
    obtain ⟨la, lc, rfl⟩ := h.form
    have hge : decide ((1048576 : Int) ≤ (L.length : Int)) = true := by simp; omega
    clear hp hfd h hv hb1 hk1
    simp only at CF ⊢
    go_enter Tryd.func63, Tryd.ntmps63
    go_wp2_with fail
    rw [HW1.out]
    refine CF.out.mono ?_
    rintro e w2 ⟨rfl, hb2⟩
    have hB2 := HM.out.2.2.1.trans (hb2.mono HM.out.2.2.1.size)
    have HB2 : Sld (Below w.heap.size w w2) := ⟨hB2⟩
    have c0 := (HM.out.1.below hB2).c0
    clear hb2 hB2
    go_wp2_with fail
    go_ret2
    exact ⟨rfl, _, pl, RtT.of_below HM.out.1 HB2.out⟩
  · rw [hp]
    rw [hfd] at CF
    obtain ⟨i0, hi, hz0, hz1, hz2⟩ := info_parts Tryd.infoNode
    obtain ⟨j0, hj, hy0, hy1, hy2⟩ := info_parts Tryd.info3
    obtain ⟨la, lc, rfl⟩ := h.form
    have hge : decide ((1048576 : Int) ≤ (L.length : Int)) = false := by simp; omega
    have HLI : Sld (L.length < 1048576) := ⟨hl⟩
    clear hp hfd h hv hb1 hk1 hl hle
    simp only at CF ⊢
    obtain ⟨xo, xn, xm, xk⟩ := x
    simp only at CF HM HW1 hkl ⊢
    go_enter Tryd.func63, Tryd.ntmps63
    go_wp2_with fail
    rw [HW1.out]
    refine CF.out.mono ?_
    rintro e w2 ⟨rfl, hb2⟩
    have hB2 := HM.out.2.2.1.trans (hb2.mono HM.out.2.2.1.size)
    have HB2 : Sld (Below w.heap.size w w2) := ⟨hB2⟩
    have hM2 := HM.out.1.below hB2
    have HM2 : Sld (RtM w2 q (.slice la L.length lc) pl L) := ⟨hM2⟩
    have c0 := hM2.c0
    have hk2 := (hb2.block _ (lt_of_block HM.out.2.2.2)).trans HM.out.2.2.2
    have HK2 : Sld (w2.heap[w.heap.size]? = some (.cells #[.int .i64 xo, .int .i64 xn, .string xm, .slice ka xk.length kc] 63 (0, 0))) := ⟨hk2⟩
    obtain ⟨y0, y1, y2, y3, yf⟩ := blk4 hk2
    obtain ⟨ao', cap', hve, hv1, hv2, hv3⟩ := (HM.out.2.1.below hB2).ints
    simp only [Value.slice.injEq, true_and] at hve hv1 hv2 hv3
    obtain ⟨rfl, rfl⟩ := hve
    have HKC : Hid (xk = [] ∨ ∃ b o, ka = some ⟨b, o, none⟩ ∧ b < w2.heap.size ∧ ∀ j, j < xk.length → w2.cell? ⟨b, o + j, none⟩ = some (.int .i64 (xk.getD j 0))) := hv3
    have HKN : Hid (ka = none → xk.length = 0 ∧ kc = 0) := fun h => by have := hv2.2 h; omega
    have hkm := hv2.1
    unfold maxLen at hkm
    have hwl : w.heap.size < w2.heap.size := lt_of_block hk2
    have hE : (w2.alloc (.cells #[] 3)).ownsRow w2.heap.size 3 1 (.slice (some ⟨w2.heap.size, 0, none⟩) 0 0) 0 [] := by
      have h := World.ownsRow_lit (base := w2.heap.size) (e := 3) (size := 1) w2 #[] 0 (by simp) (by decide) (by simp)
      simpa using h
    have hBq : Below w2.heap.size w2 (w2.alloc (.cells #[] 3)) := (Below.refl _ _).alloc (Nat.le_refl _) _
    clear hb2 hB2 hM2 hk2 hv1 hv2 hv3
    go_wp2_with (at_builtin; refine wpList_append_src _ rfl (.tmp 24) (.tmp 26) 61 rfl w2.heap.size 3 j0 (.int .i64 0) 1 8 Tryd.underlying61 hj hy0 hy1 hy2 rfl (by decide) _ 0 [] rfl hE ka xk.length kc (xk.map (Value.int .i64)) rfl HKN.out (by simp) (src_cells HKC.out hBq) (ints_oneCell _ _) (by unfold maxLen; omega) (by omega) (by simp) ?_)
    intro v2 w3 hO3 hg3
    have hO3' : OwnI w3 w2.heap.size v2 xk := by unfold OwnI; simpa using hO3
    obtain ⟨ka2, kc2, rfl⟩ := rw_form hO3'
    have zz := hg3.size
    simp at zz
    have hk3 : w3.heap[w.heap.size]? = some (.cells #[.int .i64 xo, .int .i64 xn, .string xm, .slice ka xk.length kc] 63 (0, 0)) := by
      rw [hg3.block w.heap.size (by simp; omega) (by simp [Value.ownBlock]; omega), Deep.blk_alloc_lt _ _ _ hwl]
      exact HK2.out
    have hB3 : Below w2.heap.size w2 w3 := ((Below.refl _ _).alloc (Nat.le_refl _) _).grown hg3 (by simp) (fun k hk => by simp [Value.ownBlock] at hk; omega)
    obtain ⟨t0, t1, t2, t3, tf⟩ := blk4 hk3
    obtain ⟨w4, hw4⟩ : ∃ w4, w3.setCell ⟨w.heap.size, 3, none⟩ (.slice ka2 xk.length kc2) = w4 := ⟨_, rfl⟩
    have hk4 : w4.heap[w.heap.size]? = some (.cells #[.int .i64 xo, .int .i64 xn, .string xm, .slice ka2 xk.length kc2] 63 (0, 0)) := by
      have := heap_setCell_same w3 w.heap.size 3 _ _ (.slice ka2 xk.length kc2) hk3
      rw [hw4] at this; simpa using this
    have hB4 : Below w.heap.size w w4 := by
      rw [← hw4]
      exact (HB2.out.trans (hB3.mono HB2.out.size)).setCell (p := ⟨w.heap.size, 3, none⟩) (Nat.le_refl _) _
    have hO4 : OwnI w4 w2.heap.size (.slice ka2 xk.length kc2) xk := by
      rw [← hw4]
      exact rw_same hO3' fun b hb => Deep.blk_setCell_other _ _ _ _ (by have := (rw_block hO3' hb).1; show b ≠ w.heap.size; omega)
    have hsz4 : w2.heap.size ≤ w4.heap.size := by rw [← hw4]; simp; omega
    have hM4 := HM.out.1.below hB4
    obtain ⟨s0, s1, s2, s3, sf⟩ := blk4 hk4
    have d0 := hM4.c0
    have d0f : w4.frozen? ⟨q, 0, none⟩ = false := by simp [World.frozen?, hM4.blk]
    have hQl := hM4.lt
    have hrow := hM4.own.row
    rw [hM4.len] at hrow
    have HROW : Sld (w4.ownsRow (q + 1) 63 4 (.slice la L.length lc) L.length (ndCells pl)) := ⟨hrow⟩
    have z1 : ∀ o, (w4.alloc o).cell? ⟨q, 0, none⟩ = some (.slice la L.length lc) := fun o => (World.cell?_alloc_past _ _ _ hQl).trans d0
    have HP7 : Sld (∀ (o : Obj) (w7 : World), (w4.alloc o).drew.grownBy w7 (Value.slice la L.length lc).ownBlock → w7.heap[q]? = w4.heap[q]?) := ⟨fun o w7 hg => (hg.block q (by show q < (w4.alloc o).heap.size; rw [World.size_alloc]; omega) (fun e => by have := (rw_block hrow e.symm).1; omega)).trans (Deep.blk_alloc_lt _ _ _ hQl)⟩
    have HEND : Sld (∀ (o : Obj) (w7 : World) (g7 cap7 : Nat), (w4.alloc o).drew.grownBy w7 (Value.slice la L.length lc).ownBlock → w7.ownsRow (q + 1) 63 4 (.slice (some ⟨g7, 0, none⟩) (L.length + 1) cap7) (L.length + 1) (ndCells pl ++ [.int .i64 xo, .int .i64 xn, .string xm, .slice ka2 xk.length kc2]) → ((Value.slice la L.length lc).ownBlock = some g7 ∨ g7 = (w4.alloc o).heap.size) →
        RtT w.heap.size w q (.slice la L.length lc) pl (.slice (some ⟨g7, 0, none⟩) (L.length + 1) cap7) (pl ++ [(⟨xo, xn, xm, xk⟩, .slice ka2 xk.length kc2)]) (L ++ [⟨xo, xn, xm, xk⟩]) (w7.setCell ⟨q, 0, none⟩ (.slice (some ⟨g7, 0, none⟩) (L.length + 1) cap7))) := ⟨fun o w7 g7 cap7 hg0 ho hat => by
      have hg : (w4.alloc o).grownBy w7 (Value.slice la L.length lc).ownBlock := by
        obtain ⟨a1, a2, a3, a4, a5⟩ := hg0
        exact ⟨a1, a2, a3, a4, a5⟩
      have hz := hM4.put (x := ⟨xo, xn, xm, xk⟩) (B0 := w2.heap.size) hsz4 (by have := HM2.out.lt; omega) (fun b hb => by have := (rw_block HM2.out.own.row hb).2.1; omega) hO4 hg ho hat rfl
      exact ⟨hz.rt, fun b hb hne hno => (hz.kp b (by have := hB4.size; omega) hne hno).trans (hB4.block b hb), (hB4.mono (by have := HM.out.1.lt; omega)).trans hz.below, hz.yo.imp id fun h1 b hb => by have := h1 b hb; have := hB4.size; omega, fun y hy => (hz.ky y hy).imp id fun h1 b hb => by have := h1 b hb; have := HB2.out.size; omega⟩⟩
    have hq1 : q + 1 ≤ w4.heap.size := hQl
    have hlL : L.length < 1048576 := HLI.out
    clear hO3 hO3' hg3 zz hk3 hB3 hk4 hB4 hO4 hM4 hrow hE hBq HKC HKN c0 y0 y1 y2 y3 yf
    go_wp2_with fail
    try rw [hw4]
    clear hw4 t0 t1 t2 t3 tf
    go_region_law (refine step_append_lies _ rfl (.tmp 33) (.tmp 35) 22 rfl (q + 1) 63 i0 (.agg #[.int .i64 0, .int .i64 0, .string ⟨#[]⟩, .slice none 0 0]) 4 56 Tryd.underlying22 hi hz0 hz1 hz2 rfl (by decide) _ _ _ (by simp [Act.eval, Act.put]) (HROW.out.alloc _) ⟨w4.heap.size, 0, none⟩ 1 1 [.int .i64 xo, .int .i64 xn, .string xm, .slice ka2 xk.length kc2] (by simp [Act.eval, Act.put]) rfl (cell_news4 w4 _ _ _ _ _ _ rfl) (by simp [Value.oneCell']) (by omega) (by unfold maxLen; omega) (by omega) (by simp; omega) _ rfl ?_; intro g7 cap7 w7 hown7 hg7 hat7 hl7; have hnd7 := HP7.out _ w7 hg7; have m7 : w7.cell? ⟨q, 0, none⟩ = some (.slice la L.length lc) := (World.cell?_of_block (a := ⟨q, 0, none⟩) hnd7).trans d0; have m7f : w7.frozen? ⟨q, 0, none⟩ = false := (World.frozen?_of_block (a := ⟨q, 0, none⟩) hnd7).trans d0f)
    all_goals
      have HF7 : Sld _ := ⟨HEND.out _ w7 g7 cap7 hg7 hown7 hat7⟩
      have c8 := HF7.out.rt.c0
      clear hg7 hown7 hat7 HEND HP7 hnd7 d0 d0f z1 HROW
      go_wp2_with fail
      go_ret2
      exact ⟨rfl, _, _, HF7.out⟩
end Go.Proofs.YtpacjofepiojdaaDoor

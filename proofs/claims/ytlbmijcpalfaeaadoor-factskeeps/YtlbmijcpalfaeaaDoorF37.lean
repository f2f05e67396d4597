/-
  FkG, StrMem.
-/
import Derived.Shelf.Unicode.DecodeSlow
import Derived.Laws.RangeAny
import Derived.Shelf.Strconv.Itoa0
import Derived.Shelf.LaysM
import Derived.Shelf.Strconv.Clone
import Derived.Shelf.Unicode.DecodeAny
import Derived.Test.YtlbmijcpalfaeaaDoorProg
import Derived.WalkKit
import Derived.Deep.DeepFit
import Derived.Lib.OthersKept
import Derived.Lib.RuneCountTail
import Derived.Deep.AppendLies
import Derived.Deep.OwnRows
import Derived.Laws.AppendOwnNone
import Derived.Deep.QuietTactic
import Derived.BigQuiet
import Derived.Deep.RegionWith
import Derived.Laws.DeepStrings4
import Derived.Below
import Derived.Lib.MapLaws
import Derived.Sort.Walk0
import Derived.Lib.QuietBelow
import Derived.StillTail
import Derived.Deep.RegionHeld3
import Derived.Laws.AppendOwn
import Derived.Deep.DeepCutAuto
import Derived.RowKit
import Derived.Laws.Entries
import Derived.Test.YtlbmijcpalfaeaaDoorF01
import Derived.Test.YtlbmijcpalfaeaaDoorF02
import Derived.Test.YtlbmijcpalfaeaaDoorF03
import Derived.Test.YtlbmijcpalfaeaaDoorF04
import Derived.Test.YtlbmijcpalfaeaaDoorF05
import Derived.Test.YtlbmijcpalfaeaaDoorF06
import Derived.Test.YtlbmijcpalfaeaaDoorF07
import Derived.Test.YtlbmijcpalfaeaaDoorF08
import Derived.Test.YtlbmijcpalfaeaaDoorF09
import Derived.Test.YtlbmijcpalfaeaaDoorF10
import Derived.Test.YtlbmijcpalfaeaaDoorF11
import Derived.Test.YtlbmijcpalfaeaaDoorF12
import Derived.Test.YtlbmijcpalfaeaaDoorF13
import Derived.Test.YtlbmijcpalfaeaaDoorF14
import Derived.Test.YtlbmijcpalfaeaaDoorF15
import Derived.Test.YtlbmijcpalfaeaaDoorF16
import Derived.Test.YtlbmijcpalfaeaaDoorF33
import Derived.Test.YtlbmijcpalfaeaaDoorF34
import Derived.Test.YtlbmijcpalfaeaaDoorF35
import Derived.Test.YtlbmijcpalfaeaaDoorF36
set_option linter.unusedSimpArgs false
set_option linter.unusedVariables false
namespace Go.Proofs.YtlbmijcpalfaeaaDoor
open Go.RowKit Go.Lib

/-- A fact in a block of its own. -/
def FcB (w : World) (b : Nat) (f : Fc) : Prop := w.heap[b]? = some (.cells #[.bool f.t, .bool f.c, .int .i64 f.n] 65 (0, 0))
theorem FcB.below {w w' : World} {b : Nat} {f : Fc} (h : FcB w b f) {B : Nat} (hb : Below B w w') (hl : b < B) : FcB w' b f := (hb.block b hl).trans h

set_option maxRecDepth 20000 in
set_option maxHeartbeats 4000000 in
theorem grown_any (w : World) (was : Fc) (nodes : List Nd) (na : Option Addr) (nc : Nat) (g c : Nat) (fs : List Fc) (hN : Nodes w w.heap.size (.slice na nodes.length nc) nodes) (hF : FcR w g fs) (m : Nat) (hfm : fs.length ≤ m) (hfc : m ≤ c) (hcm : c ≤ maxLen) (hk : ∀ x ∈ nodes, NdOk fs.length x) (hG : GrpCells w) :
    Calls Tryd.prog 102 #[.agg #[.bool was.t, .bool was.c, .int .i64 was.n], .slice na nodes.length nc, .slice (some ⟨g, 0, none⟩) m c] w fun e w' => e = .returned (.agg #[.bool (gwF fs was nodes).t, .bool (gwF fs was nodes).c, .int .i64 (gwF fs was nodes).n]) ∧ Below w.heap.size w w' := by
  obtain ⟨wt, wc, wn⟩ := was
  simp only
  obtain ⟨W1, hW1⟩ : ∃ W1, (w.alloc (.cells #[.bool wt, .bool wc, .int .i64 wn] 65)).alloc (.cells #[.bool false, .bool false, .int .i64 0] 65) = W1 := ⟨_, rfl⟩
  have hb1 : Below w.heap.size w W1 := by rw [← hW1]; exact ((Below.refl _ _).alloc (Nat.le_refl _) _).alloc (by simp) _
  have hs1 : W1.heap.size = w.heap.size + 2 := by rw [← hW1]; simp
  have hx1 : W1.heap[w.heap.size]? = some (.cells #[.bool wt, .bool wc, .int .i64 wn] 65 (0, 0)) := by rw [← hW1, Deep.blk_alloc_lt _ _ _ (by simp), Deep.blk_alloc_new]
  have hy1 : W1.heap[w.heap.size + 1]? = some (.cells #[.bool false, .bool false, .int .i64 0] 65 (0, 0)) := by
    have := Deep.blk_alloc_new (w.alloc (.cells #[.bool wt, .bool wc, .int .i64 wn] 65)) (.cells #[.bool false, .bool false, .int .i64 0] 65)
    rw [← hW1]
    rw [World.size_alloc] at this
    exact this
  have HW1 := Sld.mk hW1
  have HB1 := Sld.mk hb1
  have HY1 := Sld.mk hy1
  obtain ⟨x0, x1, x2, _⟩ := blk3 hx1
  obtain ⟨y0, y1, y2, yf⟩ := blk3 hy1
  cases wc with
  | true =>
    have HE : Sld (gwF fs ⟨wt, true, wn⟩ nodes = ⟨wt, true, wn⟩) := ⟨by unfold gwF; rw [if_pos rfl]⟩
    clear hW1 hb1 hx1 hy1 hN hF hG hk
    go_enter Tryd.func102, Tryd.ntmps102
    go_wp2_with fail
    have hS := Deep.blk_alloc_new (w.alloc (.cells #[.bool wt, .bool true, .int .i64 wn] 65)) (.cells #[.bool wt, .bool true, .int .i64 wn] 65)
    rw [World.size_alloc] at hS
    obtain ⟨z0, z1, z2, _⟩ := blk3 hS
    refine bodyPost_ret (v := .agg #[.bool wt, .bool true, .int .i64 wn]) (by simp [results, Tryd.results102, go_sem, z0, z1, z2]) rfl ⟨by rw [HE.out], ((Below.refl _ _).alloc (Nat.le_refl _) _).alloc (by simp) _⟩
  | false =>
    have HE : Sld (gwF fs ⟨wt, false, wn⟩ nodes = nodes.foldl (gw1 fs) ⟨wt, false, wn⟩) := ⟨by unfold gwF; rw [if_neg (by simp)]⟩
    obtain ⟨W2, hW2⟩ : ∃ W2, W1.alloc (.cells #[.bool wt, .bool false, .int .i64 wn] 65) = W2 := ⟨_, rfl⟩
    have hb2 : Below w.heap.size w W2 := by rw [← hW2]; exact hb1.alloc hb1.size _
    have hs2 : W2.heap.size = w.heap.size + 3 := by rw [← hW2, World.size_alloc, hs1]
    have hA2 : FcB W2 (w.heap.size + 2) ⟨wt, false, wn⟩ := by
      have := Deep.blk_alloc_new W1 (.cells #[.bool wt, .bool false, .int .i64 wn] 65)
      rw [← hW2]; rw [hs1] at this; exact this
    have hy2 : W2.heap[w.heap.size + 1]? = some (.cells #[.bool false, .bool false, .int .i64 0] 65 (0, 0)) := by
      rw [← hW2, Deep.blk_alloc_lt _ _ _ (by omega)]; exact hy1
    have HW2 := Sld.mk hW2
    have HS1 := Sld.mk hs1
    have HS2 := Sld.mk hs2
    have HY2 := Sld.mk hy2
    have HA2 := Sld.mk hA2
    have HB2 := Sld.mk hb2
    have HN := Sld.mk hN
    have HF := Sld.mk hF
    have HG := Sld.mk hG
    have HK := Sld.mk hk
    obtain ⟨_, _, d1, hn1, hn2, _⟩ := id hN
    injection d1 with d1 d2 d3
    rw [← d3] at hn1 hn2
    unfold maxLen at hn2
    clear d1 d2 d3 hW1 hb1 hx1 hy1 hN hF hG hk hW2 hb2 hA2 hy2 hs1 hs2
    go_enter Tryd.func102, Tryd.ntmps102
    go_wp2_with fail
    rw [HW1.out, HW2.out]
    go_loopw [17] (fun i wr => ∃ q : Nat, q ≤ nodes.length ∧ i = .int .i64 q ∧ Sld (FcB wr (w.heap.size + 1 + 1) ((nodes.take q).foldl (gw1 fs) ⟨wt, false, wn⟩)) ∧ Sld (wr.heap[w.heap.size + 1]? = some (.cells #[.bool false, .bool false, .int .i64 0] 65 (0, 0))) ∧ Sld (Below w.heap.size w wr)) (fun i _ => nodes.length - (RowKit.intOf i).toNat)
    case atStart => exact ⟨0, Nat.zero_le _, rfl, HA2, HY2, HB2⟩
    case round =>
      obtain ⟨q, hq, rfl, HA, HY, HB⟩ := hrel
      by_cases hql : q < nodes.length
      · obtain ⟨b, o, kv, hna, hbl, hAt⟩ : ∃ b o kv, na = some ⟨b, o, none⟩ ∧ b < wr.heap.size ∧ NodeAt wr wr.heap.size b (o + q * 4) (nodes.getD q nd0) kv := by
          obtain ⟨ao, cap, h1, _, _, h2⟩ := HN.out.below HB.out HB.out.size
          injection h1 with h1 _ _
          rcases h2 with h2 | ⟨b, o, h2, hbl, h3⟩
          · subst h2; simp at hql
          · obtain ⟨kv, h4⟩ := h3 q hql
            exact ⟨b, o, kv, h1.trans h2, hbl, h4⟩
        subst hna
        have HST : Sld ((nodes.take (q + 1)).foldl (gw1 fs) ⟨wt, false, wn⟩ = gw1 fs ((nodes.take q).foldl (gw1 fs) ⟨wt, false, wn⟩) (nodes.getD q nd0)) := ⟨by
          rw [List.take_add_one, List.foldl_append, List.getElem?_eq_getElem hql, getD_atT hql]
          rfl⟩
        have hOK : NdOk fs.length (nodes.getD q nd0) := HK.out _ (by rw [getD_atT hql]; exact List.getElem_mem hql)
        generalize (nodes.take q).foldl (gw1 fs) ⟨wt, false, wn⟩ = r at *
        generalize nodes.getD q nd0 = x at *
        obtain ⟨k0, k1, k2, k3, hK⟩ := hAt
        obtain ⟨ka, kc, hkv, _⟩ := id hK
        subst hkv
        obtain ⟨W5, hW5⟩ : ∃ W5, wr.alloc (.cells #[.int .i64 x.op, .int .i64 x.n, .string x.name, .slice ka x.kids.length kc] 43) = W5 := ⟨_, rfl⟩
        have hb5 : Below wr.heap.size wr W5 := by rw [← hW5]; exact (Below.refl _ _).alloc (Nat.le_refl _) _
        have HB5 := Sld.mk hb5
        have HW5 := Sld.mk hW5
        have hb5' : Below w.heap.size w W5 := HB.out.trans (hb5.mono HB.out.size)
        have CT := Sld.mk (told_any W5 x ka kc g c fs (hK.below hb5 hb5.size) (HF.out.below hb5') m hfm hfc hcm hOK.1 hOK.2.1 (HG.out.below hb5') hOK.2.2)
        have hqI : (q : Int) < (nodes.length : Int) := by omega
        replace HST : Sld ((nodes.take (q + 1)).foldl (gw1 fs) ⟨wt, false, wn⟩ = if ((tdF fs x).c && (!r.c || decide ((tdF fs x).n < r.n))) = true then ⟨r.t || (tdF fs x).t, true, (tdF fs x).n⟩ else ⟨r.t || (tdF fs x).t, r.c, r.n⟩) := ⟨HST.out⟩
        generalize tdF fs x = f at *
        generalize x.op = xo at *
        generalize x.n = xn at *
        generalize x.name = xs at *
        generalize x.kids.length = xl at *
        obtain ⟨ft, fc, fn⟩ := f
        obtain ⟨rt, rc, rn⟩ := r
        simp only at CT HST HA
        clear hb5 hW5 hK hb5' hOK
        go_wp2_with fail
        rw [HW5.out]
        refine CT.out.mono ?_
        rintro e w6 ⟨rfl, hb6⟩
        have HB6 : Sld (Below w.heap.size w w6) := ⟨HB.out.trans ((HB5.out.trans (hb6.mono HB5.out.size)).mono HB.out.size)⟩
        obtain ⟨W7, hW7⟩ : ∃ W7, w6.alloc (.cells #[.bool ft, .bool fc, .int .i64 fn] 65) = W7 := ⟨_, rfl⟩
        have hF7 : FcB W7 w6.heap.size ⟨ft, fc, fn⟩ := by rw [← hW7]; exact Deep.blk_alloc_new _ _
        have hAl : w.heap.size + 1 + 1 < wr.heap.size := lt_of_block HA.out
        have hb67 : Below wr.heap.size wr w6 := HB5.out.trans (hb6.mono HB5.out.size)
        have hb7 : Below wr.heap.size wr W7 := by rw [← hW7]; exact hb67.alloc hb67.size _
        have hA7 : FcB W7 (w.heap.size + 1 + 1) ⟨rt, rc, rn⟩ := HA.out.below hb7 hAl
        have hY7 := (hb7.block _ (by omega : w.heap.size + 1 < wr.heap.size)).trans HY.out
        have HB7 : Sld (Below w.heap.size w W7) := ⟨HB.out.trans (hb7.mono HB.out.size)⟩
        have hs67 := hb67.size
        have HW7 := Sld.mk hW7
        have HF7 := Sld.mk hF7
        have HA7 := Sld.mk hA7
        have HY7 := Sld.mk hY7
        have hneI : w.heap.size + 1 + 1 ≠ w6.heap.size := by omega
        obtain ⟨a0, a1, a2, af⟩ := blk3 (show W7.heap[w.heap.size + 1 + 1]? = some (.cells #[.bool rt, .bool rc, .int .i64 rn] 65 (0, 0)) from hA7)
        obtain ⟨f0, f1, f2, ff⟩ := blk3 (show W7.heap[w6.heap.size]? = some (.cells #[.bool ft, .bool fc, .int .i64 fn] 65 (0, 0)) from hF7)
        rw [← hW7] at a0 a1 a2 af f0 f1 f2 ff
        clear hW7 hF7 hA7 hY7 hb7 hb67 hb6 CT
        cases rt with
        | true =>
          obtain ⟨W8, hW8⟩ : ∃ W8, W7.setCell ⟨w.heap.size + 1 + 1, 0, none⟩ (.bool true) = W8 := ⟨_, rfl⟩
          have hA8 : FcB W8 (w.heap.size + 1 + 1) ⟨true, rc, rn⟩ := by
            have := heap_setCell_same W7 (w.heap.size + 1 + 1) 0 _ _ (.bool true) HA7.out
            rw [hW8] at this; simpa [FcB] using this
          have hF8 : FcB W8 w6.heap.size ⟨ft, fc, fn⟩ := by
            unfold FcB; rw [← hW8, Deep.blk_setCell_other _ _ _ _ (by show w6.heap.size ≠ w.heap.size + 1 + 1; omega)]; exact HF7.out
          have hY8 : W8.heap[w.heap.size + 1]? = some (.cells #[.bool false, .bool false, .int .i64 0] 65 (0, 0)) := by
            rw [← hW8, Deep.blk_setCell_other _ _ _ _ (by show w.heap.size + 1 ≠ w.heap.size + 1 + 1; omega)]; exact HY7.out
          have hB8 : Below w.heap.size w W8 := by rw [← hW8]; exact HB7.out.setCell (p := ⟨w.heap.size + 1 + 1, 0, none⟩) (by show w.heap.size ≤ w.heap.size + 1 + 1; omega) _
          have HW8 := Sld.mk hW8
          have HA8 := Sld.mk hA8
          have HY8 := Sld.mk hY8
          have HB8 := Sld.mk hB8
          obtain ⟨b0, b1, b2, bf⟩ := blk3 (show W8.heap[w.heap.size + 1 + 1]? = some (.cells #[.bool true, .bool rc, .int .i64 rn] 65 (0, 0)) from hA8)
          obtain ⟨e0, e1, e2, ef⟩ := blk3 (show W8.heap[w6.heap.size]? = some (.cells #[.bool ft, .bool fc, .int .i64 fn] 65 (0, 0)) from hF8)
          rw [← hW8, ← HW7.out] at b0 b1 b2 bf e0 e1 e2 ef
          clear hW8 hA8 hF8 hY8 hB8
          cases fc with
          | false =>
            simp only [Bool.false_and, Bool.true_or, Bool.false_or, Bool.false_eq_true, if_false] at HST
            go_wp2_with fail
            rw [HW7.out, HW8.out]
            exact ⟨⟨q + 1, by omega, by go_num, ⟨by rw [HST.out]; exact HA8.out⟩, HY8, HB8⟩, by simp [RowKit.intOf]; omega⟩
          | true =>
            cases rc with
            | false =>
              simp only [Bool.true_and, Bool.not_false, Bool.true_or, Bool.false_or, if_true] at HST
              have HE : Sld (FcB ((W8.setCell ⟨w.heap.size + 1 + 1, 1, none⟩ (.bool true)).setCell ⟨w.heap.size + 1 + 1, 2, none⟩ (.int .i64 fn)) (w.heap.size + 1 + 1) ⟨true, true, fn⟩) := ⟨by
                have h1 := heap_setCell_same W8 (w.heap.size + 1 + 1) 1 _ _ (.bool true) HA8.out
                have h2 := heap_setCell_same _ (w.heap.size + 1 + 1) 2 _ _ (.int .i64 fn) h1
                simpa [FcB] using h2⟩
              have HYE : Sld (((W8.setCell ⟨w.heap.size + 1 + 1, 1, none⟩ (.bool true)).setCell ⟨w.heap.size + 1 + 1, 2, none⟩ (.int .i64 fn)).heap[w.heap.size + 1]? = some (.cells #[.bool false, .bool false, .int .i64 0] 65 (0, 0))) := ⟨by
                rw [Deep.blk_setCell_other _ _ _ _ (by show w.heap.size + 1 ≠ w.heap.size + 1 + 1; omega), Deep.blk_setCell_other _ _ _ _ (by show w.heap.size + 1 ≠ w.heap.size + 1 + 1; omega)]; exact HY8.out⟩
              have HBE : Sld (Below w.heap.size w ((W8.setCell ⟨w.heap.size + 1 + 1, 1, none⟩ (.bool true)).setCell ⟨w.heap.size + 1 + 1, 2, none⟩ (.int .i64 fn))) := ⟨(HB8.out.setCell (p := ⟨w.heap.size + 1 + 1, 1, none⟩) (by show w.heap.size ≤ w.heap.size + 1 + 1; omega) _).setCell (p := ⟨w.heap.size + 1 + 1, 2, none⟩) (by show w.heap.size ≤ w.heap.size + 1 + 1; omega) _⟩
              go_wp2_with fail
              go_region
              go_wp2_with fail
              rw [HW7.out, HW8.out]
              exact ⟨⟨q + 1, by omega, by go_num, ⟨by rw [HST.out]; exact HE.out⟩, HYE, ⟨HBE.out.drew⟩⟩, by simp [RowKit.intOf]; omega⟩
            | true =>
              by_cases hlt : fn < rn
              · simp only [Bool.true_and, Bool.not_true, Bool.true_or, Bool.false_or, decide_eq_true hlt, if_true] at HST
                have HE : Sld (FcB ((W8.setCell ⟨w.heap.size + 1 + 1, 1, none⟩ (.bool true)).setCell ⟨w.heap.size + 1 + 1, 2, none⟩ (.int .i64 fn)) (w.heap.size + 1 + 1) ⟨true, true, fn⟩) := ⟨by
                  have h1 := heap_setCell_same W8 (w.heap.size + 1 + 1) 1 _ _ (.bool true) HA8.out
                  have h2 := heap_setCell_same _ (w.heap.size + 1 + 1) 2 _ _ (.int .i64 fn) h1
                  simpa [FcB] using h2⟩
                have HYE : Sld (((W8.setCell ⟨w.heap.size + 1 + 1, 1, none⟩ (.bool true)).setCell ⟨w.heap.size + 1 + 1, 2, none⟩ (.int .i64 fn)).heap[w.heap.size + 1]? = some (.cells #[.bool false, .bool false, .int .i64 0] 65 (0, 0))) := ⟨by
                  rw [Deep.blk_setCell_other _ _ _ _ (by show w.heap.size + 1 ≠ w.heap.size + 1 + 1; omega), Deep.blk_setCell_other _ _ _ _ (by show w.heap.size + 1 ≠ w.heap.size + 1 + 1; omega)]; exact HY8.out⟩
                have HBE : Sld (Below w.heap.size w ((W8.setCell ⟨w.heap.size + 1 + 1, 1, none⟩ (.bool true)).setCell ⟨w.heap.size + 1 + 1, 2, none⟩ (.int .i64 fn))) := ⟨(HB8.out.setCell (p := ⟨w.heap.size + 1 + 1, 1, none⟩) (by show w.heap.size ≤ w.heap.size + 1 + 1; omega) _).setCell (p := ⟨w.heap.size + 1 + 1, 2, none⟩) (by show w.heap.size ≤ w.heap.size + 1 + 1; omega) _⟩
                go_wp2_with fail
                go_region
                go_wp2_with fail
                rw [HW7.out, HW8.out]
                exact ⟨⟨q + 1, by omega, by go_num, ⟨by rw [HST.out]; exact HE.out⟩, HYE, ⟨HBE.out.drew⟩⟩, by simp [RowKit.intOf]; omega⟩
              · simp only [Bool.true_and, Bool.not_true, Bool.true_or, Bool.false_or, decide_eq_false hlt, Bool.false_eq_true, if_false] at HST
                go_wp2_with fail
                rw [HW7.out, HW8.out]
                exact ⟨⟨q + 1, by omega, by go_num, ⟨by rw [HST.out]; exact HA8.out⟩, HY8, HB8⟩, by simp [RowKit.intOf]; omega⟩
        | false =>
          obtain ⟨W8, hW8⟩ : ∃ W8, W7.setCell ⟨w.heap.size + 1 + 1, 0, none⟩ (.bool ft) = W8 := ⟨_, rfl⟩
          have hA8 : FcB W8 (w.heap.size + 1 + 1) ⟨ft, rc, rn⟩ := by
            have := heap_setCell_same W7 (w.heap.size + 1 + 1) 0 _ _ (.bool ft) HA7.out
            rw [hW8] at this; simpa [FcB] using this
          have hF8 : FcB W8 w6.heap.size ⟨ft, fc, fn⟩ := by
            unfold FcB; rw [← hW8, Deep.blk_setCell_other _ _ _ _ (by show w6.heap.size ≠ w.heap.size + 1 + 1; omega)]; exact HF7.out
          have hY8 : W8.heap[w.heap.size + 1]? = some (.cells #[.bool false, .bool false, .int .i64 0] 65 (0, 0)) := by
            rw [← hW8, Deep.blk_setCell_other _ _ _ _ (by show w.heap.size + 1 ≠ w.heap.size + 1 + 1; omega)]; exact HY7.out
          have hB8 : Below w.heap.size w W8 := by rw [← hW8]; exact HB7.out.setCell (p := ⟨w.heap.size + 1 + 1, 0, none⟩) (by show w.heap.size ≤ w.heap.size + 1 + 1; omega) _
          have HW8 := Sld.mk hW8
          have HA8 := Sld.mk hA8
          have HY8 := Sld.mk hY8
          have HB8 := Sld.mk hB8
          obtain ⟨b0, b1, b2, bf⟩ := blk3 (show W8.heap[w.heap.size + 1 + 1]? = some (.cells #[.bool ft, .bool rc, .int .i64 rn] 65 (0, 0)) from hA8)
          obtain ⟨e0, e1, e2, ef⟩ := blk3 (show W8.heap[w6.heap.size]? = some (.cells #[.bool ft, .bool fc, .int .i64 fn] 65 (0, 0)) from hF8)
          rw [← hW8, ← HW7.out] at b0 b1 b2 bf e0 e1 e2 ef
          clear hW8 hA8 hF8 hY8 hB8
          cases fc with
          | false =>
            simp only [Bool.false_and, Bool.true_or, Bool.false_or, Bool.false_eq_true, if_false] at HST
            go_wp2_with fail
            rw [HW7.out, HW8.out]
            exact ⟨⟨q + 1, by omega, by go_num, ⟨by rw [HST.out]; exact HA8.out⟩, HY8, HB8⟩, by simp [RowKit.intOf]; omega⟩
          | true =>
            cases rc with
            | false =>
              simp only [Bool.true_and, Bool.not_false, Bool.true_or, Bool.false_or, if_true] at HST
              have HE : Sld (FcB ((W8.setCell ⟨w.heap.size + 1 + 1, 1, none⟩ (.bool true)).setCell ⟨w.heap.size + 1 + 1, 2, none⟩ (.int .i64 fn)) (w.heap.size + 1 + 1) ⟨ft, true, fn⟩) := ⟨by
                have h1 := heap_setCell_same W8 (w.heap.size + 1 + 1) 1 _ _ (.bool true) HA8.out
                have h2 := heap_setCell_same _ (w.heap.size + 1 + 1) 2 _ _ (.int .i64 fn) h1
                simpa [FcB] using h2⟩
              have HYE : Sld (((W8.setCell ⟨w.heap.size + 1 + 1, 1, none⟩ (.bool true)).setCell ⟨w.heap.size + 1 + 1, 2, none⟩ (.int .i64 fn)).heap[w.heap.size + 1]? = some (.cells #[.bool false, .bool false, .int .i64 0] 65 (0, 0))) := ⟨by
                rw [Deep.blk_setCell_other _ _ _ _ (by show w.heap.size + 1 ≠ w.heap.size + 1 + 1; omega), Deep.blk_setCell_other _ _ _ _ (by show w.heap.size + 1 ≠ w.heap.size + 1 + 1; omega)]; exact HY8.out⟩
              have HBE : Sld (Below w.heap.size w ((W8.setCell ⟨w.heap.size + 1 + 1, 1, none⟩ (.bool true)).setCell ⟨w.heap.size + 1 + 1, 2, none⟩ (.int .i64 fn))) := ⟨(HB8.out.setCell (p := ⟨w.heap.size + 1 + 1, 1, none⟩) (by show w.heap.size ≤ w.heap.size + 1 + 1; omega) _).setCell (p := ⟨w.heap.size + 1 + 1, 2, none⟩) (by show w.heap.size ≤ w.heap.size + 1 + 1; omega) _⟩
              go_wp2_with fail
              go_region
              go_wp2_with fail
              rw [HW7.out, HW8.out]
              exact ⟨⟨q + 1, by omega, by go_num, ⟨by rw [HST.out]; exact HE.out⟩, HYE, ⟨HBE.out.drew⟩⟩, by simp [RowKit.intOf]; omega⟩
            | true =>
              by_cases hlt : fn < rn
              · simp only [Bool.true_and, Bool.not_true, Bool.true_or, Bool.false_or, decide_eq_true hlt, if_true] at HST
                have HE : Sld (FcB ((W8.setCell ⟨w.heap.size + 1 + 1, 1, none⟩ (.bool true)).setCell ⟨w.heap.size + 1 + 1, 2, none⟩ (.int .i64 fn)) (w.heap.size + 1 + 1) ⟨ft, true, fn⟩) := ⟨by
                  have h1 := heap_setCell_same W8 (w.heap.size + 1 + 1) 1 _ _ (.bool true) HA8.out
                  have h2 := heap_setCell_same _ (w.heap.size + 1 + 1) 2 _ _ (.int .i64 fn) h1
                  simpa [FcB] using h2⟩
                have HYE : Sld (((W8.setCell ⟨w.heap.size + 1 + 1, 1, none⟩ (.bool true)).setCell ⟨w.heap.size + 1 + 1, 2, none⟩ (.int .i64 fn)).heap[w.heap.size + 1]? = some (.cells #[.bool false, .bool false, .int .i64 0] 65 (0, 0))) := ⟨by
                  rw [Deep.blk_setCell_other _ _ _ _ (by show w.heap.size + 1 ≠ w.heap.size + 1 + 1; omega), Deep.blk_setCell_other _ _ _ _ (by show w.heap.size + 1 ≠ w.heap.size + 1 + 1; omega)]; exact HY8.out⟩
                have HBE : Sld (Below w.heap.size w ((W8.setCell ⟨w.heap.size + 1 + 1, 1, none⟩ (.bool true)).setCell ⟨w.heap.size + 1 + 1, 2, none⟩ (.int .i64 fn))) := ⟨(HB8.out.setCell (p := ⟨w.heap.size + 1 + 1, 1, none⟩) (by show w.heap.size ≤ w.heap.size + 1 + 1; omega) _).setCell (p := ⟨w.heap.size + 1 + 1, 2, none⟩) (by show w.heap.size ≤ w.heap.size + 1 + 1; omega) _⟩
                go_wp2_with fail
                go_region
                go_wp2_with fail
                rw [HW7.out, HW8.out]
                exact ⟨⟨q + 1, by omega, by go_num, ⟨by rw [HST.out]; exact HE.out⟩, HYE, ⟨HBE.out.drew⟩⟩, by simp [RowKit.intOf]; omega⟩
              · simp only [Bool.true_and, Bool.not_true, Bool.true_or, Bool.false_or, decide_eq_false hlt, Bool.false_eq_true, if_false] at HST
                go_wp2_with fail
                rw [HW7.out, HW8.out]
                exact ⟨⟨q + 1, by omega, by go_num, ⟨by rw [HST.out]; exact HA8.out⟩, HY8, HB8⟩, by simp [RowKit.intOf]; omega⟩
      · have hqe : q = nodes.length := by omega
        subst hqe
        rw [List.take_length] at HA
        have HE2 : Sld (gwF fs ⟨wt, false, wn⟩ nodes = nodes.foldl (gw1 fs) ⟨wt, false, wn⟩) := HE
        generalize nodes.foldl (gw1 fs) ⟨wt, false, wn⟩ = r at *
        obtain ⟨rt, rc, rn⟩ := r
        obtain ⟨a0, a1, a2, af⟩ := blk3 (show wr.heap[w.heap.size + 1 + 1]? = some (.cells #[.bool rt, .bool rc, .int .i64 rn] 65 (0, 0)) from HA.out)
        obtain ⟨y0, y1, y2, yf⟩ := blk3 HY.out
        go_wp2_with fail
        have hS := set3 HY.out (.bool rt) (.bool rc) (.int .i64 rn)
        have HBE := below_set3 HB.out (by omega : w.heap.size ≤ w.heap.size + 1) (.bool rt) (.bool rc) (.int .i64 rn)
        generalize ((wr.setCell ⟨w.heap.size + 1, 0, none⟩ (.bool rt)).setCell ⟨w.heap.size + 1, 1, none⟩ (.bool rc)).setCell ⟨w.heap.size + 1, 2, none⟩ (.int .i64 rn) = W at *
        obtain ⟨z0, z1, z2, _⟩ := blk3 hS
        refine bodyPost_ret (v := .agg #[.bool rt, .bool rc, .int .i64 rn]) (by simp [results, Tryd.results102, go_sem, z0, z1, z2]) rfl ⟨by rw [HE2.out], HBE⟩
end Go.Proofs.YtlbmijcpalfaeaaDoor

set_option linter.unusedSimpArgs false
set_option linter.unusedVariables false
namespace Go.Proofs.YtlbmijcpalfaeaaDoor
open Go.RowKit Go.Lib

/-- The slice reads as the texts qs. -/
def Strs (w : World) (ao : Option Addr) (cap : Nat) (qs : List ByteArray) : Prop :=
  qs.length ≤ cap ∧ cap ≤ maxLen ∧ (qs = [] ∨ ∃ b o, ao = some ⟨b, o, none⟩ ∧ b < w.heap.size ∧ ∀ j, j < qs.length → w.cell? ⟨b, o + j, none⟩ = some (.string (qs.getD j ⟨#[]⟩)))
theorem Strs.below {w w' : World} {ao : Option Addr} {cap : Nat} {qs : List ByteArray} (h : Strs w ao cap qs) (hb : Below w.heap.size w w') : Strs w' ao cap qs := by
  obtain ⟨h1, h2, h3⟩ := h
  refine ⟨h1, h2, ?_⟩
  rcases h3 with h3 | ⟨b, o, e, hlt, hc⟩
  · exact .inl h3
  · exact .inr ⟨b, o, e, Nat.lt_of_lt_of_le hlt hb.size, fun j hj => (hb.cell (p := ⟨b, o + j, none⟩) hlt).trans (hc j hj)⟩
theorem Strs.same {w w' : World} {ao : Option Addr} {cap : Nat} {qs : List ByteArray} (h : Strs w ao cap qs) (hs : w.heap.size ≤ w'.heap.size) (hb : ∀ b : Nat, b < w.heap.size → w'.heap[b]? = w.heap[b]?) : Strs w' ao cap qs := by
  obtain ⟨h1, h2, h3⟩ := h
  refine ⟨h1, h2, ?_⟩
  rcases h3 with h3 | ⟨b, o, e, hlt, hc⟩
  · exact .inl h3
  · exact .inr ⟨b, o, e, by omega, fun j hj => (World.cell?_of_block (a := ⟨b, o + j, none⟩) (hb b hlt)).trans (hc j hj)⟩

theorem Strs.cell {w : World} {ao : Option Addr} {cap : Nat} {qs : List ByteArray} (h : Strs w ao cap qs) {j : Nat} (hj : j < qs.length) : ∃ b o, ao = some ⟨b, o, none⟩ ∧ b < w.heap.size ∧ w.cell? ⟨b, o + j, none⟩ = some (.string (qs.getD j ⟨#[]⟩)) := by
  rcases h.2.2 with h | ⟨b, o, e, hlt, hc⟩
  · subst h; simp at hj
  · exact ⟨b, o, e, hlt, hc j hj⟩
theorem Rd.cell {w : World} {ao : Option Addr} {cap : Nat} {l : List Nd} (h : Rd w ao cap l) {k : Nat} (hk : k < l.length) : ∃ b o kv, ao = some ⟨b, o, none⟩ ∧ b < w.heap.size ∧ NodeAt w w.heap.size b (o + k * 4) (l.getD k nd0) kv := by
  obtain ⟨ao', cap', e1, _, _, hc⟩ := h
  cases e1
  rcases hc with h | ⟨b, o, e, hlt, hc⟩
  · subst h; simp at hk
  · obtain ⟨kv, hn⟩ := hc k hk
    exact ⟨b, o, kv, e, hlt, hn⟩

end Go.Proofs.YtlbmijcpalfaeaaDoor

/-
  FkT, FkV, FkK, PgF.
-/
import Derived.Shelf.Unicode.DecodeSlow
import Derived.Laws.RangeAny
import Derived.Shelf.Strconv.Itoa0
import Derived.Shelf.LaysM
import Derived.Shelf.Strconv.Clone
import Derived.Shelf.Unicode.DecodeAny
import Derived.Test.YtlbmijcpalfaeaaDoorProg
import Derived.WalkKit
import Derived.Deep.DeepFit
import Derived.Lib.OthersKept
import Derived.Lib.RuneCountTail
import Derived.Deep.AppendLies
import Derived.Deep.OwnRows
import Derived.Laws.AppendOwnNone
import Derived.Deep.QuietTactic
import Derived.BigQuiet
import Derived.Deep.RegionWith
import Derived.Laws.DeepStrings4
import Derived.Below
import Derived.Lib.MapLaws
import Derived.Sort.Walk0
import Derived.Lib.QuietBelow
import Derived.StillTail
import Derived.Deep.RegionHeld3
import Derived.Laws.AppendOwn
import Derived.Deep.DeepCutAuto
import Derived.Maps.OwnSet
import Derived.Maps.Keyed
import Derived.DeepKeys4
import Derived.Laws.ResultCell
import Derived.Laws.CopyOwn
import Derived.Laws.OwnMore
import Derived.Deep.RegionLaw
import Derived.Laws.IdiomStrings
import Derived.WalkSmall
import Derived.Lib.SlBytesRow
import Derived.StringKeys
import Derived.RowKit
import Derived.Laws.Entries
import Derived.Laws.StructEq
import Derived.Test.YtlbmijcpalfaeaaDoorF01
import Derived.Test.YtlbmijcpalfaeaaDoorF02
import Derived.Test.YtlbmijcpalfaeaaDoorF03
import Derived.Test.YtlbmijcpalfaeaaDoorF04
import Derived.Test.YtlbmijcpalfaeaaDoorF05
import Derived.Test.YtlbmijcpalfaeaaDoorF06
import Derived.Test.YtlbmijcpalfaeaaDoorF07
import Derived.Test.YtlbmijcpalfaeaaDoorF08
import Derived.Test.YtlbmijcpalfaeaaDoorF09
import Derived.Test.YtlbmijcpalfaeaaDoorF10
import Derived.Test.YtlbmijcpalfaeaaDoorF11
import Derived.Test.YtlbmijcpalfaeaaDoorF12
import Derived.Test.YtlbmijcpalfaeaaDoorF13
import Derived.Test.YtlbmijcpalfaeaaDoorF14
import Derived.Test.YtlbmijcpalfaeaaDoorF15
import Derived.Test.YtlbmijcpalfaeaaDoorF16
import Derived.Test.YtlbmijcpalfaeaaDoorF17
import Derived.Test.YtlbmijcpalfaeaaDoorF18
import Derived.Test.YtlbmijcpalfaeaaDoorF19
import Derived.Test.YtlbmijcpalfaeaaDoorF20
import Derived.Test.YtlbmijcpalfaeaaDoorF21
import Derived.Test.YtlbmijcpalfaeaaDoorF22
import Derived.Test.YtlbmijcpalfaeaaDoorF23
import Derived.Test.YtlbmijcpalfaeaaDoorF24
import Derived.Test.YtlbmijcpalfaeaaDoorF25
import Derived.Test.YtlbmijcpalfaeaaDoorF26
import Derived.Test.YtlbmijcpalfaeaaDoorF27
import Derived.Test.YtlbmijcpalfaeaaDoorF28
import Derived.Test.YtlbmijcpalfaeaaDoorF29
import Derived.Test.YtlbmijcpalfaeaaDoorF30
import Derived.Test.YtlbmijcpalfaeaaDoorF31
import Derived.Test.YtlbmijcpalfaeaaDoorF32
import Derived.Test.YtlbmijcpalfaeaaDoorF33
import Derived.Test.YtlbmijcpalfaeaaDoorF34
import Derived.Test.YtlbmijcpalfaeaaDoorF35
import Derived.Test.YtlbmijcpalfaeaaDoorF36
import Derived.Test.YtlbmijcpalfaeaaDoorF37
import Derived.Test.YtlbmijcpalfaeaaDoorF38
import Derived.Test.YtlbmijcpalfaeaaDoorF39
set_option linter.unusedSimpArgs false
set_option linter.unusedVariables false
namespace Go.Proofs.YtlbmijcpalfaeaaDoor
open Go.RowKit Go.Lib

theorem below_drewT {B : Nat} {a w : World} (h : Below B a w) : ∀ n, Below B a (w.drewN n) := by
  intro n
  induction n with
  | zero => exact h
  | succ n ih => exact ih.drew
/-- A value that reads as facts. -/
def FcS (w : World) (v : Value) (fs : List Fc) : Prop :=
  ∃ ao cap, v = .slice ao fs.length cap ∧ fs.length ≤ cap ∧ cap ≤ maxLen ∧ (fs = [] ∨ ∃ g, ao = some ⟨g, 0, none⟩ ∧ FcR w g fs)
theorem FcS.below {w w' : World} {v : Value} {fs : List Fc} (h : FcS w v fs) (hb : Below w.heap.size w w') : FcS w' v fs := by
  obtain ⟨ao, cap, e, h1, h2, h3⟩ := h
  exact ⟨ao, cap, e, h1, h2, h3.imp id fun ⟨g, e, h⟩ => ⟨g, e, h.below hb⟩⟩

set_option maxRecDepth 20000 in
set_option maxHeartbeats 4000000 in
theorem same13_eq (w : World) (v1 v2 : Value) (fs : List Fc) (h1 : FcS w v1 fs) (h2 : FcS w v2 fs) :
    Calls Tryd.prog 46 #[v1, v2] w fun e w' => e = .returned (.bool true) ∧ Below w.heap.size w w' := by
  obtain ⟨ao, ca, rfl, hal, ham, hac⟩ := h1
  obtain ⟨bo, cb, rfl, hbl, hbm, hbc⟩ := h2
  unfold maxLen at ham hbm
  have HA := Sld.mk hac
  have HB := Sld.mk hbc
  clear hac hbc
  go_enter Tryd.func46, Tryd.ntmps46
  go_wp2_with fail
  go_loopw [5] (fun i wr => ∃ k : Nat, k ≤ fs.length ∧ i = .int .i64 k ∧ Sld (Below w.heap.size w wr)) (fun i _ => fs.length - (RowKit.intOf i).toNat)
  case atStart => exact ⟨0, Nat.zero_le _, rfl, ⟨Below.refl _ _⟩⟩
  case round =>
    obtain ⟨k, hk, rfl, HW⟩ := hrel
    by_cases hlt : k < fs.length
    · obtain ⟨g, rfl, hg⟩ : ∃ g, ao = some ⟨g, 0, none⟩ ∧ FcR w g fs := by
        rcases HA.out with h | h
        · subst h; simp at hlt
        · exact h
      obtain ⟨g', rfl, hg'⟩ : ∃ g, bo = some ⟨g, 0, none⟩ ∧ FcR w g fs := by
        rcases HB.out with h | h
        · subst h; simp at hlt
        · exact h
      obtain ⟨a0, a1, a2⟩ := (hg.below HW.out).at_ k hlt
      obtain ⟨b0, b1, b2⟩ := (hg'.below HW.out).at_ k hlt
      have hq := neq_fact (fs.getD k fc0) (fs.getD k fc0)
      rw [decide_eq_false (by simp)] at hq
      have hltI : (k : Int) < (fs.length : Int) := by omega
      have HWd : Sld (Below w.heap.size w wr.drew) := ⟨HW.out.drew⟩
      generalize fs.getD k fc0 = f at *
      obtain ⟨ft, fc, fn⟩ := f
      simp only at a0 a1 a2 b0 b1 b2 hq
      clear hg hg'
      go_wp2_with fail
      go_region
      go_wp2_with fail
      exact ⟨⟨k + 1, by omega, by go_num, HWd⟩, by simp [RowKit.intOf]; omega⟩
    · have hke : k = fs.length := by omega
      subst hke
      go_wp2_with fail
      go_ret
      exact ⟨rfl, HW.out⟩

set_option maxRecDepth 20000 in
set_option maxHeartbeats 4000000 in
theorem sameClass_eq (w : World) (v1 v2 : Value) (nodes : List Nd) (size : Int) (h1 : Nodes w w.heap.size v1 nodes) (h2 : Nodes w w.heap.size v2 nodes) :
    Calls Tryd.prog 76 #[.agg #[v1, .int .i64 size], .agg #[v2, .int .i64 size]] w fun e w' => e = .returned (.bool true) ∧ Below w.heap.size w w' := by
  obtain ⟨W1, hW1⟩ : ∃ W1, (w.alloc (.cells #[v1, .int .i64 size] 106)).alloc (.cells #[v2, .int .i64 size] 106) = W1 := ⟨_, rfl⟩
  have hb1 : Below w.heap.size w W1 := by rw [← hW1]; exact ((Below.refl _ _).alloc (Nat.le_refl _) _).alloc (by simp) _
  have hk1 : W1.heap[w.heap.size]? = some (.cells #[v1, .int .i64 size] 106 (0, 0)) := by rw [← hW1, Deep.blk_alloc_lt _ _ _ (by simp), Deep.blk_alloc_new]
  have hk2 : W1.heap[w.heap.size + 1]? = some (.cells #[v2, .int .i64 size] 106 (0, 0)) := by
    have := Deep.blk_alloc_new (w.alloc (.cells #[v1, .int .i64 size] 106)) (.cells #[v2, .int .i64 size] 106)
    rw [← hW1]; rw [World.size_alloc] at this; exact this
  have a0 : W1.cell? ⟨w.heap.size, 0, none⟩ = some v1 := by simp [World.cell?, hk1]
  have a1 : W1.cell? ⟨w.heap.size, 1, none⟩ = some (.int .i64 size) := by simp [World.cell?, hk1]
  have b0 : W1.cell? ⟨w.heap.size + 1, 0, none⟩ = some v2 := by simp [World.cell?, hk2]
  have b1 : W1.cell? ⟨w.heap.size + 1, 1, none⟩ = some (.int .i64 size) := by simp [World.cell?, hk2]
  have cs0 := same_any v1 v2 nodes nodes W1 W1.heap.size (Nat.le_refl _) (h1.below hb1 hb1.size) (h2.below hb1 hb1.size)
  rw [decide_eq_true (rfl : nodes = nodes)] at cs0
  have CS := Sld.mk cs0
  obtain ⟨xa, xc, rfl, _⟩ := h1
  obtain ⟨ya, yc, rfl, _⟩ := h2
  have HW1 := Sld.mk hW1
  have HB1 := Sld.mk hb1
  clear hW1 hb1 hk1 hk2
  go_enter Tryd.func76, Tryd.ntmps76
  go_wp2_with (rw [HW1.out])
  refine CS.out.mono ?_
  rintro e w2 ⟨rfl, hb2⟩
  have HB2 := Sld.mk (HB1.out.trans (hb2.mono HB1.out.size))
  clear hb2 CS cs0
  go_wp2_with fail
  go_ret
  exact ⟨rfl, HB2.out⟩

set_option maxRecDepth 20000 in
set_option maxHeartbeats 4000000 in
theorem samePic_eq (cs : List Cls) (roots : List Int) (ca ra cb rb : Option Addr) (cc rc cd rd : Nat) (w : World) (hc : Clss w w.heap.size (.slice ca cs.length cc) cs) (hr : Ints w w.heap.size (.slice ra roots.length rc) roots) (hc2 : Clss w w.heap.size (.slice cb cs.length cd) cs) (hr2 : Ints w w.heap.size (.slice rb roots.length rd) roots) :
    Calls Tryd.prog 45 #[.agg #[.slice ca cs.length cc, .slice ra roots.length rc], .agg #[.slice cb cs.length cd, .slice rb roots.length rd]] w fun e w' => e = .returned (.bool true) ∧ Below w.heap.size w w' := by
  obtain ⟨W1, hW1⟩ : ∃ W1, (w.alloc (.cells #[.slice ca cs.length cc, .slice ra roots.length rc] 56)).alloc (.cells #[.slice cb cs.length cd, .slice rb roots.length rd] 56) = W1 := ⟨_, rfl⟩
  have hb1 : Below w.heap.size w W1 := by rw [← hW1]; exact ((Below.refl _ _).alloc (Nat.le_refl _) _).alloc (by simp) _
  have hk1 : W1.heap[w.heap.size]? = some (.cells #[.slice ca cs.length cc, .slice ra roots.length rc] 56 (0, 0)) := by rw [← hW1, Deep.blk_alloc_lt _ _ _ (by simp), Deep.blk_alloc_new]
  have hk2 : W1.heap[w.heap.size + 1]? = some (.cells #[.slice cb cs.length cd, .slice rb roots.length rd] 56 (0, 0)) := by
    have := Deep.blk_alloc_new (w.alloc (.cells #[.slice ca cs.length cc, .slice ra roots.length rc] 56)) (.cells #[.slice cb cs.length cd, .slice rb roots.length rd] 56)
    rw [← hW1]; rw [World.size_alloc] at this; exact this
  have HP : Sld (∀ V, Below W1.heap.size W1 V → V.cell? ⟨w.heap.size, 0, none⟩ = some (.slice ca cs.length cc) ∧ V.cell? ⟨w.heap.size, 1, none⟩ = some (.slice ra roots.length rc) ∧ V.cell? ⟨w.heap.size + 1, 0, none⟩ = some (.slice cb cs.length cd) ∧ V.cell? ⟨w.heap.size + 1, 1, none⟩ = some (.slice rb roots.length rd) ∧ Below w.heap.size w V) := ⟨fun V hV => by
    have h1 := (hV.block _ (lt_of_block hk1)).trans hk1
    have h2 := (hV.block _ (lt_of_block hk2)).trans hk2
    exact ⟨by simp [World.cell?, h1], by simp [World.cell?, h1], by simp [World.cell?, h2], by simp [World.cell?, h2], hb1.trans (hV.mono hb1.size)⟩⟩
  have ci0 := sameInts_any _ _ roots roots W1 W1.heap.size (Nat.le_refl _) (hr.below hb1 hb1.size) (hr2.below hb1 hb1.size)
  rw [decide_eq_true (rfl : roots = roots)] at ci0
  have CI := Sld.mk ci0
  have HC := Sld.mk hc
  have HC2 := Sld.mk hc2
  have HW1 := Sld.mk hW1
  have HB1 := Sld.mk hb1
  obtain ⟨p0, p1, p2, p3, _⟩ := HP.out W1 (Below.refl _ _)
  obtain ⟨_, _, d1, hm1, hm2, _⟩ := hc
  injection d1 with d1 d2 d3
  rw [← d3] at hm1 hm2
  unfold maxLen at hm2
  obtain ⟨_, _, d4, hm3, hm4, _⟩ := hc2
  injection d4 with d4 d5 d6
  rw [← d6] at hm3 hm4
  unfold maxLen at hm4
  clear hW1 hb1 hk1 hk2 d1 d2 d3 d4 d5 d6 hr hr2
  go_enter Tryd.func45, Tryd.ntmps45
  go_wp2_with fail
  rw [HW1.out]
  refine CI.out.mono ?_
  rintro e w2 ⟨rfl, hb2⟩
  obtain ⟨dn, hw2⟩ := hb2
  have hb2 : Below W1.heap.size W1 w2 := by rw [hw2]; exact below_drewT (Below.refl _ _) dn
  obtain ⟨q0, q1, q2, q3, hbw2⟩ := HP.out w2 hb2
  have HB2 := Sld.mk hb2
  clear hw2 CI ci0 p0 p1 p2 p3 hb2 hbw2
  go_wp2_with fail
  go_loopw [5] (fun i wr => ∃ k : Nat, k ≤ cs.length ∧ i = .int .i64 k ∧ Sld (Below W1.heap.size W1 wr)) (fun i _ => cs.length - (RowKit.intOf i).toNat)
  case atStart => exact ⟨0, Nat.zero_le _, rfl, HB2⟩
  case round =>
    obtain ⟨k, hk, rfl, HW⟩ := hrel
    clear q0 q1 q2 q3
    obtain ⟨q0, q1, q2, q3, hbw⟩ := HP.out wr HW.out
    by_cases hlt : k < cs.length
    · obtain ⟨b, o, na, nc, rfl, hbl, c0, c1, hN⟩ : ∃ b o na nc, ca = some ⟨b, o, none⟩ ∧ b < wr.heap.size ∧ wr.cell? ⟨b, o + k * 2, none⟩ = some (.slice na (cs.getD k cls0).nodes.length nc) ∧ wr.cell? ⟨b, o + k * 2 + 1, none⟩ = some (.int .i64 (cs.getD k cls0).size) ∧ Nodes wr wr.heap.size (.slice na (cs.getD k cls0).nodes.length nc) (cs.getD k cls0).nodes := by
        obtain ⟨ao, cap, h1, _, _, h2⟩ := HC.out.below hbw hbw.size
        injection h1 with h1 _ _
        rcases h2 with h2 | ⟨b, o, h2, hbl, h3⟩
        · subst h2; simp at hlt
        · obtain ⟨na, nc, h4, h5, h6⟩ := h3 k hlt
          exact ⟨b, o, na, nc, h1.trans h2, hbl, h4, h5, h6⟩
      obtain ⟨b', o', na', nc', rfl, hbl', c0', c1', hN'⟩ : ∃ b o na nc, cb = some ⟨b, o, none⟩ ∧ b < wr.heap.size ∧ wr.cell? ⟨b, o + k * 2, none⟩ = some (.slice na (cs.getD k cls0).nodes.length nc) ∧ wr.cell? ⟨b, o + k * 2 + 1, none⟩ = some (.int .i64 (cs.getD k cls0).size) ∧ Nodes wr wr.heap.size (.slice na (cs.getD k cls0).nodes.length nc) (cs.getD k cls0).nodes := by
        obtain ⟨ao, cap, h1, _, _, h2⟩ := HC2.out.below hbw hbw.size
        injection h1 with h1 _ _
        rcases h2 with h2 | ⟨b, o, h2, hbl, h3⟩
        · subst h2; simp at hlt
        · obtain ⟨na, nc, h4, h5, h6⟩ := h3 k hlt
          exact ⟨b, o, na, nc, h1.trans h2, hbl, h4, h5, h6⟩
      have CC := Sld.mk (sameClass_eq wr.drew (.slice na (cs.getD k cls0).nodes.length nc) (.slice na' (cs.getD k cls0).nodes.length nc') (cs.getD k cls0).nodes (cs.getD k cls0).size (hN.below (Below.refl _ _).drew (Nat.le_refl _)) (hN'.below (Below.refl _ _).drew (Nat.le_refl _)))
      have HWd : Sld (Below W1.heap.size W1 wr.drew) := ⟨HW.out.drew⟩
      have hltI : (k : Int) < (cs.length : Int) := by omega
      generalize (cs.getD k cls0).nodes.length = nl at *
      generalize (cs.getD k cls0).size = sz at *
      clear hN hN' hbw
      go_upto_region 6 with fail
      have hl1 : w.heap.size < wr.heap.size := World.block_lt_of_cell? _ _ q0
      have hl2 : w.heap.size + 1 < wr.heap.size := World.block_lt_of_cell? _ _ q2
      go_region_held3 (fun V => V.cell? ⟨w.heap.size, 0, none⟩ = some (.slice (some ⟨b, o, none⟩) cs.length cc) ∧ V.cell? ⟨w.heap.size + 1, 0, none⟩ = some (.slice (some ⟨b', o', none⟩) cs.length cd) ∧ V.cell? ⟨b, o + k * 2, none⟩ = some (.slice na nl nc) ∧ V.cell? ⟨b, o + k * 2 + 1, none⟩ = some (.int .i64 sz) ∧ V.cell? ⟨b', o' + k * 2, none⟩ = some (.slice na' nl nc') ∧ V.cell? ⟨b', o' + k * 2 + 1, none⟩ = some (.int .i64 sz)) (go_keep) (first | (go_at_call 76; refine CC.out.mono ?_; rintro e w6 ⟨rfl, hb6⟩; have hb56 : Below wr.heap.size wr w6 := (Below.drew (Below.refl _ _)).trans hb6; have z0 := (hb56.cell (p := ⟨w.heap.size, 0, none⟩) hl1).trans q0; have z1 := (hb56.cell (p := ⟨w.heap.size + 1, 0, none⟩) hl2).trans q2; have z2 := (hb56.cell (p := ⟨b, o + k * 2, none⟩) hbl).trans c0; have z3 := (hb56.cell (p := ⟨b, o + k * 2 + 1, none⟩) hbl).trans c1; have z4 := (hb56.cell (p := ⟨b', o' + k * 2, none⟩) hbl').trans c0'; have z5 := (hb56.cell (p := ⟨b', o' + k * 2 + 1, none⟩) hbl').trans c1'))
      have HB6 : Sld (Below W1.heap.size W1 w6) := ⟨HW.out.trans (hb56.mono HW.out.size)⟩
      clear z0 z1 z2 z3 z4 z5 hb56 hb6
      go_wp2_with fail
      exact ⟨⟨k + 1, by omega, by go_num, HB6⟩, by simp [RowKit.intOf]; omega⟩
    · have hke : k = cs.length := by omega
      subst hke
      have HE := Sld.mk hbw
      clear hbw
      go_wp2_with fail
      go_ret
      exact ⟨rfl, HE.out⟩
end Go.Proofs.YtlbmijcpalfaeaaDoor

set_option linter.unusedSimpArgs false
set_option linter.unusedVariables false
namespace Go.Proofs.YtlbmijcpalfaeaaDoor
open Go.RowKit Go.Lib

theorem clI_zero (cs : List Cls) : ∀ t i, ((clI cs t).getD i fc0).c = false → ((clI cs t).getD i fc0).n = 0 := by
  intro t
  induction t with
  | zero =>
    intro i _
    show ((List.replicate cs.length fc0).getD i fc0).n = 0
    rw [List.getD_eq_getElem?_getD, List.getElem?_replicate]; split <;> rfl
  | succ t ih =>
    intro i h
    by_cases hi : i < cs.length
    · rw [show clI cs (t + 1) = stF cs (clI cs t) from rfl, stF_at cs _ hi] at h ⊢
      unfold gwF at h ⊢
      split at h
      · rename_i hc; rw [hc] at h; cases h
      · rename_i hc
        rw [if_neg hc, (gw_fold _ _ _).2.2 h]
        exact ih i (by simpa using hc)
    · have : (clI cs (t + 1)).getD i fc0 = fc0 := by
        rw [List.getD_eq_getElem?_getD, List.getElem?_eq_none (by rw [clI_len]; omega)]; rfl
      rw [this]; rfl
/-- What Classes answers, whether the picture is sound or not. -/
def ClK (cs : List Cls) (b : Bool) (fs : List Fc) (z : Int) : Prop := (b = true ∧ ClF cs fs ∧ z = 0) ∨ (b = false ∧ fs = [] ∧ z = 1)
theorem ClK.one {cs : List Cls} {b : Bool} {fs gs : List Fc} {z y : Int} (h : ClK cs b fs z) (h2 : ClK cs b gs y) : gs = fs ∧ y = z := by
  rcases h with ⟨rfl, h, rfl⟩ | ⟨rfl, rfl, rfl⟩ <;> rcases h2 with ⟨h3, h4, rfl⟩ | ⟨h3, rfl, rfl⟩
  · exact ⟨h4.one h, rfl⟩
  · cases h3
  · cases h3
  · exact ⟨rfl, rfl⟩
theorem ClK.zero {cs : List Cls} {b : Bool} {fs : List Fc} {z : Int} (h : ClK cs b fs z) (i : Nat) (hc : (fs.getD i fc0).c = false) : (fs.getD i fc0).n = 0 := by
  rcases h with ⟨_, ⟨t, rfl, _⟩, _⟩ | ⟨_, rfl, _⟩
  · exact clI_zero cs t i hc
  · rfl
theorem ClK.le {cs : List Cls} {b : Bool} {fs : List Fc} {z : Int} (h : ClK cs b fs z) : fs.length ≤ cs.length := by
  rcases h with ⟨_, h, _⟩ | ⟨_, rfl, _⟩
  · exact Nat.le_of_eq h.len
  · simp
theorem ClQ.gen {w w' : World} {cs : List Cls} {b : Bool} {e : Ending} (h : ClQ w cs b e w') : ∃ v xs fs z, e = .returned (.tuple #[v, .int .i64 z]) ∧ w'.ownsRow w.heap.size 65 3 v fs.length xs ∧ FcX xs fs ∧ ClK cs b fs z := by
  rcases h with ⟨hb, g, xs, fs, rfl, h1, h2, h3⟩ | ⟨hb, rfl⟩
  · exact ⟨_, xs, fs, 0, rfl, by rw [h3.len]; exact h1, h2, .inl ⟨hb, h3, rfl⟩⟩
  · exact ⟨_, [], [], 1, rfl, World.ownsRow_nil _ _ _ _, FcX.nil _, .inr ⟨hb, rfl, rfl⟩⟩
theorem fcS_own {w : World} {base : Nat} {v : Value} {xs : List Value} {fs : List Fc} (h : w.ownsRow base 65 3 v fs.length xs) (hx : FcX xs fs) : FcS w v fs := by
  rcases id h.2 with ⟨rfl, h0⟩ | ⟨g, cap, cur, rfl, _, _, hn, hm, _⟩
  · have : fs = [] := List.length_eq_zero_iff.1 h0
    subst this
    exact ⟨none, 0, rfl, by simp, by simp [maxLen], .inl rfl⟩
  · exact ⟨_, cap, rfl, hn, hm, .inr ⟨g, rfl, hx.read h⟩⟩
/-- What Of answers of an expression, sound or not. -/
def ofE (l : List Nd) : Fc := if sndB l = true then ofR l else fc0
theorem ofE_any {w : World} {ao : Option Addr} {cap : Nat} {l : List Nd} (hT : SpanCells w) (hG : GrpCells w) (hR : Rd w ao cap l) :
    Calls Tryd.prog 41 #[.slice ao l.length cap] w fun e w' => e = .returned (.tuple #[.agg #[.bool (ofE l).t, .bool (ofE l).c, .int .i64 (ofE l).n], .int .i64 (chkE l)]) ∧ Below w.heap.size w w' := by
  cases hb : begL l with
  | some fr =>
    have h := sndW_some hb
    have := ofF_some hT hG hR hb
    unfold ofE
    rw [if_pos h, chkE_yes h]
    exact this
  | none =>
    have h := sndW_none hb
    have := ofF_none (l := l) hT hR hb
    unfold ofE
    rw [if_neg (by rw [h]; simp), chkE_no h]
    exact this
end Go.Proofs.YtlbmijcpalfaeaaDoor

set_option linter.unusedSimpArgs false
set_option linter.unusedVariables false
namespace Go.Proofs.YtlbmijcpalfaeaaDoor
open Go.RowKit Go.Lib

/-- Row c is the law's own, row d reads as the facts, and they are two. -/
structure KpM (W5 : World) (vc vd : Value) (n : Nat) (fs : List Fc) (wr : World) : Prop where
  own : ∃ xs, wr.ownsRow W5.heap.size 65 3 vc n xs
  dr : FcS wr vd fs
  ne : ∀ a b, vc.ownBlock = some a → vd.ownBlock = some b → a ≠ b
  bl : Below W5.heap.size W5 wr
theorem KpM.up {W5 wr w' : World} {vc vd : Value} {n : Nat} {fs : List Fc} (h : KpM W5 vc vd n fs wr) (hb : Below wr.heap.size wr w') : KpM W5 vc vd n fs w' := by
  obtain ⟨xs, h1⟩ := h.own
  exact ⟨⟨xs, ownsRow_below h1 hb⟩, h.dr.below hb, h.ne, h.bl.trans (hb.mono h.bl.size)⟩
theorem fcS_other {w w' : World} {v : Value} {fs : List Fc} (h : FcS w v fs) (hb : ∀ b, v.ownBlock = some b → w'.heap[b]? = w.heap[b]?) : FcS w' v fs := by
  obtain ⟨ao, cap, rfl, h1, h2, h3⟩ := h
  refine ⟨ao, cap, rfl, h1, h2, h3.imp id fun ⟨g, e, hr⟩ => ?_⟩
  subst e
  have hbl := hb g rfl
  have hc : ∀ o, w'.cell? ⟨g, o, none⟩ = w.cell? ⟨g, o, none⟩ := fun o => World.cell?_of_block (a := ⟨g, o, none⟩) hbl
  have hl := hr.lt
  refine ⟨g, rfl, ?_, fun i hi => ⟨(hc _).trans (hr.at_ i hi).c0, (hc _).trans (hr.at_ i hi).c1, (hc _).trans (hr.at_ i hi).c2⟩⟩
  rcases Nat.lt_or_ge g w'.heap.size with h | h
  · exact h
  · rw [Array.getElem?_eq_none h, Array.getElem?_eq_getElem hl] at hbl; cases hbl
theorem KpM.free {W5 wr : World} {gc qc : Nat} {vd : Value} {n k : Nat} {fs : List Fc} (h : KpM W5 (.slice (some ⟨gc, 0, none⟩) n qc) vd n fs wr) (hi : k < n) : (∀ q, q < 3 → ∃ u, wr.cell? ⟨gc, k * 3 + q, none⟩ = some u) ∧ ∀ o, wr.frozen? ⟨gc, o, none⟩ = false := by
  obtain ⟨xs, h1⟩ := h.own
  have hl := h1.1
  refine ⟨fun q hq => ?_, fun o => rw_fro h1 o⟩
  obtain ⟨u, hu, _⟩ := rw_cell h1 (i := k * 3 + q) (by omega)
  exact ⟨u, hu⟩
theorem KpM.store {W5 wr : World} {gc qc : Nat} {vd : Value} {n k : Nat} {fs : List Fc} (h : KpM W5 (.slice (some ⟨gc, 0, none⟩) n qc) vd n fs wr) (hi : k < n) (a b c : Value) :
    KpM W5 (.slice (some ⟨gc, 0, none⟩) n qc) vd n fs (((wr.setCell ⟨gc, k * 3, none⟩ a).setCell ⟨gc, k * 3 + 1, none⟩ b).setCell ⟨gc, k * 3 + 2, none⟩ c) := by
  obtain ⟨xs, h1⟩ := h.own
  have hl := h1.1
  have hg := (rw_block h1 (b := gc) rfl).1
  have p1 := own_put (i := k * 3) (u := a) h1 (by omega)
  have p2 := own_put (i := k * 3 + 1) (u := b) p1 (by simp; omega)
  have p3 := own_put (i := k * 3 + 2) (u := c) p2 (by simp; omega)
  have hB : ∀ (W : World) (o : Nat) (v : Value), Below W5.heap.size W5 W → Below W5.heap.size W5 (W.setCell ⟨gc, o, none⟩ v) := fun W o v hW => hW.setCell (p := ⟨gc, o, none⟩) hg v
  refine ⟨⟨_, p3⟩, fcS_other h.dr fun b' hb' => ?_, h.ne, hB _ _ _ (hB _ _ _ (hB _ _ _ h.bl))⟩
  have hne : b' ≠ gc := fun e => h.ne gc b' rfl hb' e.symm
  rw [Deep.blk_setCell_other _ _ _ _ hne, Deep.blk_setCell_other _ _ _ _ hne, Deep.blk_setCell_other _ _ _ _ hne]
theorem KpM.grown {W5 wr w' : World} {vc vd : Value} {n : Nat} {fs : List Fc} (h : KpM W5 vc vd n fs wr) (hg : wr.grownBy w' vc.ownBlock) : FcS w' vd fs ∧ Below W5.heap.size W5 w' := by
  obtain ⟨ys, h1⟩ := h.own
  refine ⟨?_, h.bl.grown hg h.bl.size fun k hk => (rw_block h1 hk).1⟩
  obtain ⟨ao, cap, rfl, h2, h3, h4⟩ := h.dr
  rcases h4 with h4 | ⟨g, rfl, hr⟩
  · exact ⟨ao, cap, rfl, h2, h3, .inl h4⟩
  · exact fcS_other (w := wr) ⟨_, cap, rfl, h2, h3, .inr ⟨g, rfl, hr⟩⟩ fun b hb => by
      cases hb
      exact hg.block _ hr.lt fun e => h.ne g g e.symm rfl rfl
end Go.Proofs.YtlbmijcpalfaeaaDoor

set_option linter.unusedSimpArgs false
set_option linter.unusedVariables false
namespace Go.Proofs.YtlbmijcpalfaeaaDoor
open Go.RowKit Go.Lib Go.Sort

/-- A copy of a picture in the making. -/
structure CcM (B PB : Nat) (vc : Value) (R : List Ac) (rv : Value) (rs : List Int) (w : World) : Prop where
  row : w.ownsRow B 106 2 vc R.length (acCells R)
  own : ∀ r ∈ R, OwnP w B r.1 r.2.1
  pb : w.heap[PB]? = some (.cells #[vc, rv] 56 (0, 0))
  pbB : B ≤ PB
  rr : OwnI w B rv rs
theorem CcM.below {B PB : Nat} {vc rv : Value} {R : List Ac} {rs : List Int} {w w2 : World} (h : CcM B PB vc R rv rs w) (hb : Below w.heap.size w w2) : CcM B PB vc R rv rs w2 :=
  ⟨ownsRow_below h.row hb, fun r hr => (h.own r hr).below hb, (hb.block _ (lt_of_block h.pb)).trans h.pb, h.pbB, h.rr.below hb⟩
theorem acCells_snoc (l : List Ac) (a : Ac) : acCells (l ++ [a]) = acCells l ++ [a.1, .int .i64 a.2.2] := by
  induction l with
  | nil => rfl
  | cons b r ih => simp [acCells, ih]
theorem CcM.app {B PB n g cap : Nat} {vc rv v' : Value} {R : List Ac} {rs : List Int} {p : List (Nd × Value)} {z : Int} {w w6 : World} (h : CcM B PB vc R rv rs w) (hn : R.length = n) (hv : OwnP w B v' p) (hown : w6.ownsRow B 106 2 (.slice (some ⟨g, 0, none⟩) (n + 1) cap) (n + 1) (acCells R ++ [v', .int .i64 z])) (hg : w.grownBy w6 vc.ownBlock) : CcM B PB (.slice (some ⟨g, 0, none⟩) (n + 1) cap) (R ++ [(v', p, z)]) rv rs (w6.setCell ⟨PB, 0, none⟩ (.slice (some ⟨g, 0, none⟩) (n + 1) cap)) := by
  have hP : vc.ownBlock ≠ some PB := neTy h.row h.pb (by decide)
  have hpb6 : w6.heap[PB]? = some (.cells #[vc, rv] 56 (0, 0)) := (hg.block PB (lt_of_block h.pb) (fun e => hP e.symm)).trans h.pb
  have hk : ∀ {v : Value} {q : List (Nd × Value)}, OwnP w B v q → OwnP w6 B v q := fun ho => ⟨World.ownsRow.kept ho.row hg (ownBlock_ne ho.row h.row (by decide)), fun r hr => World.ownsRow.kept (ho.kids r hr) hg (ownBlock_ne (ho.kids r hr) h.row (by decide))⟩
  have hrr : OwnI w6 B rv rs := World.ownsRow.kept h.rr hg (ownBlock_ne h.rr h.row (by decide))
  refine ⟨?_, fun r hr => ?_, ?_, h.pbB, ownSetO hrr (neTy hrr hpb6 (by decide))⟩
  · rw [acCells_snoc, List.length_append, hn]
    exact ownSetO hown (neTy hown hpb6 (by decide))
  · rw [List.mem_append, List.mem_singleton] at hr
    rcases hr with hr | rfl
    · exact ownPset (hk (h.own r hr)) hpb6 (by decide) (by decide)
    · exact ownPset (hk hv) hpb6 (by decide) (by decide)
  · have := heap_setCell_same w6 PB 0 _ _ (.slice (some ⟨g, 0, none⟩) (n + 1) cap) hpb6
    rw [this]; rfl
theorem CcM.setO {B PB : Nat} {vc rv : Value} {R : List Ac} {rs : List Int} {w : World} (h : CcM B PB vc R rv rs w) {b o : Nat} {u : Value} {cs : Array Value} {fr : Nat × Nat} (hb : w.heap[b]? = some (.cells cs 56 fr)) (hne : PB ≠ b) : CcM B PB vc R rv rs (w.setCell ⟨b, o, none⟩ u) :=
  ⟨ownSetO h.row (neTy h.row hb (by decide)), fun r hr => ownPset (h.own r hr) hb (by decide) (by decide), (Deep.blk_setCell_other _ _ _ _ (by show PB ≠ b; exact hne)).trans h.pb, h.pbB, ownSetO h.rr (neTy h.rr hb (by decide))⟩
theorem CcM.form {B PB : Nat} {vc rv : Value} {R : List Ac} {rs : List Int} {w : World} (h : CcM B PB vc R rv rs w) : ∃ a c, vc = .slice a R.length c ∧ R.length ≤ c ∧ c ≤ maxLen := by
  rcases h.row.2 with ⟨e, e2⟩ | ⟨g, cap, cur, e, hb, hg, h1, h2, _⟩
  · exact ⟨none, 0, by rw [e2]; exact e, by omega, by unfold maxLen; omega⟩
  · exact ⟨_, _, e, h1, h2⟩
theorem CcM.clss {B PB : Nat} {vc rv : Value} {R : List Ac} {rs : List Int} {w : World} (h : CcM B PB vc R rv rs w) : Clss w w.heap.size vc (R.map fun r => ⟨r.2.1.map (·.1), r.2.2⟩) := by
  obtain ⟨a, c, hv, hl, hm⟩ := h.form
  refine ⟨a, c, by rw [List.length_map]; exact hv, by rw [List.length_map]; exact hl, hm, ?_⟩
  rcases h.row.2 with ⟨_, e2⟩ | ⟨g, cap, cur, e, hb, hg, h1, h2, _⟩
  · left
    rw [List.length_eq_zero_iff.1 e2]; rfl
  · right
    rw [hv] at e
    injection e with e3 _ _
    refine ⟨g, 0, e3, lt_of_block hg, fun i hi => ?_⟩
    rw [List.length_map] at hi
    obtain ⟨a0, a1⟩ := acCells_at R i hi
    have hr := rdr_own h.row
    have hmem : R.getD i ac0 ∈ R := by rw [List.getD_eq_getElem?_getD, List.getElem?_eq_getElem hi]; exact List.getElem_mem _
    have ho := h.own _ hmem
    have e : (R.map fun r : Ac => (⟨r.2.1.map (·.1), r.2.2⟩ : Cls)).getD i cls0 = ⟨(R.getD i ac0).2.1.map (·.1), (R.getD i ac0).2.2⟩ := by
      simp only [List.getD_eq_getElem?_getD, List.getElem?_map]
      rw [List.getElem?_eq_getElem hi]; rfl
    rw [e, Nat.zero_add]
    obtain ⟨na, nc, e2, hN⟩ : ∃ na nc, (R.getD i ac0).1 = .slice na ((R.getD i ac0).2.1.map (·.1)).length nc ∧ Nodes w w.heap.size (.slice na ((R.getD i ac0).2.1.map (·.1)).length nc) ((R.getD i ac0).2.1.map (·.1)) := by
      have := Nodes_of_own (w := w) (base := B) (v := (R.getD i ac0).1) (l := (R.getD i ac0).2.1.map (·.1)) ⟨_, rfl, ho⟩ (Nat.le_refl _)
      obtain ⟨ao, cap, e, _⟩ := id this
      exact ⟨ao, cap, e, by rw [← e]; exact this⟩
    have hob : vc.ownBlock = some g := by rw [hv, e3]; rfl
    refine ⟨na, nc, ?_, hr.cell (b := g) hob a1, hN⟩
    rw [← e2]
    exact hr.cell (b := g) hob a0
end Go.Proofs.YtlbmijcpalfaeaaDoor

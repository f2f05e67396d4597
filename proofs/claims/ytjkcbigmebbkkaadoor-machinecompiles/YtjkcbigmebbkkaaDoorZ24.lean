/-
  ExPartQ, PaFl, PaFm, PaCk, MaV.
-/
import Derived.Shelf.Unicode.DecodeSlow
import Derived.Laws.RangeAny
import Derived.Shelf.Strconv.Itoa0
import Derived.Shelf.Unicode.DecodeAny
import Derived.Test.YtjkcbigmebbkkaaDoorProg
import Derived.WalkKit
import Derived.Deep.DeepFit
import Derived.Lib.OthersKept
import Derived.Lib.RuneCountTail
import Derived.Deep.AppendLies
import Derived.Deep.OwnRows
import Derived.Laws.AppendOwnNone
import Derived.Deep.QuietTactic
import Derived.BigQuiet
import Derived.Deep.RegionWith
import Derived.Laws.DeepStrings4
import Derived.Laws.CopyOwn
import Derived.Laws.MakeOwn
import Derived.Deep.RegionLaw
import Derived.Below
import Derived.Deep.RegionHeld3
import Derived.Lib.QuietBelow
import Derived.StillTail
import Derived.Lib.MapLaws
import Derived.Sort.Walk0
import Derived.Lib.ItoaNum
import Derived.Maps.OwnSet
import Derived.StringKeys
import Derived.Deep.Slices
import Derived.Laws.ResultCell
import Derived.Test.YtjkcbigmebbkkaaDoorZ01
import Derived.Test.YtjkcbigmebbkkaaDoorZ02
import Derived.Test.YtjkcbigmebbkkaaDoorZ03
import Derived.Test.YtjkcbigmebbkkaaDoorZ04
import Derived.Test.YtjkcbigmebbkkaaDoorZ05
import Derived.Test.YtjkcbigmebbkkaaDoorZ06
import Derived.Test.YtjkcbigmebbkkaaDoorZ07
import Derived.Test.YtjkcbigmebbkkaaDoorZ08
import Derived.Test.YtjkcbigmebbkkaaDoorZ09
import Derived.Test.YtjkcbigmebbkkaaDoorZ10
import Derived.Test.YtjkcbigmebbkkaaDoorZ11
import Derived.Test.YtjkcbigmebbkkaaDoorZ12
import Derived.Test.YtjkcbigmebbkkaaDoorZ13
import Derived.Test.YtjkcbigmebbkkaaDoorZ14
import Derived.Test.YtjkcbigmebbkkaaDoorZ15
import Derived.Test.YtjkcbigmebbkkaaDoorZ16
import Derived.Test.YtjkcbigmebbkkaaDoorZ17
import Derived.Test.YtjkcbigmebbkkaaDoorZ18
import Derived.Test.YtjkcbigmebbkkaaDoorZ19
import Derived.Test.YtjkcbigmebbkkaaDoorZ20
import Derived.Test.YtjkcbigmebbkkaaDoorZ21
import Derived.Test.YtjkcbigmebbkkaaDoorZ22
import Derived.Test.YtjkcbigmebbkkaaDoorZ23
set_option linter.unusedSimpArgs false
set_option linter.unusedVariables false
namespace Go.Proofs.YtjkcbigmebbkkaaDoor
open Go.RowKit Go.Lib

/-- Owned, and no two rows of kids are one. -/
def OwnQ (w : World) (base : Nat) (v : Value) (l : List Nd) : Prop := ∃ p : List (Nd × Value), p.map (·.1) = l ∧ OwnP w base v p ∧ KdAp p
theorem OwnQ.n {w : World} {base : Nat} {v : Value} {l : List Nd} (h : OwnQ w base v l) : OwnN w base v l := let ⟨p, h1, h2, _⟩ := h; ⟨p, h1, h2⟩
theorem OwnQ.form {w : World} {base : Nat} {v : Value} {l : List Nd} (h : OwnQ w base v l) : ∃ ao n cap, v = .slice ao n cap := h.n.form
theorem OwnQ.below {w w' : World} {base : Nat} {v : Value} {l : List Nd} (h : OwnQ w base v l) (hb : Below w.heap.size w w') : OwnQ w' base v l := let ⟨p, h1, h2, h3⟩ := h; ⟨p, h1, h2.below hb, h3⟩
theorem OwnQ.mono {w : World} {base base' : Nat} {v : Value} {l : List Nd} (h : OwnQ w base v l) (hb : base' ≤ base) : OwnQ w base' v l := let ⟨p, h1, h2, h3⟩ := h; ⟨p, h1, ⟨ownsRow_mono h2.row hb, fun q hq => ownsRow_mono (h2.kids q hq) hb⟩, h3⟩
end Go.Proofs.YtjkcbigmebbkkaaDoor

set_option linter.unusedSimpArgs false
set_option linter.unusedVariables false
namespace Go.Proofs.YtjkcbigmebbkkaaDoor
open Go.RowKit Go.Lib Go.Maps Go.Deep

theorem RdO.grow {w w1 w2 : World} {l : List Nd} {v nv : Value} {M : Nat} (h : RdO w l v nv M w1) (hs : w.heap.size ≤ w1.heap.size) (hb : Below w1.heap.size w1 w2) : RdO w l v nv M w2 := by
  obtain ⟨⟨p, hp, hc⟩, hr, ⟨n, hm⟩, hM⟩ := h
  exact ⟨⟨p, hp, ownsRow_below hc.row hb, fun x hx => (hc.kids x hx).below (hb.mono hs) (Nat.le_refl _)⟩, ownsRow_below hr hb, ⟨n, hm.below hb⟩, hM⟩
theorem RdO.nodes {w w1 : World} {l : List Nd} {v nv : Value} {M : Nat} (h : RdO w l v nv M w1) (hs : w.heap.size ≤ w1.heap.size) : Nodes w1 w1.heap.size v (l.map fillN) := by
  obtain ⟨p, hp, hc⟩ := h.p
  have := hc.nodes (C := w1.heap.size) (Nat.le_refl _) hs
  rw [hp] at this
  exact this
end Go.Proofs.YtjkcbigmebbkkaaDoor

set_option linter.unusedSimpArgs false
set_option linter.unusedVariables false
namespace Go.Proofs.YtjkcbigmebbkkaaDoor
open Go.RowKit Go.Lib Go.Maps Go.Deep

structure FlOk (l : List Nd) (ps : List (List Nd)) : Prop where
  pat : patB l = true
  snd : ∀ r ∈ ps, sndB r = true
  len : ps.length = (hlsL l).length
theorem FlOk.pts {l : List Nd} {ps : List (List Nd)} (h : FlOk l ps) : PtsOk ps (hlsL l) l := fun x hx ho => h.snd _ (getD_mem (by rw [h.len]; exact hole_lt hx ho))
end Go.Proofs.YtjkcbigmebbkkaaDoor

set_option linter.unusedSimpArgs false
set_option linter.unusedVariables false
namespace Go.Proofs.YtjkcbigmebbkkaaDoor
open Go.RowKit Go.Lib

/-- Between two nodes of the copy. -/
structure PcMid (w : World) (l : List Nd) (v : Value) (k : Nat) (wr : World) : Prop where
  p : ∃ p, p.map (·.1) = (l.take k).map fillN ++ l.drop k ∧ OwnP wr w.heap.size v p
  below : Below w.heap.size w wr
theorem PcMid.at_ {w : World} {l : List Nd} {v : Value} {k : Nat} {wr : World} (h : PcMid w l v k wr) (hk : k < l.length) : ∃ g cap, v = .slice (some ⟨g, 0, none⟩) l.length cap ∧ w.heap.size ≤ g ∧ g < wr.heap.size ∧ l.length ≤ cap ∧ cap ≤ maxLen ∧ wr.cell? ⟨g, k * 4, none⟩ = some (.int .i64 (l.getD k nd0).op) ∧ wr.frozen? ⟨g, k * 4, none⟩ = false := by
  obtain ⟨⟨p, hp, hc⟩, hb⟩ := h
  have hpl : p.length = l.length := by have := congrArg List.length hp; simp at this; omega
  rcases hc.row.2 with ⟨rfl, h0⟩ | ⟨g, cap, cur, rfl, hg0, hg, h1, h2, h3, h4⟩
  · omega
  · refine ⟨g, cap, by rw [hpl], hg0, lt_of_block hg, by omega, h2, ?_, frozen_of_heap hg _⟩
    have hp2 : p[k]? = some (p[k].1, p[k].2) := by simp [hpl, hk]
    have := (ndCells_at p k _ _ hp2).1
    have hx : ((l.take k).map fillN ++ l.drop k)[k]? = some l[k] := by
      rw [List.getElem?_append_right (by simp; omega)]
      have : k - ((l.take k).map fillN).length = 0 := by simp; omega
      rw [this]; simp [hk]
    have hkp : k < p.length := by omega
    have e : p[k].1 = l.getD k nd0 := by
      have h5 : (p.map (·.1))[k]? = some l[k] := by rw [hp]; exact hx
      simp [hkp] at h5
      simp [hk, h5]
    rw [cell_of_heap hg, ← Array.getElem?_toList, ← e, ← this, ← h4, List.getElem?_take, if_pos (by omega)]
theorem PcMid.skip {w : World} {l : List Nd} {v : Value} {k : Nat} {wr : World} (h : PcMid w l v k wr) (hk : k < l.length) (hop : (l.getD k nd0).op ≠ 18) : PcMid w l v (k + 1) wr := by
  obtain ⟨⟨p, hp, hc⟩, hb⟩ := h
  exact ⟨⟨p, by rw [fill_step hk hop]; exact hp, hc⟩, hb⟩
theorem PcMid.fill {w : World} {l : List Nd} {g cap k : Nat} {wr : World} (h : PcMid w l (.slice (some ⟨g, 0, none⟩) l.length cap) k wr) (hk : k < l.length) (hop : (l.getD k nd0).op = 18) : PcMid w l (.slice (some ⟨g, 0, none⟩) l.length cap) (k + 1) (wr.setCell ⟨g, k * 4, none⟩ (.int .i64 2)) := by
  obtain ⟨g', cap', e1, hg0, _⟩ := h.at_ hk
  cases e1
  obtain ⟨⟨p, hp, hc⟩, hb⟩ := h
  have hpl : p.length = l.length := by have := congrArg List.length hp; simp at this; omega
  have e : l.getD k nd0 = l[k] := by simp [hk]
  have hx : ((l.take k).map fillN ++ l.drop k)[k]? = some l[k] := by
    rw [List.getElem?_append_right (by simp; omega)]
    have : k - ((l.take k).map fillN).length = 0 := by simp; omega
    rw [this]; simp [hk]
  have hpk : p[k]? = some (l[k], (p.getD k (nd0, .slice none 0 0)).2) := by
    have hkp : k < p.length := by omega
    have : (p.map (·.1))[k]? = some l[k] := by rw [hp]; exact hx
    simp [hkp] at this
    simp [hkp, ← this]
  have hfl : fillN l[k] = { l[k] with op := 2 } := by rw [e] at hop; simp [fillN, hop]
  have hrow : wr.ownsRow w.heap.size 71 4 (.slice (some ⟨g, 0, none⟩) l.length cap) l.length (ndCells p) := by have := hc.row; rwa [hpl] at this
  refine ⟨⟨p.set k ({ l[k] with op := 2 }, (p.getD k (nd0, .slice none 0 0)).2), ?_, ?_, ?_⟩, hb.setCell (p := ⟨g, k * 4, none⟩) hg0 _⟩
  · rw [List.map_set, hp, ← hfl]
    rw [List.take_succ_eq_append_getElem hk, List.map_append, List.set_append_right _ _ (by simp; omega)]
    have : k - ((l.take k).map fillN).length = 0 := by simp; omega
    rw [this, List.drop_eq_getElem_cons hk, List.set_cons_zero, List.append_assoc]
    rfl
  · rw [ndCells_op p k _ _ 2 hpk, List.length_set, hpl]
    exact own_put hrow (by rw [ndCells_length]; omega)
  · intro q hq
    have hin : ∀ q ∈ p, OwnI (wr.setCell ⟨g, k * 4, none⟩ (.int .i64 2)) w.heap.size q.2 q.1.kids := fun q hq => own_set' (hc.kids q hq) (fun e => by
      rcases ownBlock_ne (hc.kids q hq) hc.row (by decide) with h | h
      · rw [h] at e; cases e
      · exact h (by rw [e]; rfl))
    rcases List.mem_or_eq_of_mem_set hq with hq | rfl
    · exact hin q hq
    · exact hin (l[k], _) (List.mem_of_getElem? hpk)


/-- What the document's Check answers. -/
def pkC (l : List Nd) : Int := if patB l = true then 0 else 1
set_option maxRecDepth 20000 in
set_option maxHeartbeats 4000000 in
theorem rchk14_any {w : World} {ao : Option Addr} {cap : Nat} {l : List Nd} (hN : Rd w ao cap l) (hF : Fit l) :
    Calls Tryd.prog 32 #[.slice ao l.length cap] w fun e w' => e = .returned (.int .i64 (pkC l)) ∧ Below w.heap.size w w' := by
  obtain ⟨hb1, hb2⟩ := hN.bound
  unfold maxLen at hb2
  have HN : Hid (Rd w ao cap l) := hN
  have HF : Hid (Fit l) := hF
  obtain ⟨R, hR⟩ : ∃ R, pkC l = R := ⟨_, rfl⟩
  have HR : Hid (R = if (decide (l.length ≤ 16) && decide ((hlsL l).length ≤ 6) && sndB (l.map fillN)) = true then 0 else 1) := by show R = _; rw [← hR]; rfl
  rw [hR]
  have cH := refHolesO_any hN hF.len
  clear hN hF hR
  by_cases h16 : l.length ≤ 16
  · have g16 : ¬ (16 : Int) < (l.length : Int) := by omega
    go_enter Tryd.func32, Tryd.ntmps32
    go_wp2_with fail
    refine cH.mono ?_
    rintro e w1 ⟨ha, hc, rfl, hM1⟩
    have B1 : Hid (Below w.heap.size w w1) := hM1.below
    clear hM1 cH
    generalize hnh : (hlsL l).length = nh at *
    by_cases h6 : nh ≤ 6
    · have g6 : ¬ (6 : Int) < (nh : Int) := by omega
      have HR1 : Hid (R = if sndB (l.map fillN) = true then 0 else 1) := by show R = _; rw [HR.out, decide_eq_true h16, decide_eq_true h6]; simp
      clear HR h16 h6 hnh
      have cC := copy_any _ l w1 _ (Nat.le_refl _) (HN.out.below B1.out B1.out.size) HF.out.len HF.out.kids
      go_wp2_with fail
      refine cC.mono ?_
      rintro e w2 ⟨v, rfl, ⟨p, hp, hO⟩, hb2'⟩
      have B2 : Hid (Below w.heap.size w w2) := B1.out.trans (hb2'.mono B1.out.size)
      have hOl : OwnP w2 w.heap.size v p := ⟨ownsRow_mono hO.row B1.out.size, fun q hq => ownsRow_mono (hO.kids q hq) B1.out.size⟩
      have HM0 : Hid (PcMid w l v 0 w2) := ⟨⟨p, by simpa using hp, hOl⟩, B2.out⟩
      obtain ⟨va, vc, hv⟩ := row_form' hO.row
      have hpl : p.length = l.length := by rw [← hp]; simp
      rw [hpl] at hv
      subst hv
      have hvc : l.length ≤ vc ∧ vc ≤ maxLen := by
        rcases hO.row.2 with ⟨e, h0⟩ | ⟨g, c, cur, e, _, _, hn, hm, _⟩
        · simp only [Value.slice.injEq] at e; exact ⟨by omega, by rw [e.2.2]; exact Nat.zero_le _⟩
        · simp only [Value.slice.injEq] at e; exact ⟨by omega, by rw [e.2.2]; exact hm⟩
      obtain ⟨hv1, hv2⟩ := hvc
      unfold maxLen at hv2
      clear cC hb2' hp hO hOl hpl
      go_wp2_with fail
      go_loopw [4] (fun q wr => ∃ k : Nat, k ≤ l.length ∧ q = .int .i64 k ∧ PcMid w l (.slice va l.length vc) k wr) (fun q _ => l.length - (RowKit.intOf q).toNat)
      case atStart => exact ⟨0, by omega, rfl, HM0.out⟩
      case round =>
        obtain ⟨k, hk, rfl, hM⟩ := hrel
        by_cases hlt : k < l.length
        · obtain ⟨g, cp, e, hg0, hgl, hg1, hg2, hcl, hfz⟩ := hM.at_ hlt
          cases e
          by_cases hop : (l.getD k nd0).op = 18
          · have HFI : Hid (PcMid w l (.slice (some ⟨g, 0, none⟩) l.length vc) (k + 1) (wr.setCell ⟨g, k * 4, none⟩ (.int .i64 2))) := hM.fill hlt hop
            rw [hop] at hcl
            clear hM hop
            go_wp2_with fail
            exact ⟨⟨k + 1, by omega, by go_num, HFI.out⟩, by simp [RowKit.intOf]; omega⟩
          · have HFI : Hid (PcMid w l (.slice (some ⟨g, 0, none⟩) l.length vc) (k + 1) wr) := hM.skip hlt hop
            have g18 : ((l.getD k nd0).op == 18) = false := by rw [beq_eq_false_iff_ne]; exact hop
            generalize (l.getD k nd0).op = oo at *
            clear hM hop
            go_wp2_with fail
            exact ⟨⟨k + 1, by omega, by go_num, HFI.out⟩, by simp [RowKit.intOf]; omega⟩
        · have hke : k = l.length := by omega
          subst hke
          obtain ⟨⟨p, hp, hO⟩, hbw⟩ := hM
          rw [List.take_length, List.drop_length, List.append_nil] at hp
          have hNd := Nodes_of_ownP hO (Nat.le_refl _)
          rw [hp] at hNd
          have cK := refCheck_any (.slice va l.length vc) (l.map fillN) wr wr.heap.size (Nat.le_refl _) hNd (fun x hx => by
            obtain ⟨y, hy, rfl⟩ := List.mem_map.1 hx
            rw [fillN_name]; exact HF.out.name y hy)
          have HBW : Hid (Below w.heap.size w wr) := hbw
          unfold chkE at cK
          clear hp hO hNd hbw
          generalize sndB (l.map fillN) = sb at *
          cases sb
          · rw [if_neg (by decide)] at cK
            have HR2 : Hid (R = 1) := by show R = _; rw [HR1.out]; rfl
            clear HR1
            go_wp2_with (go_at_call 10; refine cK.mono ?_; rintro e w6 ⟨rfl, hb6⟩)
            go_ret
            exact ⟨by rw [HR2.out] <;> rfl, HBW.out.trans (hb6.mono HBW.out.size)⟩
          · rw [if_pos rfl] at cK
            have HR2 : Hid (R = 0) := by show R = _; rw [HR1.out]; rfl
            clear HR1
            go_wp2_with (go_at_call 10; refine cK.mono ?_; rintro e w6 ⟨rfl, hb6⟩)
            go_ret
            exact ⟨by rw [HR2.out] <;> rfl, HBW.out.trans (hb6.mono HBW.out.size)⟩
    · have g6 : (6 : Int) < (nh : Int) := by omega
      have HR2 : Hid (R = 1) := by show R = _; rw [HR.out, decide_eq_true h16, decide_eq_false h6]; rfl
      clear HR h16 h6 hnh
      go_wp2_with fail
      go_ret
      exact ⟨by rw [HR2.out] <;> rfl, B1.out⟩
  · have HR2 : Hid (R = 1) := by show R = _; rw [HR.out, decide_eq_false h16]; rfl
    have g16 : (16 : Int) < (l.length : Int) := by omega
    clear HR h16 cH
    go_enter Tryd.func32, Tryd.ntmps32
    go_wp2_with fail
    go_ret
    exact ⟨by rw [HR2.out] <;> rfl, Below.refl _ _⟩
end Go.Proofs.YtjkcbigmebbkkaaDoor

set_option linter.unusedSimpArgs false
set_option linter.unusedVariables false
namespace Go.Proofs.YtjkcbigmebbkkaaDoor
open Go.RowKit Go.Lib Go.Maps

def hole15 : Nd := ⟨18, 0, ⟨#[97]⟩, []⟩
theorem hole15_pat : patB [hole15] = true := by decide +kernel
theorem hole15_rd {w : World} : Rd (w.alloc (.cells #[.int .i64 18, .int .i64 0, .string ⟨#[97]⟩, .slice none 0 0] 71)) (some ⟨w.heap.size, 0, none⟩) 1 [hole15] := by
  have hblk : (w.alloc (.cells #[.int .i64 18, .int .i64 0, .string ⟨#[97]⟩, .slice none 0 0] 71)).heap[w.heap.size]? = some (.cells #[.int .i64 18, .int .i64 0, .string ⟨#[97]⟩, .slice none 0 0] 71 (0, 0)) := (MapKept.heap_alloc w _).1
  refine ⟨some ⟨w.heap.size, 0, none⟩, 1, rfl, by simp, by unfold maxLen; omega, .inr ⟨w.heap.size, 0, rfl, lt_of_block hblk, fun j hj => ⟨.slice none 0 0, ?_⟩⟩⟩
  have : j = 0 := by simp at hj; omega
  subst this
  refine ⟨?_, ?_, ?_, ?_, ⟨none, 0, rfl, by simp [hole15], by simp, .inl rfl⟩⟩ <;> rw [cell_of_heap hblk] <;> rfl
set_option maxRecDepth 20000 in
set_option maxHeartbeats 1000000 in
theorem awake15_any {w : World} (hT : SpanCells w) :
    Calls Tryd.prog 30 #[] w fun e w' => e = .returned (.bool true) ∧ Below w.heap.size w w' := by
  have hb : Below w.heap.size w (w.alloc (.cells #[.int .i64 18, .int .i64 0, .string ⟨#[97]⟩, .slice none 0 0] 71)) := (Below.refl _ _).alloc (Nat.le_refl _) _
  have c := compile_ok (l := [hole15]) (hT.below hb) hole15_rd (fun x hx => by simp at hx; subst hx; decide) hole15_pat
  have hsz : (w.alloc (.cells #[.int .i64 18, .int .i64 0, .string ⟨#[97]⟩, .slice none 0 0] 71)).heap.size = w.heap.size + 1 := by simp
  obtain ⟨w1, hw1⟩ : ∃ w1, w.alloc (.cells #[.int .i64 18, .int .i64 0, .string ⟨#[97]⟩, .slice none 0 0] 71) = w1 := ⟨_, rfl⟩
  rw [hw1] at hb c hsz
  have HB : Hid (_) := hb
  clear hb hT
  go_enter Tryd.func30, Tryd.ntmps30
  go_wp2_with (rw [hw1])
  refine c.mono ?_
  rintro e w2 ⟨pa, pc, rfl, _, hb2⟩
  have HB2 : Hid (Below w.heap.size w w2) := HB.out.trans (hb2.mono HB.out.size)
  clear c hb2
  go_wp2_with fail
  go_ret
  exact ⟨rfl, HB2.out⟩
end Go.Proofs.YtjkcbigmebbkkaaDoor

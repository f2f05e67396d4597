/-
  RsdW, ShW, ShPlW, PwW.
-/
import Derived.Test.YtdcfffcimikfeaaDoorChecked
import GoSem.PinnedTables
import GoSem.Claim
import GoSem.ClaimJoined
import GoSem.ClaimMapViews
import Derived.JoinedTies
import Derived.KernelRfl
import Derived.Shelf.Unicode.DecodeSlow
import Derived.Laws.RangeAny
import Derived.Shelf.Strings.Builder1
import Derived.Shelf.Small.Utf8
import Derived.Shelf.Small.Bits
import Derived.Shelf.Strings.BuilderF
import Derived.Shelf.Strings.BuilderK
import Derived.Shelf.Strings.BuilderRune
import Derived.Shelf.Utf8.AppendRune
import Derived.Shelf.Strconv.Itoa0
import Derived.Shelf.Strconv.Itoa1
import Derived.Shelf.LaysM
import Derived.Shelf.Strconv.Itoa2
import Derived.Shelf.Strconv.Itoa3
import Derived.Shelf.Strconv.Itoa4
import Derived.Shelf.Strings.Prefix
import Derived.Shelf.Unicode.DecodeAny
import Derived.Shelf.Slices.CompactS
import Derived.Ground.SlsfProg
import Derived.Shelf.SlSortCmp.Insertion
import Derived.Shelf.SlSortCmp.SiftDown1
import Derived.Shelf.SlSortCmp.HeapSort1
import Derived.Shelf.SlSortCmp.Insertion1
import Derived.Shelf.SlSortCmp.Median1
import Derived.Shelf.SlSortCmp.Pivot1
import Derived.Shelf.SlSortCmp.ReverseRange1
import Derived.Shelf.SlSortCmp.PartialInsertion1
import Derived.Shelf.SlSortCmp.PartitionEqual1
import Derived.Shelf.SlSortCmp.Partition1
import Derived.Shelf.SlSortCmp.Pdq1
import Derived.Shelf.SlSortCmp.Whole1
import Derived.Test.YtdcfffcimikfeaaDoorProg
import Derived.WalkKit
import Derived.Deep.DeepFit
import Derived.Lib.OthersKept
import Derived.Lib.RuneCountTail
import Derived.Lib.LaidU8
import Derived.MakeChecks
import Derived.ProofKit
import Derived.OpenShut
import Derived.Deep.DeepHandedRow
import Derived.Deep.AppendLies
import Derived.Deep.OwnRows
import Derived.Laws.AppendOwnNone
import Derived.Deep.QuietTactic
import Derived.BigQuiet
import Derived.Deep.RegionWith
import Derived.Laws.DeepStrings4
import Derived.Deep.Slices
import Derived.SizedLaws
import Derived.Lib.Small
import Derived.Lib.Strings
import Derived.Lib.MapLaws
import Derived.Deep.RegionHeld3
import Derived.Laws.ResultCell
import Derived.Lib.QuietBelow
import Derived.Deep.Heap
import Derived.Laws.Rows
import Derived.StillTail
import Derived.Deep.RegionLaw
import Derived.Laws.OwnMore
import Derived.Sort.Walk0
import Derived.Lib.ItoaNum
import Derived.Maps.OwnSet
import Derived.StringKeys
import Derived.BigCall
import Derived.Lib.LaidTab
import Derived.Laws.IdiomStrings
import Derived.Test.YtdcfffcimikfeaaDoorRows
import Derived.Test.YtdcfffcimikfeaaDoorZ01
import Derived.Test.YtdcfffcimikfeaaDoorZ02
import Derived.Test.YtdcfffcimikfeaaDoorZ03
import Derived.Test.YtdcfffcimikfeaaDoorZ04
import Derived.Test.YtdcfffcimikfeaaDoorZ05
import Derived.Test.YtdcfffcimikfeaaDoorZ06
import Derived.Test.YtdcfffcimikfeaaDoorZ07
import Derived.Test.YtdcfffcimikfeaaDoorZ08
import Derived.Test.YtdcfffcimikfeaaDoorZ09
import Derived.Test.YtdcfffcimikfeaaDoorZ10
import Derived.Test.YtdcfffcimikfeaaDoorZ11
import Derived.Test.YtdcfffcimikfeaaDoorZ12
import Derived.Test.YtdcfffcimikfeaaDoorZ13
import Derived.Test.YtdcfffcimikfeaaDoorZ14
import Derived.Test.YtdcfffcimikfeaaDoorZ15
import Derived.Test.YtdcfffcimikfeaaDoorZ16
import Derived.Test.YtdcfffcimikfeaaDoorZ17
import Derived.Test.YtdcfffcimikfeaaDoorZ18
import Derived.Test.YtdcfffcimikfeaaDoorZ19
import Derived.Test.YtdcfffcimikfeaaDoorZ20
import Derived.Test.YtdcfffcimikfeaaDoorZ21
import Derived.Test.YtdcfffcimikfeaaDoorZ22
import Derived.Test.YtdcfffcimikfeaaDoorZ23
import Derived.Test.YtdcfffcimikfeaaDoorZ24
import Derived.Test.YtdcfffcimikfeaaDoorZ25
import Derived.Test.YtdcfffcimikfeaaDoorZ26
import Derived.Test.YtdcfffcimikfeaaDoorZ27
import Derived.Test.YtdcfffcimikfeaaDoorZ28
import Derived.Test.YtdcfffcimikfeaaDoorZ29
import Derived.Test.YtdcfffcimikfeaaDoorZ30
set_option linter.unusedSimpArgs false
set_option linter.unusedVariables false

namespace Go.Proofs.YtdcfffcimikfeaaDoor
open Go.RowKit Go.Lib

/-- Between two nodes of the copy. -/
structure RdMid (w : World) (l : List Nd) (v : Value) (k : Nat) (wr : World) : Prop where
  p : ∃ p, p.map (·.1) = (l.take k).map fillN ++ l.drop k ∧ OwnP wr w.heap.size v p
  below : Below w.heap.size w wr
theorem RdMid.at_ {w : World} {l : List Nd} {v : Value} {k : Nat} {wr : World} (h : RdMid w l v k wr) (hk : k < l.length) : ∃ g cap, v = .slice (some ⟨g, 0, none⟩) l.length cap ∧ w.heap.size ≤ g ∧ g < wr.heap.size ∧ l.length ≤ cap ∧ cap ≤ maxLen ∧ wr.cell? ⟨g, k * 4, none⟩ = some (.int .i64 (l.getD k nd0).op) ∧ wr.frozen? ⟨g, k * 4, none⟩ = false := by
  obtain ⟨⟨p, hp, hc⟩, hb⟩ := h
  have hpl : p.length = l.length := by have := congrArg List.length hp; simp at this; omega
  rcases hc.row.2 with ⟨rfl, h0⟩ | ⟨g, cap, cur, rfl, hg0, hg, h1, h2, h3, h4⟩
  · omega
  · refine ⟨g, cap, by rw [hpl], hg0, lt_of_block hg, by omega, h2, ?_, frozen_of_heap hg _⟩
    have hp2 : p[k]? = some (p[k].1, p[k].2) := by simp [hpl, hk]
    have := (ndCells_at p k _ _ hp2).1
    have hx : ((l.take k).map fillN ++ l.drop k)[k]? = some l[k] := by
      rw [List.getElem?_append_right (by simp; omega)]
      have : k - ((l.take k).map fillN).length = 0 := by simp; omega
      rw [this]; simp [hk]
    have hkp : k < p.length := by omega
    have e : p[k].1 = l.getD k nd0 := by
      have h5 : (p.map (·.1))[k]? = some l[k] := by rw [hp]; exact hx
      simp [hkp] at h5
      simp [hk, h5]
    rw [cell_of_heap hg, ← Array.getElem?_toList, ← e, ← this, ← h4, List.getElem?_take, if_pos (by omega)]
theorem RdMid.skip {w : World} {l : List Nd} {v : Value} {k : Nat} {wr : World} (h : RdMid w l v k wr) (hk : k < l.length) (hop : (l.getD k nd0).op ≠ 18) : RdMid w l v (k + 1) wr := by
  obtain ⟨⟨p, hp, hc⟩, hb⟩ := h
  exact ⟨⟨p, by rw [fill_step hk hop]; exact hp, hc⟩, hb⟩
theorem RdMid.fill {w : World} {l : List Nd} {g cap k : Nat} {wr : World} (h : RdMid w l (.slice (some ⟨g, 0, none⟩) l.length cap) k wr) (hk : k < l.length) (hop : (l.getD k nd0).op = 18) : RdMid w l (.slice (some ⟨g, 0, none⟩) l.length cap) (k + 1) (wr.setCell ⟨g, k * 4, none⟩ (.int .i64 2)) := by
  obtain ⟨g', cap', e1, hg0, _⟩ := h.at_ hk
  cases e1
  obtain ⟨⟨p, hp, hc⟩, hb⟩ := h
  have hpl : p.length = l.length := by have := congrArg List.length hp; simp at this; omega
  have e : l.getD k nd0 = l[k] := by simp [hk]
  have hx : ((l.take k).map fillN ++ l.drop k)[k]? = some l[k] := by
    rw [List.getElem?_append_right (by simp; omega)]
    have : k - ((l.take k).map fillN).length = 0 := by simp; omega
    rw [this]; simp [hk]
  have hpk : p[k]? = some (l[k], (p.getD k (nd0, .slice none 0 0)).2) := by
    have hkp : k < p.length := by omega
    have : (p.map (·.1))[k]? = some l[k] := by rw [hp]; exact hx
    simp [hkp] at this
    simp [hkp, ← this]
  have hfl : fillN l[k] = { l[k] with op := 2 } := by rw [e] at hop; simp [fillN, hop]
  have hrow : wr.ownsRow w.heap.size 62 4 (.slice (some ⟨g, 0, none⟩) l.length cap) l.length (ndCells p) := by have := hc.row; rwa [hpl] at this
  refine ⟨⟨p.set k ({ l[k] with op := 2 }, (p.getD k (nd0, .slice none 0 0)).2), ?_, ?_, ?_⟩, hb.setCell (p := ⟨g, k * 4, none⟩) hg0 _⟩
  · rw [List.map_set, hp, ← hfl]
    rw [List.take_succ_eq_append_getElem hk, List.map_append, List.set_append_right _ _ (by simp; omega)]
    have : k - ((l.take k).map fillN).length = 0 := by simp; omega
    rw [this, List.drop_eq_getElem_cons hk, List.set_cons_zero, List.append_assoc]
    rfl
  · rw [ndCells_op p k _ _ 2 hpk, List.length_set, hpl]
    exact own_put hrow (by rw [ndCells_length]; omega)
  · intro q hq
    have hin : ∀ q ∈ p, OwnI (wr.setCell ⟨g, k * 4, none⟩ (.int .i64 2)) w.heap.size q.2 q.1.kids := fun q hq => row_set (hc.kids q hq) (fun j hj e => by
      subst e
      rcases ownBlock_ne (hc.kids q hq) hc.row (by decide) with h | h
      · rw [h] at hj; cases hj
      · exact h hj) _ _
    rcases List.mem_or_eq_of_mem_set hq with hq | rfl
    · exact hin q hq
    · exact hin (l[k], _) (List.mem_of_getElem? hpk)

set_option maxRecDepth 20000 in
set_option maxHeartbeats 4000000 in
theorem refSound_any {w : World} {ao : Option Addr} {cap : Nat} {l : List Nd} (hN : Rd w ao cap l) (hF : Fit l) :
    Calls Tryd.prog 51 #[.slice ao l.length cap] w fun e w' => e = .returned (.bool (okSh l)) ∧ Below w.heap.size w w' := by
  obtain ⟨hb1, hb2⟩ := hN.bound
  unfold maxLen at hb2
  have cC := copy_any _ l w _ (Nat.le_refl _) hN hF.len hF.kids
  have HN : Hid (Rd w ao cap l) := hN
  have HF : Hid (Fit l) := hF
  obtain ⟨R, hR⟩ : ∃ R, okSh l = R := ⟨_, rfl⟩
  have HR : Hid (R = (sndB (l.map fillN) && (decide ((hlsL l).length = 0) || (decide ((hlsL l).length ≤ 6) && decide (l.length ≤ 16))))) := by show R = _; rw [← hR]; exact ok_ref l
  rw [hR]
  have hhl := hlsL_len l
  clear hN hF hR
  go_enter Tryd.func51, Tryd.ntmps51
  go_wp2_with (go_at_call 11; refine cC.mono ?_; rintro e w1 ⟨v, rfl, ⟨p, hp, hO⟩, hb1'⟩)
  have cH := refHoles_any (HN.out.below hb1' hb1'.size) HF.out.len
  have B1 : Hid (Below w.heap.size w w1) := hb1'
  clear cC hb1'
  go_wp2_with (go_at_call 27; refine cH.mono ?_; rintro e w2 ⟨ha, hc, rfl, hb2'⟩)
  have HM0 : Hid (RdMid w l v 0 w2) := ⟨⟨p, by simpa using hp, hO.below hb2'⟩, B1.out.trans (hb2'.mono B1.out.size)⟩
  obtain ⟨va, vc, hv⟩ := row_form' hO.row
  have hpl : p.length = l.length := by rw [← hp]; simp
  rw [hpl] at hv
  subst hv
  have hvc : l.length ≤ vc ∧ vc ≤ maxLen := by
    rcases hO.row.2 with ⟨e, h0⟩ | ⟨g, c, cur, e, _, _, hn, hm, _⟩
    · simp only [Value.slice.injEq] at e; exact ⟨by omega, by rw [e.2.2]; exact Nat.zero_le _⟩
    · simp only [Value.slice.injEq] at e; exact ⟨by omega, by rw [e.2.2]; exact hm⟩
  obtain ⟨hv1, hv2⟩ := hvc
  unfold maxLen at hv2
  clear cH hb2' hp hO hpl
  go_loopw [5] (fun q wr => ∃ k : Nat, k ≤ l.length ∧ q = .int .i64 k ∧ RdMid w l (.slice va l.length vc) k wr) (fun q _ => l.length - (RowKit.intOf q).toNat)
  case atStart => exact ⟨0, by omega, rfl, HM0.out⟩
  case round =>
    obtain ⟨k, hk, rfl, hM⟩ := hrel
    by_cases hlt : k < l.length
    · obtain ⟨g, cp, e, hg0, hgl, hg1, hg2, hcl, hfz⟩ := hM.at_ hlt
      cases e
      by_cases hop : (l.getD k nd0).op = 18
      · have HFI : Hid (RdMid w l (.slice (some ⟨g, 0, none⟩) l.length vc) (k + 1) (wr.setCell ⟨g, k * 4, none⟩ (.int .i64 2))) := hM.fill hlt hop
        rw [hop] at hcl
        clear hM hop
        go_wp2_with fail
        exact ⟨⟨k + 1, by omega, by go_num, HFI.out⟩, by simp [RowKit.intOf]; omega⟩
      · have HFI : Hid (RdMid w l (.slice (some ⟨g, 0, none⟩) l.length vc) (k + 1) wr) := hM.skip hlt hop
        have g18 : ((l.getD k nd0).op == 18) = false := by rw [beq_eq_false_iff_ne]; exact hop
        generalize (l.getD k nd0).op = oo at *
        clear hM hop
        go_wp2_with fail
        exact ⟨⟨k + 1, by omega, by go_num, HFI.out⟩, by simp [RowKit.intOf]; omega⟩
    · have hke : k = l.length := by omega
      subst hke
      obtain ⟨⟨p, hp, hO⟩, hbw⟩ := hM
      rw [List.take_length, List.drop_length, List.append_nil] at hp
      have hNd := Nodes_of_ownP hO (Nat.le_refl _)
      rw [hp] at hNd
      have cK := refCheck_any (.slice va l.length vc) (l.map fillN) wr wr.heap.size (Nat.le_refl _) hNd (fun x hx => by
        obtain ⟨y, hy, rfl⟩ := List.mem_map.1 hx
        rw [fillN_name]; exact HF.out.name y hy)
      have HBW : Hid (Below w.heap.size w wr) := hbw
      unfold chkE at cK
      clear hp hO hNd hbw
      generalize (hlsL l).length = nh at *
      generalize sndB (l.map fillN) = sb at *
      cases sb
      · rw [if_neg (by decide)] at cK
        have HR2 : Hid (R = false) := by show R = _; rw [HR.out]; rfl
        clear HR
        go_wp2_with (go_at_call 12; refine cK.mono ?_; rintro e w6 ⟨rfl, hb6⟩)
        go_ret
        exact ⟨by rw [HR2.out] <;> rfl, HBW.out.trans (hb6.mono HBW.out.size)⟩
      · rw [if_pos rfl] at cK
        by_cases h0 : nh = 0
        · have HR2 : Hid (R = true) := by show R = _; rw [HR.out]; simp [h0]
          have g0 : ((nh : Int) == 0) = true := by rw [beq_iff_eq]; omega
          clear HR h0
          go_wp2_with (go_at_call 12; refine cK.mono ?_; rintro e w6 ⟨rfl, hb6⟩)
          go_ret
          exact ⟨by rw [HR2.out] <;> rfl, HBW.out.trans (hb6.mono HBW.out.size)⟩
        · have g0 : ((nh : Int) == 0) = false := by rw [beq_eq_false_iff_ne]; omega
          by_cases h6 : nh ≤ 6
          · have g6 : (nh : Int) ≤ 6 := by omega
            by_cases h16 : l.length ≤ 16
            · have g16 : (l.length : Int) ≤ 16 := by omega
              have HR2 : Hid (R = true) := by show R = _; rw [HR.out]; simp [h0, h6, h16]
              clear HR h0 h6 h16
              go_wp2_with (go_at_call 12; refine cK.mono ?_; rintro e w6 ⟨rfl, hb6⟩)
              go_ret
              exact ⟨by rw [HR2.out] <;> rfl, HBW.out.trans (hb6.mono HBW.out.size)⟩
            · have g16 : ¬ (l.length : Int) ≤ 16 := by omega
              have HR2 : Hid (R = decide ((l.length : Int) ≤ 16)) := by show R = _; rw [HR.out, decide_eq_false g16]; simp [h0, h6, h16]
              clear HR h0 h6 h16
              go_wp2_with (go_at_call 12; refine cK.mono ?_; rintro e w6 ⟨rfl, hb6⟩)
              go_ret
              exact ⟨by rw [HR2.out] <;> rfl, HBW.out.trans (hb6.mono HBW.out.size)⟩
          · have g6 : ¬ (nh : Int) ≤ 6 := by omega
            have HR2 : Hid (R = false) := by show R = _; rw [HR.out]; simp [h0, h6]
            clear HR h0 h6
            go_wp2_with (go_at_call 12; refine cK.mono ?_; rintro e w6 ⟨rfl, hb6⟩)
            go_ret
            exact ⟨by rw [HR2.out] <;> rfl, HBW.out.trans (hb6.mono HBW.out.size)⟩
end Go.Proofs.YtdcfffcimikfeaaDoor

set_option linter.unusedSimpArgs false
set_option linter.unusedVariables false
namespace Go.Proofs.YtdcfffcimikfeaaDoor
open Go.RowKit Go.Lib

/-- Within the reach of Show and Lisp. -/
structure Fit5 (l : List Nd) : Prop where
  name : ∀ x ∈ l, x.name.size ≤ maxLen
  num : ∀ x ∈ l, num64 x.n

def shS (J : JT) (l : List Nd) : ByteArray := if okSh l = true then shF J l else ⟨#[]⟩
def shE (l : List Nd) : Int := if okSh l = true then 0 else 1

end Go.Proofs.YtdcfffcimikfeaaDoor

set_option linter.unusedSimpArgs false
set_option linter.unusedVariables false
namespace Go.Proofs.YtdcfffcimikfeaaDoor
open Go.RowKit Go.Lib

set_option maxRecDepth 20000 in
set_option maxHeartbeats 1000000 in
theorem refShow_any {w : World} {ao : Option Addr} {cap : Nat} {l : List Nd} (hN : Rd w ao cap l) (hF : Fit l) (hnum : ∀ x ∈ l, num64 x.n) :
    Calls Tryd.prog 24 #[.slice ao l.length cap] w fun e w' => e = .returned (.tuple #[.string (shS betT l), .int .i64 (shE l)]) ∧ Below w.heap.size w w' := by
  have cS := refSound_any hN hF
  obtain ⟨hb1, hb2⟩ := hN.bound
  unfold maxLen at hb2
  cases hok : okSh l with
  | false =>
    rw [hok] at cS
    have HS : Hid (shS betT l = ⟨#[]⟩) := by show _ = _; unfold shS; rw [hok]; rfl
    have HE : Hid (shE l = 1) := by show _ = _; unfold shE; rw [hok]; rfl
    rw [HS.out, HE.out]
    clear hok hN hF hnum HS HE
    go_enter Tryd.func24, Tryd.ntmps24
    go_wp2_with (go_at_call 51; refine cS.mono ?_; rintro e w1 ⟨rfl, hq1⟩)
    go_ret2
    exact ⟨rfl, hq1⟩
  | true =>
    rw [hok] at cS
    obtain ⟨fr, hbeg⟩ : ∃ fr, begL (l.map fillN) = some fr := by
      unfold okSh at hok
      simp only [Bool.and_eq_true] at hok
      have := hok.2
      unfold sndB at this
      exact Option.isSome_iff_exists.1 this
    have hl0 : 0 < l.length := by have := (begL_some hbeg).1; simp at this; omega
    have HS : Hid (shS betT l = tx betT l (l.length - 1)) := by show _ = _; unfold shS; rw [hok, if_pos rfl, shF_tx]
    have HE : Hid (shE l = 0) := by show _ = _; unfold shE; rw [hok]; rfl
    rw [HS.out, HE.out]
    have cR : Hid (∀ W, Rd W ao cap l → Calls Tryd.prog 52 #[.slice ao l.length cap, .int .i64 ((l.length : Int) - 1)] W fun e w' => e = .returned (.string (tx betT l (l.length - 1))) ∧ Below W.heap.size W w') := fun W hW => by
      have := refShow_at hbeg hnum ao cap (l.length - 1) (by omega) W hW
      have e : ((l.length - 1 : Nat) : Int) = (l.length : Int) - 1 := by omega
      rw [e] at this; exact this
    generalize tx betT l (l.length - 1) = R at *
    have HN : Hid (Rd w ao cap l) := hN
    clear hok hN hF hnum HS HE hbeg
    go_enter Tryd.func24, Tryd.ntmps24
    go_wp2_with (first | (go_at_call 51; refine cS.mono ?_; rintro e w1 ⟨rfl, hq1⟩) | (go_at_call 52; refine (cR.out _ (HN.out.below hq1 hq1.size)).mono ?_; rintro e w2 ⟨rfl, hq2⟩))
    go_ret2
    exact ⟨rfl, hq1.trans (hq2.mono hq1.size)⟩

end Go.Proofs.YtdcfffcimikfeaaDoor

namespace Go.Proofs.YtdcfffcimikfeaaDoor
open Go.RowKit Go.Lib

end Go.Proofs.YtdcfffcimikfeaaDoor

set_option linter.unusedSimpArgs false
set_option linter.unusedVariables false
namespace Go.Proofs.YtdcfffcimikfeaaDoor
open Go.RowKit Go.Lib

structure SldW (p : Prop) : Prop where
  out : p
theorem FitX.fit5W {l : List Nd} (h : FitX l) : Fit5 l := ⟨h.name, fun x hx => bounds_i64 (h.num x hx)⟩
/-- Parse, by what it comes to. -/
theorem parse_ok {W : World} {s : ByteArray} {l : List Nd} (hz : s.size ≤ maxLen) (hT : Tabs W) (h : psRead s false 64 = .ok l) :
    Calls Tryd.prog 25 #[.string s] W fun e w' => ∃ ao cap, e = .returned (.tuple #[.slice ao l.length cap, .int .i64 0, .int .i64 0]) ∧ Rd w' ao cap l ∧ Below W.heap.size W w' := by
  have := parse_any W s hz hT
  rw [h] at this
  exact this.mono fun e w' ⟨⟨ao, cap, h1, h2⟩, h3⟩ => ⟨ao, cap, h1, h2, h3⟩
theorem parse_bad {W : World} {s : ByteArray} {p : Nat} {er : Int} (hz : s.size ≤ maxLen) (hT : Tabs W) (h : psRead s false 64 = .bad p er) :
    Calls Tryd.prog 25 #[.string s] W fun e w' => e = .returned (.tuple #[.slice none 0 0, .int .i64 (p : Int), .int .i64 er]) ∧ Below W.heap.size W w' := by
  have := parse_any W s hz hT
  rw [h] at this
  exact this.mono fun e w' ⟨h1, h2⟩ => ⟨h1, h2⟩
theorem pattern_ok {W : World} {s : ByteArray} {l : List Nd} (hz : s.size ≤ maxLen) (hT : Tabs W) (h : psRead s true 16 = .ok l) :
    Calls Tryd.prog 26 #[.string s] W fun e w' => ∃ ao cap, e = .returned (.tuple #[.slice ao l.length cap, .int .i64 0, .int .i64 0]) ∧ Rd w' ao cap l ∧ Below W.heap.size W w' := by
  have := pattern_any W s hz hT
  rw [h] at this
  exact this.mono fun e w' ⟨⟨ao, cap, h1, h2⟩, h3⟩ => ⟨ao, cap, h1, h2, h3⟩
theorem pattern_bad {W : World} {s : ByteArray} {p : Nat} {er : Int} (hz : s.size ≤ maxLen) (hT : Tabs W) (h : psRead s true 16 = .bad p er) :
    Calls Tryd.prog 26 #[.string s] W fun e w' => e = .returned (.tuple #[.slice none 0 0, .int .i64 (p : Int), .int .i64 er]) ∧ Below W.heap.size W w' := by
  have := pattern_any W s hz hT
  rw [h] at this
  exact this.mono fun e w' ⟨h1, h2⟩ => ⟨h1, h2⟩
theorem show_sz {l : List Nd} (hok : okSh l = true) (hn : ∀ x ∈ l, num64 x.n) : (shF betT l).size ≤ 6500 ∧ l.length ≤ 64 ∧ ((hlsL l).length ≠ 0 → l.length ≤ 16) := by
  have hok' := hok
  unfold okSh at hok'
  simp only [Bool.and_eq_true] at hok'
  obtain ⟨⟨_, h2⟩, h3⟩ := hok'
  obtain ⟨fr, hbg⟩ : ∃ fr, begL (l.map fillN) = some fr := by
    unfold sndB at h3
    exact Option.isSome_iff_exists.1 h3
  refine ⟨?_, by have := (snd_bounds hbg).1; simpa using this, fun h => ?_⟩
  · rw [shF_tx]; exact tx_size bet_ok hbg hn _
  · simp only [Bool.or_eq_true, decide_eq_true_eq] at h2
    rcases h2 with h2 | h2
    · exact absurd h2 h
    · exact h2


set_option maxRecDepth 20000 in
set_option maxHeartbeats 8000000 in
theorem parseWrites_walk (w : World) (ao : Option Addr) (cap : Nat) (l : List Nd) (hT : Tabs w) (hR : Rd w ao cap l) (hF : FitX l) :
    Calls Tryd.prog 4 #[.slice ao l.length cap] w fun e w' => e = .returned (.bool true) ∧ Below w.heap.size w w' := by
  have hnum : ∀ x ∈ l, num64 x.n := hF.fit5W.num
  have HR : SldW (∀ W, Below w.heap.size w W → Rd W ao cap l) := ⟨fun W hW => hR.below hW hW.size⟩
  have HT : SldW (∀ W, Below w.heap.size w W → Tabs W) := ⟨fun W hW => hT.below hW⟩
  have CA : SldW (Calls Tryd.prog 23 #[] w fun e w' => e = .returned (.bool true) ∧ Below w.heap.size w w') := ⟨pawake_any w hT⟩
  obtain ⟨X, hX⟩ : ∃ X, shS betT l = X := ⟨_, rfl⟩
  obtain ⟨E, hE⟩ : ∃ E, shE l = E := ⟨_, rfl⟩
  have CS : SldW (∀ W, Below w.heap.size w W → Calls Tryd.prog 24 #[.slice ao l.length cap] W fun e w' => e = .returned (.tuple #[.string X, .int .i64 E]) ∧ Below W.heap.size W w') := ⟨fun W hW => by
    have := refShow_any (HR.out W hW) hF.fit hnum
    rw [hX, hE] at this
    exact this⟩
  have CH : SldW (∀ W, Below w.heap.size w W → Calls Tryd.prog 27 #[.slice ao l.length cap] W fun e w' => ∃ va vc, e = .returned (.slice va (hlsL l).length vc) ∧ Below W.heap.size W w') := ⟨fun W hW => refHoles_any (HR.out W hW) hF.fit.len⟩
  have CM : SldW (∀ W xo xc, Rd W xo xc l → Below w.heap.size w W → Calls Tryd.prog 15 #[.slice xo l.length xc, .slice ao l.length cap] W fun e w' => e = .returned (.bool true) ∧ Below W.heap.size W w') := ⟨fun W xo xc h hW => sameR h (HR.out W hW) true (by simp)⟩
  obtain ⟨hb1, hb2⟩ := hR.bound
  unfold maxLen at hb2
  by_cases hok : okSh l = true
  · have hE0 : E = 0 := by rw [← hE]; unfold shE; rw [if_pos hok]
    have hXF : X = shF betT l := by rw [← hX]; unfold shS; rw [if_pos hok]
    obtain ⟨hsz, hl64, hl16⟩ := show_sz hok hnum
    rw [← hXF] at hsz
    subst hE0
    by_cases h4 : X.size ≤ 4096
    · have h4' : (shF betT l).size ≤ 4096 := by rw [← hXF]; exact h4
      have h4i : ¬ (4096 < (X.size : Int)) := by omega
      have hzm : X.size ≤ maxLen := by unfold maxLen; omega
      by_cases hh : (hlsL l).length = 0
      · have hno := (hls_zero l).1 hh
        have e1 := read_back hok hnum false (.inr hno) 64 h4'
        rw [if_neg (by omega), ← hXF] at e1
        have CP : SldW (∀ W, Below w.heap.size w W → Calls Tryd.prog 25 #[.string X] W fun e w' => ∃ ao cap, e = .returned (.tuple #[.slice ao l.length cap, .int .i64 0, .int .i64 0]) ∧ Rd w' ao cap l ∧ Below W.heap.size W w') := ⟨fun W hW => parse_ok hzm (HT.out W hW) e1⟩
        have e2 := read_back hok hnum true (.inl rfl) 16 h4'
        rw [← hXF] at e2
        rw [hh] at CH
        by_cases hlg : 16 < l.length
        · rw [if_pos hlg] at e2
          have CQ : SldW (∀ W, Below w.heap.size w W → Calls Tryd.prog 26 #[.string X] W fun e w' => e = .returned (.tuple #[.slice none 0 0, .int .i64 (X.size : Int), .int .i64 10]) ∧ Below W.heap.size W w') := ⟨fun W hW => pattern_bad hzm (HT.out W hW) e2⟩
          have hlgi : (16 : Int) < (l.length : Int) := by omega
          clear hT hR hF hX hE hnum hok hXF e1 e2 h4 h4'
          go_enter Tryd.func4, Tryd.ntmps4
          go_wp2_with fail
          refine CA.out.mono ?_
          rintro e w1 ⟨rfl, hq1⟩
          have HB1 : SldW (Below w.heap.size w w1) := ⟨hq1⟩
          clear hq1
          go_wp2_with fail
          refine (CS.out w1 HB1.out).mono ?_
          rintro e w2 ⟨rfl, hq2⟩
          have HB2 : SldW (Below w.heap.size w w2) := ⟨HB1.out.trans (hq2.mono HB1.out.size)⟩
          clear hq2
          go_wp2_with fail
          refine (CP.out w2 HB2.out).mono ?_
          rintro e w3 ⟨xo, xc, rfl, hX3, hq3⟩
          have HX3 : SldW (∀ W, Below w3.heap.size w3 W → Rd W xo xc l) := ⟨fun W hW => hX3.below hW hW.size⟩
          have HB3 : SldW (Below w.heap.size w w3) := ⟨HB2.out.trans (hq3.mono HB2.out.size)⟩
          clear hq3 hX3
          go_wp2_with fail
          refine (CQ.out w3 HB3.out).mono ?_
          rintro e w4 ⟨rfl, hq4⟩
          have HQ4 : SldW (Below w3.heap.size w3 w4) := ⟨hq4⟩
          have HB4 : SldW (Below w.heap.size w w4) := ⟨HB3.out.trans (hq4.mono HB3.out.size)⟩
          clear hq4
          go_wp2_with fail
          refine (CH.out w4 HB4.out).mono ?_
          rintro e w5 ⟨va, vc, rfl, hq5⟩
          have HQ5 : SldW (Below w4.heap.size w4 w5) := ⟨hq5⟩
          have HB5 : SldW (Below w.heap.size w w5) := ⟨HB4.out.trans (hq5.mono HB4.out.size)⟩
          clear hq5
          have D1 : SldW _ := ⟨CM.out w5 xo xc (HX3.out w5 (HQ4.out.trans (HQ5.out.mono HQ4.out.size))) HB5.out⟩
          go_wp2_with fail
          refine D1.out.mono ?_
          rintro e w6 ⟨rfl, hq6⟩
          have HQ6 : SldW (Below w5.heap.size w5 w6) := ⟨hq6⟩
          have HB6 : SldW (Below w.heap.size w w6) := ⟨HB5.out.trans (hq6.mono HB5.out.size)⟩
          clear hq6
          go_wp2_with fail
          go_ret
          exact ⟨rfl, HB6.out⟩
        · rw [if_neg hlg] at e2
          have CQ : SldW (∀ W, Below w.heap.size w W → Calls Tryd.prog 26 #[.string X] W fun e w' => ∃ ao cap, e = .returned (.tuple #[.slice ao l.length cap, .int .i64 0, .int .i64 0]) ∧ Rd w' ao cap l ∧ Below W.heap.size W w') := ⟨fun W hW => pattern_ok hzm (HT.out W hW) e2⟩
          have hlgi : ¬ (16 : Int) < (l.length : Int) := by omega
          clear hT hR hF hX hE hnum hok hXF e1 e2 h4 h4'
          go_enter Tryd.func4, Tryd.ntmps4
          go_wp2_with fail
          refine CA.out.mono ?_
          rintro e w1 ⟨rfl, hq1⟩
          have HB1 : SldW (Below w.heap.size w w1) := ⟨hq1⟩
          clear hq1
          go_wp2_with fail
          refine (CS.out w1 HB1.out).mono ?_
          rintro e w2 ⟨rfl, hq2⟩
          have HB2 : SldW (Below w.heap.size w w2) := ⟨HB1.out.trans (hq2.mono HB1.out.size)⟩
          clear hq2
          go_wp2_with fail
          refine (CP.out w2 HB2.out).mono ?_
          rintro e w3 ⟨xo, xc, rfl, hX3, hq3⟩
          have HX3 : SldW (∀ W, Below w3.heap.size w3 W → Rd W xo xc l) := ⟨fun W hW => hX3.below hW hW.size⟩
          have HB3 : SldW (Below w.heap.size w w3) := ⟨HB2.out.trans (hq3.mono HB2.out.size)⟩
          clear hq3 hX3
          go_wp2_with fail
          refine (CQ.out w3 HB3.out).mono ?_
          rintro e w4 ⟨yo, yc, rfl, hY4, hq4⟩
          have HY4 : SldW (∀ W, Below w4.heap.size w4 W → Rd W yo yc l) := ⟨fun W hW => hY4.below hW hW.size⟩
          have HQ4 : SldW (Below w3.heap.size w3 w4) := ⟨hq4⟩
          have HB4 : SldW (Below w.heap.size w w4) := ⟨HB3.out.trans (hq4.mono HB3.out.size)⟩
          clear hq4 hY4
          go_wp2_with fail
          refine (CH.out w4 HB4.out).mono ?_
          rintro e w5 ⟨va, vc, rfl, hq5⟩
          have HQ5 : SldW (Below w4.heap.size w4 w5) := ⟨hq5⟩
          have HB5 : SldW (Below w.heap.size w w5) := ⟨HB4.out.trans (hq5.mono HB4.out.size)⟩
          clear hq5
          have D1 : SldW _ := ⟨CM.out w5 xo xc (HX3.out w5 (HQ4.out.trans (HQ5.out.mono HQ4.out.size))) HB5.out⟩
          go_wp2_with fail
          refine D1.out.mono ?_
          rintro e w6 ⟨rfl, hq6⟩
          have HQ6 : SldW (Below w5.heap.size w5 w6) := ⟨hq6⟩
          have HB6 : SldW (Below w.heap.size w w6) := ⟨HB5.out.trans (hq6.mono HB5.out.size)⟩
          clear hq6
          have D2 : SldW _ := ⟨CM.out w6 yo yc (HY4.out w6 (HQ5.out.trans (HQ6.out.mono HQ5.out.size))) HB6.out⟩
          go_wp2_with fail
          refine D2.out.mono ?_
          rintro e w7 ⟨rfl, hq7⟩
          have HB7 : SldW (Below w.heap.size w w7) := ⟨HB6.out.trans (hq7.mono HB6.out.size)⟩
          clear hq7
          go_wp2_with fail
          go_ret
          exact ⟨rfl, HB7.out⟩
      · obtain ⟨p, er, e1⟩ : ∃ p er, psRead (shF betT l) false 64 = .bad p er := by
          refine read_hole hok hnum ?_ 16 (hl16 hh) h4'
          exact Decidable.byContradiction fun hx => hh ((hls_zero l).2 fun x hxm h18 => hx ⟨x, hxm, h18⟩)
        rw [← hXF] at e1
        have her : er ≠ 0 := fun e => by subst e; exact nz_read _ _ _ _ e1
        have herb : (er == 0) = false := by simpa using her
        have hern : (er != 0) = true := by simpa using her
        have CP : SldW (∀ W, Below w.heap.size w W → Calls Tryd.prog 25 #[.string X] W fun e w' => e = .returned (.tuple #[.slice none 0 0, .int .i64 (p : Int), .int .i64 er]) ∧ Below W.heap.size W w') := ⟨fun W hW => parse_bad hzm (HT.out W hW) e1⟩
        have e2 := read_back hok hnum true (.inl rfl) 16 h4'
        rw [← hXF, if_neg (by have := hl16 hh; omega)] at e2
        have CQ : SldW (∀ W, Below w.heap.size w W → Calls Tryd.prog 26 #[.string X] W fun e w' => ∃ ao cap, e = .returned (.tuple #[.slice ao l.length cap, .int .i64 0, .int .i64 0]) ∧ Rd w' ao cap l ∧ Below W.heap.size W w') := ⟨fun W hW => pattern_ok hzm (HT.out W hW) e2⟩
        have hlgi : ¬ (16 : Int) < (l.length : Int) := by have := hl16 hh; omega
        obtain ⟨HL, hHL⟩ : ∃ n, (hlsL l).length = n := ⟨_, rfl⟩
        have hHL0 : 0 < HL := by omega
        have hHLd : decide (0 < HL) = true := by simp; omega
        rw [hHL] at CH
        clear hT hR hF hX hE hnum hok hXF e1 e2 h4 h4'
        go_enter Tryd.func4, Tryd.ntmps4
        go_wp2_with fail
        refine CA.out.mono ?_
        rintro e w1 ⟨rfl, hq1⟩
        have HB1 : SldW (Below w.heap.size w w1) := ⟨hq1⟩
        clear hq1
        go_wp2_with fail
        refine (CS.out w1 HB1.out).mono ?_
        rintro e w2 ⟨rfl, hq2⟩
        have HB2 : SldW (Below w.heap.size w w2) := ⟨HB1.out.trans (hq2.mono HB1.out.size)⟩
        clear hq2
        go_wp2_with fail
        refine (CP.out w2 HB2.out).mono ?_
        rintro e w3 ⟨rfl, hq3⟩
        have HB3 : SldW (Below w.heap.size w w3) := ⟨HB2.out.trans (hq3.mono HB2.out.size)⟩
        clear hq3
        go_wp2_with fail
        refine (CQ.out w3 HB3.out).mono ?_
        rintro e w4 ⟨yo, yc, rfl, hY4, hq4⟩
        have HY4 : SldW (∀ W, Below w4.heap.size w4 W → Rd W yo yc l) := ⟨fun W hW => hY4.below hW hW.size⟩
        have HQ4 : SldW (Below w3.heap.size w3 w4) := ⟨hq4⟩
        have HB4 : SldW (Below w.heap.size w w4) := ⟨HB3.out.trans (hq4.mono HB3.out.size)⟩
        clear hq4 hY4
        go_wp2_with fail
        refine (CH.out w4 HB4.out).mono ?_
        rintro e w5 ⟨va, vc, rfl, hq5⟩
        have HQ5 : SldW (Below w4.heap.size w4 w5) := ⟨hq5⟩
        have HB5 : SldW (Below w.heap.size w w5) := ⟨HB4.out.trans (hq5.mono HB4.out.size)⟩
        clear hq5
        have D2 : SldW _ := ⟨CM.out w5 yo yc (HY4.out w5 HQ5.out) HB5.out⟩
        go_wp2_with fail
        refine D2.out.mono ?_
        rintro e w7 ⟨rfl, hq7⟩
        have HB7 : SldW (Below w.heap.size w w7) := ⟨HB5.out.trans (hq7.mono HB5.out.size)⟩
        clear hq7
        go_wp2_with fail
        go_ret
        exact ⟨rfl, HB7.out⟩
    · have h4i : (4096 : Int) < (X.size : Int) := by omega
      clear hT hR hF hX hE hnum hok hXF
      go_enter Tryd.func4, Tryd.ntmps4
      go_wp2_with fail
      refine CA.out.mono ?_
      rintro e w1 ⟨rfl, hq1⟩
      have HB1 : SldW (Below w.heap.size w w1) := ⟨hq1⟩
      clear hq1
      go_wp2_with fail
      refine (CS.out w1 HB1.out).mono ?_
      rintro e w2 ⟨rfl, hq2⟩
      have HB2 : SldW (Below w.heap.size w w2) := ⟨HB1.out.trans (hq2.mono HB1.out.size)⟩
      clear hq2
      go_wp2_with fail
      go_ret
      exact ⟨rfl, HB2.out⟩
  · have hE1 : E = 1 := by rw [← hE]; unfold shE; rw [if_neg hok]
    subst hE1
    clear hT hR hF hX hE hnum hok
    go_enter Tryd.func4, Tryd.ntmps4
    go_wp2_with fail
    refine CA.out.mono ?_
    rintro e w1 ⟨rfl, hq1⟩
    have HB1 : SldW (Below w.heap.size w w1) := ⟨hq1⟩
    clear hq1
    go_wp2_with fail
    refine (CS.out w1 HB1.out).mono ?_
    rintro e w2 ⟨rfl, hq2⟩
    have HB2 : SldW (Below w.heap.size w w2) := ⟨HB1.out.trans (hq2.mono HB1.out.size)⟩
    clear hq2
    go_wp2_with fail
    go_ret
    exact ⟨rfl, HB2.out⟩


end Go.Proofs.YtdcfffcimikfeaaDoor

/-
  RsdW, PwW, SbW, ShowbackK.
-/
import Derived.Test.YtdcfffcimikfeaaDoorChecked
import GoSem.PinnedTables
import GoSem.Claim
import GoSem.ClaimJoined
import GoSem.ClaimMapViews
import Derived.JoinedTies
import Derived.KernelRfl
import GoSem.ClaimSeven
import Derived.LaidByTextLater
import Derived.SevenTiedAt
import Derived.LaidSub
import Derived.LaidOnce
import Derived.Shelf.Unicode.DecodeSlow
import Derived.Laws.RangeAny
import Derived.Shelf.Strings.Builder1
import Derived.Shelf.Small.Utf8
import Derived.Shelf.Small.Bits
import Derived.Shelf.Strings.BuilderF
import Derived.Shelf.Strings.BuilderK
import Derived.Shelf.Strings.BuilderRune
import Derived.Shelf.Utf8.AppendRune
import Derived.Shelf.Strconv.Itoa0
import Derived.Shelf.Strconv.Itoa1
import Derived.Shelf.LaysM
import Derived.Shelf.Strconv.Itoa2
import Derived.Shelf.Strconv.Itoa3
import Derived.Shelf.Strconv.Itoa4
import Derived.Shelf.Strings.Prefix
import Derived.Shelf.Unicode.DecodeAny
import Derived.Shelf.Slices.CompactS
import Derived.Ground.SlsfProg
import Derived.Shelf.SlSortCmp.Insertion
import Derived.Shelf.SlSortCmp.SiftDown1
import Derived.Shelf.SlSortCmp.HeapSort1
import Derived.Shelf.SlSortCmp.Insertion1
import Derived.Shelf.SlSortCmp.Median1
import Derived.Shelf.SlSortCmp.Pivot1
import Derived.Shelf.SlSortCmp.ReverseRange1
import Derived.Shelf.SlSortCmp.PartialInsertion1
import Derived.Shelf.SlSortCmp.PartitionEqual1
import Derived.Shelf.SlSortCmp.Partition1
import Derived.Shelf.SlSortCmp.Pdq1
import Derived.Shelf.SlSortCmp.Whole1
import Derived.Test.YtdcfffcimikfeaaDoorProg
import Derived.WalkKit
import Derived.Deep.DeepFit
import Derived.Lib.OthersKept
import Derived.Lib.RuneCountTail
import Derived.Lib.LaidU8
import Derived.MakeChecks
import Derived.ProofKit
import Derived.OpenShut
import Derived.Deep.DeepHandedRow
import Derived.Lib.MapLaws
import Derived.Sort.Walk0
import Derived.Laws.DeepStrings4
import Derived.Lib.ItoaNum
import Derived.Deep.AppendLies
import Derived.Deep.OwnRows
import Derived.Laws.AppendOwnNone
import Derived.Deep.QuietTactic
import Derived.BigQuiet
import Derived.Deep.RegionWith
import Derived.BigCall
import Derived.Lib.LaidTab
import Derived.Maps.OwnSet
import Derived.StringKeys
import Derived.Deep.Slices
import Derived.Lib.QuietBelow
import Derived.StillTail
import Derived.Laws.OwnMore
import Derived.SizedLaws
import Derived.Lib.Small
import Derived.Lib.Strings
import Derived.Deep.RegionHeld3
import Derived.Laws.ResultCell
import Derived.Deep.Heap
import Derived.Laws.Rows
import Derived.Deep.RegionLaw
import Derived.Laws.IdiomStrings
import Derived.WideKeyArgs
import Derived.Test.YtdcfffcimikfeaaDoorRows
import Derived.Test.YtdcfffcimikfeaaDoorCards
import Derived.Test.YtdcfffcimikfeaaDoorTie
import Derived.Test.YtdcfffcimikfeaaDoorY01
import Derived.Test.YtdcfffcimikfeaaDoorY02
import Derived.Test.YtdcfffcimikfeaaDoorY03
import Derived.Test.YtdcfffcimikfeaaDoorY04
import Derived.Test.YtdcfffcimikfeaaDoorY05
import Derived.Test.YtdcfffcimikfeaaDoorY06
import Derived.Test.YtdcfffcimikfeaaDoorY07
import Derived.Test.YtdcfffcimikfeaaDoorY08
import Derived.Test.YtdcfffcimikfeaaDoorY09
import Derived.Test.YtdcfffcimikfeaaDoorY10
import Derived.Test.YtdcfffcimikfeaaDoorY11
import Derived.Test.YtdcfffcimikfeaaDoorY12
import Derived.Test.YtdcfffcimikfeaaDoorY13
import Derived.Test.YtdcfffcimikfeaaDoorY14
import Derived.Test.YtdcfffcimikfeaaDoorY15
import Derived.Test.YtdcfffcimikfeaaDoorY16
import Derived.Test.YtdcfffcimikfeaaDoorY17
import Derived.Test.YtdcfffcimikfeaaDoorY18
import Derived.Test.YtdcfffcimikfeaaDoorY19
import Derived.Test.YtdcfffcimikfeaaDoorY20
import Derived.Test.YtdcfffcimikfeaaDoorY21
import Derived.Test.YtdcfffcimikfeaaDoorY22
import Derived.Test.YtdcfffcimikfeaaDoorY23
import Derived.Test.YtdcfffcimikfeaaDoorY24
import Derived.Test.YtdcfffcimikfeaaDoorY25
import Derived.Test.YtdcfffcimikfeaaDoorY26
import Derived.Test.YtdcfffcimikfeaaDoorY27
import Derived.Test.YtdcfffcimikfeaaDoorY28
import Derived.Test.YtdcfffcimikfeaaDoorY29
import Derived.Test.YtdcfffcimikfeaaDoorY30
import Derived.Test.YtdcfffcimikfeaaDoorY31
import Derived.Test.YtdcfffcimikfeaaDoorY32
import Derived.Test.YtdcfffcimikfeaaDoorY33
import Derived.Test.YtdcfffcimikfeaaDoorY34
set_option linter.unusedSimpArgs false
set_option linter.unusedVariables false

namespace Go.Proofs.YtdcfffcimikfeaaDoor
open Go.RowKit Go.Lib

/-- Between two nodes of the copy. -/
structure RdMid (w : World) (l : List Nd) (v : Value) (k : Nat) (wr : World) : Prop where
  p : ∃ p, p.map (·.1) = (l.take k).map fillN ++ l.drop k ∧ OwnP wr w.heap.size v p
  below : Below w.heap.size w wr
theorem RdMid.at_ {w : World} {l : List Nd} {v : Value} {k : Nat} {wr : World} (h : RdMid w l v k wr) (hk : k < l.length) : ∃ g cap, v = .slice (some ⟨g, 0, none⟩) l.length cap ∧ w.heap.size ≤ g ∧ g < wr.heap.size ∧ l.length ≤ cap ∧ cap ≤ maxLen ∧ wr.cell? ⟨g, k * 4, none⟩ = some (.int .i64 (l.getD k nd0).op) ∧ wr.frozen? ⟨g, k * 4, none⟩ = false := by
  obtain ⟨⟨p, hp, hc⟩, hb⟩ := h
  have hpl : p.length = l.length := by have := congrArg List.length hp; simp at this; omega
  rcases hc.row.2 with ⟨rfl, h0⟩ | ⟨g, cap, cur, rfl, hg0, hg, h1, h2, h3, h4⟩
  · omega
  · refine ⟨g, cap, by rw [hpl], hg0, lt_of_block hg, by omega, h2, ?_, frozen_of_heap hg _⟩
    have hp2 : p[k]? = some (p[k].1, p[k].2) := by simp [hpl, hk]
    have := (ndCells_at p k _ _ hp2).1
    have hx : ((l.take k).map fillN ++ l.drop k)[k]? = some l[k] := by
      rw [List.getElem?_append_right (by simp; omega)]
      have : k - ((l.take k).map fillN).length = 0 := by simp; omega
      rw [this]; simp [hk]
    have hkp : k < p.length := by omega
    have e : p[k].1 = l.getD k nd0 := by
      have h5 : (p.map (·.1))[k]? = some l[k] := by rw [hp]; exact hx
      simp [hkp] at h5
      simp [hk, h5]
    rw [cell_of_heap hg, ← Array.getElem?_toList, ← e, ← this, ← h4, List.getElem?_take, if_pos (by omega)]
theorem RdMid.skip {w : World} {l : List Nd} {v : Value} {k : Nat} {wr : World} (h : RdMid w l v k wr) (hk : k < l.length) (hop : (l.getD k nd0).op ≠ 18) : RdMid w l v (k + 1) wr := by
  obtain ⟨⟨p, hp, hc⟩, hb⟩ := h
  exact ⟨⟨p, by rw [fill_step hk hop]; exact hp, hc⟩, hb⟩
theorem RdMid.fill {w : World} {l : List Nd} {g cap k : Nat} {wr : World} (h : RdMid w l (.slice (some ⟨g, 0, none⟩) l.length cap) k wr) (hk : k < l.length) (hop : (l.getD k nd0).op = 18) : RdMid w l (.slice (some ⟨g, 0, none⟩) l.length cap) (k + 1) (wr.setCell ⟨g, k * 4, none⟩ (.int .i64 2)) := by
  obtain ⟨g', cap', e1, hg0, _⟩ := h.at_ hk
  cases e1
  obtain ⟨⟨p, hp, hc⟩, hb⟩ := h
  have hpl : p.length = l.length := by have := congrArg List.length hp; simp at this; omega
  have e : l.getD k nd0 = l[k] := by simp [hk]
  have hx : ((l.take k).map fillN ++ l.drop k)[k]? = some l[k] := by
    rw [List.getElem?_append_right (by simp; omega)]
    have : k - ((l.take k).map fillN).length = 0 := by simp; omega
    rw [this]; simp [hk]
  have hpk : p[k]? = some (l[k], (p.getD k (nd0, .slice none 0 0)).2) := by
    have hkp : k < p.length := by omega
    have : (p.map (·.1))[k]? = some l[k] := by rw [hp]; exact hx
    simp [hkp] at this
    simp [hkp, ← this]
  have hfl : fillN l[k] = { l[k] with op := 2 } := by rw [e] at hop; simp [fillN, hop]
  have hrow : wr.ownsRow w.heap.size 62 4 (.slice (some ⟨g, 0, none⟩) l.length cap) l.length (ndCells p) := by have := hc.row; rwa [hpl] at this
  refine ⟨⟨p.set k ({ l[k] with op := 2 }, (p.getD k (nd0, .slice none 0 0)).2), ?_, ?_, ?_⟩, hb.setCell (p := ⟨g, k * 4, none⟩) hg0 _⟩
  · rw [List.map_set, hp, ← hfl]
    rw [List.take_succ_eq_append_getElem hk, List.map_append, List.set_append_right _ _ (by simp; omega)]
    have : k - ((l.take k).map fillN).length = 0 := by simp; omega
    rw [this, List.drop_eq_getElem_cons hk, List.set_cons_zero, List.append_assoc]
    rfl
  · rw [ndCells_op p k _ _ 2 hpk, List.length_set, hpl]
    exact own_put hrow (by rw [ndCells_length]; omega)
  · intro q hq
    have hin : ∀ q ∈ p, OwnI (wr.setCell ⟨g, k * 4, none⟩ (.int .i64 2)) w.heap.size q.2 q.1.kids := fun q hq => row_set (hc.kids q hq) (fun j hj e => by
      subst e
      rcases ownBlock_ne (hc.kids q hq) hc.row (by decide) with h | h
      · rw [h] at hj; cases hj
      · exact h hj) _ _
    rcases List.mem_or_eq_of_mem_set hq with hq | rfl
    · exact hin q hq
    · exact hin (l[k], _) (List.mem_of_getElem? hpk)

set_option maxRecDepth 20000 in
set_option maxHeartbeats 4000000 in
theorem refSound_any {w : World} {ao : Option Addr} {cap : Nat} {l : List Nd} (hN : Rd w ao cap l) (hF : Fit l) :
    Calls Tryd.prog 51 #[.slice ao l.length cap] w fun e w' => e = .returned (.bool (okSh l)) ∧ Below w.heap.size w w' := by
  obtain ⟨hb1, hb2⟩ := hN.bound
  unfold maxLen at hb2
  have cC := copy_any _ l w _ (Nat.le_refl _) hN hF.len hF.kids
  have HN : Hid (Rd w ao cap l) := hN
  have HF : Hid (Fit l) := hF
  obtain ⟨R, hR⟩ : ∃ R, okSh l = R := ⟨_, rfl⟩
  have HR : Hid (R = (sndB (l.map fillN) && (decide ((hlsL l).length = 0) || (decide ((hlsL l).length ≤ 6) && decide (l.length ≤ 16))))) := by show R = _; rw [← hR]; exact ok_ref l
  rw [hR]
  have hhl := hlsL_len l
  clear hN hF hR
  go_enter Tryd.func51, Tryd.ntmps51
  go_wp2_with (go_at_call 11; refine cC.mono ?_; rintro e w1 ⟨v, rfl, ⟨p, hp, hO⟩, hb1'⟩)
  have cH := refHoles_any (HN.out.below hb1' hb1'.size) HF.out.len
  have B1 : Hid (Below w.heap.size w w1) := hb1'
  clear cC hb1'
  go_wp2_with (go_at_call 27; refine cH.mono ?_; rintro e w2 ⟨ha, hc, rfl, hb2'⟩)
  have HM0 : Hid (RdMid w l v 0 w2) := ⟨⟨p, by simpa using hp, hO.below hb2'⟩, B1.out.trans (hb2'.mono B1.out.size)⟩
  obtain ⟨va, vc, hv⟩ := row_form' hO.row
  have hpl : p.length = l.length := by rw [← hp]; simp
  rw [hpl] at hv
  subst hv
  have hvc : l.length ≤ vc ∧ vc ≤ maxLen := by
    rcases hO.row.2 with ⟨e, h0⟩ | ⟨g, c, cur, e, _, _, hn, hm, _⟩
    · simp only [Value.slice.injEq] at e; exact ⟨by omega, by rw [e.2.2]; exact Nat.zero_le _⟩
    · simp only [Value.slice.injEq] at e; exact ⟨by omega, by rw [e.2.2]; exact hm⟩
  obtain ⟨hv1, hv2⟩ := hvc
  unfold maxLen at hv2
  clear cH hb2' hp hO hpl
  go_loopw [5] (fun q wr => ∃ k : Nat, k ≤ l.length ∧ q = .int .i64 k ∧ RdMid w l (.slice va l.length vc) k wr) (fun q _ => l.length - (RowKit.intOf q).toNat)
  case atStart => exact ⟨0, by omega, rfl, HM0.out⟩
  case round =>
    obtain ⟨k, hk, rfl, hM⟩ := hrel
    by_cases hlt : k < l.length
    · obtain ⟨g, cp, e, hg0, hgl, hg1, hg2, hcl, hfz⟩ := hM.at_ hlt
      cases e
      by_cases hop : (l.getD k nd0).op = 18
      · have HFI : Hid (RdMid w l (.slice (some ⟨g, 0, none⟩) l.length vc) (k + 1) (wr.setCell ⟨g, k * 4, none⟩ (.int .i64 2))) := hM.fill hlt hop
        rw [hop] at hcl
        clear hM hop
        go_wp2_with fail
        exact ⟨⟨k + 1, by omega, by go_num, HFI.out⟩, by simp [RowKit.intOf]; omega⟩
      · have HFI : Hid (RdMid w l (.slice (some ⟨g, 0, none⟩) l.length vc) (k + 1) wr) := hM.skip hlt hop
        have g18 : ((l.getD k nd0).op == 18) = false := by rw [beq_eq_false_iff_ne]; exact hop
        generalize (l.getD k nd0).op = oo at *
        clear hM hop
        go_wp2_with fail
        exact ⟨⟨k + 1, by omega, by go_num, HFI.out⟩, by simp [RowKit.intOf]; omega⟩
    · have hke : k = l.length := by omega
      subst hke
      obtain ⟨⟨p, hp, hO⟩, hbw⟩ := hM
      rw [List.take_length, List.drop_length, List.append_nil] at hp
      have hNd := Nodes_of_ownP hO (Nat.le_refl _)
      rw [hp] at hNd
      have cK := refCheck_any (.slice va l.length vc) (l.map fillN) wr wr.heap.size (Nat.le_refl _) hNd (fun x hx => by
        obtain ⟨y, hy, rfl⟩ := List.mem_map.1 hx
        rw [fillN_name]; exact HF.out.name y hy)
      have HBW : Hid (Below w.heap.size w wr) := hbw
      unfold chkE at cK
      clear hp hO hNd hbw
      generalize (hlsL l).length = nh at *
      generalize sndB (l.map fillN) = sb at *
      cases sb
      · rw [if_neg (by decide)] at cK
        have HR2 : Hid (R = false) := by show R = _; rw [HR.out]; rfl
        clear HR
        go_wp2_with (go_at_call 12; refine cK.mono ?_; rintro e w6 ⟨rfl, hb6⟩)
        go_ret
        exact ⟨by rw [HR2.out] <;> rfl, HBW.out.trans (hb6.mono HBW.out.size)⟩
      · rw [if_pos rfl] at cK
        by_cases h0 : nh = 0
        · have HR2 : Hid (R = true) := by show R = _; rw [HR.out]; simp [h0]
          have g0 : ((nh : Int) == 0) = true := by rw [beq_iff_eq]; omega
          clear HR h0
          go_wp2_with (go_at_call 12; refine cK.mono ?_; rintro e w6 ⟨rfl, hb6⟩)
          go_ret
          exact ⟨by rw [HR2.out] <;> rfl, HBW.out.trans (hb6.mono HBW.out.size)⟩
        · have g0 : ((nh : Int) == 0) = false := by rw [beq_eq_false_iff_ne]; omega
          by_cases h6 : nh ≤ 6
          · have g6 : (nh : Int) ≤ 6 := by omega
            by_cases h16 : l.length ≤ 16
            · have g16 : (l.length : Int) ≤ 16 := by omega
              have HR2 : Hid (R = true) := by show R = _; rw [HR.out]; simp [h0, h6, h16]
              clear HR h0 h6 h16
              go_wp2_with (go_at_call 12; refine cK.mono ?_; rintro e w6 ⟨rfl, hb6⟩)
              go_ret
              exact ⟨by rw [HR2.out] <;> rfl, HBW.out.trans (hb6.mono HBW.out.size)⟩
            · have g16 : ¬ (l.length : Int) ≤ 16 := by omega
              have HR2 : Hid (R = decide ((l.length : Int) ≤ 16)) := by show R = _; rw [HR.out, decide_eq_false g16]; simp [h0, h6, h16]
              clear HR h0 h6 h16
              go_wp2_with (go_at_call 12; refine cK.mono ?_; rintro e w6 ⟨rfl, hb6⟩)
              go_ret
              exact ⟨by rw [HR2.out] <;> rfl, HBW.out.trans (hb6.mono HBW.out.size)⟩
          · have g6 : ¬ (nh : Int) ≤ 6 := by omega
            have HR2 : Hid (R = false) := by show R = _; rw [HR.out]; simp [h0, h6]
            clear HR h0 h6
            go_wp2_with (go_at_call 12; refine cK.mono ?_; rintro e w6 ⟨rfl, hb6⟩)
            go_ret
            exact ⟨by rw [HR2.out] <;> rfl, HBW.out.trans (hb6.mono HBW.out.size)⟩
end Go.Proofs.YtdcfffcimikfeaaDoor

set_option linter.unusedSimpArgs false
set_option linter.unusedVariables false
namespace Go.Proofs.YtdcfffcimikfeaaDoor
open Go.RowKit Go.Lib

structure SldW (p : Prop) : Prop where
  out : p
theorem FitX.fit5W {l : List Nd} (h : FitX l) : Fit5 l := ⟨h.name, fun x hx => bounds_i64 (h.num x hx)⟩
/-- Parse, by what it comes to. -/
theorem parse_ok {W : World} {s : ByteArray} {l : List Nd} (hz : s.size ≤ maxLen) (hT : Tabs W) (h : psRead s false 64 = .ok l) :
    Calls Tryd.prog 25 #[.string s] W fun e w' => ∃ ao cap, e = .returned (.tuple #[.slice ao l.length cap, .int .i64 0, .int .i64 0]) ∧ Rd w' ao cap l ∧ Below W.heap.size W w' := by
  have := parse_any W s hz hT
  rw [h] at this
  exact this.mono fun e w' ⟨⟨ao, cap, h1, h2⟩, h3⟩ => ⟨ao, cap, h1, h2, h3⟩
theorem parse_bad {W : World} {s : ByteArray} {p : Nat} {er : Int} (hz : s.size ≤ maxLen) (hT : Tabs W) (h : psRead s false 64 = .bad p er) :
    Calls Tryd.prog 25 #[.string s] W fun e w' => e = .returned (.tuple #[.slice none 0 0, .int .i64 (p : Int), .int .i64 er]) ∧ Below W.heap.size W w' := by
  have := parse_any W s hz hT
  rw [h] at this
  exact this.mono fun e w' ⟨h1, h2⟩ => ⟨h1, h2⟩
theorem pattern_ok {W : World} {s : ByteArray} {l : List Nd} (hz : s.size ≤ maxLen) (hT : Tabs W) (h : psRead s true 16 = .ok l) :
    Calls Tryd.prog 26 #[.string s] W fun e w' => ∃ ao cap, e = .returned (.tuple #[.slice ao l.length cap, .int .i64 0, .int .i64 0]) ∧ Rd w' ao cap l ∧ Below W.heap.size W w' := by
  have := pattern_any W s hz hT
  rw [h] at this
  exact this.mono fun e w' ⟨⟨ao, cap, h1, h2⟩, h3⟩ => ⟨ao, cap, h1, h2, h3⟩
theorem show_sz {l : List Nd} (hok : okSh l = true) (hn : ∀ x ∈ l, num64 x.n) : (shF betT l).size ≤ 6500 ∧ l.length ≤ 64 ∧ ((hlsL l).length ≠ 0 → l.length ≤ 16) := by
  have hok' := hok
  unfold okSh at hok'
  simp only [Bool.and_eq_true] at hok'
  obtain ⟨⟨_, h2⟩, h3⟩ := hok'
  obtain ⟨fr, hbg⟩ : ∃ fr, begL (l.map fillN) = some fr := by
    unfold sndB at h3
    exact Option.isSome_iff_exists.1 h3
  refine ⟨?_, by have := (snd_bounds hbg).1; simpa using this, fun h => ?_⟩
  · rw [shF_tx]; exact tx_size bet_ok hbg hn _
  · simp only [Bool.or_eq_true, decide_eq_true_eq] at h2
    rcases h2 with h2 | h2
    · exact absurd h2 h
    · exact h2


end Go.Proofs.YtdcfffcimikfeaaDoor

set_option linter.unusedSimpArgs false
set_option linter.unusedVariables false
namespace Go.Proofs.YtdcfffcimikfeaaDoor
open Go.RowKit Go.Lib

set_option maxHeartbeats 1000000 in
theorem ref5Sound_any {w : World} {ao : Option Addr} {cap : Nat} {l : List Nd} (hN : Rd w ao cap l) (hF : Fit l) :
    Calls Tryd.prog 34 #[.slice ao l.length cap] w fun e w' => e = .returned (.bool (okSh l)) ∧ Below w.heap.size w w' := by
  have c : SldW (Calls Tryd.prog 51 #[.slice ao l.length cap] w fun e w' => e = .returned (.bool (okSh l)) ∧ Below w.heap.size w w') := ⟨refSound_any hN hF⟩
  generalize okSh l = E at *
  clear hN hF
  go_enter Tryd.func34, Tryd.ntmps34
  go_wp2_with fail
  refine c.out.mono ?_
  rintro e w1 ⟨rfl, hb1⟩
  go_wp2_with fail
  go_ret
  exact ⟨rfl, hb1⟩

set_option maxRecDepth 20000 in
set_option maxHeartbeats 8000000 in
theorem showBack_walk (w : World) (ao : Option Addr) (cap : Nat) (l : List Nd) (hT : Tb5 w ∧ Tabs w) (hR : Rd w ao cap l) (hF : FitX l) :
    Calls Tryd.prog 7 #[.slice ao l.length cap] w fun e w' => e = .returned (.bool true) ∧ Below w.heap.size w w' := by
  have hnum : ∀ x ∈ l, num64 x.n := hF.fit5W.num
  have HR : SldW (∀ W, Below w.heap.size w W → Rd W ao cap l) := ⟨fun W hW => hR.below hW hW.size⟩
  have HT : SldW (∀ W, Below w.heap.size w W → Tabs W) := ⟨fun W hW => hT.2.below hW⟩
  have HT5 : SldW (∀ W, Below w.heap.size w W → Tb5 W) := ⟨fun W hW => hT.1.below hW⟩
  have CA : SldW (Calls Tryd.prog 32 #[] w fun e w' => e = .returned (.bool true) ∧ Below w.heap.size w w') := ⟨awake_any hT.1⟩
  obtain ⟨X, hX⟩ : ∃ X, shS betT l = X := ⟨_, rfl⟩
  obtain ⟨E, hE⟩ : ∃ E, shE l = E := ⟨_, rfl⟩
  have CC : SldW (∀ W, Below w.heap.size w W → Calls Tryd.prog 11 #[.slice ao l.length cap] W fun e w' => ∃ ao' cap', e = .returned (.slice ao' l.length cap') ∧ Rd w' ao' cap' l ∧ Below W.heap.size W w') := ⟨fun W hW => copyR (HR.out W hW) hF.fit⟩
  have CS : SldW (∀ W xo xc, Below w.heap.size w W → Rd W xo xc l → Calls Tryd.prog 33 #[.slice xo l.length xc] W fun e w' => e = .returned (.tuple #[.string X, .int .i64 E]) ∧ Below W.heap.size W w') := ⟨fun W xo xc hW h => by
    have := show_any (HT5.out W hW) h hF.fit5W
    rw [hX, hE] at this
    exact this⟩
  have CH : SldW (∀ W, Below w.heap.size w W → Calls Tryd.prog 27 #[.slice ao l.length cap] W fun e w' => ∃ va vc, e = .returned (.slice va (hlsL l).length vc) ∧ Below W.heap.size W w') := ⟨fun W hW => refHoles_any (HR.out W hW) hF.fit.len⟩
  have CM : SldW (∀ W xo xc, Rd W xo xc l → Below w.heap.size w W → Calls Tryd.prog 15 #[.slice xo l.length xc, .slice ao l.length cap] W fun e w' => e = .returned (.bool true) ∧ Below W.heap.size W w') := ⟨fun W xo xc h hW => sameR h (HR.out W hW) true (by simp)⟩
  have CO : SldW (∀ W, Below w.heap.size w W → Calls Tryd.prog 34 #[.slice ao l.length cap] W fun e w' => e = .returned (.bool (okSh l)) ∧ Below W.heap.size W w') := ⟨fun W hW => ref5Sound_any (HR.out W hW) hF.fit⟩
  obtain ⟨hb1, hb2⟩ := hR.bound
  unfold maxLen at hb2
  by_cases hok : okSh l = true
  · have hE0 : E = 0 := by rw [← hE]; unfold shE; rw [if_pos hok]
    have hXF : X = shF betT l := by rw [← hX]; unfold shS; rw [if_pos hok]
    obtain ⟨hsz, hl64, hl16⟩ := show_sz hok hnum
    rw [← hXF] at hsz
    have hzm : X.size ≤ maxLen := by unfold maxLen; omega
    subst hE0
    obtain ⟨HL, hHL⟩ : ∃ n, (hlsL l).length = n := ⟨_, rfl⟩
    by_cases h4 : X.size ≤ 4096
    · have h4' : (shF betT l).size ≤ 4096 := by rw [← hXF]; exact h4
      have h4i : ¬ (4096 < (X.size : Int)) := by omega
      by_cases hh : HL = 0
      · have hno := (hls_zero l).1 (by omega)
        have e1 := read_back hok hnum false (.inr hno) 64 h4'
        rw [if_neg (by omega), ← hXF] at e1
        have CP : SldW (∀ W, Below w.heap.size w W → Calls Tryd.prog 25 #[.string X] W fun e w' => ∃ ao cap, e = .returned (.tuple #[.slice ao l.length cap, .int .i64 0, .int .i64 0]) ∧ Rd w' ao cap l ∧ Below W.heap.size W w') := ⟨fun W hW => parse_ok hzm (HT.out W hW) e1⟩
        rw [hHL] at CH
        subst hh
        clear hT hR hF hX hE hnum hok hXF e1 h4 h4' hHL hno
        go_enter Tryd.func7, Tryd.ntmps7
        go_wp2_with fail
        refine CA.out.mono ?_
        rintro e w1 ⟨rfl, hq1⟩
        have HB1 : SldW (Below w.heap.size w w1) := ⟨hq1⟩
        clear hq1
        go_wp2_with fail
        refine (CC.out w1 HB1.out).mono ?_
        rintro e w2 ⟨co, cc, rfl, hR2, hq2⟩
        have HR2 : SldW _ := ⟨hR2⟩
        have HB2 : SldW (Below w.heap.size w w2) := ⟨HB1.out.trans (hq2.mono HB1.out.size)⟩
        clear hq2 hR2
        go_wp2_with fail
        refine (CS.out w2 co cc HB2.out HR2.out).mono ?_
        rintro e w3 ⟨rfl, hq3⟩
        have HB3 : SldW (Below w.heap.size w w3) := ⟨HB2.out.trans (hq3.mono HB2.out.size)⟩
        clear hq3
        go_wp2_with fail
        refine (CH.out w3 HB3.out).mono ?_
        rintro e w4 ⟨va, vc, rfl, hq4⟩
        have HB4 : SldW (Below w.heap.size w w4) := ⟨HB3.out.trans (hq4.mono HB3.out.size)⟩
        clear hq4
        go_wp2_with fail
        refine (CP.out w4 HB4.out).mono ?_
        rintro e w5 ⟨xo, xc, rfl, hX5, hq5⟩
        have HB5 : SldW (Below w.heap.size w w5) := ⟨HB4.out.trans (hq5.mono HB4.out.size)⟩
        have D1 : SldW _ := ⟨CM.out w5 xo xc hX5 HB5.out⟩
        clear hX5 hq5
        go_wp2_with fail
        refine D1.out.mono ?_
        rintro e w6 ⟨rfl, hq6⟩
        have HB6 : SldW (Below w.heap.size w w6) := ⟨HB5.out.trans (hq6.mono HB5.out.size)⟩
        go_wp2_with fail
        go_ret
        exact ⟨rfl, HB6.out⟩
      · have e2 := read_back hok hnum true (.inl rfl) 16 h4'
        rw [← hXF, if_neg (by have := hl16 (by omega); omega)] at e2
        have CP : SldW (∀ W, Below w.heap.size w W → Calls Tryd.prog 26 #[.string X] W fun e w' => ∃ ao cap, e = .returned (.tuple #[.slice ao l.length cap, .int .i64 0, .int .i64 0]) ∧ Rd w' ao cap l ∧ Below W.heap.size W w') := ⟨fun W hW => pattern_ok hzm (HT.out W hW) e2⟩
        have hHL0 : 0 < HL := by omega
        have hHLd : decide (0 < HL) = true := by simp; omega
        rw [hHL] at CH
        clear hT hR hF hX hE hnum hok hXF e2 h4 h4' hHL
        go_enter Tryd.func7, Tryd.ntmps7
        go_wp2_with fail
        refine CA.out.mono ?_
        rintro e w1 ⟨rfl, hq1⟩
        have HB1 : SldW (Below w.heap.size w w1) := ⟨hq1⟩
        clear hq1
        go_wp2_with fail
        refine (CC.out w1 HB1.out).mono ?_
        rintro e w2 ⟨co, cc, rfl, hR2, hq2⟩
        have HR2 : SldW _ := ⟨hR2⟩
        have HB2 : SldW (Below w.heap.size w w2) := ⟨HB1.out.trans (hq2.mono HB1.out.size)⟩
        clear hq2 hR2
        go_wp2_with fail
        refine (CS.out w2 co cc HB2.out HR2.out).mono ?_
        rintro e w3 ⟨rfl, hq3⟩
        have HB3 : SldW (Below w.heap.size w w3) := ⟨HB2.out.trans (hq3.mono HB2.out.size)⟩
        clear hq3
        go_wp2_with fail
        refine (CH.out w3 HB3.out).mono ?_
        rintro e w4 ⟨va, vc, rfl, hq4⟩
        have HB4 : SldW (Below w.heap.size w w4) := ⟨HB3.out.trans (hq4.mono HB3.out.size)⟩
        clear hq4
        go_wp2_with fail
        refine (CP.out w4 HB4.out).mono ?_
        rintro e w5 ⟨xo, xc, rfl, hX5, hq5⟩
        have HB5 : SldW (Below w.heap.size w w5) := ⟨HB4.out.trans (hq5.mono HB4.out.size)⟩
        have D1 : SldW _ := ⟨CM.out w5 xo xc hX5 HB5.out⟩
        clear hX5 hq5
        go_wp2_with fail
        refine D1.out.mono ?_
        rintro e w6 ⟨rfl, hq6⟩
        have HB6 : SldW (Below w.heap.size w w6) := ⟨HB5.out.trans (hq6.mono HB5.out.size)⟩
        go_wp2_with fail
        go_ret
        exact ⟨rfl, HB6.out⟩
    · have h4i : (4096 : Int) < (X.size : Int) := by omega
      have e3 : psRead X false 64 = .bad 0 3 := by
        rw [read_eq]; unfold rdWhole; rw [if_pos (by omega)]
      have CP : SldW (∀ W, Below w.heap.size w W → Calls Tryd.prog 25 #[.string X] W fun e w' => e = .returned (.tuple #[.slice none 0 0, .int .i64 ((0 : Nat) : Int), .int .i64 3]) ∧ Below W.heap.size W w') := ⟨fun W hW => parse_bad hzm (HT.out W hW) e3⟩
      rw [hHL] at CH
      clear hT hR hF hX hE hnum hok hXF e3 hHL h4
      go_enter Tryd.func7, Tryd.ntmps7
      go_wp2_with fail
      refine CA.out.mono ?_
      rintro e w1 ⟨rfl, hq1⟩
      have HB1 : SldW (Below w.heap.size w w1) := ⟨hq1⟩
      clear hq1
      go_wp2_with fail
      refine (CC.out w1 HB1.out).mono ?_
      rintro e w2 ⟨co, cc, rfl, hR2, hq2⟩
      have HR2 : SldW _ := ⟨hR2⟩
      have HB2 : SldW (Below w.heap.size w w2) := ⟨HB1.out.trans (hq2.mono HB1.out.size)⟩
      clear hq2 hR2
      go_wp2_with fail
      refine (CS.out w2 co cc HB2.out HR2.out).mono ?_
      rintro e w3 ⟨rfl, hq3⟩
      have HB3 : SldW (Below w.heap.size w w3) := ⟨HB2.out.trans (hq3.mono HB2.out.size)⟩
      clear hq3
      go_wp2_with fail
      refine (CH.out w3 HB3.out).mono ?_
      rintro e w4 ⟨va, vc, rfl, hq4⟩
      have HB4 : SldW (Below w.heap.size w w4) := ⟨HB3.out.trans (hq4.mono HB3.out.size)⟩
      clear hq4
      go_wp2_with fail
      refine (CP.out w4 HB4.out).mono ?_
      rintro e w5 ⟨rfl, hq5⟩
      have HB5 : SldW (Below w.heap.size w w5) := ⟨HB4.out.trans (hq5.mono HB4.out.size)⟩
      go_wp2_with fail
      go_ret
      exact ⟨rfl, HB5.out⟩
  · have hE1 : E = 1 := by rw [← hE]; unfold shE; rw [if_neg hok]
    have hX0 : X = ⟨#[]⟩ := by rw [← hX]; unfold shS; rw [if_neg hok]
    have hokf : okSh l = false := by simpa using hok
    rw [hokf] at CO
    subst hE1 hX0
    clear hT hR hF hX hE hnum hok
    go_enter Tryd.func7, Tryd.ntmps7
    go_wp2_with fail
    refine CA.out.mono ?_
    rintro e w1 ⟨rfl, hq1⟩
    have HB1 : SldW (Below w.heap.size w w1) := ⟨hq1⟩
    clear hq1
    go_wp2_with fail
    refine (CC.out w1 HB1.out).mono ?_
    rintro e w2 ⟨co, cc, rfl, hR2, hq2⟩
    have HR2 : SldW _ := ⟨hR2⟩
    have HB2 : SldW (Below w.heap.size w w2) := ⟨HB1.out.trans (hq2.mono HB1.out.size)⟩
    clear hq2 hR2
    go_wp2_with fail
    refine (CS.out w2 co cc HB2.out HR2.out).mono ?_
    rintro e w3 ⟨rfl, hq3⟩
    have HB3 : SldW (Below w.heap.size w w3) := ⟨HB2.out.trans (hq3.mono HB2.out.size)⟩
    clear hq3
    go_wp2_with fail
    refine (CO.out w3 HB3.out).mono ?_
    rintro e w4 ⟨rfl, hq4⟩
    have HB4 : SldW (Below w.heap.size w w4) := ⟨HB3.out.trans (hq4.mono HB3.out.size)⟩
    go_wp2_with fail
    go_ret
    exact ⟨rfl, HB4.out⟩

end Go.Proofs.YtdcfffcimikfeaaDoor

set_option linter.unusedVariables false
namespace Go.Proofs.YtdcfffcimikfeaaDoor.showback
open Go.ChangeShapes Go.WideShapes Go.ChangeAt Go.RowKit Go.WideMaps Go.WideElems
open Go.ChangeMaps (open_string shut_string)

set_option maxRecDepth 100000 in
set_option maxHeartbeats 1000000 in
theorem contract (H : Type) (enc : TypeId × Value → H) (W : World) (base : Nat) (args : Array Value) (ds gs : List (DataW H)) (before : List MemPlace)
    (hval : ∀ (j : Nat) t v, Tryd.f7.params[j]? = some t → args[j]? = some v → Value.okWide Tryd.prog W .any base t v)
    (hW : DataW.Whole enc Tryd.prog Tryd.f7.params.toList Rows.showBackSpec.vars false W args.toList ds gs before)
    (hsz : (DataW.weightsEach Tryd.prog (Tryd.f7.params.toList ++ (OpenSpec.ofChange Rows.showBackSpec).bare.plain.varTypes Tryd.prog) (ds ++ gs)).all (· ≤ reachBytes) = true)
    (hL : laidMetH Tryd.prog Rows.showBackRow.laid W) :
    Calls Tryd.prog 7 args W fun e W' => ∃ v, e = .returned v ∧ Rows.showBackSpec.post enc Tryd.prog Tryd.f7 false true false false W args v W' := by
  have hW' := hW
  have hlt : ∀ x ∈ before, x.block < W.heap.size := fun x hx => by simpa using hW'.lt x hx
  obtain ⟨p, q, hA0, hV, rfl, hfz, hnd⟩ := hW
  have hA : DataW.TrodAll enc Tryd.prog W 0 (fun _ => true) true Tryd.f7.params.toList args.toList ds p := hA0
  rw [Tryd.params7 ] at hA hval
  obtain ⟨v0, vs0, d0, ds0, p0, q0, hargs0, rfl, rfl, h0, r0⟩ := trodAll_cons hA
  obtain ⟨rfl, rfl, rfl⟩ := trodAll_nil r0
  obtain rfl : args = #[v0] := by cases args; simp_all
  obtain ⟨rfl, rfl⟩ := trodVars_none hV
  clear hA0
  simp only [List.append_nil] at hW' hsz
  have h0k := h0
  have ok0 : Value.okWide Tryd.prog W .any base 22 v0 := hval 0 22 v0 (by rfl) (by rfl)
  obtain ⟨a0, n0, c0, rfl⟩ := okWide_slice Tryd.underlying22 ok0
  obtain ⟨fu0, hf0⟩ := h0
  obtain ⟨ao0, cap0, l0, he0, R0, hF0⟩ := open_nodesX (v := .slice a0 n0 c0) hf0
  cases he0
  have F0 := hF0 fun n hn => of_decide_eq_true (List.all_eq_true.1 hsz n (DataW.weights_mem_each (j := 0) (t := 22) (by kernel_rfl) rfl n hn))
  refine (showBack_walk W a0 c0 l0 (tb7_of_laid hL)  R0  F0).mono fun e W' ⟨he, hg⟩ => ?_
  subst he
  exact ⟨_, rfl, post_below (pv := []) hW' (fun _ _ _ => trodAll_cons_mk (shut_bool Tryd.underlying4 _) trodAll_mk0) (fun sp hsp => trodAll_cons_mk (Trod_stays Tryd.laidOut (by kernel_rfl) (of_decide_eq_true (by kernel_rfl)) h0k (fun x hx => hg.same (hlt x (by simp [hx]))) (fun x hx => hsp x (by simp [hx]))) trodAll_mk0) (fun _ _ => rfl) (by simp) (hg.frame _)⟩

end Go.Proofs.YtdcfffcimikfeaaDoor.showback

/-
  RsdW, ShW, ExOpen, ShPlW, PwW.
-/
import Derived.Test.YtjmccobblpcbhaaDoorChecked
import GoSem.PinnedTables
import GoSem.Claim
import GoSem.ClaimJoined
import GoSem.ClaimMapViews
import Derived.JoinedTies
import Derived.KernelRfl
import Derived.Shelf.Unicode.DecodeSlow
import Derived.Laws.RangeAny
import Derived.Shelf.Strings.Builder1
import Derived.Shelf.Small.Utf8
import Derived.Shelf.Small.Bits
import Derived.Shelf.Strings.BuilderF
import Derived.Shelf.Strings.BuilderK
import Derived.Shelf.Strings.BuilderRune
import Derived.Shelf.Utf8.AppendRune
import Derived.Shelf.Strconv.Itoa0
import Derived.Shelf.Strconv.Itoa1
import Derived.Shelf.LaysM
import Derived.Shelf.Strconv.Itoa2
import Derived.Shelf.Strconv.Itoa3
import Derived.Shelf.Strconv.Itoa4
import Derived.Shelf.Strings.Prefix
import Derived.Shelf.Unicode.DecodeAny
import Derived.Test.YtjmccobblpcbhaaDoorProg
import Derived.WalkKit
import Derived.Deep.DeepFit
import Derived.Lib.OthersKept
import Derived.Lib.RuneCountTail
import Derived.Lib.LaidU8
import Derived.MakeChecks
import Derived.ProofKit
import Derived.OpenShut
import Derived.Deep.DeepHandedRow
import Derived.Lib.Small
import Derived.Lib.Strings
import Derived.Lib.MapLaws
import Derived.Deep.AppendLies
import Derived.Deep.OwnRows
import Derived.Laws.AppendOwnNone
import Derived.Deep.QuietTactic
import Derived.BigQuiet
import Derived.Deep.RegionWith
import Derived.Laws.DeepStrings4
import Derived.Deep.RegionHeld3
import Derived.Laws.ResultCell
import Derived.Lib.QuietBelow
import Derived.Deep.Heap
import Derived.Laws.Rows
import Derived.Below
import Derived.StillTail
import Derived.Deep.RegionLaw
import Derived.Laws.OwnMore
import Derived.Sort.Walk0
import Derived.Lib.ItoaNum
import Derived.Maps.OwnSet
import Derived.StringKeys
import Derived.BigCall
import Derived.Lib.LaidTab
import Derived.Deep.Slices
import Derived.Laws.IdiomStrings
import Derived.SizedLaws
import Derived.Test.YtjmccobblpcbhaaDoorRows
import Derived.Test.YtjmccobblpcbhaaDoorP01
import Derived.Test.YtjmccobblpcbhaaDoorP02
import Derived.Test.YtjmccobblpcbhaaDoorP03
import Derived.Test.YtjmccobblpcbhaaDoorP04
import Derived.Test.YtjmccobblpcbhaaDoorP05
import Derived.Test.YtjmccobblpcbhaaDoorP06
import Derived.Test.YtjmccobblpcbhaaDoorP07
import Derived.Test.YtjmccobblpcbhaaDoorP08
import Derived.Test.YtjmccobblpcbhaaDoorP09
import Derived.Test.YtjmccobblpcbhaaDoorP10
import Derived.Test.YtjmccobblpcbhaaDoorP11
import Derived.Test.YtjmccobblpcbhaaDoorP12
import Derived.Test.YtjmccobblpcbhaaDoorP13
import Derived.Test.YtjmccobblpcbhaaDoorP14
import Derived.Test.YtjmccobblpcbhaaDoorP15
import Derived.Test.YtjmccobblpcbhaaDoorP16
import Derived.Test.YtjmccobblpcbhaaDoorP17
import Derived.Test.YtjmccobblpcbhaaDoorP18
import Derived.Test.YtjmccobblpcbhaaDoorP19
import Derived.Test.YtjmccobblpcbhaaDoorP20
import Derived.Test.YtjmccobblpcbhaaDoorP21
import Derived.Test.YtjmccobblpcbhaaDoorP22
import Derived.Test.YtjmccobblpcbhaaDoorP23
import Derived.Test.YtjmccobblpcbhaaDoorP24
import Derived.Test.YtjmccobblpcbhaaDoorP25
import Derived.Test.YtjmccobblpcbhaaDoorP26
import Derived.Test.YtjmccobblpcbhaaDoorP27
import Derived.Test.YtjmccobblpcbhaaDoorP28
import Derived.Test.YtjmccobblpcbhaaDoorP29
import Derived.Test.YtjmccobblpcbhaaDoorP32
import Derived.Test.YtjmccobblpcbhaaDoorP33
import Derived.Test.YtjmccobblpcbhaaDoorP34
set_option linter.unusedSimpArgs false
set_option linter.unusedVariables false

namespace Go.Proofs.YtjmccobblpcbhaaDoor
open Go.RowKit Go.Lib

/-- Between two nodes of the copy. -/
structure RdMid (w : World) (l : List Nd) (v : Value) (k : Nat) (wr : World) : Prop where
  p : ∃ p, p.map (·.1) = (l.take k).map fillN ++ l.drop k ∧ OwnP wr w.heap.size v p
  below : Below w.heap.size w wr
theorem RdMid.at_ {w : World} {l : List Nd} {v : Value} {k : Nat} {wr : World} (h : RdMid w l v k wr) (hk : k < l.length) : ∃ g cap, v = .slice (some ⟨g, 0, none⟩) l.length cap ∧ w.heap.size ≤ g ∧ g < wr.heap.size ∧ l.length ≤ cap ∧ cap ≤ maxLen ∧ wr.cell? ⟨g, k * 4, none⟩ = some (.int .i64 (l.getD k nd0).op) ∧ wr.frozen? ⟨g, k * 4, none⟩ = false := by
  obtain ⟨⟨p, hp, hc⟩, hb⟩ := h
  have hpl : p.length = l.length := by have := congrArg List.length hp; simp at this; omega
  rcases hc.row.2 with ⟨rfl, h0⟩ | ⟨g, cap, cur, rfl, hg0, hg, h1, h2, h3, h4⟩
  · omega
  · refine ⟨g, cap, by rw [hpl], hg0, lt_of_block hg, by omega, h2, ?_, frozen_of_heap hg _⟩
    have hp2 : p[k]? = some (p[k].1, p[k].2) := by simp [hpl, hk]
    have := (ndCells_at p k _ _ hp2).1
    have hx : ((l.take k).map fillN ++ l.drop k)[k]? = some l[k] := by
      rw [List.getElem?_append_right (by simp; omega)]
      have : k - ((l.take k).map fillN).length = 0 := by simp; omega
      rw [this]; simp [hk]
    have hkp : k < p.length := by omega
    have e : p[k].1 = l.getD k nd0 := by
      have h5 : (p.map (·.1))[k]? = some l[k] := by rw [hp]; exact hx
      simp [hkp] at h5
      simp [hk, h5]
    rw [cell_of_heap hg, ← Array.getElem?_toList, ← e, ← this, ← h4, List.getElem?_take, if_pos (by omega)]
theorem RdMid.skip {w : World} {l : List Nd} {v : Value} {k : Nat} {wr : World} (h : RdMid w l v k wr) (hk : k < l.length) (hop : (l.getD k nd0).op ≠ 18) : RdMid w l v (k + 1) wr := by
  obtain ⟨⟨p, hp, hc⟩, hb⟩ := h
  exact ⟨⟨p, by rw [fill_step hk hop]; exact hp, hc⟩, hb⟩
theorem RdMid.fill {w : World} {l : List Nd} {g cap k : Nat} {wr : World} (h : RdMid w l (.slice (some ⟨g, 0, none⟩) l.length cap) k wr) (hk : k < l.length) (hop : (l.getD k nd0).op = 18) : RdMid w l (.slice (some ⟨g, 0, none⟩) l.length cap) (k + 1) (wr.setCell ⟨g, k * 4, none⟩ (.int .i64 2)) := by
  obtain ⟨g', cap', e1, hg0, _⟩ := h.at_ hk
  cases e1
  obtain ⟨⟨p, hp, hc⟩, hb⟩ := h
  have hpl : p.length = l.length := by have := congrArg List.length hp; simp at this; omega
  have e : l.getD k nd0 = l[k] := by simp [hk]
  have hx : ((l.take k).map fillN ++ l.drop k)[k]? = some l[k] := by
    rw [List.getElem?_append_right (by simp; omega)]
    have : k - ((l.take k).map fillN).length = 0 := by simp; omega
    rw [this]; simp [hk]
  have hpk : p[k]? = some (l[k], (p.getD k (nd0, .slice none 0 0)).2) := by
    have hkp : k < p.length := by omega
    have : (p.map (·.1))[k]? = some l[k] := by rw [hp]; exact hx
    simp [hkp] at this
    simp [hkp, ← this]
  have hfl : fillN l[k] = { l[k] with op := 2 } := by rw [e] at hop; simp [fillN, hop]
  have hrow : wr.ownsRow w.heap.size 60 4 (.slice (some ⟨g, 0, none⟩) l.length cap) l.length (ndCells p) := by have := hc.row; rwa [hpl] at this
  refine ⟨⟨p.set k ({ l[k] with op := 2 }, (p.getD k (nd0, .slice none 0 0)).2), ?_, ?_, ?_⟩, hb.setCell (p := ⟨g, k * 4, none⟩) hg0 _⟩
  · rw [List.map_set, hp, ← hfl]
    rw [List.take_succ_eq_append_getElem hk, List.map_append, List.set_append_right _ _ (by simp; omega)]
    have : k - ((l.take k).map fillN).length = 0 := by simp; omega
    rw [this, List.drop_eq_getElem_cons hk, List.set_cons_zero, List.append_assoc]
    rfl
  · rw [ndCells_op p k _ _ 2 hpk, List.length_set, hpl]
    exact own_put hrow (by rw [ndCells_length]; omega)
  · intro q hq
    have hin : ∀ q ∈ p, OwnI (wr.setCell ⟨g, k * 4, none⟩ (.int .i64 2)) w.heap.size q.2 q.1.kids := fun q hq => row_set (hc.kids q hq) (fun j hj e => by
      subst e
      rcases ownBlock_ne (hc.kids q hq) hc.row (by decide) with h | h
      · rw [h] at hj; cases hj
      · exact h hj) _ _
    rcases List.mem_or_eq_of_mem_set hq with hq | rfl
    · exact hin q hq
    · exact hin (l[k], _) (List.mem_of_getElem? hpk)

set_option maxRecDepth 20000 in
set_option maxHeartbeats 4000000 in
theorem refSound_any {w : World} {ao : Option Addr} {cap : Nat} {l : List Nd} (hN : Rd w ao cap l) (hF : Fit l) :
    Calls Tryd.prog 52 #[.slice ao l.length cap] w fun e w' => e = .returned (.bool (okSh l)) ∧ Below w.heap.size w w' := by
  obtain ⟨hb1, hb2⟩ := hN.bound
  unfold maxLen at hb2
  have cC := copy_any _ l w _ (Nat.le_refl _) hN hF.len hF.kids
  have HN : Hid (Rd w ao cap l) := hN
  have HF : Hid (Fit l) := hF
  obtain ⟨R, hR⟩ : ∃ R, okSh l = R := ⟨_, rfl⟩
  have HR : Hid (R = (sndB (l.map fillN) && (decide ((hlsL l).length = 0) || (decide ((hlsL l).length ≤ 6) && decide (l.length ≤ 16))))) := by show R = _; rw [← hR]; exact ok_ref l
  rw [hR]
  have hhl := hlsL_len l
  clear hN hF hR
  go_enter Tryd.func52, Tryd.ntmps52
  go_wp2_with (go_at_call 10; refine cC.mono ?_; rintro e w1 ⟨v, rfl, ⟨p, hp, hO⟩, hb1'⟩)
  have cH := refHoles_any (HN.out.below hb1' hb1'.size) HF.out.len
  have B1 : Hid (Below w.heap.size w w1) := hb1'
  clear cC hb1'
  go_wp2_with (go_at_call 34; refine cH.mono ?_; rintro e w2 ⟨ha, hc, rfl, hb2'⟩)
  have HM0 : Hid (RdMid w l v 0 w2) := ⟨⟨p, by simpa using hp, hO.below hb2'⟩, B1.out.trans (hb2'.mono B1.out.size)⟩
  obtain ⟨va, vc, hv⟩ := row_form' hO.row
  have hpl : p.length = l.length := by rw [← hp]; simp
  rw [hpl] at hv
  subst hv
  have hvc : l.length ≤ vc ∧ vc ≤ maxLen := by
    rcases hO.row.2 with ⟨e, h0⟩ | ⟨g, c, cur, e, _, _, hn, hm, _⟩
    · simp only [Value.slice.injEq] at e; exact ⟨by omega, by rw [e.2.2]; exact Nat.zero_le _⟩
    · simp only [Value.slice.injEq] at e; exact ⟨by omega, by rw [e.2.2]; exact hm⟩
  obtain ⟨hv1, hv2⟩ := hvc
  unfold maxLen at hv2
  clear cH hb2' hp hO hpl
  go_loopw [5] (fun q wr => ∃ k : Nat, k ≤ l.length ∧ q = .int .i64 k ∧ RdMid w l (.slice va l.length vc) k wr) (fun q _ => l.length - (RowKit.intOf q).toNat)
  case atStart => exact ⟨0, by omega, rfl, HM0.out⟩
  case round =>
    obtain ⟨k, hk, rfl, hM⟩ := hrel
    by_cases hlt : k < l.length
    · obtain ⟨g, cp, e, hg0, hgl, hg1, hg2, hcl, hfz⟩ := hM.at_ hlt
      cases e
      by_cases hop : (l.getD k nd0).op = 18
      · have HFI : Hid (RdMid w l (.slice (some ⟨g, 0, none⟩) l.length vc) (k + 1) (wr.setCell ⟨g, k * 4, none⟩ (.int .i64 2))) := hM.fill hlt hop
        rw [hop] at hcl
        clear hM hop
        go_wp2_with fail
        exact ⟨⟨k + 1, by omega, by go_num, HFI.out⟩, by simp [RowKit.intOf]; omega⟩
      · have HFI : Hid (RdMid w l (.slice (some ⟨g, 0, none⟩) l.length vc) (k + 1) wr) := hM.skip hlt hop
        have g18 : ((l.getD k nd0).op == 18) = false := by rw [beq_eq_false_iff_ne]; exact hop
        generalize (l.getD k nd0).op = oo at *
        clear hM hop
        go_wp2_with fail
        exact ⟨⟨k + 1, by omega, by go_num, HFI.out⟩, by simp [RowKit.intOf]; omega⟩
    · have hke : k = l.length := by omega
      subst hke
      obtain ⟨⟨p, hp, hO⟩, hbw⟩ := hM
      rw [List.take_length, List.drop_length, List.append_nil] at hp
      have hNd := Nodes_of_ownP hO (Nat.le_refl _)
      rw [hp] at hNd
      have cK := refCheck_any (.slice va l.length vc) (l.map fillN) wr wr.heap.size (Nat.le_refl _) hNd (fun x hx => by
        obtain ⟨y, hy, rfl⟩ := List.mem_map.1 hx
        rw [fillN_name]; exact HF.out.name y hy)
      have HBW : Hid (Below w.heap.size w wr) := hbw
      unfold chkE at cK
      clear hp hO hNd hbw
      generalize (hlsL l).length = nh at *
      generalize sndB (l.map fillN) = sb at *
      cases sb
      · rw [if_neg (by decide)] at cK
        have HR2 : Hid (R = false) := by show R = _; rw [HR.out]; rfl
        clear HR
        go_wp2_with (go_at_call 11; refine cK.mono ?_; rintro e w6 ⟨rfl, hb6⟩)
        go_ret
        exact ⟨by rw [HR2.out] <;> rfl, HBW.out.trans (hb6.mono HBW.out.size)⟩
      · rw [if_pos rfl] at cK
        by_cases h0 : nh = 0
        · have HR2 : Hid (R = true) := by show R = _; rw [HR.out]; simp [h0]
          have g0 : ((nh : Int) == 0) = true := by rw [beq_iff_eq]; omega
          clear HR h0
          go_wp2_with (go_at_call 11; refine cK.mono ?_; rintro e w6 ⟨rfl, hb6⟩)
          go_ret
          exact ⟨by rw [HR2.out] <;> rfl, HBW.out.trans (hb6.mono HBW.out.size)⟩
        · have g0 : ((nh : Int) == 0) = false := by rw [beq_eq_false_iff_ne]; omega
          by_cases h6 : nh ≤ 6
          · have g6 : (nh : Int) ≤ 6 := by omega
            by_cases h16 : l.length ≤ 16
            · have g16 : (l.length : Int) ≤ 16 := by omega
              have HR2 : Hid (R = true) := by show R = _; rw [HR.out]; simp [h0, h6, h16]
              clear HR h0 h6 h16
              go_wp2_with (go_at_call 11; refine cK.mono ?_; rintro e w6 ⟨rfl, hb6⟩)
              go_ret
              exact ⟨by rw [HR2.out] <;> rfl, HBW.out.trans (hb6.mono HBW.out.size)⟩
            · have g16 : ¬ (l.length : Int) ≤ 16 := by omega
              have HR2 : Hid (R = decide ((l.length : Int) ≤ 16)) := by show R = _; rw [HR.out, decide_eq_false g16]; simp [h0, h6, h16]
              clear HR h0 h6 h16
              go_wp2_with (go_at_call 11; refine cK.mono ?_; rintro e w6 ⟨rfl, hb6⟩)
              go_ret
              exact ⟨by rw [HR2.out] <;> rfl, HBW.out.trans (hb6.mono HBW.out.size)⟩
          · have g6 : ¬ (nh : Int) ≤ 6 := by omega
            have HR2 : Hid (R = false) := by show R = _; rw [HR.out]; simp [h0, h6]
            clear HR h0 h6
            go_wp2_with (go_at_call 11; refine cK.mono ?_; rintro e w6 ⟨rfl, hb6⟩)
            go_ret
            exact ⟨by rw [HR2.out] <;> rfl, HBW.out.trans (hb6.mono HBW.out.size)⟩
end Go.Proofs.YtjmccobblpcbhaaDoor

set_option linter.unusedSimpArgs false
set_option linter.unusedVariables false
namespace Go.Proofs.YtjmccobblpcbhaaDoor
open Go.RowKit Go.Lib

/-- Within the reach of Show and Lisp. -/
structure Fit5 (l : List Nd) : Prop where
  name : ∀ x ∈ l, x.name.size ≤ maxLen
  num : ∀ x ∈ l, num64 x.n

def shS (J : JT) (l : List Nd) : ByteArray := if okSh l = true then shF J l else ⟨#[]⟩
def shE (l : List Nd) : Int := if okSh l = true then 0 else 1

end Go.Proofs.YtjmccobblpcbhaaDoor

set_option linter.unusedSimpArgs false
set_option linter.unusedVariables false
namespace Go.Proofs.YtjmccobblpcbhaaDoor
open Go.RowKit Go.Lib Go.ChangeShapes Go.WideShapes Go.Deep

theorem Tryd.laidOut : laidOutB Tryd.prog = true := by kernel_rfl
theorem Tryd.cells3 : Tryd.prog.cellsOf 3 = 1 := by kernel_rfl
theorem Tryd.cells2 : Tryd.prog.cellsOf 2 = 1 := by kernel_rfl
theorem Tryd.cellsStr : Tryd.prog.cellsOf 9 = 1 := by kernel_rfl
theorem Tryd.cellsInts : Tryd.prog.cellsOf 58 = 1 := by kernel_rfl
theorem Tryd.cellsNode : Tryd.prog.cellsOf 60 = 4 := by kernel_rfl
theorem Tryd.bytes3 : Tryd.prog.bytesOf 3 = 8 := by kernel_rfl
theorem Tryd.bytesNode : Tryd.prog.bytesOf 60 = 56 := by kernel_rfl

theorem len4 {α : Type} (l : List α) (h : l.length = 4) : ∃ a b c d, l = [a, b, c, d] := by
  match l, h with
  | [a, b, c, d], _ => exact ⟨a, b, c, d, rfl⟩

theorem spot_none {w : World} {a : Addr} {v : Value} (h : w.cell? a = some v) : a.spot = none := by
  unfold World.cell? at h
  split at h
  · split at h
    · cases h
    · rename_i hs; simpa using hs
  · cases h

section
variable {H : Type} {enc : TypeId × Value → H} {w : World}

/-- The kids' slice. -/
theorem open_kids {fuel : Nat} {v : Value} {x : DataW H × List MemPlace} (h : DataW.trod enc Tryd.prog w 0 (fun _ => true) true fuel 58 [v] = some x) :
    ∃ ks, Ints w w.heap.size v ks ∧ ((∀ n ∈ x.1.weights Tryd.prog 58, n ≤ reachBytes) → ks.length * 8 ≤ 140737488351232) := by
  rcases open_ints Tryd.underlying58 Tryd.underlying3 Tryd.cells3 h with ⟨hcs, rfl⟩ | ⟨a, len, cap, zs, hcs, _, hl, hm, hz, rfl, hc, _⟩
  · simp only [List.cons.injEq, and_true] at hcs
    subst hcs
    exact ⟨[], ⟨none, 0, rfl, by simp, ⟨by simp [maxLen], fun _ => rfl⟩, .inl rfl⟩, fun _ => by simp⟩
  · simp only [List.cons.injEq, and_true] at hcs
    subst hcs
    simp only [if_true] at hz
    have hlen : (zs.take len).length = len := by simp; omega
    refine ⟨zs.take len, ⟨some a, cap, by rw [hlen], by omega, ⟨hm, by simp⟩, ?_⟩, fun hw => ?_⟩
    · by_cases h0 : len = 0
      · left; exact List.length_eq_zero_iff.1 (by omega)
      · right
        have hc0 := hc 0 (by omega)
        obtain ⟨b, o, sp⟩ := a
        have hsp : sp = none := by
          have e : (⟨b, o, sp⟩ : Addr).add 0 = ⟨b, o, sp⟩ := rfl
          rw [e] at hc0; exact spot_none hc0
        subst hsp
        refine ⟨b, o, rfl, World.block_lt_of_cell? _ _ hc0, fun j hj => ?_⟩
        rw [hlen] at hj
        have := hc j (by omega)
        rw [Go.WideShapes.add_plain] at this
        rw [this]
        simp [List.getElem?_take, hj]
    · have := hw ((((lits .i64 (zs.take len)).length : Nat) + (lits .i64 (zs.drop len)).length) * Tryd.prog.bytesOf 3) (by simp only [DataW.weights, Tryd.underlying58 ]; exact List.mem_cons_self ..)
      rw [Tryd.bytes3] at this
      simp only [lits, List.length_map, List.length_take, List.length_drop, reachBytes] at this
      rw [hlen]; omega

/-- One node. -/
theorem open_node {fuel : Nat} {cs : List Value} {x : DataW H × List MemPlace} (h : DataW.trod enc Tryd.prog w 0 (fun _ => true) true fuel 60 cs = some x) :
    ∃ (y : Nd) (kv : Value), cs = [.int .i64 y.op, .int .i64 y.n, .string y.name, kv] ∧ Ints w w.heap.size kv y.kids ∧ (y.name.size ≤ maxLen ∧ (Lit.int .i64 y.n).wf = true) ∧ ((∀ n ∈ x.1.weights Tryd.prog 60, n ≤ reachBytes) → y.kids.length * 8 ≤ 140737488351232) := by
  obtain ⟨xs, n, _, rfl, hl, hxl, hall⟩ := DataW.trod_struct Tryd.underlying60 h
  rw [Tryd.cellsNode] at hl
  obtain ⟨v0, v1, v2, v3, rfl⟩ := len4 cs hl
  obtain ⟨x0, x1, x2, x3, rfl⟩ := len4 xs hxl
  have g0 : DataW.trod enc Tryd.prog w 0 (fun _ => true) true n 3 (([v0, v1, v2, v3].drop 0).take (Tryd.prog.cellsOf 3)) = some x0 := hall 0 _ rfl
  have g1 : DataW.trod enc Tryd.prog w 0 (fun _ => true) true n 2 (([v0, v1, v2, v3].drop 1).take (Tryd.prog.cellsOf 2)) = some x1 := hall 1 _ rfl
  have g2 : DataW.trod enc Tryd.prog w 0 (fun _ => true) true n 9 (([v0, v1, v2, v3].drop 2).take (Tryd.prog.cellsOf 9)) = some x2 := hall 2 _ rfl
  have g3 : DataW.trod enc Tryd.prog w 0 (fun _ => true) true n 58 (([v0, v1, v2, v3].drop 3).take (Tryd.prog.cellsOf 58)) = some x3 := hall 3 _ rfl
  rw [Tryd.cells3] at g0
  rw [Tryd.cells2] at g1
  rw [Tryd.cellsStr] at g2
  rw [Tryd.cellsInts] at g3
  obtain ⟨z0, k0, _, _⟩ := DataW.trod_int Tryd.underlying3 g0
  obtain ⟨z1, k1, _, hz1⟩ := DataW.trod_int Tryd.underlying2 g1
  obtain ⟨s, k2, _, hs⟩ := DataW.trod_string Tryd.underlying9 g2
  simp at k0 k1 k2
  subst k0; subst k1; subst k2
  obtain ⟨ks, hI, hw⟩ := open_kids (v := v3) g3
  refine ⟨⟨z0, z1, s, ks⟩, v3, rfl, hI, ⟨hs, hz1⟩, fun hh => hw fun q hq => hh q ?_⟩
  simp only [DataW.weights, Tryd.underlying60 ]
  exact DataW.weights_mem_each (j := 3) (t := 58) (d := x3.1) rfl rfl q hq

theorem mem_weightsAll {P : Program} {e : TypeId} {d : DataW H} {n : Nat} : ∀ {ds : List (DataW H)}, d ∈ ds → n ∈ d.weights P e → n ∈ DataW.weightsAll P e ds
  | d0 :: ds, hd, hn => by
    simp only [DataW.weightsAll, List.mem_append]
    rcases List.mem_cons.1 hd with rfl | hd
    · exact .inl hn
    · exact .inr (mem_weightsAll hd hn)

/-- Within the reach, marks and all; the numbers are numbers of 64 bits. -/
structure FitX (l : List Nd) : Prop where
  len : l.length * 56 ≤ 140737488351232
  kids : ∀ x ∈ l, x.kids.length * 8 ≤ 140737488351232
  name : ∀ x ∈ l, x.name.size ≤ maxLen
  num : ∀ x ∈ l, (Lit.int .i64 x.n).wf = true
theorem FitX.fit {l : List Nd} (h : FitX l) : Fit l := ⟨by have := h.len; omega, fun x hx => by have := h.kids x hx; omega, h.name⟩

/-- The whole argument. -/
theorem open_nodesX {fuel : Nat} {v : Value} {x : DataW H × List MemPlace} (h : DataW.trod enc Tryd.prog w 0 (fun _ => true) true fuel 22 [v] = some x) :
    ∃ (ao : Option Addr) (cap : Nat) (l : List Nd), v = .slice ao l.length cap ∧ Rd w ao cap l ∧ ((∀ n ∈ x.1.weights Tryd.prog 22, n ≤ reachBytes) → FitX l) := by
  rcases open_slice Tryd.underlying22 h with ⟨hcs, rfl⟩ | ⟨a, len, cap, m, n, D, Pl, hcs, _, hl, hm, hmm, rfl, hx⟩
  · simp only [List.cons.injEq, and_true] at hcs
    subst hcs
    exact ⟨none, 0, [], rfl, ⟨none, 0, rfl, by simp, by simp, .inl rfl⟩, fun _ => ⟨by simp, by simp, by simp, by simp⟩⟩
  · simp only [List.cons.injEq, and_true] at hcs
    subst hcs
    simp only [if_true] at hmm
    subst hmm
    have each : ∀ i, i < m → ∃ y : Nd × Value, ∃ cs', w.cells? 0 (a.add (i * 4)) 4 = some cs' ∧ cs' = [.int .i64 y.1.op, .int .i64 y.1.n, .string y.1.name, y.2] ∧ Ints w w.heap.size y.2 y.1.kids ∧ (y.1.name.size ≤ maxLen ∧ (Lit.int .i64 y.1.n).wf = true) ∧ ((∀ n ∈ (D i).weights Tryd.prog 60, n ≤ reachBytes) → y.1.kids.length * 8 ≤ 140737488351232) := by
      intro i hi
      obtain ⟨cs', h1, h2⟩ := hx i hi
      rw [Tryd.cellsNode] at h1
      obtain ⟨y, kv, e, h3, h4, h5⟩ := open_node h2
      exact ⟨(y, kv), cs', h1, e, h3, h4, h5⟩
    have : Inhabited (Nd × Value) := ⟨(nd0, .slice none 0 0)⟩
    obtain ⟨q, hq⟩ := choose_lt each
    have hlen : ((List.range len).map fun i => (q i).1).length = len := by simp
    have hget : ∀ i, i < len → ((List.range len).map fun i => (q i).1).getD i nd0 = (q i).1 := fun i hi => by simp [hi]
    refine ⟨some a, m, (List.range len).map fun i => (q i).1, by rw [hlen], ⟨some a, m, rfl, by rw [hlen]; exact hl, hm, ?_⟩, fun hw => ⟨?_, ?_, ?_, ?_⟩⟩
    · by_cases h0 : len = 0
      · left; subst h0; rfl
      · right
        have hc0 : w.cell? a = some (.int .i64 (q 0).1.op) := by
          obtain ⟨cs', h1, rfl, _⟩ := hq 0 (by omega)
          have := (World.cells?_some h1).2.2 0 (by omega)
          rw [Nat.zero_mul] at this
          exact this
        obtain ⟨b, o, sp⟩ := a
        have hsp : sp = none := spot_none hc0
        subst hsp
        refine ⟨b, o, rfl, World.block_lt_of_cell? _ _ hc0, fun i hi => ?_⟩
        rw [hlen] at hi
        rw [hget i hi]
        obtain ⟨cs', h1, rfl, h3, _⟩ := hq i (by omega)
        have hcell := (World.cells?_some h1).2.2
        rw [Go.WideShapes.add_plain] at hcell
        refine ⟨(q i).2, ?_, ?_, ?_, ?_, h3⟩
        · have := hcell 0 (by omega); rw [Go.WideShapes.add_plain] at this; exact this
        · have := hcell 1 (by omega); rw [Go.WideShapes.add_plain] at this; exact this
        · have := hcell 2 (by omega); rw [Go.WideShapes.add_plain] at this; exact this
        · have := hcell 3 (by omega); rw [Go.WideShapes.add_plain] at this; exact this
    · have := hw ((((List.range len).map D).length + ((List.range (m - len)).map fun j => D (len + j)).length) * Tryd.prog.bytesOf 60) (by simp only [DataW.weights, Tryd.underlying22 ]; exact List.mem_cons_self ..)
      rw [Tryd.bytesNode] at this
      simp only [List.length_map, List.length_range, reachBytes] at this
      rw [hlen]; omega
    · intro y hy
      obtain ⟨i, hi, rfl⟩ := List.mem_map.1 hy
      rw [List.mem_range] at hi
      obtain ⟨cs', _, _, _, _, h5⟩ := hq i (by omega)
      have := h5 fun n hn => hw n (by
        simp only [DataW.weights, Tryd.underlying22, List.mem_cons, List.mem_append]
        exact .inr (.inl (mem_weightsAll (List.mem_map.2 ⟨i, List.mem_range.2 hi, rfl⟩) hn)))
      exact this
    · intro y hy
      obtain ⟨i, hi, rfl⟩ := List.mem_map.1 hy
      rw [List.mem_range] at hi
      obtain ⟨cs', _, _, _, h4, _⟩ := hq i (by omega)
      exact h4.1
    · intro y hy
      obtain ⟨i, hi, rfl⟩ := List.mem_map.1 hy
      rw [List.mem_range] at hi
      obtain ⟨cs', _, _, _, h4, _⟩ := hq i (by omega)
      exact h4.2
end

end Go.Proofs.YtjmccobblpcbhaaDoor

set_option linter.unusedSimpArgs false
set_option linter.unusedVariables false
namespace Go.Proofs.YtjmccobblpcbhaaDoor
open Go.RowKit Go.Lib

set_option maxRecDepth 20000 in
set_option maxHeartbeats 1000000 in
theorem refShow_any {w : World} {ao : Option Addr} {cap : Nat} {l : List Nd} (hN : Rd w ao cap l) (hF : Fit l) (hnum : ∀ x ∈ l, num64 x.n) :
    Calls Tryd.prog 23 #[.slice ao l.length cap] w fun e w' => e = .returned (.tuple #[.string (shS betT l), .int .i64 (shE l)]) ∧ Below w.heap.size w w' := by
  have cS := refSound_any hN hF
  obtain ⟨hb1, hb2⟩ := hN.bound
  unfold maxLen at hb2
  cases hok : okSh l with
  | false =>
    rw [hok] at cS
    have HS : Hid (shS betT l = ⟨#[]⟩) := by show _ = _; unfold shS; rw [hok]; rfl
    have HE : Hid (shE l = 1) := by show _ = _; unfold shE; rw [hok]; rfl
    rw [HS.out, HE.out]
    clear hok hN hF hnum HS HE
    go_enter Tryd.func23, Tryd.ntmps23
    go_wp2_with (go_at_call 52; refine cS.mono ?_; rintro e w1 ⟨rfl, hq1⟩)
    go_ret2
    exact ⟨rfl, hq1⟩
  | true =>
    rw [hok] at cS
    obtain ⟨fr, hbeg⟩ : ∃ fr, begL (l.map fillN) = some fr := by
      unfold okSh at hok
      simp only [Bool.and_eq_true] at hok
      have := hok.2
      unfold sndB at this
      exact Option.isSome_iff_exists.1 this
    have hl0 : 0 < l.length := by have := (begL_some hbeg).1; simp at this; omega
    have HS : Hid (shS betT l = tx betT l (l.length - 1)) := by show _ = _; unfold shS; rw [hok, if_pos rfl, shF_tx]
    have HE : Hid (shE l = 0) := by show _ = _; unfold shE; rw [hok]; rfl
    rw [HS.out, HE.out]
    have cR : Hid (∀ W, Rd W ao cap l → Calls Tryd.prog 53 #[.slice ao l.length cap, .int .i64 ((l.length : Int) - 1)] W fun e w' => e = .returned (.string (tx betT l (l.length - 1))) ∧ Below W.heap.size W w') := fun W hW => by
      have := refShow_at hbeg hnum ao cap (l.length - 1) (by omega) W hW
      have e : ((l.length - 1 : Nat) : Int) = (l.length : Int) - 1 := by omega
      rw [e] at this; exact this
    generalize tx betT l (l.length - 1) = R at *
    have HN : Hid (Rd w ao cap l) := hN
    clear hok hN hF hnum HS HE hbeg
    go_enter Tryd.func23, Tryd.ntmps23
    go_wp2_with (first | (go_at_call 52; refine cS.mono ?_; rintro e w1 ⟨rfl, hq1⟩) | (go_at_call 53; refine (cR.out _ (HN.out.below hq1 hq1.size)).mono ?_; rintro e w2 ⟨rfl, hq2⟩))
    go_ret2
    exact ⟨rfl, hq1.trans (hq2.mono hq1.size)⟩

end Go.Proofs.YtjmccobblpcbhaaDoor

namespace Go.Proofs.YtjmccobblpcbhaaDoor
open Go.RowKit Go.Lib

end Go.Proofs.YtjmccobblpcbhaaDoor

set_option linter.unusedSimpArgs false
set_option linter.unusedVariables false
namespace Go.Proofs.YtjmccobblpcbhaaDoor
open Go.RowKit Go.Lib

structure SldW (p : Prop) : Prop where
  out : p
theorem FitX.fit5W {l : List Nd} (h : FitX l) : Fit5 l := ⟨h.name, fun x hx => bounds_i64 (h.num x hx)⟩
/-- Parse, by what it comes to. -/
theorem parse_ok {W : World} {s : ByteArray} {l : List Nd} (hz : s.size ≤ maxLen) (hT : Tabs W) (h : psRead s false 64 = .ok l) :
    Calls Tryd.prog 26 #[.string s] W fun e w' => ∃ ao cap, e = .returned (.tuple #[.slice ao l.length cap, .int .i64 0, .int .i64 0]) ∧ Rd w' ao cap l ∧ Below W.heap.size W w' := by
  have := parse_any W s hz hT
  rw [h] at this
  exact this.mono fun e w' ⟨⟨ao, cap, h1, h2⟩, h3⟩ => ⟨ao, cap, h1, h2, h3⟩
theorem pattern_ok {W : World} {s : ByteArray} {l : List Nd} (hz : s.size ≤ maxLen) (hT : Tabs W) (h : psRead s true 16 = .ok l) :
    Calls Tryd.prog 25 #[.string s] W fun e w' => ∃ ao cap, e = .returned (.tuple #[.slice ao l.length cap, .int .i64 0, .int .i64 0]) ∧ Rd w' ao cap l ∧ Below W.heap.size W w' := by
  have := pattern_any W s hz hT
  rw [h] at this
  exact this.mono fun e w' ⟨⟨ao, cap, h1, h2⟩, h3⟩ => ⟨ao, cap, h1, h2, h3⟩
theorem show_sz {l : List Nd} (hok : okSh l = true) (hn : ∀ x ∈ l, num64 x.n) : (shF betT l).size ≤ 6500 ∧ l.length ≤ 64 ∧ ((hlsL l).length ≠ 0 → l.length ≤ 16) := by
  have hok' := hok
  unfold okSh at hok'
  simp only [Bool.and_eq_true] at hok'
  obtain ⟨⟨_, h2⟩, h3⟩ := hok'
  obtain ⟨fr, hbg⟩ : ∃ fr, begL (l.map fillN) = some fr := by
    unfold sndB at h3
    exact Option.isSome_iff_exists.1 h3
  refine ⟨?_, by have := (snd_bounds hbg).1; simpa using this, fun h => ?_⟩
  · rw [shF_tx]; exact tx_size bet_ok hbg hn _
  · simp only [Bool.or_eq_true, decide_eq_true_eq] at h2
    rcases h2 with h2 | h2
    · exact absurd h2 h
    · exact h2


end Go.Proofs.YtjmccobblpcbhaaDoor

/-
  VrW, VrsW, VrQ, ExJoiW, PiW, TbC2, TbC3.
-/
import Derived.Test.YtpacjofepiojdaaDoorChecked
import GoSem.PinnedTables
import GoSem.Claim
import GoSem.ClaimJoined
import GoSem.ClaimMapViews
import Derived.JoinedTies
import Derived.KernelRfl
import Derived.Shelf.Unicode.DecodeSlow
import Derived.Laws.RangeAny
import Derived.Shelf.Small.Bits
import Derived.Shelf.Strconv.Itoa0
import Derived.Shelf.LaysM
import Derived.Shelf.Strconv.Clone
import Derived.Shelf.Unicode.DecodeAny
import Derived.Shelf.Slices.CompactS
import Derived.Ground.SlsfProg
import Derived.Shelf.SlSortCmp.Insertion
import Derived.Shelf.SlSortCmp.SiftDown1
import Derived.Shelf.SlSortCmp.HeapSort1
import Derived.Shelf.SlSortCmp.Insertion1
import Derived.Shelf.SlSortCmp.Median1
import Derived.Shelf.SlSortCmp.Pivot1
import Derived.Shelf.SlSortCmp.ReverseRange1
import Derived.Shelf.SlSortCmp.PartialInsertion1
import Derived.Shelf.SlSortCmp.PartitionEqual1
import Derived.Shelf.SlSortCmp.Partition1
import Derived.Shelf.SlSortCmp.Pdq1
import Derived.Shelf.SlSortCmp.Whole1
import Derived.Test.YtpacjofepiojdaaDoorProg
import Derived.WalkKit
import Derived.Deep.DeepFit
import Derived.Lib.OthersKept
import Derived.Lib.RuneCountTail
import Derived.Lib.LaidU8
import Derived.MakeChecks
import Derived.ProofKit
import Derived.OpenShut
import Derived.Deep.DeepHandedRow
import Derived.Deep.AppendLies
import Derived.Deep.OwnRows
import Derived.Laws.AppendOwnNone
import Derived.Deep.QuietTactic
import Derived.BigQuiet
import Derived.Deep.RegionWith
import Derived.Laws.DeepStrings4
import Derived.Deep.Slices
import Derived.SizedLaws
import Derived.Below
import Derived.Lib.MapLaws
import Derived.Sort.Walk0
import Derived.Lib.SlicesCompact
import Derived.Sort.EncStr
import Derived.Calls
import Derived.RunT
import Derived.Lib.QuietBelow
import Derived.Deep.Draws
import Derived.Sort.OwnSorted
import Derived.Test.YtpacjofepiojdaaDoorRows
import Derived.Test.YtpacjofepiojdaaDoorE01
import Derived.Test.YtpacjofepiojdaaDoorE02
import Derived.Test.YtpacjofepiojdaaDoorE03
import Derived.Test.YtpacjofepiojdaaDoorE04
import Derived.Test.YtpacjofepiojdaaDoorE05
import Derived.Test.YtpacjofepiojdaaDoorE06
import Derived.Test.YtpacjofepiojdaaDoorE07
import Derived.Test.YtpacjofepiojdaaDoorE08
import Derived.Test.YtpacjofepiojdaaDoorE09
import Derived.Test.YtpacjofepiojdaaDoorE10
import Derived.Test.YtpacjofepiojdaaDoorE11
import Derived.Test.YtpacjofepiojdaaDoorE12
set_option linter.unusedSimpArgs false
set_option linter.unusedVariables false
namespace Go.Proofs.YtpacjofepiojdaaDoor
open Go.RowKit Go.Lib

theorem Tryd.infoTxt : (Tryd.prog.info? 9).map (fun i => (i.zero, i.size, i.bytes)) = some (some (.string ⟨#[]⟩), 1, 16) := by kernel_rfl

/-! ### no names -/
set_option maxHeartbeats 2000000 in
theorem insert_nil (fv : Value) (w : World) :
    Calls Tryd.prog 109 #[.slice none 0 0, .int .i64 0, .int .i64 0, fv] w fun e w' => e = .returned (.tuple #[]) ∧ w' = w := by
  go_enter Tryd.func109, Tryd.ntmps109
  go_wp2
  refine wp_loop_rounds 1 ?_
  rw [rounds_succ]
  go_wp2
  go_end0
  exact ⟨rfl, rfl⟩
set_option maxHeartbeats 2000000 in
theorem pdq_nil (lim : Int) (fv : Value) (w : World) :
    Calls Tryd.prog 81 #[.slice none 0 0, .int .i64 0, .int .i64 0, .int .i64 lim, fv] w fun e w' => e = .returned (.tuple #[]) ∧ w' = w := by
  go_enter Tryd.func81, Tryd.ntmps81
  go_wp2
  refine wp_loop_rounds 1 ?_
  rw [rounds_succ]
  go_wp2_with (go_at_call 109; refine (insert_nil _ _).mono ?_; rintro e w' ⟨rfl, rfl⟩)
  (try simp only [Exit.inBlock, Exit.then]); refine bodyPost_ret (results_none rfl _ _ _) rfl ?_
  exact ⟨rfl, rfl⟩
set_option maxHeartbeats 2000000 in
theorem sort_nil (fv : Value) (w : World) :
    Calls Tryd.prog 48 #[.slice none 0 0, fv] w fun e w' => e = .returned (.tuple #[]) ∧ w' = w := by
  have hl : ∀ W, Calls Tryd.prog 82 #[.int .u64 0] W fun e w' => e = .returned (.int .i64 (Lib.bitLen 0 : Nat)) ∧ w' = W := fun W => Tryd.bits_Len 0 W (by omega) (by omega)
  go_enter Tryd.func48, Tryd.ntmps48
  go_wp2_with (first | (go_at_call 82; refine (hl _).mono ?_; rintro e w' ⟨rfl, rfl⟩) | (go_at_call 81; refine (pdq_nil _ _ _).mono ?_; rintro e w' ⟨rfl, rfl⟩))
  go_end0
  exact ⟨rfl, rfl⟩

/-! ### the sort, and Compact -/
theorem map_enc (ns : List ByteArray) : (ns.map bl).map encStr = ns.map Value.string := by
  rw [List.map_map]; apply List.map_congr_left; intro s _; exact encStr_bl s
theorem enters_order : ∀ args w, (callFunc 49 args).run Tryd.prog w = .ok (.enter 49 args) w := enters_of Tryd.func49 (by kernel_rfl) rfl

end Go.Proofs.YtpacjofepiojdaaDoor

set_option linter.unusedSimpArgs false
set_option linter.unusedVariables false
namespace Go.Proofs.YtpacjofepiojdaaDoor
open Go.RowKit Go.Lib

theorem cell_news_two (w : World) (o : Obj) (v : Value) (t : TypeId) : ∀ j u, [v][j]? = some u → ((w.alloc o).alloc (.cells #[v] t)).cell? ((⟨w.heap.size + 1, 0, none⟩ : Addr).add j) = some u := by
  have h := cell_news_one (w.alloc o) v t
  rwa [World.size_alloc] at h

/-- The names so far. -/
structure VMid (w2 : World) (v : Value) (ns : List ByteArray) (wr : World) : Prop where
  row : wr.ownsRow w2.heap.size 9 1 v ns.length (ns.map Value.string)
  below : Below w2.heap.size w2 wr

set_option maxHeartbeats 1000000 in
theorem vars_none (vs : Value) (l : List Nd) (w : World) (B : Nat) (hBw : B ≤ w.heap.size) (hT : SpanCells w) (hN : Nodes w B vs l) (h : begL l = none) :
    Calls Tryd.prog 18 #[vs] w fun e w' => e = .returned (.tuple #[.slice none 0 0, .int .i64 1]) ∧ Below w.heap.size w w' := by
  have HS : Hid (begL l = none) := h
  clear h
  go_enter Tryd.func18, Tryd.ntmps18
  go_wp2_with (go_at_call 8; refine (check_none _ l _ B hBw hT hN HS.out).mono ?_; rintro e w2 ⟨rfl, hb2⟩)
  go_ret2
  exact ⟨rfl, hb2⟩
end Go.Proofs.YtpacjofepiojdaaDoor

set_option linter.unusedSimpArgs false
set_option linter.unusedVariables false
namespace Go.Proofs.YtpacjofepiojdaaDoor
open Go.RowKit Go.Lib

theorem sortNamesQ (w0 w : World) (base : Nat) (v : Value) (ns : List ByteArray) (hT : Tabs w0) (hb0 : Below w0.heap.size w0 w) (hbase : w0.heap.size ≤ base) (hn : ∀ s ∈ ns, (chk s).2 = 0) (hsm : ns.length ≤ 64)
    (hown : w.ownsRow base 9 1 v ns.length (ns.map Value.string)) :
    Calls Tryd.prog 48 #[v, .func (.func 49) #[] #[]] w fun e w' => e = .returned (.tuple #[]) ∧ Below base w w' ∧
      Calls Tryd.prog 50 #[v] w' fun e w2 => ∃ ao cap vs, e = .returned (.slice ao vs.length cap) ∧ VrOf ns vs ∧ (vs.length ≤ ns.length ∧ w2.ownsRow base 9 1 (.slice ao vs.length cap) vs.length (vs.map Value.string)) ∧ Below base w w2 := by
  rcases hown.2 with ⟨rfl, h0⟩ | ⟨g, cap, cur, rfl, hg, hb, h1, h2, h3, h4⟩
  · have : ns = [] := List.length_eq_zero_iff.1 h0
    subst this
    refine (sort_nil _ w).mono ?_
    rintro e w' ⟨rfl, rfl⟩
    refine ⟨rfl, Below.refl _ _, ?_⟩
    refine (Tryd.slices_Compact_string_empty none 0 w').mono ?_
    rintro e w2 ⟨rfl, rfl⟩
    exact ⟨none, 0, [], rfl, VrOf.nil, ⟨Nat.le_refl _, World.ownsRow_nil _ _ _ _⟩, Below.refl _ _⟩
  · have hlt := lt_of_block hb
    have hH : Go.Sort.Holds encStr w g 0 (ns.map bl).toArray := holds_of_block hb (by rw [List.length_map, map_enc]; simpa using h4)
    have hbelow : ∀ (n : Nat) (d : Array (List UInt8)) (os : Array Obj), Below base w (Go.Sort.grow (Go.Sort.putRow encStr (Go.Sort.ahead w n) g 0 d) os) := fun n d os => by
      have hgr := grownBy_sorted (w := w) (g := g) (n := n) (os := os) d
      exact (Below.refl base w).grown hgr (by omega) (by intro k hk; cases hk; exact hg)
    have hcmp : CmpLays1 Tryd.prog 49 #[] encStr cfS g 0 (ns.map bl).toArray.size w := fun m os dk hs x y => by
      have hT' : Tabs (sortWorld encStr w g 0 m dk os) := hT.below (hb0.trans ((hbelow m dk os).mono hbase))
      exact calls_grown (order_any (ba x) (ba y) _ hT')
    have hsort := Tryd.slices_SortFunc encStr (fun _ => rfl) cfS cf_swo 49 #[] g 0 cap (ns.map bl).toArray w enters_order hcmp hH hlt (by simp; omega)
    have hsz : (ns.map bl).toArray.size = ns.length := by simp
    rw [hsz] at hsort
    refine hsort.mono ?_
    rintro e w' ⟨rfl, d, n, os, hp, hs, rfl⟩
    have hd : d.size = ns.length := by rw [hp.1]; simp
    refine ⟨rfl, hbelow n d os, ?_⟩
    have hb2 : (sortWorld encStr w g 0 n d os).heap[g]? = some (.cells (Go.Sort.putCells encStr 0 d cur) 9 (0, 0)) := heap_sorted d hb
    have hH2 : Go.Sort.Holds encStr (sortWorld encStr w g 0 n d os) g 0 d := by
      have := holds_of_block (ss := d.toList) hb2 (by
        have := take_putCells cur d.toList (by simp; omega)
        simpa using this)
      simpa using this
    have hcomp := Tryd.slices_Compact_string_arr g 0 cap d (sortWorld encStr w g 0 n d os) hH2 (by omega) (by omega)
    rw [hd] at hcomp
    refine hcomp.mono ?_
    rintro e w2 ⟨rfl, q, rfl⟩
    have hcl := compact_len d
    rw [hd] at hcl
    have hvr := sort_vr ns hn d (by simpa [hd] using hp) hs
    rw [hd] at hvr
    generalize hw1 : sortWorld encStr w g 0 n d os = w1 at *
    have hl1 := lt_of_block hb2
    generalize hcc : compactUpTo d ns.length = cc at *
    have hb3 := heap_sorted (w := w1) (g := g) (n := q) (os := #[]) (cc ++ List.replicate (ns.length - cc.length) []).toArray hb2
    rw [Go.Sort.grow_empty] at hb3
    refine ⟨some ⟨g, 0, none⟩, cap, cc.map ba, by rw [List.length_map], hvr, ⟨by rw [List.length_map]; exact hcl, ?_⟩, ?_⟩
    · have hsz2 : (Go.Sort.putCells encStr 0 d cur).size = cur.size := by simp [Go.Sort.putCells]
      have htk := take_putCells (Go.Sort.putCells encStr 0 d cur) (cc ++ List.replicate (ns.length - cc.length) []) (by rw [hsz2]; simp; omega)
      refine ⟨by simp, .inr ⟨g, cap, _, rfl, hg, hb3, by rw [List.length_map]; omega, h2, ?_, ?_⟩⟩
      · simp [Go.Sort.putCells, h3]
      · have h5 := congrArg (List.take cc.length) htk
        rw [List.take_take, List.map_append, Nat.min_eq_left (by simp)] at h5
        rw [List.length_map, Nat.mul_one, h5, List.take_left' (by simp)]
        rw [List.map_map]
        apply List.map_congr_left
        intro s _
        simp [encStr, ba]
    · have hgr := grownBy_sorted (w := w1) (g := g) (n := q) (os := #[]) (cc ++ List.replicate (ns.length - cc.length) []).toArray
      rw [Go.Sort.grow_empty] at hgr
      have k1 := hbelow n d os
      rw [show Go.Sort.grow (Go.Sort.putRow encStr (Go.Sort.ahead w n) g 0 d) os = w1 from hw1] at k1
      exact k1.trans ((Below.refl base w1).grown hgr (by have := k1.size; omega) (by intro k hk; cases hk; exact hg))

set_option maxRecDepth 20000 in
set_option maxHeartbeats 2000000 in
theorem vars_q (vs : Value) (l : List Nd) (fr : List Nat) (w : World) (B : Nat) (hBw : B ≤ w.heap.size) (hT : Tabs w) (hN : Nodes w B vs l) (h : begL l = some fr) (hch : ∀ s ∈ vsL l, (chk s).2 = 0) :
    Calls Tryd.prog 18 #[vs] w fun e w' => ∃ ao cap xs, e = .returned (.tuple #[.slice ao xs.length cap, .int .i64 0]) ∧ VrOf (vsL l) xs ∧ (xs.length ≤ 64 ∧ w'.ownsRow w.heap.size 9 1 (.slice ao xs.length cap) xs.length (xs.map Value.string)) ∧ Below w.heap.size w w' := by
  obtain ⟨i0, hi, hz0, hz1, hz2⟩ := info_parts Tryd.infoTxt
  have h64 := (snd_bounds h).1
  have hl0 := (begL_some h).1
  have HS : Hid (begL l = some fr) := h
  have HCH : Hid (∀ s ∈ vsL l, (chk s).2 = 0) := hch
  have HT : Hid (Tabs w) := hT
  clear h hch hT
  have hN0 := hN
  obtain ⟨ao, cap0, rfl, hl, hm, hc⟩ := hN
  unfold maxLen at hm
  obtain ⟨b, o, rfl, hbl, hc'⟩ : ∃ b o, ao = some ⟨b, o, none⟩ ∧ b < B ∧ ∀ i, i < l.length → ∃ kv, NodeAt w B b (o + i * 4) (l.getD i nd0) kv := by
    rcases hc with h | h
    · subst h; simp at hl0
    · exact h
  have HC : Hid (∀ i, i < l.length → ∃ kv, NodeAt w B b (o + i * 4) (l.getD i nd0) kv) := hc'
  clear hc hc'
  go_enter Tryd.func18, Tryd.ntmps18
  go_wp2_with (go_at_call 8; refine (check_some _ l fr _ B hBw HT.out.spans hN0 HS.out).mono ?_; rintro e w2 ⟨rfl, hb2⟩)
  have hz2' := hb2.size
  have HB2 : Hid (Below w.heap.size w w2) := hb2
  clear hb2 hN0
  go_loopw [4, 12] (fun v i wr => ∃ k : Nat, k ≤ l.length ∧ i = .int .i64 k ∧ VMid w2 v (vsL (l.take k)) wr) (fun _ i _ => l.length - (RowKit.intOf i).toNat)
  case atStart => exact ⟨0, by omega, rfl, by simpa [vsL] using World.ownsRow_nil _ _ _ _, Below.refl _ _⟩
  case round =>
    obtain ⟨k, hk, rfl, hM⟩ := hrel
    have hsz := hM.below.size
    obtain ⟨va, vc, hv⟩ := row_form' hM.row
    subst hv
    by_cases hlt : k < l.length
    · obtain ⟨kv, hNA⟩ := HC.out k hlt
      have hNA := hNA.below ((HB2.out.mono hBw).trans (hM.below.mono (by omega))) (Nat.le_refl _) hbl
      have HVS := vsL_succ l k hlt
      have hvl := vsL_le (l.take k)
      have hvl2 : (vsL (l.take k)).length ≤ 64 := by simp at hvl; omega
      clear hvl
      generalize l.getD k nd0 = x at *
      obtain ⟨op, n, nm, kids⟩ := x
      obtain ⟨c0, c1, c2, c3, hki⟩ := hNA
      simp only at c0 c1 c2 c3 HVS hki
      obtain ⟨ka, kc, rfl, _, _, _⟩ := hki
      generalize kids.length = kl at *
      generalize hq : vsL (l.take k) = qs at *
      clear hq
      have hb9 : b < wr.heap.size := by omega
      by_cases hop : op = 2
      · have HE : Hid (vsL (l.take (k + 1)) = qs ++ [nm]) := by rw [Hid, HVS, if_pos hop]
        clear HVS
        subst hop
        obtain ⟨m, hm9⟩ : ∃ m, qs.length = m := ⟨_, rfl⟩
        have hrow := hM.row
        have hBel := hM.below
        rw [hm9] at hrow hvl2
        have HM9 : Hid (qs.length = m) := hm9
        rw [HM9.out]
        clear hm9 hM
        go_wp2_with (at_builtin; refine wpList_append_lies _ rfl (.tmp 19) (.tmp 22) 33 rfl w2.heap.size 9 i0 (.string ⟨#[]⟩) 1 16 Tryd.underlying33 hi hz0 hz1 hz2 rfl (by decide) _ _ _ rfl ((hrow.alloc _).alloc _) ⟨wr.heap.size + 1, 0, none⟩ 1 1 [.string nm] rfl rfl (cell_news_two _ _ _ _) (by simp [Value.oneCell']) (by omega) (by unfold maxLen; omega) (by omega) (by simp; omega) _ rfl ?_; intro g6 cap6 w6 hown6 hg6 hat6 hl6)
        refine ⟨⟨k + 1, by omega, by go_num, ?_, ?_⟩, by simp [RowKit.intOf]; omega⟩
        · rw [HE.out]
          have e1 : (qs ++ [nm]).length = m + 1 := by simp [HM9.out]
          have e2 : (qs ++ [nm]).map Value.string = qs.map Value.string ++ [.string nm] := by simp
          rw [e1, e2]; exact hown6
        · exact ((hBel.alloc hsz _).alloc (by rw [World.size_alloc]; omega) _).grown hg6 (by rw [World.size_alloc, World.size_alloc]; omega) (fun j hj => (own_block' hrow j hj).1)
      · have HE : Hid (vsL (l.take (k + 1)) = qs) := by rw [Hid, HVS, if_neg hop, List.append_nil]
        clear HVS
        have hop' : (op == 2) = false := by simpa using hop
        have hrow := hM.row
        have hBel := hM.below
        clear hM
        go_wp2
        refine ⟨⟨k + 1, by omega, by go_num, ?_, ?_⟩, by simp [RowKit.intOf]; omega⟩
        · rw [HE.out]; exact hrow.alloc _
        · exact hBel.alloc hsz _
    · have hke : k = l.length := by omega
      subst hke
      have e : l.take l.length = l := List.take_length
      rw [e] at hM
      have hvl := vsL_le l
      have hrow := hM.row
      have hBel := hM.below
      rw [e]
      clear hM e
      go_wp2_with (first | (go_at_call 48; refine (sortNamesQ w2 wr w2.heap.size _ (vsL l) (HT.out.below HB2.out) hBel (Nat.le_refl _) HCH.out (by omega) hrow).mono ?_; rintro e w3 ⟨rfl, hb3, hcp⟩) | (go_at_call 50; refine hcp.mono ?_; rintro e w4 ⟨ao4, cap4, xs, rfl, hvr, hst, hb4⟩; have hst1 := hst.1))
      go_ret2
      exact ⟨ao4, cap4, xs, rfl, hvr, ⟨by omega, ownsRow_mono hst.2 hz2'⟩, HB2.out.trans ((hBel.trans hb4).mono hz2')⟩

end Go.Proofs.YtpacjofepiojdaaDoor

set_option linter.unusedSimpArgs false
set_option linter.unusedVariables false
namespace Go.Proofs.YtpacjofepiojdaaDoor
open Go.RowKit Go.Lib

/-- In the inner loop of behind: the new row, and the node's own block. -/
structure BhMid (wr : World) (op n by_ : Int) (nm : ByteArray) (ka : Option Addr) (kc : Nat) (kids : List Int) (k : Nat) (wq : World) : Prop where
  row : wq.rowIs (wr.heap.size + 1) 3 kids.length (fun j => .int .i64 (if j < k then kids.getD j 0 + by_ else 0))
  node : wq.heap[wr.heap.size]? = some (.cells #[.int .i64 op, .int .i64 n, .string nm, .slice ka kids.length kc] 63 (0, 0))
  below : Below wr.heap.size wr wq

theorem BhMid.set {wr : World} {op n by_ : Int} {nm : ByteArray} {ka : Option Addr} {kc : Nat} {kids : List Int} {k : Nat} {wq : World} (h : BhMid wr op n by_ nm ka kc kids k wq) (hk : k < kids.length) : BhMid wr op n by_ nm ka kc kids (k + 1) (wq.setCell ⟨wr.heap.size + 1, k, none⟩ (.int .i64 (kids.getD k 0 + by_))) := by
  refine ⟨(h.row.set k _).congr (fun j hj => ?_), (Deep.blk_setCell_other _ _ _ _ (by simp)).trans h.node, h.below.setCell (by simp) _⟩
  by_cases e : j = k
  · subst e
    rw [if_pos rfl, if_pos (by omega)]
  · rw [if_neg e]
    by_cases e2 : j < k
    · rw [if_pos e2, if_pos (by omega)]
    · rw [if_neg e2, if_neg (by omega)]

end Go.Proofs.YtpacjofepiojdaaDoor

set_option linter.unusedSimpArgs false
set_option linter.unusedVariables false
namespace Go.Proofs.YtpacjofepiojdaaDoor

end Go.Proofs.YtpacjofepiojdaaDoor

namespace Go.Proofs.YtpacjofepiojdaaDoor
open Go.RowKit Go.Lib

/-- A list that is answered: of the call's own, or the part that was handed in. -/
def PiR (w : World) (base : Nat) (vp : Value) (m : List Nd) (v : Value) (l : List Nd) : Prop := OwnN w base v l ∨ (v = vp ∧ l = m)
theorem PiR.below {w w' : World} {base : Nat} {vp v : Value} {m l : List Nd} (h : PiR w base vp m v l) (hb : Below w.heap.size w w') : PiR w' base vp m v l := h.imp (fun h => h.below hb) id
theorem OwnN.monoP {w : World} {base base' : Nat} {v : Value} {l : List Nd} (h : OwnN w base v l) (hb : base' ≤ base) : OwnN w base' v l := let ⟨p, h1, h2⟩ := h; ⟨p, h1, ownsRow_mono h2.row hb, fun q hq => ownsRow_mono (h2.kids q hq) hb⟩
theorem PiR.mono {w : World} {base base' : Nat} {vp v : Value} {m l : List Nd} (h : PiR w base vp m v l) (hb : base' ≤ base) : PiR w base' vp m v l := h.imp (fun h => h.monoP hb) id
theorem PiR.nodes {w : World} {base : Nat} {vp v : Value} {m l : List Nd} (h : PiR w base vp m v l) (hm : Nodes w w.heap.size vp m) : Nodes w w.heap.size v l := by
  rcases h with h | ⟨rfl, rfl⟩
  · exact Nodes_of_own h (Nat.le_refl _)
  · exact hm

/-- Lists of such lists; pvs: the slices. -/
structure OwnLv (w : World) (base : Nat) (vp : Value) (m : List Nd) (v : Value) (ps : List (List Nd)) (pvs : List Value) : Prop where
  len : pvs.length = ps.length
  row : w.ownsRow base 22 1 v ps.length pvs
  each : ∀ i, i < ps.length → PiR w base vp m (pvs.getD i (.slice none 0 0)) (ps.getD i [])

theorem OwnLv.below {w w' : World} {base : Nat} {vp v : Value} {m : List Nd} {ps : List (List Nd)} {pvs : List Value} (h : OwnLv w base vp m v ps pvs) (hb : Below w.heap.size w w') : OwnLv w' base vp m v ps pvs :=
  ⟨h.len, ownsRow_below h.row hb, fun i hi => (h.each i hi).below hb⟩
theorem OwnLv.snoc {w w1 : World} {base : Nat} {vp v v' : Value} {m : List Nd} {ps : List (List Nd)} {pvs : List Value} {l : List Nd} {pv : Value} (h : OwnLv w base vp m v ps pvs) (hl : PiR w base vp m pv l)
    (hown : w1.ownsRow base 22 1 v' (ps.length + 1) (pvs ++ [pv])) (hg : w.grownBy w1 v.ownBlock) : OwnLv w1 base vp m v' (ps ++ [l]) (pvs ++ [pv]) := by
  have hlen := h.len
  have hk : ∀ {v : Value} {l : List Nd}, PiR w base vp m v l → PiR w1 base vp m v l := fun hp => hp.imp (fun hp => hp.kept hg h.row (by decide) (by decide)) id
  refine ⟨by simp [hlen], by simpa using hown, fun i hi => ?_⟩
  by_cases hlt : i < ps.length
  · have e1 : (pvs ++ [pv]).getD i (.slice none 0 0) = pvs.getD i (.slice none 0 0) := by simp only [List.getD_eq_getElem?_getD]; rw [List.getElem?_append_left (by omega)]
    have e2 : (ps ++ [l]).getD i [] = ps.getD i [] := by simp only [List.getD_eq_getElem?_getD]; rw [List.getElem?_append_left (by omega)]
    rw [e1, e2]
    exact hk (h.each i hlt)
  · have he : i = ps.length := by simp at hi; omega
    have e1 : (pvs ++ [pv]).getD i (.slice none 0 0) = pv := by rw [he, ← hlen]; simp
    have e2 : (ps ++ [l]).getD i [] = l := by rw [he]; simp
    rw [e1, e2]
    exact hk hl

end Go.Proofs.YtpacjofepiojdaaDoor

set_option linter.unusedSimpArgs false
set_option linter.unusedVariables false
namespace Go.Proofs.YtpacjofepiojdaaDoor
open Go.RowKit Go.Lib

end Go.Proofs.YtpacjofepiojdaaDoor

namespace Go.Proofs.YtpacjofepiojdaaDoor
open Go.RowKit Go.Lib

theorem ndCells_setK (q : List (Nd × Value)) (i : Nat) (y : Nd) (kv : Value) (z : Nd) (h : q[i]? = some (y, kv)) (h1 : z.op = y.op) (h2 : z.n = y.n) (h3 : z.name = y.name) : ndCells (q.set i (z, kv)) = ndCells q := by
  induction q generalizing i with
  | nil => simp at h
  | cons a r ih =>
    obtain ⟨b, kb⟩ := a
    cases i with
    | zero =>
      simp at h
      obtain ⟨rfl, rfl⟩ := h
      simp [ndCells, h1, h2, h3]
    | succ i => simp [ndCells, ih i (by simpa using h)]
/-- One kid of one node is set. -/
theorem OwnP.setKid {w : World} {base : Nat} {x : Value} {q : List (Nd × Value)} (h : OwnP w base x q) (ha : KdAp q) {i j : Nat} {y : Nd} {g n cap : Nat} (hq : q[i]? = some (y, .slice (some ⟨g, 0, none⟩) n cap)) (hn : y.kids.length = n) (u : Int) :
    OwnP (w.setCell ⟨g, j, none⟩ (.int .i64 u)) base x (q.set i (⟨y.op, y.n, y.name, y.kids.set j u⟩, .slice (some ⟨g, 0, none⟩) n cap)) ∧ KdAp (q.set i (⟨y.op, y.n, y.name, y.kids.set j u⟩, .slice (some ⟨g, 0, none⟩) n cap)) := by
  have hm : (y, Value.slice (some ⟨g, 0, none⟩) n cap) ∈ q := List.mem_of_getElem? hq
  have hk := h.kids _ hm
  simp only at hk
  obtain ⟨hil, hqe⟩ := List.getElem?_eq_some_iff.1 hq
  have hp := List.pairwise_iff_getElem.1 ha
  have hoth : ∀ b, b ≠ g → (w.setCell ⟨g, j, none⟩ (.int .i64 u)).heap[b]? = w.heap[b]? := fun b hb => Deep.blk_setCell_other _ _ _ _ hb
  have hgt : ∃ cur, w.heap[g]? = some (.cells cur 3 (0, 0)) := by
    obtain ⟨_, _, _, cur, _, h3, _⟩ := rw_block hk (b := g) rfl
    exact ⟨cur, h3⟩
  obtain ⟨cur, hgc⟩ := hgt
  refine ⟨⟨?_, fun z hz => ?_⟩, ?_⟩
  · rw [ndCells_setK q i y _ ⟨y.op, y.n, y.name, y.kids.set j u⟩ hq rfl rfl rfl, List.length_set]
    exact rw_same h.row (fun b hb => hoth b (fun e => by
      subst e
      obtain ⟨_, _, _, cu, _, h3, _⟩ := rw_block h.row hb
      rw [h3] at hgc
      simp at hgc))
  · obtain ⟨k, hkl, rfl⟩ := List.mem_iff_getElem.1 hz
    have hkq : k < q.length := by rw [List.length_set] at hkl; exact hkl
    rw [List.getElem_set]
    split
    · rename_i hik
      simp only
      exact hk.putT hn j u
    · rename_i hik
      refine rw_same (h.kids _ (List.getElem_mem hkq)) (fun b hb => hoth b (fun e => ?_))
      subst e
      rcases Nat.lt_or_gt_of_ne hik with h1 | h1
      · exact hp i k hil hkq h1 b (by rw [hqe]; rfl) hb
      · exact hp k i hkq hil h1 b hb (by rw [hqe]; rfl)
  · unfold KdAp
    rw [List.pairwise_iff_getElem]
    intro a b hal hbl hab
    rw [List.length_set] at hal hbl
    rw [List.getElem_set, List.getElem_set]
    have h0 := hp a b hal hbl hab
    split
    · rename_i e1
      subst e1
      rw [if_neg (by omega)]
      rw [hqe] at h0
      exact h0
    · split
      · rename_i e1 e2
        subst e2
        rw [hqe] at h0
        exact h0
      · exact h0
/-- Kids of which the first k are moved down. -/
def dnK (a : Int) (ks : List Int) (k : Nat) : List Int := (ks.take k).map (fun q => q - a) ++ ks.drop k
theorem dnK_len (a : Int) (ks : List Int) (k : Nat) : (dnK a ks k).length = ks.length := by simp [dnK]; omega
theorem dnK_at (a : Int) (ks : List Int) {k : Nat} (hk : k < ks.length) : (dnK a ks k).getD k 0 = ks.getD k 0 := by
  unfold dnK
  rw [List.getD_eq_getElem?_getD, List.getElem?_append_right (by simp; omega), List.length_map, List.length_take, List.getElem?_drop]
  have : k + (k - min k ks.length) = k := by omega
  rw [this, List.getD_eq_getElem?_getD]
theorem dnK_set (a : Int) (ks : List Int) {k : Nat} (hk : k < ks.length) : (dnK a ks k).set k (ks.getD k 0 - a) = dnK a ks (k + 1) := by
  unfold dnK
  have e1 : ((ks.take k).map (fun q => q - a)).length = k := by simp; omega
  have e : (ks.drop k).set 0 (ks.getD k 0 - a) = (ks.getD k 0 - a) :: ks.drop (k + 1) := by rw [List.drop_eq_getElem_cons hk]; rfl
  rw [List.set_append_right _ _ (by omega), e1, Nat.sub_self, e, List.take_succ_eq_append_getElem hk, List.map_append]
  simp [hk]
/-- The nodes between two steps: i are moved, of the next one k kids. -/
def dnN (a : Int) (l : List Nd) (i k : Nat) : List Nd := (l.take i).map (mvN 0 (-a)) ++ (match l.drop i with | [] => [] | x :: r => ⟨x.op, x.n, x.name, dnK a x.kids k⟩ :: r)
theorem dnN_len (a : Int) (l : List Nd) (i k : Nat) (hi : i ≤ l.length) : (dnN a l i k).length = l.length := by
  unfold dnN
  cases h : l.drop i with
  | nil => have := congrArg List.length h; simp at this ⊢; omega
  | cons x r => have := congrArg List.length h; simp at this ⊢; omega
theorem dnN_split (a : Int) (l : List Nd) {i : Nat} (hi : i < l.length) (k : Nat) : dnN a l i k = (l.take i).map (mvN 0 (-a)) ++ ⟨(l.getD i nd0).op, (l.getD i nd0).n, (l.getD i nd0).name, dnK a (l.getD i nd0).kids k⟩ :: l.drop (i + 1) := by
  unfold dnN
  rw [List.drop_eq_getElem_cons hi]
  simp [hi]
theorem dnN_at (a : Int) (l : List Nd) {i : Nat} (hi : i < l.length) (k : Nat) : (dnN a l i k)[i]? = some ⟨(l.getD i nd0).op, (l.getD i nd0).n, (l.getD i nd0).name, dnK a (l.getD i nd0).kids k⟩ := by
  have e1 : ((l.take i).map (mvN 0 (-a))).length = i := by simp; omega
  rw [dnN_split a l hi, List.getElem?_append_right (by omega), e1, Nat.sub_self]
  rfl
theorem dnN_set (a : Int) (l : List Nd) {i : Nat} (hi : i < l.length) (k k' : Nat) : (dnN a l i k).set i ⟨(l.getD i nd0).op, (l.getD i nd0).n, (l.getD i nd0).name, dnK a (l.getD i nd0).kids k'⟩ = dnN a l i k' := by
  have e1 : ((l.take i).map (mvN 0 (-a))).length = i := by simp; omega
  rw [dnN_split a l hi, dnN_split a l hi, List.set_append_right _ _ (by omega), e1, Nat.sub_self]
  rfl
end Go.Proofs.YtpacjofepiojdaaDoor

set_option linter.unusedSimpArgs false
set_option linter.unusedVariables false
namespace Go.Proofs.YtpacjofepiojdaaDoor
open Go.RowKit Go.Lib

/-- Between two steps. -/
structure PoMid (w : World) (a : Int) (m : List Nd) (x : Value) (i k : Nat) (wr : World) : Prop where
  ex : ∃ q : List (Nd × Value), q.map (·.1) = dnN a m i k ∧ OwnP wr w.heap.size x q ∧ KdAp q
  below : Below w.heap.size w wr
theorem PoMid.drew {w wr : World} {a : Int} {m : List Nd} {x : Value} {i k : Nat} (h : PoMid w a m x i k wr) : PoMid w a m x i k wr.drew := by
  obtain ⟨q, hq1, hq2, hq3⟩ := h.ex
  exact ⟨⟨q, hq1, ⟨rw_same hq2.row (fun _ _ => rfl), fun y hy => rw_same (hq2.kids y hy) (fun _ _ => rfl)⟩, hq3⟩, h.below.trans ⟨rfl, rfl, rfl, Nat.le_refl _, fun _ _ => rfl⟩⟩
theorem PoMid.step {w wr : World} {a : Int} {m : List Nd} {x : Value} {i k : Nat} (h : PoMid w a m x i k wr) (hi : i < m.length) (hk : k < (m.getD i nd0).kids.length) {rb rc : Nat} (hx : x = .slice (some ⟨rb, 0, none⟩) m.length rc) :
    ∃ g cap, wr.cell? ⟨rb, i * 4 + 3, none⟩ = some (.slice (some ⟨g, 0, none⟩) (m.getD i nd0).kids.length cap) ∧ (m.getD i nd0).kids.length ≤ cap ∧ cap ≤ maxLen ∧ wr.cell? ⟨g, k, none⟩ = some (.int .i64 ((m.getD i nd0).kids.getD k 0)) ∧ wr.frozen? ⟨g, k, none⟩ = false ∧ g ≠ rb ∧
      PoMid w a m x i (k + 1) (wr.setCell ⟨g, k, none⟩ (.int .i64 ((m.getD i nd0).kids.getD k 0 - a))) := by
  obtain ⟨q, hq1, hq2, hq3⟩ := h.ex
  have hql : q.length = m.length := by
    have := congrArg List.length hq1
    rw [List.length_map, dnN_len _ _ _ _ (by omega)] at this
    exact this
  have hiq : i < q.length := by omega
  have hat : q[i].1 = ⟨(m.getD i nd0).op, (m.getD i nd0).n, (m.getD i nd0).name, dnK a (m.getD i nd0).kids k⟩ := by
    have h1 := dnN_at a m hi k
    rw [← hq1, List.getElem?_map, List.getElem?_eq_getElem hiq] at h1
    simpa using h1
  have hkd := hq2.kids _ (List.getElem_mem hiq)
  have hlk : q[i].1.kids.length = (m.getD i nd0).kids.length := by rw [hat]; exact dnK_len _ _ _
  obtain ⟨g, cap, hkv, hg1, hg2⟩ := rw_some (show wr.ownsRow w.heap.size 3 1 q[i].2 q[i].1.kids.length _ from hkd) (by omega)
  rw [hlk] at hkv
  have hqi : q[i]? = some (q[i].1, .slice (some ⟨g, 0, none⟩) (m.getD i nd0).kids.length cap) := by rw [List.getElem?_eq_getElem hiq, ← hkv]
  subst hx
  have hrow := hq2.row
  rw [hql] at hrow
  have hc3 : wr.cell? ⟨rb, i * 4 + 3, none⟩ = some (.slice (some ⟨g, 0, none⟩) (m.getD i nd0).kids.length cap) := by
    obtain ⟨_, _, _, a3⟩ := ndCells_at q i _ _ hqi
    obtain ⟨u, h1, h2⟩ := rw_cell hrow (i := i * 4 + 3) (by omega)
    rw [h1, ← h2, a3]
  rw [hkv] at hkd
  have hkc := hkd.cellT hlk (i := k) hk
  have hkf := hkd.frT hlk k
  have e4 : q[i].1.kids.getD k 0 = (m.getD i nd0).kids.getD k 0 := by rw [hat]; exact dnK_at a _ hk
  rw [e4] at hkc
  have hst := hq2.setKid hq3 (j := k) hqi hlk ((m.getD i nd0).kids.getD k 0 - a)
  have hcap : (m.getD i nd0).kids.length ≤ cap ∧ cap ≤ maxLen := by
    have h6 := hkd.2
    rcases h6 with ⟨h7, _⟩ | ⟨g', cap', cur, h7, _, _, h8, h9, _⟩
    · cases h7
    · injection h7 with _ _ h7c
      subst h7c
      rw [hlk] at h8; exact ⟨h8, h9⟩
  have hgr : g ≠ rb := fun e => by
    subst e
    obtain ⟨_, _, _, c1, _, h7, _⟩ := rw_block hkd (b := g) rfl
    obtain ⟨_, _, _, c2, _, h8, _⟩ := rw_block hrow (b := g) rfl
    rw [h7] at h8; simp at h8
  refine ⟨g, cap, hc3, hcap.1, hcap.2, hkc, hkf, hgr, ⟨⟨_, ?_, hst.1, hst.2⟩, h.below.setCell (p := ⟨g, k, none⟩) hg1 _⟩⟩
  rw [List.map_set, hq1, hat]
  simp only
  rw [dnK_set a _ hk]
  exact dnN_set a m hi k (k + 1)
end Go.Proofs.YtpacjofepiojdaaDoor

/-
  VrW, VrsW, EwNmP, FaHw.
-/
import Derived.Shelf.Unicode.DecodeSlow
import Derived.Laws.RangeAny
import Derived.Shelf.Small.Bits
import Derived.Shelf.Strconv.Itoa0
import Derived.Shelf.LaysM
import Derived.Shelf.Strconv.Clone
import Derived.Shelf.Unicode.DecodeAny
import Derived.Ground.SlsfProg
import Derived.Shelf.SlSortCmp.Insertion
import Derived.Shelf.SlSortCmp.SiftDown1
import Derived.Shelf.SlSortCmp.HeapSort1
import Derived.Shelf.SlSortCmp.Insertion1
import Derived.Shelf.SlSortCmp.Median1
import Derived.Shelf.SlSortCmp.Pivot1
import Derived.Shelf.SlSortCmp.ReverseRange1
import Derived.Shelf.SlSortCmp.PartitionEqual1
import Derived.Test.YtkbcgcempchoaaaDoorProg
import Derived.WalkKit
import Derived.Deep.DeepFit
import Derived.Lib.OthersKept
import Derived.Lib.RuneCountTail
import Derived.RowKit
import Derived.Laws.Entries
import Derived.Below
import Derived.Deep.AppendLies
import Derived.Deep.OwnRows
import Derived.Laws.AppendOwnNone
import Derived.Deep.QuietTactic
import Derived.BigQuiet
import Derived.Deep.RegionWith
import Derived.Laws.DeepStrings4
import Derived.RangeFuncNested
import Derived.RangeFuncBound
import Derived.RangeFuncCalls
import Derived.RangeFuncLeaves
import Derived.RangeFuncBox
import Derived.Shelf.Abstract
import Derived.Shelf.RegionOpen
import Derived.OwnWalkIn
import Derived.TacticsInMore
import Derived.LoopNIn
import Derived.LoopIn
import Derived.Lib.Strings
import Derived.Lib.QuietBelow
import Derived.StillTail
import Derived.Deep.RegionLaw
import Derived.RangeFuncOwn
import Derived.Laws.StructEq
import Derived.Shelf.Slices.CompactS
import Derived.Shelf.SlSortCmp.PartialInsertion1
import Derived.Shelf.SlSortCmp.Partition1
import Derived.Shelf.SlSortCmp.Pdq1
import Derived.Shelf.SlSortCmp.Whole1
import Derived.Lib.MapLaws
import Derived.Sort.Walk0
import Derived.Lib.SlicesCompact
import Derived.Sort.EncStr
import Derived.Calls
import Derived.RunT
import Derived.Deep.Draws
import Derived.Sort.OwnSorted
import Derived.Test.YtkbcgcempchoaaaDoorH01
import Derived.Test.YtkbcgcempchoaaaDoorH02
import Derived.Test.YtkbcgcempchoaaaDoorH03
import Derived.Test.YtkbcgcempchoaaaDoorH04
import Derived.Test.YtkbcgcempchoaaaDoorH06
import Derived.Test.YtkbcgcempchoaaaDoorH07
import Derived.Test.YtkbcgcempchoaaaDoorH08
import Derived.Test.YtkbcgcempchoaaaDoorH09
import Derived.Test.YtkbcgcempchoaaaDoorH10
import Derived.Test.YtkbcgcempchoaaaDoorH11
import Derived.Test.YtkbcgcempchoaaaDoorH12
import Derived.Test.YtkbcgcempchoaaaDoorH13
import Derived.Test.YtkbcgcempchoaaaDoorH14
import Derived.Test.YtkbcgcempchoaaaDoorH15
set_option linter.unusedSimpArgs false
set_option linter.unusedVariables false
namespace Go.Proofs.YtkbcgcempchoaaaDoor
open Go.RowKit Go.Lib

theorem Tryd.infoTxt : (Tryd.prog.info? 9).map (fun i => (i.zero, i.size, i.bytes)) = some (some (.string ⟨#[]⟩), 1, 16) := by kernel_rfl

/-! ### no names -/
set_option maxHeartbeats 2000000 in
theorem insert_nil (fv : Value) (w : World) :
    Calls Tryd.prog 101 #[.slice none 0 0, .int .i64 0, .int .i64 0, fv] w fun e w' => e = .returned (.tuple #[]) ∧ w' = w := by
  go_enter Tryd.func101, Tryd.ntmps101
  go_wp2
  refine wp_loop_rounds 1 ?_
  rw [rounds_succ]
  go_wp2
  go_end0
  exact ⟨rfl, rfl⟩
set_option maxHeartbeats 2000000 in
theorem pdq_nil (lim : Int) (fv : Value) (w : World) :
    Calls Tryd.prog 69 #[.slice none 0 0, .int .i64 0, .int .i64 0, .int .i64 lim, fv] w fun e w' => e = .returned (.tuple #[]) ∧ w' = w := by
  go_enter Tryd.func69, Tryd.ntmps69
  go_wp2
  refine wp_loop_rounds 1 ?_
  rw [rounds_succ]
  go_wp2_with (go_at_call 101; refine (insert_nil _ _).mono ?_; rintro e w' ⟨rfl, rfl⟩)
  (try simp only [Exit.inBlock, Exit.then]); refine bodyPost_ret (results_none rfl _ _ _) rfl ?_
  exact ⟨rfl, rfl⟩
set_option maxHeartbeats 2000000 in
theorem sort_nil (fv : Value) (w : World) :
    Calls Tryd.prog 47 #[.slice none 0 0, fv] w fun e w' => e = .returned (.tuple #[]) ∧ w' = w := by
  have hl : ∀ W, Calls Tryd.prog 70 #[.int .u64 0] W fun e w' => e = .returned (.int .i64 (Lib.bitLen 0 : Nat)) ∧ w' = W := fun W => Tryd.bits_Len 0 W (by omega) (by omega)
  go_enter Tryd.func47, Tryd.ntmps47
  go_wp2_with (first | (go_at_call 70; refine (hl _).mono ?_; rintro e w' ⟨rfl, rfl⟩) | (go_at_call 69; refine (pdq_nil _ _ _).mono ?_; rintro e w' ⟨rfl, rfl⟩))
  go_end0
  exact ⟨rfl, rfl⟩

/-! ### the sort, and Compact -/
theorem map_enc (ns : List ByteArray) : (ns.map bl).map encStr = ns.map Value.string := by
  rw [List.map_map]; apply List.map_congr_left; intro s _; exact encStr_bl s
theorem enters_order : ∀ args w, (callFunc 48 args).run Tryd.prog w = .ok (.enter 48 args) w := enters_of Tryd.func48 (by kernel_rfl) rfl

theorem sortNames (w0 w : World) (base : Nat) (v : Value) (ns : List ByteArray) (hT : Tabs w0) (hb0 : Below w0.heap.size w0 w) (hbase : w0.heap.size ≤ base) (hn : ∀ s ∈ ns, (chk s).2 = 0) (hsm : ns.length ≤ 64)
    (hown : w.ownsRow base 9 1 v ns.length (ns.map Value.string)) :
    Calls Tryd.prog 47 #[v, .func (.func 48) #[] #[]] w fun e w' => e = .returned (.tuple #[]) ∧ Below base w w' ∧
      Calls Tryd.prog 49 #[v] w' fun e w2 => ∃ ao cap vs, e = .returned (.slice ao vs.length cap) ∧ VrOf ns vs ∧ Strs w2 ao cap vs ∧ Below base w w2 := by
  rcases hown.2 with ⟨rfl, h0⟩ | ⟨g, cap, cur, rfl, hg, hb, h1, h2, h3, h4⟩
  · have : ns = [] := List.length_eq_zero_iff.1 h0
    subst this
    refine (sort_nil _ w).mono ?_
    rintro e w' ⟨rfl, rfl⟩
    refine ⟨rfl, Below.refl _ _, ?_⟩
    refine (Tryd.slices_Compact_string_empty none 0 w').mono ?_
    rintro e w2 ⟨rfl, rfl⟩
    exact ⟨none, 0, [], rfl, VrOf.nil, ⟨by simp, by simp, .inl rfl⟩, Below.refl _ _⟩
  · have hlt := lt_of_block hb
    have hH : Go.Sort.Holds encStr w g 0 (ns.map bl).toArray := holds_of_block hb (by rw [List.length_map, map_enc]; simpa using h4)
    have hbelow : ∀ (n : Nat) (d : Array (List UInt8)) (os : Array Obj), Below base w (Go.Sort.grow (Go.Sort.putRow encStr (Go.Sort.ahead w n) g 0 d) os) := fun n d os => by
      have hgr := grownBy_sorted (w := w) (g := g) (n := n) (os := os) d
      exact (Below.refl base w).grown hgr (by omega) (by intro k hk; cases hk; exact hg)
    have hcmp : CmpLays1 Tryd.prog 48 #[] encStr cfS g 0 (ns.map bl).toArray.size w := fun m os dk hs x y => by
      have hT' : Tabs (sortWorld encStr w g 0 m dk os) := hT.below (hb0.trans ((hbelow m dk os).mono hbase))
      exact calls_grown (order_any (ba x) (ba y) _ hT')
    have hsort := Tryd.slices_SortFunc encStr (fun _ => rfl) cfS cf_swo 48 #[] g 0 cap (ns.map bl).toArray w enters_order hcmp hH hlt (by simp; omega)
    have hsz : (ns.map bl).toArray.size = ns.length := by simp
    rw [hsz] at hsort
    refine hsort.mono ?_
    rintro e w' ⟨rfl, d, n, os, hp, hs, rfl⟩
    have hd : d.size = ns.length := by rw [hp.1]; simp
    refine ⟨rfl, hbelow n d os, ?_⟩
    have hb2 : (sortWorld encStr w g 0 n d os).heap[g]? = some (.cells (Go.Sort.putCells encStr 0 d cur) 9 (0, 0)) := heap_sorted d hb
    have hH2 : Go.Sort.Holds encStr (sortWorld encStr w g 0 n d os) g 0 d := by
      have := holds_of_block (ss := d.toList) hb2 (by
        have := take_putCells cur d.toList (by simp; omega)
        simpa using this)
      simpa using this
    have hcomp := Tryd.slices_Compact_string_arr g 0 cap d (sortWorld encStr w g 0 n d os) hH2 (by omega) (by omega)
    rw [hd] at hcomp
    refine hcomp.mono ?_
    rintro e w2 ⟨rfl, q, rfl⟩
    have hcl := compact_len d
    rw [hd] at hcl
    have hvr := sort_vr ns hn d (by simpa [hd] using hp) hs
    rw [hd] at hvr
    generalize hw1 : sortWorld encStr w g 0 n d os = w1 at *
    have hl1 := lt_of_block hb2
    generalize hcc : compactUpTo d ns.length = cc at *
    refine ⟨some ⟨g, 0, none⟩, cap, cc.map ba, by rw [List.length_map], hvr, ⟨by rw [List.length_map]; omega, h2, .inr ⟨g, 0, rfl, ?_, fun j hj => ?_⟩⟩, ?_⟩
    · simpa using hl1
    · rw [List.length_map] at hj
      have hc := Go.Sort.cell?_putRow encStr (Go.Sort.ahead w1 q) g 0 d (cc ++ List.replicate (ns.length - cc.length) []).toArray hH2 (by simp; omega) j (by simp; omega)
      rw [hc]
      have e1 : (cc ++ List.replicate (ns.length - cc.length) []).toArray[j]! = cc[j] := by
        rw [getElem!_pos _ j (by simp; omega)]
        simp [List.getElem_append_left hj]
      rw [e1]
      simp [ba, hj]
    · have hgr := grownBy_sorted (w := w1) (g := g) (n := q) (os := #[]) (cc ++ List.replicate (ns.length - cc.length) []).toArray
      rw [Go.Sort.grow_empty] at hgr
      have k1 := hbelow n d os
      rw [show Go.Sort.grow (Go.Sort.putRow encStr (Go.Sort.ahead w n) g 0 d) os = w1 from hw1] at k1
      exact k1.trans ((Below.refl base w1).grown hgr (by have := k1.size; omega) (by intro k hk; cases hk; exact hg))
end Go.Proofs.YtkbcgcempchoaaaDoor

set_option linter.unusedSimpArgs false
set_option linter.unusedVariables false
namespace Go.Proofs.YtkbcgcempchoaaaDoor
open Go.RowKit Go.Lib

theorem cell_news_two (w : World) (o : Obj) (v : Value) (t : TypeId) : ∀ j u, [v][j]? = some u → ((w.alloc o).alloc (.cells #[v] t)).cell? ((⟨w.heap.size + 1, 0, none⟩ : Addr).add j) = some u := by
  have h := cell_news_one (w.alloc o) v t
  rwa [World.size_alloc] at h

/-- The names so far. -/
structure VMid (w2 : World) (v : Value) (ns : List ByteArray) (wr : World) : Prop where
  row : wr.ownsRow w2.heap.size 9 1 v ns.length (ns.map Value.string)
  below : Below w2.heap.size w2 wr

set_option maxRecDepth 20000 in
set_option maxHeartbeats 2000000 in
theorem vars_some (vs : Value) (l : List Nd) (fr : List Nat) (w : World) (B : Nat) (hBw : B ≤ w.heap.size) (hT : Tabs w) (hN : Nodes w B vs l) (h : begL l = some fr) (hch : ∀ s ∈ vsL l, (chk s).2 = 0) :
    Calls Tryd.prog 19 #[vs] w fun e w' => ∃ ao cap xs, e = .returned (.tuple #[.slice ao xs.length cap, .int .i64 0]) ∧ VrOf (vsL l) xs ∧ Strs w' ao cap xs ∧ Below w.heap.size w w' := by
  obtain ⟨i0, hi, hz0, hz1, hz2⟩ := info_parts Tryd.infoTxt
  have h64 := (snd_bounds h).1
  have hl0 := (begL_some h).1
  have HS : Hid (begL l = some fr) := h
  have HCH : Hid (∀ s ∈ vsL l, (chk s).2 = 0) := hch
  have HT : Hid (Tabs w) := hT
  clear h hch hT
  have hN0 := hN
  obtain ⟨ao, cap0, rfl, hl, hm, hc⟩ := hN
  unfold maxLen at hm
  obtain ⟨b, o, rfl, hbl, hc'⟩ : ∃ b o, ao = some ⟨b, o, none⟩ ∧ b < B ∧ ∀ i, i < l.length → ∃ kv, NodeAt w B b (o + i * 4) (l.getD i nd0) kv := by
    rcases hc with h | h
    · subst h; simp at hl0
    · exact h
  have HC : Hid (∀ i, i < l.length → ∃ kv, NodeAt w B b (o + i * 4) (l.getD i nd0) kv) := hc'
  clear hc hc'
  go_enter Tryd.func19, Tryd.ntmps19
  go_wp2_with (go_at_call 9; refine (check_some _ l fr _ B hBw HT.out.spans hN0 HS.out).mono ?_; rintro e w2 ⟨rfl, hb2⟩)
  have hz2' := hb2.size
  have HB2 : Hid (Below w.heap.size w w2) := hb2
  clear hb2 hN0
  go_loopw [4, 12] (fun v i wr => ∃ k : Nat, k ≤ l.length ∧ i = .int .i64 k ∧ VMid w2 v (vsL (l.take k)) wr) (fun _ i _ => l.length - (RowKit.intOf i).toNat)
  case atStart => exact ⟨0, by omega, rfl, by simpa [vsL] using World.ownsRow_nil _ _ _ _, Below.refl _ _⟩
  case round =>
    obtain ⟨k, hk, rfl, hM⟩ := hrel
    have hsz := hM.below.size
    obtain ⟨va, vc, hv⟩ := row_form' hM.row
    subst hv
    by_cases hlt : k < l.length
    · obtain ⟨kv, hNA⟩ := HC.out k hlt
      have hNA := hNA.below ((HB2.out.mono hBw).trans (hM.below.mono (by omega))) (Nat.le_refl _) hbl
      have HVS := vsL_succ l k hlt
      have hvl := vsL_le (l.take k)
      have hvl2 : (vsL (l.take k)).length ≤ 64 := by simp at hvl; omega
      clear hvl
      generalize l.getD k nd0 = x at *
      obtain ⟨op, n, nm, kids⟩ := x
      obtain ⟨c0, c1, c2, c3, hki⟩ := hNA
      simp only at c0 c1 c2 c3 HVS hki
      obtain ⟨ka, kc, rfl, _, _, _⟩ := hki
      generalize kids.length = kl at *
      generalize hq : vsL (l.take k) = qs at *
      clear hq
      have hb9 : b < wr.heap.size := by omega
      by_cases hop : op = 2
      · have HE : Hid (vsL (l.take (k + 1)) = qs ++ [nm]) := by rw [Hid, HVS, if_pos hop]
        clear HVS
        subst hop
        obtain ⟨m, hm9⟩ : ∃ m, qs.length = m := ⟨_, rfl⟩
        have hrow := hM.row
        have hBel := hM.below
        rw [hm9] at hrow hvl2
        have HM9 : Hid (qs.length = m) := hm9
        rw [HM9.out]
        clear hm9 hM
        go_wp2_with (at_builtin; refine wpList_append_lies _ rfl (.tmp 19) (.tmp 22) 33 rfl w2.heap.size 9 i0 (.string ⟨#[]⟩) 1 16 Tryd.underlying33 hi hz0 hz1 hz2 rfl (by decide) _ _ _ rfl ((hrow.alloc _).alloc _) ⟨wr.heap.size + 1, 0, none⟩ 1 1 [.string nm] rfl rfl (cell_news_two _ _ _ _) (by simp [Value.oneCell']) (by omega) (by unfold maxLen; omega) (by omega) (by simp; omega) _ rfl ?_; intro g6 cap6 w6 hown6 hg6 hat6 hl6)
        refine ⟨⟨k + 1, by omega, by go_num, ?_, ?_⟩, by simp [RowKit.intOf]; omega⟩
        · rw [HE.out]
          have e1 : (qs ++ [nm]).length = m + 1 := by simp [HM9.out]
          have e2 : (qs ++ [nm]).map Value.string = qs.map Value.string ++ [.string nm] := by simp
          rw [e1, e2]; exact hown6
        · exact ((hBel.alloc hsz _).alloc (by rw [World.size_alloc]; omega) _).grown hg6 (by rw [World.size_alloc, World.size_alloc]; omega) (fun j hj => (own_block' hrow j hj).1)
      · have HE : Hid (vsL (l.take (k + 1)) = qs) := by rw [Hid, HVS, if_neg hop, List.append_nil]
        clear HVS
        have hop' : (op == 2) = false := by simpa using hop
        have hrow := hM.row
        have hBel := hM.below
        clear hM
        go_wp2
        refine ⟨⟨k + 1, by omega, by go_num, ?_, ?_⟩, by simp [RowKit.intOf]; omega⟩
        · rw [HE.out]; exact hrow.alloc _
        · exact hBel.alloc hsz _
    · have hke : k = l.length := by omega
      subst hke
      have e : l.take l.length = l := List.take_length
      rw [e] at hM
      have hvl := vsL_le l
      have hrow := hM.row
      have hBel := hM.below
      rw [e]
      clear hM e
      go_wp2_with (first | (go_at_call 47; refine (sortNames w2 wr w2.heap.size _ (vsL l) (HT.out.below HB2.out) hBel (Nat.le_refl _) HCH.out (by omega) hrow).mono ?_; rintro e w3 ⟨rfl, hb3, hcp⟩) | (go_at_call 49; refine hcp.mono ?_; rintro e w4 ⟨ao4, cap4, xs, rfl, hvr, hst, hb4⟩))
      go_ret2
      exact ⟨ao4, cap4, xs, rfl, hvr, hst, HB2.out.trans ((hBel.trans hb4).mono hz2')⟩

end Go.Proofs.YtkbcgcempchoaaaDoor

set_option linter.unusedSimpArgs false
set_option linter.unusedVariables false
namespace Go.Proofs.YtkbcgcempchoaaaDoor

theorem snd_chkW {l : List Nd} {fr : List Nat} (hb : begL l = some fr) : ∀ s ∈ vsL l, (chk s).2 = 0 := by
  obtain ⟨h0, _, hr, _⟩ := begL_some hb
  have hok := begOk_of hr
  intro s hs
  obtain ⟨x, hx, rfl⟩ := List.mem_map.1 hs
  rw [List.mem_filter] at hx
  obtain ⟨j, hj, e⟩ := List.mem_iff_getElem.1 hx.1
  have hf := (hok.at_ j hj).1
  have ej : l.getD j nd0 = x := by simp [hj, e]
  rw [ej] at hf
  exact (form_name hf).1
end Go.Proofs.YtkbcgcempchoaaaDoor

set_option linter.unusedSimpArgs false
set_option linter.unusedVariables false
namespace Go.Proofs.YtkbcgcempchoaaaDoor
open Go.RowKit Go.Lib Go.Sort

/-- What FactsHold finds. -/
structure FhIn (w : World) (ao : Option Addr) (cap : Nat) (l : List Nd) (eo : Option Addr) (ec : Nat) (bs : List Bd) : Prop where
  T : Tabs w
  E : EvIn w ao cap l eo ec bs
theorem FhIn.below {w w' : World} {ao : Option Addr} {cap : Nat} {l : List Nd} {eo : Option Addr} {ec : Nat} {bs : List Bd} (h : FhIn w ao cap l eo ec bs) (hb : Below w.heap.size w w') : FhIn w' ao cap l eo ec bs :=
  ⟨h.T.below hb, h.E.below hb⟩

set_option maxRecDepth 20000 in
set_option maxHeartbeats 4000000 in
theorem factsHold.bad (w : World) (ao : Option Addr) (cap : Nat) (l : List Nd) (eo : Option Addr) (ec : Nat) (bs : List Bd) (h : FhIn w ao cap l eo ec bs) (hF : Fit l) (hbg : begL l = none) :
    Calls Tryd.prog 5 #[.slice ao l.length cap, .slice eo bs.length ec] w fun e w' => e = .returned (.bool true) ∧ Below w.heap.size w w' := by
  obtain ⟨i0, hi, hz0, hz1, hz2⟩ := info_parts Tryd.infoBind
  have HH : Hid (FhIn w ao cap l eo ec bs) := h
  have HBG : Hid (begL l = none) := hbg
  have hA : evA bs l = (0, 1) := by unfold evA; rw [sndW_none hbg]; rfl
  have cE : Hid (∀ V a c a' c', Below w.heap.size w V → Rd V a c l → Bds V a' c' bs → Calls Tryd.prog 23 #[.slice a l.length c, .slice a' bs.length c'] V fun e w' => e = .returned (.tuple #[.int .i64 0, .int .i64 1]) ∧ Below V.heap.size V w') := fun V a c a' c' hV hR hB => by
    have := eval_any (l := l) (bs := bs) ⟨(h.below hV).E.T, (h.below hV).E.G, hR, hB, h.E.reach⟩
    rw [hA] at this; exact this
  obtain ⟨⟨hbl, hbm, hbn⟩, _⟩ := id h.E.B
  have hre := h.E.reach
  have HN : Hid (eo = none → bs.length = 0 ∧ ec = 0) := fun h => by have := hbn h; omega
  have HL : Hid ((bdCells bs).length = bs.length * 2) := bdCells_length bs
  have hq := eql_fact1 false false 0
  clear h hA hbg hbn
  go_enter Tryd.func5, Tryd.ntmps5
  go_wp2_with fail
  refine (awake13_any w HH.out.E.T HH.out.E.G).mono ?_
  rintro e w1 ⟨rfl, hb1⟩
  have B1 : Hid (Below w.heap.size w w1) := hb1
  clear hb1
  go_wp2_with fail
  refine (copyR (HH.out.below B1.out).E.R hF).mono ?_
  rintro e w2 ⟨a2, c2, rfl, hRx, hbx⟩
  have B2 : Hid (Below w.heap.size w w2) := B1.out.trans (hbx.mono B1.out.size)
  have R2 : Hid (Rd w2 a2 c2 l) := hRx
  clear hRx hbx B1
  go_wp2_with fail
  refine (ofF_none (HH.out.below B2.out).E.T R2.out HBG.out).mono ?_
  rintro e w3 ⟨rfl, hbx⟩
  have B3 : Hid (Below w.heap.size w w3) := B2.out.trans (hbx.mono B2.out.size)
  obtain ⟨w4, hw4⟩ : ∃ w4, w3.alloc (.cells #[.bool false, .bool false, .int .i64 0] 45) = w4 := ⟨_, rfl⟩
  have hn4 : w4.heap[w3.heap.size]? = some (.cells #[.bool false, .bool false, .int .i64 0] 45 (0, 0)) := by rw [← hw4, Deep.blk_alloc_new]
  have HN4 := Sld.mk hn4
  have B4 : Hid (Below w.heap.size w w4) := by rw [Hid, ← hw4]; exact B3.out.alloc B3.out.size _
  have HW4 := Sld.mk hw4
  clear hbx B2 R2 hn4 hw4
  go_wp2_with fail
  try rw [HW4.out]
  refine (copyR (HH.out.below B4.out).E.R hF).mono ?_
  rintro e w5 ⟨a5, c5, rfl, hRx, hbx⟩
  have B5 : Hid (Below w4.heap.size w4 w5) := hbx
  have BW5 : Hid (Below w.heap.size w w5) := B4.out.trans (hbx.mono B4.out.size)
  have R5 : Hid (Rd w5 a5 c5 l) := hRx
  have hBin := (HH.out.below BW5.out).E.B
  have HS : Hid (∀ ad, eo = some ad → ∀ j u, (bdCells bs)[j]? = some u → (w5.alloc (.cells #[] 163)).cell? (ad.add j) = some u) := (hBin.below ((Below.refl w5.heap.size w5).alloc (Nat.le_refl _) _)).src
  have HO : Hid ((w5.alloc (.cells #[] 163)).ownsRow w5.heap.size 163 2 (.slice (some ⟨w5.heap.size, 0, none⟩) 0 0) 0 []) := World.ownsRow_made w5 #[] 0 (Nat.le_refl _) (Nat.zero_le _) (by simp)
  clear hRx hbx hBin
  go_wp2_with (at_builtin; refine append_srcE _ rfl _ _ 38 rfl w5.heap.size 163 i0 (.agg #[.string ⟨#[]⟩, .int .i64 0]) 2 24 Tryd.underlying38 hi hz0 hz1 hz2 rfl (by decide) _ _ _ rfl HO.out eo bs.length ec (bdCells bs) rfl HN.out HL.out HS.out (bdCells_one bs) (by omega) (by omega) (by simp) ?_; intro v6 w6 hown hgrow; have hb6 : Below w5.heap.size w5 w6 := ((Below.refl w5.heap.size w5).alloc (Nat.le_refl _) _).grown hgrow (by simp) (fun k hk => by have e : some w5.heap.size = some k := hk; cases e; exact Nat.le_refl _); have hO6 : OwnB w6 w5.heap.size v6 bs := (by show World.ownsRow _ _ _ _ _ _ _; simpa using hown); obtain ⟨a6, c6, rfl, hB6, _⟩ := hO6.read; have B6 : Hid (Below w4.heap.size w4 w6) := B5.out.trans (hb6.mono B5.out.size); have BW6 : Hid (Below w.heap.size w w6) := BW5.out.trans (hb6.mono BW5.out.size); have R6 : Hid (Rd w6 a5 c5 l) := R5.out.below hb6 hb6.size; have Q6 : Hid (Bds w6 a6 c6 bs) := hB6; clear hown hgrow hb6 hO6 hB6 HS HO)
  refine (cE.out w6 a5 c5 a6 c6 BW6.out R6.out Q6.out).mono ?_
  rintro e w7 ⟨rfl, hbx⟩
  have B7 : Hid (Below w4.heap.size w4 w7) := B6.out.trans (hbx.mono B6.out.size)
  have BW7 : Hid (Below w.heap.size w w7) := BW6.out.trans (hbx.mono BW6.out.size)
  clear hbx B6 BW6 R6 Q6 cE
  go_wp2_with fail
  refine (copyR (HH.out.below BW7.out).E.R hF).mono ?_
  rintro e w8 ⟨a8, c8, rfl, hRx, hbx⟩
  have B8 : Hid (Below w4.heap.size w4 w8) := B7.out.trans (hbx.mono B7.out.size)
  have BW8 : Hid (Below w.heap.size w w8) := BW7.out.trans (hbx.mono BW7.out.size)
  have R8 : Hid (Rd w8 a8 c8 l) := hRx
  clear hRx hbx B7 BW7
  go_wp2_with fail
  refine (check_none _ l _ _ (Nat.le_refl _) (HH.out.below BW8.out).E.T R8.out HBG.out).mono ?_
  rintro e w9 ⟨rfl, hbx⟩
  have B9 : Hid (Below w4.heap.size w4 w9) := B8.out.trans (hbx.mono B8.out.size)
  have BW9 : Hid (Below w.heap.size w w9) := BW8.out.trans (hbx.mono BW8.out.size)
  obtain ⟨x0, x1, x2, _⟩ := blk3 ((B9.out.block _ (lt_of_block HN4.out)).trans HN4.out)
  clear hbx B8 BW8 R8
  go_wp2_with fail
  go_ret
  exact ⟨rfl, BW9.out⟩

set_option maxRecDepth 20000 in
set_option maxHeartbeats 8000000 in
theorem factsHold.good (w : World) (ao : Option Addr) (cap : Nat) (l : List Nd) (eo : Option Addr) (ec : Nat) (bs : List Bd) (h : FhIn w ao cap l eo ec bs) (hF : Fit l) (fr : List Nat) (hbg : begL l = some fr) :
    Calls Tryd.prog 5 #[.slice ao l.length cap, .slice eo bs.length ec] w fun e w' => e = .returned (.bool true) ∧ Below w.heap.size w w' := by
  obtain ⟨i0, hi, hz0, hz1, hz2⟩ := info_parts Tryd.infoBind
  have HH : Hid (FhIn w ao cap l eo ec bs) := h
  have HBG : Hid (begL l = some fr) := hbg
  have hl0 := (begL_some hbg).1
  have hbo := begOk_of (begL_some hbg).2.2.1
  have HCH : Hid (∀ s ∈ vsL l, (chk s).2 = 0) := snd_chkW hbg
  have hhold := fA_holds hbo bs (l.length - 1) (by omega)
  have hclosed : vsL l = [] → vA bs l (l.length - 1) ≠ none → (fA l (l.length - 1)).c = true := fun hv => fA_closed hbo bs (fun x hx ho => by
    have : x.name ∈ vsL l := List.mem_map.2 ⟨x, List.mem_filter.2 ⟨hx, by simpa using ho⟩, rfl⟩
    rw [hv] at this; cases this) (l.length - 1) (by omega)
  have hA : evA bs l = match vA bs l (l.length - 1) with | some v => (v, 0) | none => (0, 12) := by unfold evA; rw [sndW_some hbg]; rfl
  have cE : Hid (∀ V a c a' c', Below w.heap.size w V → Rd V a c l → Bds V a' c' bs → Calls Tryd.prog 23 #[.slice a l.length c, .slice a' bs.length c'] V fun e w' => e = .returned (.tuple #[.int .i64 (evA bs l).1, .int .i64 (evA bs l).2]) ∧ Below V.heap.size V w') := fun V a c a' c' hV hR hB => eval_any (l := l) (bs := bs) ⟨(h.below hV).E.T, (h.below hV).E.G, hR, hB, h.E.reach⟩
  have cO : Hid (∀ V a c, Below w.heap.size w V → Rd V a c l → Calls Tryd.prog 29 #[.slice a l.length c] V fun e w' => e = .returned (.tuple #[.agg #[.bool (fA l (l.length - 1)).t, .bool (fA l (l.length - 1)).c, .int .i64 (fA l (l.length - 1)).n], .int .i64 0]) ∧ Below V.heap.size V w') := fun V a c hV hR => ofF_some (h.below hV).E.T (h.below hV).E.G hR hbg
  rw [hA] at cE
  clear hA
  generalize fA l (l.length - 1) = F at *
  generalize vA bs l (l.length - 1) = VV at *
  obtain ⟨ft, fc, fn⟩ := F
  simp only at hhold hclosed cO
  obtain ⟨⟨hbl, hbm, hbn⟩, _⟩ := id h.E.B
  have hre := h.E.reach
  have HN : Hid (eo = none → bs.length = 0 ∧ ec = 0) := fun h => by have := hbn h; omega
  have HL : Hid ((bdCells bs).length = bs.length * 2) := bdCells_length bs
  obtain ⟨⟨ev, eg⟩, hE⟩ : ∃ E, (match VV with | some v => (v, (0 : Int)) | none => (0, 12)) = E := ⟨_, rfl⟩
  rw [hE] at cE
  simp only at cE
  have CS : Sld (∀ xs : List ByteArray, VrOf (vsL l) xs → (fc = true ∧ ft = true ∧ fn = ev ∧ eg = 0) ∨ (fc = false ∧ fn = 0 ∧ eg = 0 ∧ 0 < xs.length) ∨ (fc = false ∧ fn = 0 ∧ eg = 12 ∧ ft = false)) := ⟨fun xs hx => by
    obtain ⟨q1, q2, q3, q4⟩ := hhold
    cases VV with
    | none =>
      obtain ⟨rfl, rfl⟩ := Prod.mk.inj hE
      have hc : fc = false := by cases fc <;> simp_all
      have ht : ft = false := by cases ft <;> simp_all
      exact .inr (.inr ⟨hc, q4 hc, rfl, ht⟩)
    | some v =>
      obtain ⟨rfl, rfl⟩ := Prod.mk.inj hE
      cases hc : fc with
      | true =>
        have := q1 hc
        injection this with this
        exact .inl ⟨rfl, q3 hc, this.symm, rfl⟩
      | false =>
        refine .inr (.inl ⟨rfl, q4 hc, rfl, ?_⟩)
        rcases Nat.eq_zero_or_pos xs.length with h0 | h0
        · have hv : vsL l = [] := by
            have hx0 : xs = [] := List.length_eq_zero_iff.1 h0
            subst hx0
            exact List.eq_nil_iff_forall_not_mem.2 fun s hs => by have := (hx.mem s).2 hs; cases this
          have := hclosed hv (by simp)
          rw [hc] at this; cases this
        · exact h0⟩
  clear h hbg hbn hE hhold hclosed hbo
  go_enter Tryd.func5, Tryd.ntmps5
  go_wp2_with fail
  refine (awake13_any w HH.out.E.T HH.out.E.G).mono ?_
  rintro e w1 ⟨rfl, hb1⟩
  have B1 : Hid (Below w.heap.size w w1) := hb1
  clear hb1
  go_wp2_with fail
  refine (copyR (HH.out.below B1.out).E.R hF).mono ?_
  rintro e w2 ⟨a2, c2, rfl, hRx, hbx⟩
  have B2 : Hid (Below w.heap.size w w2) := B1.out.trans (hbx.mono B1.out.size)
  have R2 : Hid (Rd w2 a2 c2 l) := hRx
  clear hRx hbx B1
  go_wp2_with fail
  refine (cO.out w2 a2 c2 B2.out R2.out).mono ?_
  rintro e w3 ⟨rfl, hbx⟩
  have B3 : Hid (Below w.heap.size w w3) := B2.out.trans (hbx.mono B2.out.size)
  obtain ⟨w4, hw4⟩ : ∃ w4, w3.alloc (.cells #[.bool ft, .bool fc, .int .i64 fn] 45) = w4 := ⟨_, rfl⟩
  have hn4 : w4.heap[w3.heap.size]? = some (.cells #[.bool ft, .bool fc, .int .i64 fn] 45 (0, 0)) := by rw [← hw4, Deep.blk_alloc_new]
  have HN4 := Sld.mk hn4
  have B4 : Hid (Below w.heap.size w w4) := by rw [Hid, ← hw4]; exact B3.out.alloc B3.out.size _
  have HW4 := Sld.mk hw4
  clear hbx B2 R2 hn4 cO hw4
  go_wp2_with fail
  try rw [HW4.out]
  refine (copyR (HH.out.below B4.out).E.R hF).mono ?_
  rintro e w5 ⟨a5, c5, rfl, hRx, hbx⟩
  have B5 : Hid (Below w4.heap.size w4 w5) := hbx
  have BW5 : Hid (Below w.heap.size w w5) := B4.out.trans (hbx.mono B4.out.size)
  have R5 : Hid (Rd w5 a5 c5 l) := hRx
  have hBin := (HH.out.below BW5.out).E.B
  have HS : Hid (∀ ad, eo = some ad → ∀ j u, (bdCells bs)[j]? = some u → (w5.alloc (.cells #[] 163)).cell? (ad.add j) = some u) := (hBin.below ((Below.refl w5.heap.size w5).alloc (Nat.le_refl _) _)).src
  have HO : Hid ((w5.alloc (.cells #[] 163)).ownsRow w5.heap.size 163 2 (.slice (some ⟨w5.heap.size, 0, none⟩) 0 0) 0 []) := World.ownsRow_made w5 #[] 0 (Nat.le_refl _) (Nat.zero_le _) (by simp)
  clear hRx hbx hBin
  go_wp2_with (at_builtin; refine append_srcE _ rfl _ _ 38 rfl w5.heap.size 163 i0 (.agg #[.string ⟨#[]⟩, .int .i64 0]) 2 24 Tryd.underlying38 hi hz0 hz1 hz2 rfl (by decide) _ _ _ rfl HO.out eo bs.length ec (bdCells bs) rfl HN.out HL.out HS.out (bdCells_one bs) (by omega) (by omega) (by simp) ?_; intro v6 w6 hown hgrow; have hb6 : Below w5.heap.size w5 w6 := ((Below.refl w5.heap.size w5).alloc (Nat.le_refl _) _).grown hgrow (by simp) (fun k hk => by have e : some w5.heap.size = some k := hk; cases e; exact Nat.le_refl _); have hO6 : OwnB w6 w5.heap.size v6 bs := (by show World.ownsRow _ _ _ _ _ _ _; simpa using hown); obtain ⟨a6, c6, rfl, hB6, _⟩ := hO6.read; have B6 : Hid (Below w4.heap.size w4 w6) := B5.out.trans (hb6.mono B5.out.size); have BW6 : Hid (Below w.heap.size w w6) := BW5.out.trans (hb6.mono BW5.out.size); have R6 : Hid (Rd w6 a5 c5 l) := R5.out.below hb6 hb6.size; have Q6 : Hid (Bds w6 a6 c6 bs) := hB6; clear hown hgrow hb6 hO6 hB6 HS HO)
  refine (cE.out w6 a5 c5 a6 c6 BW6.out R6.out Q6.out).mono ?_
  rintro e w7 ⟨rfl, hbx⟩
  have B7 : Hid (Below w4.heap.size w4 w7) := B6.out.trans (hbx.mono B6.out.size)
  have BW7 : Hid (Below w.heap.size w w7) := BW6.out.trans (hbx.mono BW6.out.size)
  clear hbx B6 BW6 R6 Q6 cE
  go_wp2_with fail
  refine (copyR (HH.out.below BW7.out).E.R hF).mono ?_
  rintro e w8 ⟨a8, c8, rfl, hRx, hbx⟩
  have B8 : Hid (Below w4.heap.size w4 w8) := B7.out.trans (hbx.mono B7.out.size)
  have BW8 : Hid (Below w.heap.size w w8) := BW7.out.trans (hbx.mono BW7.out.size)
  have R8 : Hid (Rd w8 a8 c8 l) := hRx
  clear hRx hbx B7 BW7
  go_wp2_with fail
  refine (check_some _ l fr _ _ (Nat.le_refl _) (HH.out.below BW8.out).E.T R8.out HBG.out).mono ?_
  rintro e w9 ⟨rfl, hbx⟩
  have B9 : Hid (Below w4.heap.size w4 w9) := B8.out.trans (hbx.mono B8.out.size)
  have BW9 : Hid (Below w.heap.size w w9) := BW8.out.trans (hbx.mono BW8.out.size)
  clear hbx B8 BW8 R8
  go_wp2_with fail
  refine (copyR (HH.out.below BW9.out).E.R hF).mono ?_
  rintro e w10 ⟨a10, c10, rfl, hRx, hbx⟩
  have B10 : Hid (Below w4.heap.size w4 w10) := B9.out.trans (hbx.mono B9.out.size)
  have BW10 : Hid (Below w.heap.size w w10) := BW9.out.trans (hbx.mono BW9.out.size)
  have R10 : Hid (Rd w10 a10 c10 l) := hRx
  clear hRx hbx B9 BW9
  go_wp2_with fail
  refine (vars_some _ l fr _ _ (Nat.le_refl _) (HH.out.below BW10.out).T R10.out HBG.out HCH.out).mono ?_
  rintro e w11 ⟨a11, c11, xs, rfl, hVr, _, hbx⟩
  have B11 : Hid (Below w4.heap.size w4 w11) := B10.out.trans (hbx.mono B10.out.size)
  have BW11 : Hid (Below w.heap.size w w11) := BW10.out.trans (hbx.mono BW10.out.size)
  obtain ⟨x0, x1, x2, _⟩ := blk3 ((B11.out.block _ (lt_of_block HN4.out)).trans HN4.out)
  have hcs := CS.out xs hVr
  clear hbx B10 BW10 R10 CS hVr
  rcases hcs with ⟨rfl, rfl, rfl, rfl⟩ | ⟨rfl, rfl, rfl, hpos⟩ | ⟨rfl, rfl, rfl, rfl⟩
  · by_cases hx0 : 0 < xs.length
    · have hxI : (0 : Int) < (xs.length : Int) := by omega
      go_wp2_with fail
      go_ret
      exact ⟨rfl, BW11.out⟩
    · have hxI : ¬ (0 : Int) < (xs.length : Int) := by omega
      go_wp2_with fail
      go_ret
      exact ⟨rfl, BW11.out⟩
  · have hxI : (0 : Int) < (xs.length : Int) := by omega
    cases ft
    all_goals
      go_wp2_with fail
      go_ret
      exact ⟨rfl, BW11.out⟩
  · by_cases hx0 : 0 < xs.length
    · have hxI : (0 : Int) < (xs.length : Int) := by omega
      go_wp2_with fail
      go_ret
      exact ⟨rfl, BW11.out⟩
    · have hxI : ¬ (0 : Int) < (xs.length : Int) := by omega
      go_wp2_with fail
      go_ret
      exact ⟨rfl, BW11.out⟩

theorem factsHold_walk (w : World) (ao : Option Addr) (cap : Nat) (l : List Nd) (eo : Option Addr) (ec : Nat) (bs : List Bd) (h : FhIn w ao cap l eo ec bs) (hF : Fit l) :
    Calls Tryd.prog 5 #[.slice ao l.length cap, .slice eo bs.length ec] w fun e w' => e = .returned (.bool true) ∧ Below w.heap.size w w' := by
  cases hb : begL l with
  | none => exact factsHold.bad w ao cap l eo ec bs h hF hb
  | some fr => exact factsHold.good w ao cap l eo ec bs h hF fr hb
end Go.Proofs.YtkbcgcempchoaaaDoor

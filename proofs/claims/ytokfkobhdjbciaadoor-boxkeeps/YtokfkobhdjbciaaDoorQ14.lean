/-
  BxAddW.
-/
import Derived.Shelf.Unicode.DecodeSlow
import Derived.Laws.RangeAny
import Derived.Shelf.Small.Bits
import Derived.Shelf.Strconv.Itoa0
import Derived.Shelf.Unicode.Decode
import Derived.Shelf.Unicode.DecodeAny
import Derived.Shelf.Slices.CompactS
import Derived.Shelf.Slices.Cells
import Derived.Ground.SlsfProg
import Derived.Shelf.SlSortCmp.Insertion
import Derived.Shelf.SlSortCmp.SiftDown1
import Derived.Shelf.SlSortCmp.HeapSort1
import Derived.Shelf.SlSortCmp.Insertion1
import Derived.Shelf.SlSortCmp.Median1
import Derived.Shelf.SlSortCmp.Pivot1
import Derived.Shelf.SlSortCmp.ReverseRange1
import Derived.Shelf.SlSortCmp.PartialInsertion1
import Derived.Shelf.SlSortCmp.PartitionEqual1
import Derived.Shelf.SlSortCmp.Partition1
import Derived.Shelf.SlSortCmp.Pdq1
import Derived.Shelf.SlSortCmp.Whole1
import Derived.Test.YtokfkobhdjbciaaDoorProg
import Derived.WalkKit
import Derived.Deep.DeepFit
import Derived.Lib.OthersKept
import Derived.Lib.RuneCountTail
import Derived.Deep.AppendLies
import Derived.Deep.OwnRows
import Derived.Laws.AppendOwnNone
import Derived.Deep.QuietTactic
import Derived.BigQuiet
import Derived.Deep.RegionWith
import Derived.Laws.DeepStrings4
import Derived.Below
import Derived.Test.YtokfkobhdjbciaaDoorChecked
import Derived.Defers
import Derived.Lib.QuietBelow
import Derived.StillTail
import Derived.Deep.RegionLaw
import Derived.Test.YtokfkobhdjbciaaDoorQ01
import Derived.Test.YtokfkobhdjbciaaDoorQ02
import Derived.Test.YtokfkobhdjbciaaDoorQ03
import Derived.Test.YtokfkobhdjbciaaDoorQ04
import Derived.Test.YtokfkobhdjbciaaDoorQ05
import Derived.Test.YtokfkobhdjbciaaDoorQ06
import Derived.Test.YtokfkobhdjbciaaDoorQ07
import Derived.Test.YtokfkobhdjbciaaDoorQ08
import Derived.Test.YtokfkobhdjbciaaDoorQ09
import Derived.Test.YtokfkobhdjbciaaDoorQ10
import Derived.Test.YtokfkobhdjbciaaDoorQ11
import Derived.Test.YtokfkobhdjbciaaDoorQ12
import Derived.Test.YtokfkobhdjbciaaDoorQ13
set_option linter.unusedSimpArgs false
set_option linter.unusedVariables false
namespace Go.Proofs.YtokfkobhdjbciaaDoor
open Go.RowKit Go.Lib

set_option maxRecDepth 20000 in
set_option maxHeartbeats 2000000 in
theorem add_tm : ∀ (N : Nat) (t : Tm), (flatT t).length < N → OthH t → ∀ (w : World) (p : Nat) (vn vt : Value) (ns : List (Nd × Value)) (ts : List Tm) (k : Nat), Wk w p vn vt ns ts k → ns.length ≤ k → ts.length ≤ k → k ≤ 64 →
    Calls Tryd.prog 71 #[.pointer (some ⟨p, 0, none⟩), tv t] w (AddP w p vn vt ns ts k t) := by
  intro N
  induction N with
  | zero => intro t h; omega
  | succ N IH =>
    intro t hN hO w p vn vt ns ts k hW hnk htk hk64
    have HIH : Hid (∀ (t : Tm), (flatT t).length < N → OthH t → ∀ (w : World) (p : Nat) (vn vt : Value) (ns : List (Nd × Value)) (ts : List Tm) (k : Nat), Wk w p vn vt ns ts k → ns.length ≤ k → ts.length ≤ k → k ≤ 64 →
      Calls Tryd.prog 71 #[.pointer (some ⟨p, 0, none⟩), tv t] w (AddP w p vn vt ns ts k t)) := IH
    clear IH
    have hplt := lt_of_block hW.blk
    have c2 : w.cell? ⟨p, 2, none⟩ = some (.int .i64 k) := by simp [World.cell?, hW.blk]
    have f2 : w.frozen? ⟨p, 2, none⟩ = false := by simp [World.frozen?, hW.blk]
    have HW : Hid (Wk w p vn vt ns ts k) := hW
    clear hW
    have hfl := flat_len t
    by_cases hk : k = 64
    · subst hk
      have HR : Hid (64 < 64 + (flatT t).length) := by rw [Hid]; omega
      clear hfl
      obtain ⟨v, hv⟩ : ∃ v, tv t = v := ⟨_, rfl⟩
      rw [hv]
      go_enter Tryd.func71, Tryd.ntmps71
      go_wp2_with fail
      go_ret
      exact .inr ⟨HR.out, rfl, Below.refl _ _⟩
    · have hne : ((k : Int) == 64) = false := by simp; omega
      have HSP : Hid (∀ V, Calls Tryd.prog 52 #[tv t] V fun e w' => ∃ g ao n, e = .returned (.tuple #[.agg #[.int .i64 (opT t), .int .i64 (nT t), .string (nameT t), .slice none 0 0], .slice ao n n]) ∧ n = (partsT t).length ∧ n ≤ 3 ∧ (0 < n → ao = some ⟨g, 0, none⟩) ∧ V.heap.size ≤ g ∧ PartsAt w' g t ∧ Below V.heap.size V w') := fun V => by
        refine (split_any t hO.oth V).mono ?_
        rintro e w' ⟨g, rfl, h1, h2, h3⟩
        have h4 : (partsT t).length ≤ 3 := by cases t <;> simp [partsT]
        by_cases h0 : (partsT t).length = 0
        · refine ⟨g, none, 0, ?_, h0.symm, by omega, fun h => by omega, h1, h2, h3⟩
          unfold pvT; rw [if_pos h0]
        · refine ⟨g, some ⟨g, 0, none⟩, (partsT t).length, ?_, rfl, h4, fun _ => rfl, h1, h2, h3⟩
          unfold pvT; rw [if_neg h0]
      obtain ⟨v, hv⟩ : ∃ v, tv t = v := ⟨_, rfl⟩
      rw [hv] at HSP ⊢
      have HV : Hid (tv t = v) := hv
      clear hv
      go_enter Tryd.func71, Tryd.ntmps71
      go_wp2_with fail
      refine (HSP.out _).mono ?_
      rintro e w2 ⟨g, ao, np, rfl, hnp, hnp3, hao, hg, hPA, hb2⟩
      have hb1 : Wk (w.setCell ⟨p, 2, none⟩ (.int .i64 ((k : Int) + 1))) p vn vt ns ts (k + 1) := ⟨by have := blk_set (o := 2) (v := .int .i64 ((k : Int) + 1)) HW.out.blk; simpa using this, ownP_set HW.out.on (by omega), own_set HW.out.ot (by omega), HW.out.ap⟩
      have hW2 := hb1.below hb2
      have hF2 : Fr w w2 p vn vt vn vt := Fr.set.trans (Fr.below hb2)
      obtain ⟨i3, hi3, hy0, hy1, hy2⟩ := info_parts Tryd.info3
      have hs2 : w.heap.size ≤ w2.heap.size := by have := hb2.size; simpa using this
      have hgl : w.heap.size ≤ g := by simpa using hg
      have hgM : np ≠ 0 → g < w2.heap.size := fun h0 => by
        rcases hPA with h | h
        · rw [h] at hnp; simp at hnp; omega
        · exact lt_of_block h
      have HM0 : Hid (AMid w p vn vt ns ts k t g w2.heap.size 0 vn vt (.slice none 0 0) [] (w2.alloc (.cells #[.int .i64 (opT t), .int .i64 (nT t), .string (nameT t), .slice none 0 0] 67))) := by
        have hbA : Below w2.heap.size w2 (w2.alloc (.cells #[.int .i64 (opT t), .int .i64 (nT t), .string (nameT t), .slice none 0 0] 67)) := (Below.refl _ _).alloc (Nat.le_refl _) _
        refine ⟨?_, ?_, Deep.blk_alloc_new _ _, ?_, hPA.below hbA, by simp [accS_nil]; omega, by simp, fun _ _ => .inl rfl, ?_, ?_, hF2.trans (Fr.below hbA)⟩
        · have := hW2.below hbA; simpa [accS_nil] using this
        · simp [accS_nil]
        · simp [accS_nil]; exact OwnI_nil _ _
        · intro e; have := (own_block hW2.on.row _ e).2; omega
        · intro e; have := (own_block HW.out.ot _ e).2; omega
      have HHN : Hid (np = (partsT t).length) := hnp
      have HAO : Hid (0 < np → ao = some ⟨g, 0, none⟩) := hao
      have HGM : Hid (np ≠ 0 → g < w2.heap.size) := hgM
      have hplt2 : p < w2.heap.size := by omega
      clear hb1 hW2 hF2 hPA hnp hao hgM hb2 HSP c2 f2
      obtain ⟨M, hM⟩ : ∃ M, w2.heap.size = M := ⟨_, rfl⟩
      have HMM : Hid (w2.heap.size = M) := hM
      rw [hM] at HM0
      go_wp2_with fail
      go_loopw [28] (fun i wr => ∃ (j : Nat) (vnj vtj kv : Value) (nsj : List (Nd × Value)), j ≤ np ∧ i = .int .i64 j ∧ AMid w p vn vt ns ts k t g M j vnj vtj kv nsj wr) (fun i _ => np - (RowKit.intOf i).toNat)
      case atStart => exact ⟨0, vn, vt, _, [], by omega, rfl, HM0.out⟩
      case round =>
        obtain ⟨j, vnj, vtj, kv, nsj, hj, rfl, hA⟩ := hrel
        clear HM0
        have HA : Hid (AMid w p vn vt ns ts k t g M j vnj vtj kv nsj wr) := hA
        by_cases hjl : j < np
        · obtain rfl : ao = some ⟨g, 0, none⟩ := HAO.out (by omega)
          obtain ⟨q, hq⟩ : ∃ q, (partsT t).getD j .nil = q := ⟨_, rfl⟩
          have hjp : j < (partsT t).length := by have := HHN.out; omega
          have hqm : q ∈ partsT t := by rw [← hq]; simp [hjp]
          have e0 : wr.cell? ⟨g, j, none⟩ = some (tv q) := by
            rcases hA.parts with h | h
            · rw [h] at hjp; simp at hjp
            · have : wr.cell? ⟨g, j, none⟩ = (((partsT t).map tv).toArray)[j]? := by simp [World.cell?, h]
              rw [this, ← hq]; simp [hjp]
          have HQ : Hid ((partsT t).take (j + 1) = (partsT t).take j ++ [q]) := by
            rw [Hid, List.take_succ_eq_append_getElem hjp, ← hq]; simp [hjp]
          have hqlt := flat_part_lt hqm
          clear hA hq
          go_wp2_with fail
          have hnl : nsj.length = (accS (((partsT t).take j).map flatT)).1.length := by have := congrArg List.length HA.out.nodes; simpa using this
          refine (HIH.out q (by omega) (hO.parts q hqm) wr p vnj vtj (ns ++ nsj) _ _ HA.out.wk (by rw [List.length_append]; omega) (by rw [List.length_append, subs_sum]; omega) HA.out.le64).mono ?_
          rintro e w5 (⟨h64, rfl, vn5, vt5, ns5, WK, hm5, hy5, FR⟩ | ⟨hgt, rfl, hB⟩)
          · have hMlt := lt_of_block HA.out.node
            have hMp : M ≠ p := by have := HMM.out; omega
            have node5 : w5.heap[M]? = _ := (FR.same M hMlt hMp HA.out.nM (own_ne_blk HA.out.wk.ot HA.out.node (by decide))).trans HA.out.node
            have kids5 : OwnI w5 (M + 1) kv _ := own_fr FR HA.out.kids (by have := HMM.out; omega) (ownBlock_ne HA.out.kids HA.out.wk.on.row (by decide)) (ownBlock_ne HA.out.kids HA.out.wk.ot (by decide))
            have parts5 : PartsAt w5 g t := by
              rcases HA.out.parts with h | h
              · exact .inl h
              · exact .inr ((FR.same g (lt_of_block h) (by have := HGM.out (by omega); omega) (own_ne_blk HA.out.wk.on.row h (by decide)) HA.out.tg).trans h)
            obtain ⟨na, nc, hvn⟩ := WK.on.form
            obtain ⟨ka, kc, hkv⟩ := kids5.form
            subst hvn
            subst hkv
            have hn5 : ns5.length = (flatT q).length := by have := congrArg List.length hm5; simpa using this
            have hnl5 : (ns ++ nsj ++ ns5).length = ns.length + (accS (((partsT t).take j).map flatT)).1.length + (flatT q).length := by simp only [List.length_append]; omega
            have p0 : w5.cell? ⟨p, 0, none⟩ = some (.slice na (ns ++ nsj ++ ns5).length nc) := by simp [World.cell?, WK.blk]
            have m3 : w5.cell? ⟨M, 3, none⟩ = some (.slice ka ((accS (((partsT t).take j).map flatT)).2.map (· + (ns.length : Int))).length kc) := by simp [World.cell?, node5]
            have m3f : w5.frozen? ⟨M, 3, none⟩ = false := by simp [World.frozen?, node5]
            have hkl : ((accS (((partsT t).take j).map flatT)).2.map (· + (ns.length : Int))).length = j := by rw [List.length_map, accS_len2]; simp; omega
            have HK5 : Hid (OwnI w5 (M + 1) (.slice ka ((accS (((partsT t).take j).map flatT)).2.map (· + (ns.length : Int))).length kc) ((accS (((partsT t).take j).map flatT)).2.map (· + (ns.length : Int)))) := kids5
            have HWK : Hid (Wk w5 p (.slice na (ns ++ nsj ++ ns5).length nc) vt5 (ns ++ nsj ++ ns5) (ts ++ (((partsT t).take j).map subsT).flatten ++ subsT q) (k + 1 + (accS (((partsT t).take j).map flatT)).1.length + (flatT q).length)) := WK
            have HND : Hid (w5.heap[M]? = some (.cells #[.int .i64 (opT t), .int .i64 (nT t), .string (nameT t), .slice ka ((accS (((partsT t).take j).map flatT)).2.map (· + (ns.length : Int))).length kc] 67 (0, 0))) := node5
            have hown' := kids5
            unfold OwnI at hown'
            rw [hkl] at m3 hown'
            rw [hnl5] at p0
            have hM5 : M + 1 ≤ w5.heap.size := lt_of_block node5
            have qpos : 0 < (flatT q).length := by rw [flat_len]; omega
            have HST : Hid (∀ (o : Obj) (w6 : World) (g6 cap6 : Nat) (Z : Int), (w5.alloc o).drew.grownBy w6 (Value.slice ka j kc).ownBlock → w6.ownsRow (M + 1) 3 1 (.slice (some ⟨g6, 0, none⟩) (j + 1) cap6) (j + 1) (((accS (((partsT t).take j).map flatT)).2.map (· + (ns.length : Int))).map (Value.int .i64) ++ [.int .i64 Z]) → ((Value.slice ka j kc).ownBlock = some g6 ∨ g6 = (w5.alloc o).heap.size) → Z = ((ns.length + (accS (((partsT t).take j).map flatT)).1.length + (flatT q).length : Nat) : Int) - 1 →
                AMid w p vn vt ns ts k t g M (j + 1) (.slice na (ns ++ nsj ++ ns5).length nc) vt5 (.slice (some ⟨g6, 0, none⟩) (j + 1) cap6) (nsj ++ ns5) (w6.setCell ⟨M, 3, none⟩ (.slice (some ⟨g6, 0, none⟩) (j + 1) cap6))) := fun o w6 g6 cap6 Z h1 h2 h3 h4 => by
              refine AMid.step HA.out HQ.out (by rw [List.length_take]; omega) (by have := HMM.out; omega) (by have := HMM.out; omega) hgl HWK.out hm5 hy5 FR h64 HK5.out HND.out parts5 (o := o) ?_ h2 ?_ h4
              · have e : (Value.slice ka ((accS (((partsT t).take j).map flatT)).2.map (· + (ns.length : Int))).length kc).ownBlock = (Value.slice ka j kc).ownBlock := by cases ka <;> rfl
                rw [e]; exact h1
              · have e : (Value.slice ka ((accS (((partsT t).take j).map flatT)).2.map (· + (ns.length : Int))).length kc).ownBlock = (Value.slice ka j kc).ownBlock := by cases ka <;> rfl
                rw [e]; exact h3
            clear node5 kids5 WK e0 hm5 hy5 FR parts5
            generalize (accS (((partsT t).take j).map flatT)).1.length = aL at *
            generalize (flatT q).length = qL at *
            generalize ((accS (((partsT t).take j).map flatT)).2.map (· + (ns.length : Int))) = KS at *
            have hMne : M ≠ w5.heap.size := by omega
            have hpl5 : p < w5.heap.size := lt_of_block HWK.out.blk
            have hpne : p ≠ w5.heap.size := by omega
            have HGB : Hid (∀ (o : Obj) (w6 : World), (w5.alloc o).drew.grownBy w6 (Value.slice ka j kc).ownBlock → w6.heap[M]? = w5.heap[M]?) := fun o w6 hg => by
              have h1 := hg.block M (by show M < (w5.alloc o).heap.size; rw [World.size_alloc]; omega) (fun e => by have := (own_block hown' M e.symm).1; omega)
              exact h1.trans (Deep.blk_alloc_lt _ _ _ (by omega))
            have HGC : Hid (∀ (w6 : World), w6.heap[M]? = w5.heap[M]? → w6.cell? ⟨M, 3, none⟩ = some (.slice ka j kc)) := fun w6 h => (World.cell?_of_block (a := ⟨M, 3, none⟩) h).trans m3
            have HGF : Hid (∀ (w6 : World), w6.heap[M]? = w5.heap[M]? → w6.frozen? ⟨M, 3, none⟩ = false) := fun w6 h => (World.frozen?_of_block (a := ⟨M, 3, none⟩) h).trans m3f
            obtain ⟨L5, hL5⟩ : ∃ L5, ns.length + aL + qL = L5 := ⟨_, rfl⟩
            rw [hL5] at p0
            have hl5a : 1 ≤ L5 := by have := qpos; omega
            have hl5b : L5 ≤ 64 := by omega
            have q3 : ∀ o, (w5.alloc o).cell? ⟨M, 3, none⟩ = some (.slice ka j kc) := fun o => (World.cell?_alloc_past _ _ _ (by show M < w5.heap.size; omega)).trans m3
            have q0 : ∀ o, (w5.alloc o).cell? ⟨p, 0, none⟩ = some (.slice na L5 nc) := fun o => (World.cell?_alloc_past _ _ _ (by show p < w5.heap.size; omega)).trans p0
            have hwr : IntKind.i64.wrap ((L5 : Int) - 1) = (L5 : Int) - 1 := IntWalk.i64_in _ (by omega)
            go_wp2_with fail
            go_region_law (refine step_append_lies _ rfl (.tmp 37) (.tmp 44) 65 rfl (M + 1) 3 i3 (.int .i64 0) 1 8 Tryd.underlying65 hi3 hy0 hy1 hy2 rfl (by decide) _ _ _ (by simp [Act.eval, Act.put]) (hown'.alloc _) ⟨w5.heap.size, 0, none⟩ 1 1 [.int .i64 ((L5 : Int) - 1)] (by simp [Act.eval, Act.put]) rfl (cell_news_one w5 _ _) (by simp [Value.oneCell']) (by omega) (by unfold maxLen; omega) (by omega) (by simp; omega) _ rfl ?_; intro g6 cap6 w6 hown6 hg6 hat6 hl6; have hnd6 := HGB.out _ w6 hg6; have m6 : w6.cell? ⟨M, 3, none⟩ = some (.slice ka j kc) := HGC.out w6 hnd6; have m6f : w6.frozen? ⟨M, 3, none⟩ = false := HGF.out w6 hnd6)
            all_goals
              go_wp2_with fail
              exact ⟨⟨j + 1, _, vt5, _, nsj ++ ns5, by omega, by go_num, HST.out _ w6 g6 cap6 _ hg6 hown6 hat6 (by omega)⟩, by simp [RowKit.intOf]; omega⟩
          · have hsum : k + 1 + (accS (((partsT t).take j).map flatT)).1.length + (flatT q).length ≤ k + (flatT t).length := by
              have h1 : (accS (((partsT t).take (j + 1)).map flatT)).1.length ≤ (((partsT t).map flatT).map List.length).sum := by
                rw [accS_len1]
                conv => rhs; rw [← List.take_append_drop (j + 1) (partsT t)]
                simp only [List.map_append, List.sum_append]
                omega
              rw [HQ.out, List.map_append, List.map_cons, List.map_nil, accS_snoc] at h1
              simp only [List.length_append, List.length_map] at h1
              omega
            have hun : Below p w wr := HA.out.fr.under (by omega) (fun b e => by have := (own_block HW.out.on.row b e).1; omega) (fun b e => by have := (own_block HW.out.ot b e).1; omega)
            have HR : Hid (64 < k + (flatT t).length) := by rw [Hid]; omega
            have HBP : Hid (Below p w w5) := hun.trans hB
            clear hsum hun hB hgt
            go_wp2_with fail
            go_ret
            exact .inr ⟨HR.out, rfl, HBP.out⟩
        · have hje : j = np := by omega
          subst hje
          have hall : (partsT t).take j = partsT t := List.take_of_length_le (by have := HHN.out; omega)
          have hwk := hA.wk
          have hnd := hA.node
          have hkd := hA.kids
          have hns := hA.nodes
          have hle := hA.le64
          have hap := hA.apart
          rw [hall] at hwk hkd hns hle
          obtain ⟨na, nc, hvn⟩ := hwk.on.form
          subst hvn
          obtain ⟨ka, kc, hkv⟩ := hkd.form
          subst hkv
          obtain ⟨ta, tc, hvt⟩ : ∃ ta tc, vtj = .slice ta (ts ++ ((partsT t).map subsT).flatten).length tc := by
            rcases hwk.ot.2 with ⟨rfl, h0⟩ | ⟨g', cap', cur, rfl, _⟩
            · exact ⟨none, 0, by rw [h0]⟩
            · exact ⟨_, _, rfl⟩
          subst hvt
          have hnl : nsj.length = (accS ((partsT t).map flatT)).1.length := by have := congrArg List.length hns; simpa using this
          have hsl : (((partsT t).map subsT).flatten).length = (accS ((partsT t).map flatT)).1.length := subs_sum _
          have hN64 : (ns ++ nsj).length ≤ 64 := by rw [List.length_append]; omega
          have hT64 : (ts ++ ((partsT t).map subsT).flatten).length ≤ 64 := by rw [List.length_append]; omega
          have hfl2 : (flatT t).length = (accS ((partsT t).map flatT)).1.length + 1 := by rw [flat_len, accS_len1]
          have c0 : wr.cell? ⟨p, 0, none⟩ = some (.slice na (ns ++ nsj).length nc) := by simp [World.cell?, hwk.blk]
          have f0 : wr.frozen? ⟨p, 0, none⟩ = false := by simp [World.frozen?, hwk.blk]
          have f1 : wr.frozen? ⟨p, 1, none⟩ = false := by simp [World.frozen?, hwk.blk]
          have hpr : p < wr.heap.size := lt_of_block hwk.blk
          have hMr : M < wr.heap.size := lt_of_block hnd
          have m0 : wr.cell? ⟨M, 0, none⟩ = some (.int .i64 (opT t)) := by simp [World.cell?, hnd]
          have m1 : wr.cell? ⟨M, 1, none⟩ = some (.int .i64 (nT t)) := by simp [World.cell?, hnd]
          have m2 : wr.cell? ⟨M, 2, none⟩ = some (.string (nameT t)) := by simp [World.cell?, hnd]
          have m3 : wr.cell? ⟨M, 3, none⟩ = some (.slice ka ((accS ((partsT t).map flatT)).2.map (· + (ns.length : Int))).length kc) := by simp [World.cell?, hnd]
          obtain ⟨iN, hiN, hn0, hn1, hn2⟩ := info_parts Tryd.infoNode
          obtain ⟨iT, hiT, ht0, ht1, ht2⟩ := info_parts Tryd.infoTerm
          have hrow := hwk.on.row
          have HWK : Hid (Wk wr p (.slice na (ns ++ nsj).length nc) (.slice ta (ts ++ ((partsT t).map subsT).flatten).length tc) (ns ++ nsj) (ts ++ ((partsT t).map subsT).flatten) (k + 1 + (accS ((partsT t).map flatT)).1.length)) := hwk
          have HKD : Hid (OwnI wr (M + 1) (.slice ka ((accS ((partsT t).map flatT)).2.map (· + (ns.length : Int))).length kc) ((accS ((partsT t).map flatT)).2.map (· + (ns.length : Int)))) := hkd
          have HNS : Hid (nsj.map (·.1) = (accS ((partsT t).map flatT)).1.map (mvN 0 ns.length)) := hns
          have HAPN : Hid (∀ q ∈ ns ++ nsj, (Value.slice ka ((accS ((partsT t).map flatT)).2.map (· + (ns.length : Int))).length kc).ownBlock = none ∨ q.2.ownBlock ≠ (Value.slice ka ((accS ((partsT t).map flatT)).2.map (· + (ns.length : Int))).length kc).ownBlock) := hap
          clear hap
          have HP6 : Hid (∀ (o : Obj) (w6 : World), (wr.alloc o).drew.grownBy w6 (Value.slice na (ns ++ nsj).length nc).ownBlock → w6.heap[p]? = wr.heap[p]?) := fun o w6 hg => by
            have h1 := hg.block p (by show p < (wr.alloc o).heap.size; rw [World.size_alloc]; omega) (fun e => by have := (own_block HWK.out.on.row p e.symm).1; omega)
            exact h1.trans (Deep.blk_alloc_lt _ _ _ hpr)
          have z0 : ∀ o, (wr.alloc o).cell? ⟨p, 0, none⟩ = some (.slice na (ns ++ nsj).length nc) := fun o => (World.cell?_alloc_past _ _ _ (by show p < wr.heap.size; omega)).trans c0
          obtain ⟨L, hL⟩ : ∃ L, (ns ++ nsj).length = L := ⟨_, rfl⟩
          obtain ⟨TL, hTL⟩ : ∃ TL, (ts ++ ((partsT t).map subsT).flatten).length = TL := ⟨_, rfl⟩
          obtain ⟨KL, hKL⟩ : ∃ KL, ((accS ((partsT t).map flatT)).2.map (· + (ns.length : Int))).length = KL := ⟨_, rfl⟩
          rw [hL] at c0 hrow hN64 z0
          have HP6' : Hid (∀ (o : Obj) (w6 : World), (wr.alloc o).drew.grownBy w6 (Value.slice na L nc).ownBlock → w6.heap[p]? = wr.heap[p]?) := fun o w6 hg => HP6.out o w6 (by rw [hL]; exact hg)
          rw [hTL] at hT64
          rw [hKL] at m3
          have HL : Hid ((ns ++ nsj).length = L) := hL
          have HTL : Hid ((ts ++ ((partsT t).map subsT).flatten).length = TL) := hTL
          have HKL : Hid (((accS ((partsT t).map flatT)).2.map (· + (ns.length : Int))).length = KL) := hKL
          have HLE : Hid (k + 1 + (accS ((partsT t).map flatT)).1.length ≤ 64 ∧ (flatT t).length = (accS ((partsT t).map flatT)).1.length + 1) := ⟨hle, hfl2⟩
          clear hA hwk hnd hkd hns hL hTL hKL hnl hsl hfl2 hle HP6 hfl
          go_wp2_with fail
          go_region_law (refine step_append_lies _ rfl (.tmp 52) (.tmp 54) 22 rfl (p + 1) 67 iN (.agg #[.int .i64 0, .int .i64 0, .string ⟨#[]⟩, .slice none 0 0]) 4 56 Tryd.underlying22 hiN hn0 hn1 hn2 rfl (by decide) _ _ _ (by simp [Act.eval, Act.put]) (hrow.alloc _) ⟨wr.heap.size, 0, none⟩ 1 1 [.int .i64 (opT t), .int .i64 (nT t), .string (nameT t), .slice ka KL kc] (by simp [Act.eval, Act.put]) rfl (cell_news4 wr _ _ _ _ _ _ rfl) (by simp [Value.oneCell']) (by omega) (by unfold maxLen; omega) (by omega) (by simp; omega) _ rfl ?_; intro g6 cap6 w6 hown6 hg6 hat6 hl6; have hnd6 := HP6'.out _ w6 hg6; have m6 : w6.cell? ⟨p, 0, none⟩ = some (.slice na L nc) := (World.cell?_of_block (a := ⟨p, 0, none⟩) hnd6).trans c0; have m6f : w6.frozen? ⟨p, 0, none⟩ = false := (World.frozen?_of_block (a := ⟨p, 0, none⟩) hnd6).trans f0)
          all_goals
            obtain ⟨w7, hw7⟩ : ∃ w7, w6.setCell ⟨p, 0, none⟩ (.slice (some ⟨g6, 0, none⟩) (L + 1) cap6) = w7 := ⟨_, rfl⟩
            rw [hw7]
            have blk6 : w6.heap[p]? = some (.cells #[.slice na L nc, .slice ta TL tc, .int .i64 ((k + 1 + (accS ((partsT t).map flatT)).1.length : Nat) : Int)] 99 (0, 0)) := hnd6.trans (by have := HWK.out.blk; rw [HL.out, HTL.out] at this; exact this)
            have blk7 : w7.heap[p]? = some (.cells #[.slice (some ⟨g6, 0, none⟩) (L + 1) cap6, .slice ta TL tc, .int .i64 ((k + 1 + (accS ((partsT t).map flatT)).1.length : Nat) : Int)] 99 (0, 0)) := by
              have := blk_set (o := 0) (v := .slice (some ⟨g6, 0, none⟩) (L + 1) cap6) blk6
              rw [hw7] at this; simpa using this
            have d1 : w7.cell? ⟨p, 1, none⟩ = some (.slice ta TL tc) := by simp [World.cell?, blk7]
            have d1f : w7.frozen? ⟨p, 1, none⟩ = false := by simp [World.frozen?, blk7]
            have hp7 : p < w7.heap.size := lt_of_block blk7
            have ot7 : w7.ownsRow (p + 1) 45 1 (.slice ta TL tc) TL ((ts ++ ((partsT t).map subsT).flatten).map tv) := by
              have h0 := HWK.out.ot
              rw [HTL.out] at h0
              have h1 := ownsRow_below h0 (((Below.refl wr.heap.size wr).alloc (Nat.le_refl _) (.cells #[.int .i64 (opT t), .int .i64 (nT t), .string (nameT t), .slice ka KL kc] 67)).drew)
              have h2 := ownsRow_below hrow (((Below.refl wr.heap.size wr).alloc (Nat.le_refl _) (.cells #[.int .i64 (opT t), .int .i64 (nT t), .string (nameT t), .slice ka KL kc] 67)).drew)
              have h3 := World.ownsRow.kept h1 hg6 (ownBlock_ne h1 h2 (by decide))
              rw [← hw7]
              exact own_set h3 (by omega)
            have HP8 : Hid (∀ (o : Obj) (w8 : World), (w7.alloc o).grownBy w8 (Value.slice ta TL tc).ownBlock → w8.heap[p]? = w7.heap[p]?) := fun o w8 hg => by
              have h1 := hg.block p (by rw [World.size_alloc]; omega) (fun e => by have := (own_block ot7 p e.symm).1; omega)
              exact h1.trans (Deep.blk_alloc_lt _ _ _ hp7)
            have cv := tv_cells t
            rw [HV.out] at cv
            unfold Value.cells at cv
            have ov : v.oneCell' = true := HV.out ▸ tv_one t
            have e71 : ∀ o, (w7.alloc o).cell? ⟨p, 1, none⟩ = some (.slice ta TL tc) := fun o => (World.cell?_alloc_past _ _ _ (by show p < w7.heap.size; omega)).trans d1
            have HW7 : Hid (w6.setCell ⟨p, 0, none⟩ (.slice (some ⟨g6, 0, none⟩) (L + 1) cap6) = w7) := hw7
            have HO6 : Hid (w6.ownsRow (p + 1) 67 4 (.slice (some ⟨g6, 0, none⟩) (L + 1) cap6) (L + 1) (ndCells (ns ++ nsj) ++ [.int .i64 (opT t), .int .i64 (nT t), .string (nameT t), .slice ka KL kc])) := hown6
            clear hw7 blk6 blk7 m6 m6f hown6
            go_wp2_with (at_builtin; refine wpList_append_lies _ rfl (.tmp 62) (.tmp 64) 39 rfl (p + 1) 45 iT .nilIface 1 16 Tryd.underlying39 hiT ht0 ht1 ht2 rfl (by decide) _ _ _ rfl (ot7.alloc _) ⟨w7.heap.size, 0, none⟩ 1 1 [v] rfl rfl (cell_news_one _ _ _) (by simp [ov]) (by omega) (by unfold maxLen; omega) (by omega) (by simp; omega) _ rfl ?_; intro g8 cap8 w8 hown8 hg8 hat8 hl8; have hnd8 := HP8.out _ w8 hg8; have m8 : w8.cell? ⟨p, 1, none⟩ = some (.slice ta TL tc) := (World.cell?_of_block (a := ⟨p, 1, none⟩) hnd8).trans d1; have m8f : w8.frozen? ⟨p, 1, none⟩ = false := (World.frozen?_of_block (a := ⟨p, 1, none⟩) hnd8).trans d1f)
            go_ret
            have e1 := HL.out
            have e2 := HTL.out
            have e3 := HKL.out
            have e4 := HV.out
            subst e1
            subst e2
            subst e3
            subst e4
            obtain ⟨hW9, hK9, hN9, hF9⟩ := Wk.finish (M := M) (x := ⟨opT t, nT t, nameT t, (accS ((partsT t).map flatT)).2.map (· + (ns.length : Int))⟩) (t := t) HWK.out HKD.out HAPN.out (by have := HMM.out; omega) HO6.out hg6 HW7.out.symm hown8 hg8 rfl
              (fun b hb => by
                simp [Value.ownBlock] at hb
                subst hb
                rcases hat6 with h | h
                · exact .inl h
                · right; rw [h]; show wr.heap.size ≤ (wr.alloc _).heap.size; rw [World.size_alloc]; omega)
              (fun b hb => by
                simp [Value.ownBlock] at hb
                subst hb
                rcases hat8 with h | h
                · exact .inl h
                · right; rw [h]; rw [World.size_alloc]; omega)
            refine .inl ⟨by have := HLE.out; omega, rfl, _, _, nsj ++ [(⟨opT t, nT t, nameT t, (accS ((partsT t).map flatT)).2.map (· + (ns.length : Int))⟩, .slice ka ((accS ((partsT t).map flatT)).2.map (· + (ns.length : Int))).length kc)], ?_, ?_, ?_, HA.out.fr.trans hF9⟩
            · rw [← List.append_assoc, subsT_eq, ← List.append_assoc, show k + (flatT t).length = k + 1 + (accS ((partsT t).map flatT)).1.length by have := HLE.out; omega]
              exact hW9
            · rw [flat_end, List.map_append, HNS.out]; rfl
            · intro q hq
              rcases List.mem_append.1 hq with hq | hq
              · have h9 := hN9 q (by simp [hq])
                refine ⟨h9.1, ?_⟩
                rcases h9.2 with h | ⟨g', cap', cur, hv, _, r⟩
                · exact .inl h
                · exact .inr ⟨g', cap', cur, hv, (own_block (HA.out.young q hq) g' (by rw [hv]; rfl)).1, r⟩
              · have hq' := List.mem_singleton.1 hq
                subst hq'
                have h9 := ownsRow_mono hK9 (base' := w.heap.size) (by have := HMM.out; omega)
                exact h9
end Go.Proofs.YtokfkobhdjbciaaDoor

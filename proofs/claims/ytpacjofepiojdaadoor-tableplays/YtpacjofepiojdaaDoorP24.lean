/-
  TbR4.
-/
import Derived.Test.YtpacjofepiojdaaDoorChecked
import GoSem.PinnedTables
import GoSem.Claim
import GoSem.ClaimJoined
import GoSem.ClaimMapViews
import Derived.JoinedTies
import Derived.KernelRfl
import Derived.Shelf.Unicode.DecodeSlow
import Derived.Laws.RangeAny
import Derived.Shelf.Small.Bits
import Derived.Shelf.Strconv.Itoa0
import Derived.Shelf.LaysM
import Derived.Shelf.Strconv.Clone
import Derived.Shelf.Unicode.DecodeAny
import Derived.Shelf.Slices.CompactS
import Derived.Ground.SlsfProg
import Derived.Shelf.SlSortCmp.Insertion
import Derived.Shelf.SlSortCmp.SiftDown1
import Derived.Shelf.SlSortCmp.HeapSort1
import Derived.Shelf.SlSortCmp.Insertion1
import Derived.Shelf.SlSortCmp.Median1
import Derived.Shelf.SlSortCmp.Pivot1
import Derived.Shelf.SlSortCmp.ReverseRange1
import Derived.Shelf.SlSortCmp.PartialInsertion1
import Derived.Shelf.SlSortCmp.PartitionEqual1
import Derived.Shelf.SlSortCmp.Partition1
import Derived.Shelf.SlSortCmp.Pdq1
import Derived.Shelf.SlSortCmp.Whole1
import Derived.Test.YtpacjofepiojdaaDoorProg
import Derived.WalkKit
import Derived.Deep.DeepFit
import Derived.Lib.OthersKept
import Derived.Lib.RuneCountTail
import Derived.Lib.LaidU8
import Derived.MakeChecks
import Derived.ProofKit
import Derived.OpenShut
import Derived.Deep.DeepHandedRow
import Derived.Deep.AppendLies
import Derived.Deep.OwnRows
import Derived.Laws.AppendOwnNone
import Derived.Deep.QuietTactic
import Derived.BigQuiet
import Derived.Deep.RegionWith
import Derived.Laws.DeepStrings4
import Derived.Below
import Derived.Maps.OwnSet
import Derived.Maps.Keyed
import Derived.DeepKeys4
import Derived.Lib.QuietBelow
import Derived.StillTail
import Derived.Deep.RegionHeld3
import Derived.Laws.ResultCell
import Derived.Laws.CopyOwn
import Derived.Deep.RegionLaw
import Derived.Laws.OwnMore
import Derived.Lib.MapLaws
import Derived.Sort.Walk0
import Derived.Deep.Slices
import Derived.SizedLaws
import Derived.Test.YtpacjofepiojdaaDoorRows
import Derived.Test.YtpacjofepiojdaaDoorP01
import Derived.Test.YtpacjofepiojdaaDoorP02
import Derived.Test.YtpacjofepiojdaaDoorP03
import Derived.Test.YtpacjofepiojdaaDoorP04
import Derived.Test.YtpacjofepiojdaaDoorP05
import Derived.Test.YtpacjofepiojdaaDoorP06
import Derived.Test.YtpacjofepiojdaaDoorP07
import Derived.Test.YtpacjofepiojdaaDoorP08
import Derived.Test.YtpacjofepiojdaaDoorP09
import Derived.Test.YtpacjofepiojdaaDoorP10
import Derived.Test.YtpacjofepiojdaaDoorP11
import Derived.Test.YtpacjofepiojdaaDoorP12
import Derived.Test.YtpacjofepiojdaaDoorP13
import Derived.Test.YtpacjofepiojdaaDoorP14
import Derived.Test.YtpacjofepiojdaaDoorP15
import Derived.Test.YtpacjofepiojdaaDoorP16
import Derived.Test.YtpacjofepiojdaaDoorP17
import Derived.Test.YtpacjofepiojdaaDoorP18
import Derived.Test.YtpacjofepiojdaaDoorP19
import Derived.Test.YtpacjofepiojdaaDoorP20
import Derived.Test.YtpacjofepiojdaaDoorP21
import Derived.Test.YtpacjofepiojdaaDoorP22
import Derived.Test.YtpacjofepiojdaaDoorP23
set_option linter.unusedSimpArgs false
set_option linter.unusedVariables false
namespace Go.Proofs.YtpacjofepiojdaaDoor
open Go.RowKit Go.Lib Go.Sort Go.Maps

set_option maxRecDepth 20000 in
set_option maxHeartbeats 2000000 in
theorem rAdd_none (w : World) (q : Nat) (l : List Nd) (ao : Option Addr) (cap : Nat) (hN : Nodes w w.heap.size (.slice ao l.length cap) l) (hn : ∀ x ∈ l, x.name.size ≤ maxLen) (hb : begL l = none) :
    Calls Tryd.prog 68 #[.pointer (some ⟨q, 0, none⟩), .slice ao l.length cap] w fun e w' => e = .returned (.tuple #[.int .i64 0, .int .i64 1]) ∧ Below w.heap.size w w' := by
  have hC : Sld (Calls Tryd.prog 10 #[.slice ao l.length cap] w fun e w' => e = .returned (.int .i64 1) ∧ Below w.heap.size w w') := ⟨by
    have := refCheck_any (.slice ao l.length cap) l w w.heap.size (Nat.le_refl _) hN hn
    rw [chkE_no (by unfold sndB; rw [hb]; rfl)] at this
    exact this⟩
  clear hN
  go_enter Tryd.func68, Tryd.ntmps68
  go_wp2_with fail
  refine hC.out.mono ?_
  rintro e w1 ⟨rfl, hb1⟩
  have HB1 : Sld (Below w.heap.size w w1) := ⟨hb1⟩
  clear hb1
  go_wp2_with fail
  go_ret2
  exact ⟨rfl, HB1.out⟩
/-- WHAT THE DOCUMENT'S ADD ANSWERS. -/
theorem rAdd_any (w : World) (q : Nat) (lv : Value) (pl : List (Nd × Value)) (L l : List Nd) (ao : Option Addr) (cap : Nat) (h : RtM w q lv pl L) (hI : TbI L) (hN : Nodes w q (.slice ao l.length cap) l) (hn : ∀ x ∈ l, x.name.size ≤ maxLen) (hx : ∀ x ∈ l, (Lit.int .i64 x.n).wf = true) :
    Calls Tryd.prog 68 #[.pointer (some ⟨q, 0, none⟩), .slice ao l.length cap] w fun e w' => e = .returned (.tuple #[.int .i64 ((adP L l).1 : Nat), .int .i64 (adP L l).2.1]) ∧ ∃ lv' pl', RtT w.heap.size w q lv pl lv' pl' (adP L l).2.2 w' := by
  cases hb : begL l with
  | none =>
    rw [adP_bad hb]
    exact (rAdd_none w q l ao cap (hN.below (Below.refl _ _) (Nat.le_of_lt h.lt)) hn hb).mono fun e w' ⟨h1, h2⟩ => ⟨h1, lv, pl, RtT.of_below h h2⟩
  | some fr =>
    obtain ⟨_, _, hbr, _⟩ := begL_some hb
    have hok := begOk_of hbr
    have hn6 : ∀ x ∈ l, N6 x.n ∧ x.name.size ≤ 281474976710656 := fun x hx' => by
      have e1 : IntKind.min .i64 = -9223372036854775808 := by decide
      have e2 : IntKind.max .i64 = 9223372036854775807 := by decide
      have hw := hx x hx'
      simp only [Lit.wf, e1, e2, Bool.and_eq_true, decide_eq_true_eq] at hw
      refine ⟨hw, ?_⟩
      obtain ⟨j, hj, rfl⟩ := List.mem_iff_getElem.1 hx'
      have := (hok.at_ j hj).1
      have := (form_name this).2
      simp [hj] at this
      omega
    refine rAdd_some w q lv pl L l ao cap fr h hI hN hn6 hb _ _ _ ?_
    unfold adP
    rw [hb]
    cases hr : addR (L, []) l with
    | some s => exact .inl ⟨s.2, rfl, rfl, rfl⟩
    | none => exact .inr ⟨rfl, rfl, rfl, rfl⟩

set_option maxRecDepth 20000 in
set_option maxHeartbeats 2000000 in
theorem rNode_bad (w : World) (q : Nat) (lv : Value) (pl : List (Nd × Value)) (L : List Nd) (a : Int) (h : RtM w q lv pl L) (hi : hasT L a = false) :
    Calls Tryd.prog 67 #[.pointer (some ⟨q, 0, none⟩), .int .i64 a] w fun e w' => e = .returned (.tuple #[.agg #[.int .i64 0, .int .i64 0, .string ⟨#[]⟩, .slice none 0 0], .int .i64 2]) ∧ Below w.heap.size w w' := by
  obtain ⟨la, lc, rfl⟩ := h.form
  obtain ⟨w1, hw1⟩ : ∃ w1, w.alloc (.cells #[.int .i64 0, .int .i64 0, .string ⟨#[]⟩, .slice none 0 0] 63) = w1 := ⟨_, rfl⟩
  have hb1 : Below w.heap.size w w1 := by rw [← hw1]; exact (Below.refl _ _).alloc (Nat.le_refl _) _
  have HB1 : Sld (Below w.heap.size w w1) := ⟨hb1⟩
  have hbk : w1.heap[w.heap.size]? = some (.cells #[.int .i64 0, .int .i64 0, .string ⟨#[]⟩, .slice none 0 0] 63 (0, 0)) := by rw [← hw1, Deep.blk_alloc_new]
  have HBK := Sld.mk hbk
  have c0 := (h.below hb1).c0
  obtain ⟨y0, y1, y2, y3, yf⟩ := blk4 hbk
  have HW1 := Sld.mk hw1
  have c0' : ∀ o, (w.alloc o).cell? ⟨q, 0, none⟩ = some (.slice la L.length lc) := fun o => (World.cell?_alloc_past _ _ _ h.lt).trans h.c0
  have hK : a < 0 ∨ (0 ≤ a ∧ (L.length : Int) ≤ a) := by
    unfold hasT at hi
    rcases Int.lt_or_le a 0 with h1 | h1
    · exact .inl h1
    · refine .inr ⟨h1, ?_⟩
      simp only [Bool.and_eq_false_iff, decide_eq_false_iff_not] at hi
      omega
  clear h hbk hb1 hi c0'
  rcases hK with h0 | ⟨h0, h1⟩
  all_goals
    go_enter Tryd.func67, Tryd.ntmps67
    go_wp2_with fail
    have hS := set4 HBK.out (.int .i64 0) (.int .i64 0) (.string ⟨#[]⟩) (.slice none 0 0)
    have HBE := below_set4 HB1.out (Nat.le_refl w.heap.size) (.int .i64 0) (.int .i64 0) (.string ⟨#[]⟩) (.slice none 0 0)
    generalize (((w1.setCell ⟨w.heap.size, 0, none⟩ (.int .i64 0)).setCell ⟨w.heap.size, 1, none⟩ (.int .i64 0)).setCell ⟨w.heap.size, 2, none⟩ (.string ⟨#[]⟩)).setCell ⟨w.heap.size, 3, none⟩ (.slice none 0 0) = W at *
    obtain ⟨x0, x1, x2, x3, _⟩ := blk4 hS
    refine bodyPost_ret (v := .tuple #[.agg #[.int .i64 0, .int .i64 0, .string ⟨#[]⟩, .slice none 0 0], .int .i64 2]) (by simp [results, Tryd.results67, go_sem, x0, x1, x2, x3]) rfl ⟨rfl, HBE⟩

/-- Between two rounds of sizes; kd: how many kids of entry i are counted (none yet: the place holds 0). -/
structure SzM (W0 : World) (L : List Nd) (i : Nat) (xs : List Int) (wr : World) : Prop where
  row : OwnI wr W0.heap.size (.slice (some ⟨W0.heap.size, 0, none⟩) L.length L.length) xs
  len : xs.length = L.length
  done : ∀ j, j < i → xs.getD j 0 = (((szL L).getD j 0 : Nat) : Int)
  bel : Below W0.heap.size W0 wr
theorem SzM.set {W0 : World} {L : List Nd} {i : Nat} {xs : List Int} {wr : World} (h : SzM W0 L i xs wr) (u : Int) : SzM W0 L i (xs.set i u) (wr.setCell ⟨W0.heap.size, i, none⟩ (.int .i64 u)) :=
  ⟨h.row.putT h.len i u, by rw [List.length_set]; exact h.len, fun j hj => by rw [List.getD_eq_getElem?_getD, List.getElem?_set_ne (by omega), ← List.getD_eq_getElem?_getD]; exact h.done j hj, h.bel.setCell (p := ⟨W0.heap.size, i, none⟩) (Nat.le_refl _) _⟩
theorem SzM.up {W0 : World} {L : List Nd} {i : Nat} {xs : List Int} {wr W : World} (h : SzM W0 L i xs wr) (hb : Below wr.heap.size wr W) : SzM W0 L i xs W :=
  ⟨h.row.below hb, h.len, h.done, h.bel.trans (hb.mono h.bel.size)⟩
theorem getD_setI {xs : List Int} {i : Nat} {u : Int} (h : i < xs.length) : (xs.set i u).getD i 0 = u := by
  rw [List.getD_eq_getElem?_getD, List.getElem?_set_self h]; rfl
theorem SzM.next {W0 : World} {L : List Nd} {i : Nat} {xs : List Int} {wr : World} (h : SzM W0 L i xs wr) (hd : xs.getD i 0 = (((szL L).getD i 0 : Nat) : Int)) : SzM W0 L (i + 1) xs wr :=
  ⟨h.row, h.len, fun j hj => by
    by_cases e : j = i
    · subst e; exact hd
    · exact h.done j (by omega), h.bel⟩

set_option maxRecDepth 20000 in
set_option maxHeartbeats 8000000 in
theorem rSizes_any (w : World) (q : Nat) (lv : Value) (pl : List (Nd × Value)) (L : List Nd) (h : RtM w q lv pl L) (hI : TbI L) :
    Calls Tryd.prog 99 #[.pointer (some ⟨q, 0, none⟩)] w fun e w' => ∃ g xs, e = .returned (.slice (some ⟨g, 0, none⟩) L.length L.length) ∧ OwnI w' w.heap.size (.slice (some ⟨g, 0, none⟩) L.length L.length) xs ∧ xs.length = L.length ∧ (∀ j, j < L.length → xs.getD j 0 = (((szL L).getD j 0 : Nat) : Int)) ∧ Below w.heap.size w w' := by
  obtain ⟨i0, hi, hz0, hz1, hz2⟩ := info_parts Tryd.info3
  have hle := hI.le
  obtain ⟨la, lc, rfl⟩ := h.form
  have c0 := h.c0
  obtain ⟨w2, hmk, hown2, hg2⟩ := run_make_full (P := Tryd.prog) w w.heap.size 61 3 i0 (.int .i64 0) 1 Tryd.underlying61 hi hz0 hz1 .i64 .i64 L.length (by rw [hz2]; omega) (by unfold maxLen; omega) (Nat.le_refl _)
  rw [made_zerosT] at hown2
  have hO2 : OwnI w2 w.heap.size (.slice (some ⟨w.heap.size, 0, none⟩) L.length L.length) (List.replicate L.length 0) := by
    unfold OwnI; rw [List.length_replicate]; exact hown2
  have HM0 : Sld (SzM w L 0 (List.replicate L.length 0) w2) := ⟨⟨hO2, by simp, fun j hj => by omega, (Below.refl _ _).grown hg2 (Nat.le_refl _) (fun j hj => by cases hj)⟩⟩
  have HR : Sld (∀ W, Below w.heap.size w W → RtM W q (.slice la L.length lc) pl L) := ⟨fun W hW => h.below hW⟩
  have HK : Sld (∀ i, i < L.length → (∀ k ∈ (edA L i).kids, 0 ≤ k ∧ k < (i : Int)) ∧ (edA L i).kids.length ≤ 3 ∧ (szL L).getD i 0 = szK (szL L) 1 (edA L i).kids) := ⟨fun i hi => ⟨hI.kids i hi, formB_kids (hI.form i hi), szL_at hI hi⟩⟩
  have HSB : Sld (∀ i, (szL L).getD i 0 ≤ 1073741824) := ⟨szL_bd L⟩
  have hLI : (L.length : Int) ≤ 1048576 := by omega
  have HQ := h.lt
  clear h hown2 hg2 hO2 hI
  go_enter Tryd.func99, Tryd.ntmps99
  go_wp2_with fail
  clear hmk c0
  go_loopw [4] (fun ii wr => ∃ (i : Nat) (xs : List Int), i ≤ L.length ∧ ii = .int .i64 i ∧ SzM w L i xs wr) (fun ii _ => L.length - (RowKit.intOf ii).toNat)
  case atStart => exact ⟨0, _, by omega, rfl, HM0.out⟩
  case round =>
    obtain ⟨i, xs, hile, rfl, hM⟩ := hrel
    have HM := Sld.mk hM
    have hRt := HR.out wr hM.bel
    have c0 := hRt.c0
    clear hM HM0
    by_cases hlt : i < L.length
    · have hltI : (i : Int) < (L.length : Int) := by omega
      obtain ⟨hk1, hk2, hk3⟩ := HK.out i hlt
      have u0 := HM.out.row.cellT HM.out.len hlt
      have f0 := HM.out.row.frT HM.out.len i
      have hstart := (HM.out.set 1)
      have hxi : (xs.set i 1).getD i 0 = (szK (szL L) 1 ((edA L i).kids.take 0) : Nat) := by rw [getD_setI (by rw [HM.out.len]; exact hlt)]; rfl
      have HSTART : Sld (SzM w L i (xs.set i 1) (wr.setCell ⟨w.heap.size, i, none⟩ (.int .i64 1)) ∧ (xs.set i 1).getD i 0 = ((szK (szL L) 1 ((edA L i).kids.take 0) : Nat) : Int)) := ⟨hstart, hxi⟩
      clear hstart hxi hRt
      generalize xs.getD i 0 = u9 at *
      go_wp2_with fail
      clear u0 f0 c0
      go_loopw [5] (fun jj wq => ∃ (j : Nat) (ys : List Int), j ≤ (edA L i).kids.length ∧ jj = .int .i64 j ∧ SzM w L i ys wq ∧ ys.getD i 0 = ((szK (szL L) 1 ((edA L i).kids.take j) : Nat) : Int)) (fun jj _ => (edA L i).kids.length - (RowKit.intOf jj).toNat)
      case atStart => exact ⟨0, _, by omega, rfl, HSTART.out.1, HSTART.out.2⟩
      case round =>
        obtain ⟨j, ys, hj, rfl, hS, hy⟩ := hrel
        have HS := Sld.mk hS
        have HY := Sld.mk hy
        have hRt := HR.out wr hS.bel
        have c0 := hRt.c0
        obtain ⟨g, cap, ka, kc, hlv, hc1, hc2, e0, e1, e2, e3, hO⟩ := hRt.at_ hlt
        injection hlv with hlv1 _ hlv2
        subst hlv1 hlv2
        unfold maxLen at hc2
        have hcI : (L.length : Int) ≤ (lc : Int) := by omega
        have hcM : (lc : Int) ≤ 9223372036854775807 := by omega
        obtain ⟨aoK, capK, hvK, hK1, hK2, hK3⟩ := Ints_of_own hO (Nat.le_refl wr.heap.size)
        simp only [Value.slice.injEq, true_and] at hvK
        obtain ⟨rfl, rfl⟩ := hvK
        have hK2' := hK2.1
        unfold maxLen at hK2'
        have hkI : ((edA L i).kids.length : Int) ≤ (kc : Int) := by omega
        have hkM : (kc : Int) ≤ 9223372036854775807 := by omega
        have u0 := hS.row.cellT hS.len hlt
        have f0 := hS.row.frT hS.len i
        rw [hy] at u0
        clear hS hy hRt hO e0 e1 e2
        by_cases hjl : j < (edA L i).kids.length
        · have hjlI : (j : Int) < ((edA L i).kids.length : Int) := by omega
          obtain ⟨kb, ko, rfl, hcj⟩ : ∃ b o, ka = some ⟨b, o, none⟩ ∧ wr.cell? ⟨b, o + j, none⟩ = some (.int .i64 ((edA L i).kids.getD j 0)) := by
            rcases hK3 with hc | ⟨b, o, h1, _, h3⟩
            · rw [hc] at hjl; simp at hjl
            · exact ⟨b, o, h1, h3 j hjl⟩
          obtain ⟨hq1, hq2⟩ := hk1 ((edA L i).kids.getD j 0) (by simp [hjl])
          have hnext : (szK (szL L) 1 ((edA L i).kids.take (j + 1))) = min 1073741824 (szK (szL L) 1 ((edA L i).kids.take j) + (szL L).getD ((edA L i).kids.getD j 0).toNat 0) := by
            rw [List.take_succ_eq_append_getElem hjl, szK_snoc]; simp [hjl]
          obtain ⟨kk, hkk⟩ : ∃ kk : Nat, (edA L i).kids.getD j 0 = kk := ⟨((edA L i).kids.getD j 0).toNat, by omega⟩
          rw [hkk] at hcj hq2 hnext
          rw [Int.toNat_natCast] at hnext
          have hkki : kk < i := by omega
          have v0 := HS.out.row.cellT HS.out.len (i := kk) (by omega)
          rw [HS.out.done kk hkki] at v0
          have hA := szK_le (szL L) ((edA L i).kids.take j) 1 (by omega)
          have hB := HSB.out kk
          have HN := Sld.mk hnext
          generalize szK (szL L) 1 ((edA L i).kids.take j) = A at *
          generalize (szL L).getD kk 0 = Bk at *
          have hkkI : (kk : Int) < (L.length : Int) := by omega
          have hmn : min (1073741824 : Int) ((A : Int) + (Bk : Int)) = ((min 1073741824 (A + Bk) : Nat) : Int) := by omega
          have HST : Sld (∀ W, Below wr.heap.size wr W → SzM w L i (ys.set i (min (1073741824 : Int) ((A : Int) + (Bk : Int)))) (W.setCell ⟨w.heap.size, i, none⟩ (.int .i64 (min (1073741824 : Int) ((A : Int) + (Bk : Int))))) ∧ (ys.set i (min (1073741824 : Int) ((A : Int) + (Bk : Int)))).getD i 0 = ((min 1073741824 (A + Bk) : Nat) : Int)) := ⟨fun W hW => ⟨(HS.out.up hW).set _, by rw [getD_setI (by rw [HS.out.len]; exact hlt), hmn]⟩⟩
          clear hnext hkk hq1 hK3 hk1 hmn
          go_wp2_with fail
          go_region
          go_wp2_with fail
          exact ⟨⟨j + 1, _, by omega, by go_num, (HST.out wr (Below.refl _ _)).1.up (Below.refl _ _).drew, by rw [HN.out]; exact (HST.out wr (Below.refl _ _)).2⟩, by simp [RowKit.intOf]; omega⟩
        · have hje : j = (edA L i).kids.length := by omega
          have hfull := HY.out
          rw [hje, List.take_length, ← hk3] at hfull
          have HNX := Sld.mk (HS.out.next hfull)
          have hjn : ¬ (j : Int) < ((edA L i).kids.length : Int) := by omega
          clear hfull hK3 hk1
          go_wp2_with fail
          exact ⟨⟨i + 1, ys, by omega, by go_num, HNX.out⟩, by simp [RowKit.intOf]; omega⟩
    · have hie : i = L.length := by omega
      subst hie
      have HM9 := HM.out
      go_wp2_with fail
      go_ret
      exact ⟨w.heap.size, xs, rfl, HM.out.row, HM.out.len, HM.out.done, HM.out.bel⟩

set_option maxRecDepth 20000 in
set_option maxHeartbeats 2000000 in
theorem rSize_ok (w : World) (q : Nat) (lv : Value) (pl : List (Nd × Value)) (L : List Nd) (i : Nat) (h : RtM w q lv pl L) (hI : TbI L) (hi : i < L.length) :
    Calls Tryd.prog 70 #[.pointer (some ⟨q, 0, none⟩), .int .i64 i] w fun e w' => e = .returned (.tuple #[.int .i64 (((szL L).getD i 0 : Nat) : Int), .int .i64 0]) ∧ Below w.heap.size w w' := by
  have hle := hI.le
  have CS := Sld.mk (rSizes_any w q lv pl L h hI)
  obtain ⟨la, lc, rfl⟩ := h.form
  have c0 := h.c0
  have hiI : (i : Int) < (L.length : Int) := by omega
  have hLI : (L.length : Int) ≤ 1048576 := by omega
  clear h hI
  go_enter Tryd.func70, Tryd.ntmps70
  go_wp2_with fail
  refine CS.out.mono ?_
  rintro e w1 ⟨g, xs, rfl, hO, hl, hd, hb1⟩
  have u0 := hO.cellT hl hi
  rw [hd i hi] at u0
  have HB1 := Sld.mk hb1
  clear hb1 hO hl hd CS
  go_wp2_with fail
  go_ret2
  exact ⟨rfl, HB1.out⟩
set_option maxRecDepth 20000 in
set_option maxHeartbeats 2000000 in
theorem rSize_bad (w : World) (q : Nat) (lv : Value) (pl : List (Nd × Value)) (L : List Nd) (a : Int) (h : RtM w q lv pl L) (hi : hasT L a = false) :
    Calls Tryd.prog 70 #[.pointer (some ⟨q, 0, none⟩), .int .i64 a] w fun e w' => e = .returned (.tuple #[.int .i64 0, .int .i64 2]) ∧ Below w.heap.size w w' := by
  obtain ⟨la, lc, rfl⟩ := h.form
  have c0 := h.c0
  have hK : a < 0 ∨ (0 ≤ a ∧ (L.length : Int) ≤ a) := by
    unfold hasT at hi
    rcases Int.lt_or_le a 0 with h1 | h1
    · exact .inl h1
    · refine .inr ⟨h1, ?_⟩
      simp only [Bool.and_eq_false_iff, decide_eq_false_iff_not] at hi
      omega
  clear h hi
  rcases hK with h0 | ⟨h0, h1⟩
  all_goals
    go_enter Tryd.func70, Tryd.ntmps70
    go_wp2_with fail
    go_ret2
    exact ⟨rfl, Below.refl _ _⟩
end Go.Proofs.YtpacjofepiojdaaDoor

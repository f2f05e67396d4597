/-
  TbR5.
-/
import Derived.Test.YtpacjofepiojdaaDoorChecked
import GoSem.PinnedTables
import GoSem.Claim
import GoSem.ClaimJoined
import GoSem.ClaimMapViews
import Derived.JoinedTies
import Derived.KernelRfl
import Derived.Shelf.Unicode.DecodeSlow
import Derived.Laws.RangeAny
import Derived.Shelf.Small.Bits
import Derived.Shelf.Strconv.Itoa0
import Derived.Shelf.LaysM
import Derived.Shelf.Strconv.Clone
import Derived.Shelf.Unicode.DecodeAny
import Derived.Shelf.Slices.CompactS
import Derived.Ground.SlsfProg
import Derived.Shelf.SlSortCmp.Insertion
import Derived.Shelf.SlSortCmp.SiftDown1
import Derived.Shelf.SlSortCmp.HeapSort1
import Derived.Shelf.SlSortCmp.Insertion1
import Derived.Shelf.SlSortCmp.Median1
import Derived.Shelf.SlSortCmp.Pivot1
import Derived.Shelf.SlSortCmp.ReverseRange1
import Derived.Shelf.SlSortCmp.PartialInsertion1
import Derived.Shelf.SlSortCmp.PartitionEqual1
import Derived.Shelf.SlSortCmp.Partition1
import Derived.Shelf.SlSortCmp.Pdq1
import Derived.Shelf.SlSortCmp.Whole1
import Derived.Test.YtpacjofepiojdaaDoorProg
import Derived.WalkKit
import Derived.Deep.DeepFit
import Derived.Lib.OthersKept
import Derived.Lib.RuneCountTail
import Derived.Lib.LaidU8
import Derived.MakeChecks
import Derived.ProofKit
import Derived.OpenShut
import Derived.Deep.DeepHandedRow
import Derived.Deep.AppendLies
import Derived.Deep.OwnRows
import Derived.Laws.AppendOwnNone
import Derived.Deep.QuietTactic
import Derived.BigQuiet
import Derived.Deep.RegionWith
import Derived.Laws.DeepStrings4
import Derived.Below
import Derived.Maps.OwnSet
import Derived.Maps.Keyed
import Derived.DeepKeys4
import Derived.Lib.QuietBelow
import Derived.StillTail
import Derived.Deep.RegionHeld3
import Derived.Laws.ResultCell
import Derived.Laws.CopyOwn
import Derived.Deep.RegionLaw
import Derived.Laws.OwnMore
import Derived.Lib.MapLaws
import Derived.Sort.Walk0
import Derived.Deep.Slices
import Derived.SizedLaws
import Derived.Test.YtpacjofepiojdaaDoorRows
import Derived.Test.YtpacjofepiojdaaDoorP01
import Derived.Test.YtpacjofepiojdaaDoorP02
import Derived.Test.YtpacjofepiojdaaDoorP03
import Derived.Test.YtpacjofepiojdaaDoorP04
import Derived.Test.YtpacjofepiojdaaDoorP05
import Derived.Test.YtpacjofepiojdaaDoorP06
import Derived.Test.YtpacjofepiojdaaDoorP07
import Derived.Test.YtpacjofepiojdaaDoorP08
import Derived.Test.YtpacjofepiojdaaDoorP09
import Derived.Test.YtpacjofepiojdaaDoorP10
import Derived.Test.YtpacjofepiojdaaDoorP11
import Derived.Test.YtpacjofepiojdaaDoorP12
import Derived.Test.YtpacjofepiojdaaDoorP13
import Derived.Test.YtpacjofepiojdaaDoorP14
import Derived.Test.YtpacjofepiojdaaDoorP15
import Derived.Test.YtpacjofepiojdaaDoorP16
import Derived.Test.YtpacjofepiojdaaDoorP17
import Derived.Test.YtpacjofepiojdaaDoorP18
import Derived.Test.YtpacjofepiojdaaDoorP19
import Derived.Test.YtpacjofepiojdaaDoorP20
import Derived.Test.YtpacjofepiojdaaDoorP21
import Derived.Test.YtpacjofepiojdaaDoorP22
import Derived.Test.YtpacjofepiojdaaDoorP23
import Derived.Test.YtpacjofepiojdaaDoorP24
import Derived.Test.YtpacjofepiojdaaDoorP25
set_option linter.unusedSimpArgs false
set_option linter.unusedVariables false
namespace Go.Proofs.YtpacjofepiojdaaDoor
open Go.RowKit Go.Lib Go.Sort Go.Maps

/-- At most three kids a node, all of them places of the list. -/
def KIn (l : List Nd) : Prop := ∀ x ∈ l, x.kids.length ≤ 3 ∧ ∀ k ∈ x.kids, 0 ≤ k ∧ k < (l.length : Int)
theorem acc_in (ps : List (List Nd)) (h : ∀ p ∈ ps, KIn p ∧ 1 ≤ p.length) : KIn (accS ps).1 ∧ ∀ k ∈ (accS ps).2, 0 ≤ k ∧ k < ((accS ps).1.length : Int) := by
  have key : ∀ (qs rs : List (List Nd)), (∀ p ∈ qs, KIn p ∧ 1 ≤ p.length) → (KIn (accS rs).1 ∧ ∀ k ∈ (accS rs).2, 0 ≤ k ∧ k < ((accS rs).1.length : Int)) → (KIn (accS (rs ++ qs)).1 ∧ ∀ k ∈ (accS (rs ++ qs)).2, 0 ≤ k ∧ k < ((accS (rs ++ qs)).1.length : Int)) := by
    intro qs
    induction qs with
    | nil => intro rs _ h; simpa using h
    | cons q qs ih =>
      intro rs hq h
      have e : rs ++ q :: qs = (rs ++ [q]) ++ qs := by simp
      rw [e]
      refine ih (rs ++ [q]) (fun p hp => hq p (by simp [hp])) ?_
      obtain ⟨hq1, hq2⟩ := hq q (by simp)
      rw [accS_snoc]
      simp only
      have hl : ((accS rs).1 ++ q.map (mvN 0 ((accS rs).1.length : Int))).length = (accS rs).1.length + q.length := by simp
      refine ⟨fun x hx => ?_, fun k hk => ?_⟩
      · rw [hl]
        rcases List.mem_append.1 hx with hx | hx
        · obtain ⟨h1, h2⟩ := h.1 x hx
          exact ⟨h1, fun k hk => by have := h2 k hk; omega⟩
        · obtain ⟨y, hy, rfl⟩ := List.mem_map.1 hx
          obtain ⟨h1, h2⟩ := hq1 y hy
          refine ⟨by simpa [mvN] using h1, fun k hk => ?_⟩
          simp only [mvN, List.mem_map] at hk
          obtain ⟨k', hk', rfl⟩ := hk
          have := h2 k' hk'
          unfold mvK
          rw [if_pos (by omega)]
          omega
      · rw [hl]
        rcases List.mem_append.1 hk with hk | hk
        · have := h.2 k hk; omega
        · simp at hk; omega
  simpa using key ps [] h ⟨fun x hx => by simp [accS_nil] at hx, fun k hk => by simp [accS_nil] at hk⟩
theorem exA_in {L : List Nd} (h : TbI L) : ∀ i, i < L.length → KIn (exA L i) ∧ 1 ≤ (exA L i).length := by
  intro i
  induction i using Nat.strongRecOn with
  | ind i ih =>
    intro hi
    rw [exA_at h hi]
    have hp : ∀ p ∈ (edA L i).kids.map (fun k => exA L k.toNat), KIn p ∧ 1 ≤ p.length := fun p hp => by
      simp only [List.mem_map] at hp
      obtain ⟨k, hk, rfl⟩ := hp
      have := h.kids i hi k hk
      exact ih k.toNat (by omega) (by omega)
    obtain ⟨h1, h2⟩ := acc_in _ hp
    refine ⟨fun x hx => ?_, by rw [joinL_len]; omega⟩
    have hl : (joinL (edA L i).op (edA L i).n (edA L i).name ((edA L i).kids.map fun k => exA L k.toNat)).length = (accS ((edA L i).kids.map fun k => exA L k.toNat)).1.length + 1 := by unfold joinL; simp
    rw [hl]
    unfold joinL at hx
    rcases List.mem_append.1 hx with hx | hx
    · obtain ⟨h3, h4⟩ := h1 x hx
      exact ⟨h3, fun k hk => by have := h4 k hk; omega⟩
    · simp at hx
      subst hx
      refine ⟨?_, fun k hk => by have := h2 k hk; omega⟩
      show (accS _).2.length ≤ 3
      rw [accS_len2, List.length_map]
      exact formB_kids (h.form i hi)
theorem sum_mem_le : ∀ (l : List Nat) (x : Nat), x ∈ l → x ≤ l.sum
  | [], x, h => by cases h
  | a :: l, x, h => by
    rcases List.mem_cons.1 h with rfl | h
    · simp
    · have := sum_mem_le l x h; simp; omega
theorem exA_kid {L : List Nd} (h : TbI L) {i : Nat} (hi : i < L.length) {k : Int} (hk : k ∈ (edA L i).kids) : (exA L k.toNat).length ≤ (exA L i).length := by
  rw [exA_at h hi, joinL_len, List.map_map]
  have := sum_mem_le ((edA L i).kids.map (List.length ∘ fun k => exA L k.toNat)) (exA L k.toNat).length (List.mem_map.2 ⟨k, hk, rfl⟩)
  omega

set_option maxRecDepth 20000 in
set_option maxHeartbeats 4000000 in
theorem rexpr_any (q : Nat) (lv : Value) (pl : List (Nd × Value)) (L : List Nd) (hI : TbI L) : ∀ (i : Nat), i < L.length → (exA L i).length ≤ 64 → ∀ (w : World), RtM w q lv pl L →
    Calls Tryd.prog 98 #[.pointer (some ⟨q, 0, none⟩), .int .i64 i] w fun e w' => ∃ v', e = .returned v' ∧ OwnN w' w.heap.size v' (exA L i) ∧ Below w.heap.size w w' := by
  intro i
  induction i using Nat.strongRecOn with
  | ind i IH =>
    intro hi hs w hM
    obtain ⟨i0, hi0, hz0, hz1, hz2⟩ := info_parts Tryd.infoNodes
    have hle := hI.le
    obtain ⟨la, lc, rfl⟩ := hM.form
    have hkk := hI.kids i hi
    have hk3 := formB_kids (hI.form i hi)
    have hnode := exA_at hI hi
    have HKS : Sld (∀ k ∈ (edA L i).kids, (exA L k.toNat).length ≤ 64 ∧ KIn (exA L k.toNat)) := ⟨fun k hk => ⟨by have := exA_kid hI hi hk; omega, (exA_in hI k.toNat (by have := hkk k hk; omega)).1⟩⟩
    have HIH : Sld (∀ (k : Nat), (k : Int) ∈ (edA L i).kids → ∀ (W : World), Below w.heap.size w W → Calls Tryd.prog 98 #[.pointer (some ⟨q, 0, none⟩), .int .i64 k] W fun e w' => ∃ ao cap, e = .returned (.slice ao (exA L k).length cap) ∧ OwnN w' W.heap.size (.slice ao (exA L k).length cap) (exA L k) ∧ Below W.heap.size W w') := ⟨fun k hk W hW => by
      have h1 := hkk (k : Int) hk
      have h2 := (HKS.out (k : Int) hk).1
      rw [Int.toNat_natCast] at h2
      exact (IH k (by omega) (by omega) h2 W (hM.below hW)).mono fun e w' ⟨v', h1, h2, h3⟩ => by
        obtain ⟨ao, cap, rfl, _⟩ := id (Nodes_of_own h2 (Nat.le_refl _))
        exact ⟨ao, cap, h1, h2, h3⟩⟩
    obtain ⟨g, cap, ka, kc, hlv, hc1, hc2, e0, e1, e2, e3, hO⟩ := hM.at_ hi
    injection hlv with hlv1 _ hlv2
    subst hlv1 hlv2
    unfold maxLen at hc2
    have hcI : (L.length : Int) ≤ (lc : Int) := by omega
    have hcM : (lc : Int) ≤ 9223372036854775807 := by omega
    have hiI : (i : Int) < (L.length : Int) := by omega
    obtain ⟨aoK, capK, hvK, hK1, hK2, hkc⟩ := Ints_of_own hO (Nat.le_refl w.heap.size)
    simp only [Value.slice.injEq, true_and] at hvK
    obtain ⟨rfl, rfl⟩ := hvK
    have hkm := hK2.1
    unfold maxLen at hkm
    have hgl : g < w.heap.size := World.block_lt_of_cell? w _ e0
    have c0 := hM.c0
    have hql := hM.lt
    obtain ⟨R, hR⟩ : ∃ R, exA L i = R := ⟨_, rfl⟩
    rw [hR] at hnode ⊢
    generalize edA L i = x at *
    obtain ⟨op, n, nm, kids⟩ := x
    simp only at e0 e1 e2 e3 hkk hk3 hnode HKS HIH hkc hK1
    have HKC : Sld (kids = [] ∨ ∃ b o, ka = some ⟨b, o, none⟩ ∧ b < w.heap.size ∧ ∀ j, j < kids.length → w.cell? ⟨b, o + j, none⟩ = some (.int .i64 (kids.getD j 0))) := ⟨hkc⟩
    have HND : Sld (R = joinL op n nm (kids.map fun q => exA L q.toNat)) := ⟨hnode⟩
    have HKK : Sld (∀ q ∈ kids, 0 ≤ q ∧ q < (i : Int)) := ⟨hkk⟩
    have HTOP : Sld (∀ w', Below w.heap.size w w' → w'.cell? ⟨q, 0, none⟩ = some (.slice (some ⟨g, 0, none⟩) L.length lc) ∧ w'.cell? ⟨g, i * 4, none⟩ = some (.int .i64 op) ∧ w'.cell? ⟨g, i * 4 + 1, none⟩ = some (.int .i64 n) ∧ w'.cell? ⟨g, i * 4 + 2, none⟩ = some (.string nm) ∧ w'.cell? ⟨g, i * 4 + 3, none⟩ = some (.slice ka kids.length kc)) := ⟨fun w' hb =>
      ⟨(hb.cell (p := ⟨q, 0, none⟩) hql).trans c0, (hb.cell (p := ⟨g, _, none⟩) hgl).trans e0, (hb.cell (p := ⟨g, _, none⟩) hgl).trans e1, (hb.cell (p := ⟨g, _, none⟩) hgl).trans e2, (hb.cell (p := ⟨g, _, none⟩) hgl).trans e3⟩⟩
    have HNN : Sld (∀ W : World, Nodes W W.heap.size (.slice none 0 0) ([] : List Nd)) := ⟨fun W => ⟨none, 0, rfl, by simp, by simp, .inl rfl⟩⟩
    have hkI : (kids.length : Int) ≤ (kc : Int) := by omega
    have hkM : (kc : Int) ≤ 9223372036854775807 := by omega
    clear hkc hnode hkk c0 e0 e1 e2 e3 IH hR hM hO hs hI
    go_enter Tryd.func98, Tryd.ntmps98
    go_wp2_with fail
    go_loopw [5, 6] (fun v q wr => ∃ (j : Nat) (pvs : List Value), j ≤ kids.length ∧ q = .int .i64 j ∧ OwnLv wr w.heap.size (.slice none 0 0) [] v ((kids.take j).map fun q => exA L q.toNat) pvs ∧ Below w.heap.size w wr) (fun _ q _ => kids.length - (RowKit.intOf q).toNat)
    case atStart => exact ⟨0, [], by omega, rfl, ⟨rfl, World.ownsRow_nil _ _ _ _, by simp⟩, Below.refl _ _⟩
    case round =>
      obtain ⟨j, pvs, hj, rfl, hL, hB⟩ := hrel
      obtain ⟨cq, c0, c1, c2, c3⟩ := HTOP.out wr hB
      have hsz := hB.size
      have hln : ((kids.take j).map fun q => exA L q.toNat).length = j := by simp; omega
      have HL : Sld (OwnLv wr w.heap.size (.slice none 0 0) [] _ ((kids.take j).map fun q => exA L q.toNat) pvs) := ⟨hL⟩
      obtain ⟨va, vc, hv⟩ := row_form' hL.row
      rw [hln] at hv
      have HB : Sld (Below w.heap.size w wr) := ⟨hB⟩
      clear hL hB
      subst hv
      by_cases hjl : j < kids.length
      · have hjlI : (j : Int) < (kids.length : Int) := by omega
        obtain ⟨kb, ko, rfl, hkb, hkc⟩ : ∃ b o, ka = some ⟨b, o, none⟩ ∧ b < w.heap.size ∧ ∀ j, j < kids.length → w.cell? ⟨b, o + j, none⟩ = some (.int .i64 (kids.getD j 0)) := by
          rcases HKC.out with h | h
          · subst h; simp at hjl
          · exact h
        have hcj : wr.cell? ⟨kb, ko + j, none⟩ = some (.int .i64 (kids.getD j 0)) := (HB.out.cell (p := ⟨kb, ko + j, none⟩) hkb).trans (hkc j hjl)
        obtain ⟨hy0, hy1⟩ := HKK.out (kids.getD j 0) (by simp [hjl])
        have hymem : kids.getD j 0 ∈ kids := by simp [hjl]
        have HTK : Sld (((kids.take (j + 1)).map fun q => exA L q.toNat) = ((kids.take j).map fun q => exA L q.toNat) ++ [exA L (kids.getD j 0).toNat]) := ⟨by rw [List.take_succ_eq_append_getElem hjl, List.map_append]; simp [hjl]⟩
        clear hkc
        generalize kids.getD j 0 = y at *
        obtain ⟨y, rfl⟩ : ∃ z : Nat, y = (z : Int) := ⟨y.toNat, by omega⟩
        rw [Int.toNat_natCast] at HTK
        have CI : Sld _ := ⟨HIH.out y hymem wr HB.out⟩
        have HLN : Sld (((kids.take j).map fun q => exA L q.toNat).length = j) := ⟨hln⟩
        clear hln hymem
        generalize exA L y = P at *
        go_wp2_with fail
        refine CI.out.mono ?_
        rintro e w2 ⟨ao2, cap2, rfl, hP2, hb2⟩
        have hL2 := HL.out.below hb2
        have hP2' : PiR w2 w.heap.size (.slice none 0 0) [] (.slice ao2 P.length cap2) P := .inl (hP2.monoP hsz)
        have HB2 : Sld (Below w.heap.size w w2) := ⟨HB.out.trans (hb2.mono hsz)⟩
        have hz2' := HB2.out.size
        have hrow := hL2.row
        rw [HLN.out] at hrow
        have HL2 : Sld _ := ⟨hL2⟩
        have HP2 : Sld _ := ⟨hP2'⟩
        clear hL2 hP2 hP2' CI hb2
        go_wp2_with (at_builtin; refine wpList_append_lies _ rfl (.tmp 20) (.tmp 34) 46 rfl w.heap.size 22 i0 (.slice none 0 0) 1 24 Tryd.underlying46 hi0 hz0 hz1 hz2 rfl (by decide) _ _ _ rfl (hrow.alloc _) ⟨w2.heap.size, 0, none⟩ 1 1 [.slice ao2 P.length cap2] rfl rfl (cell_news_one _ _ _) (by simp [Value.oneCell']) (by omega) (by unfold maxLen; omega) (by omega) (by simp; omega) _ rfl ?_; intro g3 cap3 w3 hown3 hg3 hat hl3)
        refine ⟨⟨j + 1, pvs ++ [.slice ao2 P.length cap2], by omega, by go_num, ?_, ?_⟩, by simp [RowKit.intOf]; omega⟩
        · rw [HTK.out]
          refine (HL2.out.below ((Below.refl _ _).alloc (Nat.le_refl _) _)).snoc (HP2.out.below ((Below.refl _ _).alloc (Nat.le_refl _) _)) ?_ hg3
          rw [HLN.out]; exact hown3
        · exact (HB2.out.alloc hz2' _).grown hg3 (by simp; omega) (fun k hk => (own_block' hrow k hk).1)
      · have hje : j = kids.length := by omega
        subst hje
        have e : kids.take kids.length = kids := List.take_length
        have hL := HL.out
        rw [e] at hL
        have CJ : Sld _ := ⟨joined_any op n nm ka kids.length kc (.slice va kids.length vc) (kids.map fun q => exA L q.toNat) wr wr.heap.size (Nat.le_refl _) (hL.lst (HNN.out wr)) (by simpa using hk3) (fun p hp => by
          obtain ⟨q, hq, rfl⟩ := List.mem_map.1 hp
          obtain ⟨h2, h3⟩ := HKS.out q hq
          refine ⟨by omega, fun x hx => ?_⟩
          obtain ⟨h4, h5⟩ := h3 x hx
          refine ⟨by omega, fun z hz => ?_⟩
          have := h5 z hz
          omega)⟩
        clear hL HL
        go_wp2_with fail
        refine CJ.out.mono ?_
        rintro e w2 ⟨v', rfl, hO, hb2⟩
        rw [← HND.out] at hO
        go_wp2_with fail
        go_ret
        exact ⟨v', rfl, hO.monoP hsz, HB.out.trans (hb2.mono hsz)⟩

set_option maxRecDepth 20000 in
set_option maxHeartbeats 2000000 in
theorem rExpr_ok (w : World) (q : Nat) (lv : Value) (pl : List (Nd × Value)) (L : List Nd) (i : Nat) (h : RtM w q lv pl L) (hI : TbI L) (hi : i < L.length) (hs : (exA L i).length ≤ 64) :
    Calls Tryd.prog 69 #[.pointer (some ⟨q, 0, none⟩), .int .i64 i] w fun e w' => ∃ v', e = .returned (.tuple #[v', .int .i64 0]) ∧ OwnN w' w.heap.size v' (exA L i) ∧ Below w.heap.size w w' := by
  have CS := Sld.mk (rSize_ok w q lv pl L i h hI hi)
  have CX : Sld (∀ W, Below w.heap.size w W → Calls Tryd.prog 98 #[.pointer (some ⟨q, 0, none⟩), .int .i64 i] W fun e w' => ∃ v', e = .returned v' ∧ OwnN w' W.heap.size v' (exA L i) ∧ Below W.heap.size W w') := ⟨fun W hW => rexpr_any q lv pl L hI i hi hs W (h.below hW)⟩
  have hsz : (szL L).getD i 0 ≤ 64 := by rw [szA_ex hI i hi]; omega
  generalize (szL L).getD i 0 = S at *
  have hSI : ¬ (64 : Int) < (S : Int) := by omega
  clear h hI
  go_enter Tryd.func69, Tryd.ntmps69
  go_wp2_with fail
  refine CS.out.mono ?_
  rintro e w1 ⟨rfl, hb1⟩
  have HB1 := Sld.mk hb1
  clear hb1 CS
  go_wp2_with fail
  refine (CX.out w1 HB1.out).mono ?_
  rintro e w2 ⟨v', rfl, hO, hb2⟩
  have HO := Sld.mk (hO.monoP HB1.out.size)
  have HB2 := Sld.mk (HB1.out.trans (hb2.mono HB1.out.size))
  clear hO hb2 CX
  go_wp2_with fail
  go_ret2
  exact ⟨v', rfl, HO.out, HB2.out⟩
set_option maxRecDepth 20000 in
set_option maxHeartbeats 2000000 in
theorem rExpr_large (w : World) (q : Nat) (lv : Value) (pl : List (Nd × Value)) (L : List Nd) (i : Nat) (h : RtM w q lv pl L) (hI : TbI L) (hi : i < L.length) (hs : 64 < (szL L).getD i 0) :
    Calls Tryd.prog 69 #[.pointer (some ⟨q, 0, none⟩), .int .i64 i] w fun e w' => e = .returned (.tuple #[.slice none 0 0, .int .i64 10]) ∧ Below w.heap.size w w' := by
  have CS := Sld.mk (rSize_ok w q lv pl L i h hI hi)
  generalize (szL L).getD i 0 = S at *
  have hSI : (64 : Int) < (S : Int) := by omega
  clear h hI
  go_enter Tryd.func69, Tryd.ntmps69
  go_wp2_with fail
  refine CS.out.mono ?_
  rintro e w1 ⟨rfl, hb1⟩
  have HB1 := Sld.mk hb1
  clear hb1 CS
  go_wp2_with fail
  go_ret2
  exact ⟨rfl, HB1.out⟩
set_option maxRecDepth 20000 in
set_option maxHeartbeats 2000000 in
theorem rExpr_bad (w : World) (q : Nat) (lv : Value) (pl : List (Nd × Value)) (L : List Nd) (a : Int) (h : RtM w q lv pl L) (hi : hasT L a = false) :
    Calls Tryd.prog 69 #[.pointer (some ⟨q, 0, none⟩), .int .i64 a] w fun e w' => e = .returned (.tuple #[.slice none 0 0, .int .i64 2]) ∧ Below w.heap.size w w' := by
  have CS := Sld.mk (rSize_bad w q lv pl L a h hi)
  clear h hi
  go_enter Tryd.func69, Tryd.ntmps69
  go_wp2_with fail
  refine CS.out.mono ?_
  rintro e w1 ⟨rfl, hb1⟩
  have HB1 := Sld.mk hb1
  clear hb1 CS
  go_wp2_with fail
  go_ret2
  exact ⟨rfl, HB1.out⟩
end Go.Proofs.YtpacjofepiojdaaDoor

/-
  RmKpW, FkW, EwTb.
-/
import Derived.Test.YtlbmijcpalfaeaaDoorChecked
import GoSem.PinnedTables
import GoSem.Claim
import GoSem.ClaimJoined
import GoSem.ClaimMapViews
import Derived.JoinedTies
import Derived.KernelRfl
import Derived.Shelf.Unicode.DecodeSlow
import Derived.Laws.RangeAny
import Derived.Shelf.Strconv.Itoa0
import Derived.Shelf.LaysM
import Derived.Shelf.Strconv.Clone
import Derived.Shelf.Unicode.DecodeAny
import Derived.Test.YtlbmijcpalfaeaaDoorProg
import Derived.WalkKit
import Derived.Deep.DeepFit
import Derived.Lib.OthersKept
import Derived.Lib.RuneCountTail
import Derived.Lib.LaidU8
import Derived.MakeChecks
import Derived.ProofKit
import Derived.OpenShut
import Derived.Deep.DeepHandedRow
import Derived.Deep.AppendLies
import Derived.Deep.OwnRows
import Derived.Laws.AppendOwnNone
import Derived.Deep.QuietTactic
import Derived.BigQuiet
import Derived.Deep.RegionWith
import Derived.Laws.DeepStrings4
import Derived.Below
import Derived.Lib.MapLaws
import Derived.Sort.Walk0
import Derived.Lib.QuietBelow
import Derived.StillTail
import Derived.Deep.RegionHeld3
import Derived.Laws.AppendOwn
import Derived.Deep.DeepCutAuto
import Derived.Maps.OwnSet
import Derived.Maps.Keyed
import Derived.DeepKeys4
import Derived.Laws.ResultCell
import Derived.Laws.CopyOwn
import Derived.Laws.OwnMore
import Derived.Deep.RegionLaw
import Derived.Laws.IdiomStrings
import Derived.WalkSmall
import Derived.Lib.SlBytesRow
import Derived.StringKeys
import Derived.RowKit
import Derived.Laws.Entries
import Derived.Laws.StructEq
import Derived.Laws.Rows
import Derived.Lib.LaidTab
import Derived.Deep.Slices
import Derived.SizedLaws
import Derived.Test.YtlbmijcpalfaeaaDoorRows
import Derived.Test.YtlbmijcpalfaeaaDoorF01
import Derived.Test.YtlbmijcpalfaeaaDoorF02
import Derived.Test.YtlbmijcpalfaeaaDoorF03
import Derived.Test.YtlbmijcpalfaeaaDoorF04
import Derived.Test.YtlbmijcpalfaeaaDoorF05
import Derived.Test.YtlbmijcpalfaeaaDoorF06
import Derived.Test.YtlbmijcpalfaeaaDoorF07
import Derived.Test.YtlbmijcpalfaeaaDoorF08
import Derived.Test.YtlbmijcpalfaeaaDoorF09
import Derived.Test.YtlbmijcpalfaeaaDoorF10
import Derived.Test.YtlbmijcpalfaeaaDoorF11
import Derived.Test.YtlbmijcpalfaeaaDoorF12
import Derived.Test.YtlbmijcpalfaeaaDoorF13
import Derived.Test.YtlbmijcpalfaeaaDoorF14
import Derived.Test.YtlbmijcpalfaeaaDoorF15
import Derived.Test.YtlbmijcpalfaeaaDoorF16
import Derived.Test.YtlbmijcpalfaeaaDoorF17
import Derived.Test.YtlbmijcpalfaeaaDoorF18
import Derived.Test.YtlbmijcpalfaeaaDoorF19
import Derived.Test.YtlbmijcpalfaeaaDoorF20
import Derived.Test.YtlbmijcpalfaeaaDoorF21
import Derived.Test.YtlbmijcpalfaeaaDoorF22
import Derived.Test.YtlbmijcpalfaeaaDoorF23
import Derived.Test.YtlbmijcpalfaeaaDoorF24
import Derived.Test.YtlbmijcpalfaeaaDoorF25
import Derived.Test.YtlbmijcpalfaeaaDoorF26
import Derived.Test.YtlbmijcpalfaeaaDoorF27
import Derived.Test.YtlbmijcpalfaeaaDoorF28
import Derived.Test.YtlbmijcpalfaeaaDoorF29
import Derived.Test.YtlbmijcpalfaeaaDoorF30
import Derived.Test.YtlbmijcpalfaeaaDoorF31
import Derived.Test.YtlbmijcpalfaeaaDoorF32
import Derived.Test.YtlbmijcpalfaeaaDoorF33
import Derived.Test.YtlbmijcpalfaeaaDoorF34
import Derived.Test.YtlbmijcpalfaeaaDoorF35
import Derived.Test.YtlbmijcpalfaeaaDoorF36
import Derived.Test.YtlbmijcpalfaeaaDoorF37
import Derived.Test.YtlbmijcpalfaeaaDoorF38
import Derived.Test.YtlbmijcpalfaeaaDoorF39
import Derived.Test.YtlbmijcpalfaeaaDoorF40
import Derived.Test.YtlbmijcpalfaeaaDoorF41
import Derived.Test.YtlbmijcpalfaeaaDoorF42
set_option linter.unusedSimpArgs false
set_option linter.unusedVariables false
namespace Go.Proofs.YtlbmijcpalfaeaaDoor
open Go.RowKit Go.Lib Go.Sort

set_option maxRecDepth 20000 in
set_option maxHeartbeats 2000000 in
theorem kept_any {w : World} {R : Nat} {l : List Nd} {wa : Option Addr} {wc fb fc : Nat} {ka : Option Addr} {kc : Nat} (h : RoomRd w R l wa wc fb fc ka kc) (hF : FitR l) :
    Calls Tryd.prog 44 #[.pointer (some ⟨R, 0, none⟩)] w fun e w' => e = .returned (.bool true) ∧ Below w.heap.size w w' := by
  have c0 := h.c0
  have c1 := h.c1
  obtain ⟨hf1, hf2⟩ := h.full.bound
  rw [List.length_append, exL_len] at hf1
  unfold maxLen at hf2
  obtain ⟨hw1, hw2⟩ := h.was.bound
  unfold maxLen at hw2
  obtain ⟨hk1, hk2⟩ := h.kcap
  unfold maxLen at hk2
  have hfl := hF.len
  have hcut : (l.length : Int) ≤ (fc : Int) := by omega
  have HF : Hid (FitR l) := hF
  have HR : Hid (RoomRd w R l wa wc fb fc ka kc) := h
  have g0 := cell_regrown c0
  have g1 := cell_regrown c1
  have cS : Hid (∀ d os, Calls Tryd.prog 14 #[.slice (some ⟨fb, 0, none⟩) l.length fc, .slice wa l.length wc] (grow (redrawn w d) os) fun e w'' => e = .returned (.bool true) ∧ ∃ p : Regrown, w'' = grow (redrawn w p.d) p.os) := fun d os =>
    Calls.regrown_of (sameR ((HR.out.full.prefix).below (below_regrown w d os) (below_regrown w d os).size) (HR.out.was.below (below_regrown w d os) (below_regrown w d os).size) true (by simp))
  have hne : ((l.length : Int) + 7 != (l.length : Int) + 7) = false := by simp
  clear h hF
  go_enter Tryd.func44, Tryd.ntmps44
  go_wp2_with fail
  refine wp_region_quiet_below (by kernel_rfl) (by kernel_rfl) ?_
  iterate 22 (go_big_quiet_step ((go_at_call 14; exact cS.out _ _)))
  refine wpQuiet_nil ?_
  intro _ hw'
  obtain ⟨⟨ds, oss⟩, hw''⟩ := hw'
  subst hw''
  have hb2 := below_regrown w ds oss
  have HR2 : Hid (RoomRd (grow (redrawn w ds) oss) R l wa wc fb fc ka kc) := HR.out.below hb2
  have HB2 : Hid (Below w.heap.size w (grow (redrawn w ds) oss)) := hb2
  clear hb2 c0 c1 g0 g1 cS HR
  generalize grow (redrawn w ds) oss = w2 at *
  go_wp2_with fail
  go_loopw [4] (fun i wr => ∃ k : Nat, k ≤ l.length ∧ i = .int .i64 k ∧ Below w2.heap.size w2 wr) (fun i _ => l.length - (RowKit.intOf i).toNat)
  case atStart => exact ⟨0, by omega, rfl, Below.refl _ _⟩
  case round =>
    obtain ⟨k, hk, rfl, hbr⟩ := hrel
    obtain ⟨wo, hwo⟩ : ∃ wo, wo = wr := ⟨_, rfl⟩
    subst hwo
    have HRo : Hid (RoomRd wo R l wa wc fb fc ka kc) := HR2.out.below hbr
    have HBo : Hid (Below w2.heap.size w2 wo) := hbr
    clear hbr
    by_cases hlt : k < l.length
    · obtain ⟨b, o, kva, kvc, rfl, hbl, c3⟩ : ∃ b o kva kvc, wa = some ⟨b, o, none⟩ ∧ b < wo.heap.size ∧ wo.cell? ⟨b, o + k * 4 + 3, none⟩ = some (.slice kva (l.getD k nd0).kids.length kvc) := by
        obtain ⟨ao', cap', e1, _, _, hc⟩ := HRo.out.was
        cases e1
        rcases hc with h | ⟨b, o, e, hb, hc⟩
        · subst h; simp at hlt
        · obtain ⟨kv, hn⟩ := hc k hlt
          obtain ⟨kva, kvc, e2, _⟩ := hn.kids
          exact ⟨b, o, kva, kvc, e, hb, by rw [← e2]; exact hn.c3⟩
      obtain ⟨kb, gi, ci, rfl, hkb, hkc, hgi, hci1, hci2, hsp⟩ := HRo.out.kids k hlt
      unfold maxLen at hci2
      obtain ⟨K, hK⟩ : ∃ K, (l.getD k nd0).kids.length = K := ⟨_, rfl⟩
      rw [hK] at c3 hkc hci1 hsp
      have HSP : Hid (∀ j, j < 7 → wo.cell? ⟨gi, K + j, none⟩ = some (.int .i64 (7000 + (j : Int)))) := hsp
      have c0 := HRo.out.c0
      have c2 := HRo.out.c2
      have hRl := HRo.out.lt
      clear hsp hK
      go_wp2_with fail
      go_loopw [6] (fun i wq => ∃ j : Nat, j ≤ 7 ∧ i = .int .i64 j ∧ Below wo.heap.size wo wq) (fun i _ => 7 - (RowKit.intOf i).toNat)
      case atStart => exact ⟨0, by omega, rfl, Below.refl _ _⟩
      case round =>
        obtain ⟨j, hj, rfl, hbq⟩ := hrel
        by_cases hjl : j < 7
        · have d2 : wr.cell? ⟨R, 2, none⟩ = some (.slice (some ⟨kb, 0, none⟩) l.length kc) := (hbq.cell (p := ⟨R, 2, none⟩) hRl).trans c2
          have dk : wr.cell? ⟨kb, k, none⟩ = some (.slice (some ⟨gi, 0, none⟩) (K + 7) ci) := (hbq.cell (p := ⟨kb, k, none⟩) hkb).trans hkc
          have dg : wr.cell? ⟨gi, K + j, none⟩ = some (.int .i64 (7000 + (j : Int))) := (hbq.cell (p := ⟨gi, K + j, none⟩) hgi).trans (HSP.out j hjl)
          have HBQ : Hid (Below wo.heap.size wo wr) := hbq
          have hKj : (K : Int) + (j : Int) < (K : Int) + 7 := by omega
          clear hbq
          go_wp2_with fail
          exact ⟨⟨j + 1, by omega, by go_num, HBQ.out⟩, by simp [RowKit.intOf]; omega⟩
        · have hj7 : j = 7 := by omega
          subst hj7
          have HBQ : Hid (Below w2.heap.size w2 wr) := HBo.out.trans (hbq.mono HBo.out.size)
          clear hbq
          go_wp2_with fail
          exact ⟨⟨k + 1, by omega, by go_num, HBQ.out⟩, by simp [RowKit.intOf]; omega⟩
    · have hke : k = l.length := by omega
      subst hke
      go_wp2_with fail
      go_loopw [7] (fun i wq => ∃ j : Nat, j ≤ 7 ∧ i = .int .i64 j ∧ Below wo.heap.size wo wq) (fun i _ => 7 - (RowKit.intOf i).toNat)
      case atStart => exact ⟨0, by omega, rfl, Below.refl _ _⟩
      case round =>
        obtain ⟨j, hj, rfl, hbq⟩ := hrel
        have HRr : Hid (RoomRd wr R l wa wc fb fc ka kc) := HRo.out.below hbq
        have HBQ : Hid (Below w2.heap.size w2 wr) := HBo.out.trans (hbq.mono HBo.out.size)
        have HBq : Hid (Below wo.heap.size wo wr) := hbq
        clear hbq
        by_cases hjl : j < 7
        · have d1 := HRr.out.c1
          have dg : wr.cell? ⟨fb, (l.length + j) * 4, none⟩ = some (.int .i64 (7000 + (j : Int))) := by
            obtain ⟨ao', cap', e1, _, _, hc⟩ := HRr.out.full
            have hlen : (l ++ exL 7).length = l.length + 7 := by rw [List.length_append, exL_len]
            simp only [Value.slice.injEq] at e1
            obtain ⟨ea, _, _⟩ := e1
            rcases hc with h | ⟨b, o, e, hb, hc⟩
            · rw [h] at hlen; simp at hlen
            · rw [e] at ea
              cases ea
              obtain ⟨kv, hn⟩ := hc (l.length + j) (by omega)
              have e2 : (l ++ exL 7).getD (l.length + j) nd0 = ⟨7000 + (j : Int), 0, ⟨#[]⟩, []⟩ := by
                simp only [List.getD_eq_getElem?_getD]
                rw [List.getElem?_append_right (by omega)]
                simp [exL, hjl]
              rw [e2] at hn
              have := hn.c0
              rw [Nat.zero_add] at this
              exact this
          have hlj : (l.length : Int) + (j : Int) < (l.length : Int) + 7 := by omega
          go_wp2_with fail
          exact ⟨⟨j + 1, by omega, by go_num, HBq.out⟩, by simp [RowKit.intOf]; omega⟩
        · have hj7 : j = 7 := by omega
          subst hj7
          go_wp2_with fail
          go_ret
          exact ⟨rfl, HB2.out.trans (HBQ.out.mono HB2.out.size)⟩
end Go.Proofs.YtlbmijcpalfaeaaDoor

set_option linter.unusedSimpArgs false
set_option linter.unusedVariables false
namespace Go.Proofs.YtlbmijcpalfaeaaDoor
open Go.RowKit Go.Lib

set_option maxRecDepth 100000 in
set_option maxHeartbeats 16000000 in
theorem factsKeeps_walk (w : World) (ao : Option Addr) (cap : Nat) (l : List Nd) (ca : Option Addr) (cc : Nat) (cs : List Cls) (ra : Option Addr) (rc : Nat) (roots : List Int) (T : Tabs w) (hG : GrpCells w) (hR : Rd w ao cap l) (hF : FitR l) (hc : Clss w w.heap.size (.slice ca cs.length cc) cs) (hr : Ints w w.heap.size (.slice ra roots.length rc) roots) (hp : PicOk cs roots) :
    Calls Tryd.prog 7 #[.slice ao l.length cap, .agg #[.slice ca cs.length cc, .slice ra roots.length rc]] w fun e w' => e = .returned (.bool true) ∧ Below w.heap.size w w' := by
  obtain ⟨i0, hi, hz0, hz1, hz2⟩ := info_parts Tryd.infoFact
  obtain ⟨W1, hW1⟩ : ∃ W1, w.alloc (.cells #[.slice ca cs.length cc, .slice ra roots.length rc] 56) = W1 := ⟨_, rfl⟩
  have hb1 : Below w.heap.size w W1 := by rw [← hW1]; exact (Below.refl _ _).alloc (Nat.le_refl _) _
  have hk1 : W1.heap[w.heap.size]? = some (.cells #[.slice ca cs.length cc, .slice ra roots.length rc] 56 (0, 0)) := by rw [← hW1, Deep.blk_alloc_new]
  have HP : Sld (∀ V, Below W1.heap.size W1 V → V.cell? ⟨w.heap.size, 0, none⟩ = some (.slice ca cs.length cc) ∧ V.cell? ⟨w.heap.size, 1, none⟩ = some (.slice ra roots.length rc) ∧ Below w.heap.size w V ∧ Tabs V ∧ GrpCells V ∧ Clss V V.heap.size (.slice ca cs.length cc) cs ∧ Ints V V.heap.size (.slice ra roots.length rc) roots ∧ Rd V ao cap l) := ⟨fun V hV => by
    have h1 := (hV.block _ (lt_of_block hk1)).trans hk1
    have hb := hb1.trans (hV.mono hb1.size)
    exact ⟨by simp [World.cell?, h1], by simp [World.cell?, h1], hb, T.below hb, hG.below hb, hc.below hb hb.size, hr.below hb hb.size, hR.below hb hb.size⟩⟩
  have HPO := Sld.mk hp
  have HFR := Sld.mk hF
  have hfew := hp.few
  have HFT := Sld.mk hF.fit
  have HW1 := Sld.mk hW1
  clear hW1 hb1 hk1 hp hc hr T hG hR hF
  go_enter Tryd.func7, Tryd.ntmps7
  go_wp2_with fail
  rw [HW1.out]
  obtain ⟨_, _, _, hT1, hG1, _⟩ := HP.out W1 (Below.refl _ _)
  refine (awake13_any W1 hT1.spans hG1).mono ?_
  rintro e w2 ⟨rfl, hb2⟩
  have B2 := Sld.mk hb2
  have hR2 := (HP.out w2 hb2).2.2.2.2.2.2.2
  clear hb2 hT1 hG1
  go_wp2_with fail
  refine (roomy_any ao cap l w2 hR2 HFR.out).mono ?_
  rintro e w3 ⟨R, vw, vf, vk, pp, ks, rfl, hRO⟩
  obtain ⟨wa, wc, fb, fc, ka, kc, hRm⟩ := hRO.rd
  have hb3 : Below W1.heap.size W1 w3 := B2.out.trans (hRO.below.mono B2.out.size)
  have B3 := Sld.mk hb3
  have R3 := Sld.mk hRm
  obtain ⟨p0, p1, _, _, _, hc3, hr3, _⟩ := HP.out w3 hb3
  have CC := Sld.mk (copyP_any cs roots ca ra cc rc w3 hc3 hr3 HPO.out)
  clear hRO hRm hb3 hc3 hr3 hR2 B2
  go_wp2_with fail
  refine CC.out.mono ?_
  rintro e w4 ⟨⟨xa, xc, ya, yc, rfl, hcx, hrx⟩, hb4⟩
  obtain ⟨W5, hW5⟩ : ∃ W5, w4.alloc (.cells #[.slice xa cs.length xc, .slice ya roots.length yc] 56) = W5 := ⟨_, rfl⟩
  have hb45 : Below w4.heap.size w4 W5 := by rw [← hW5]; exact (Below.refl _ _).alloc (Nat.le_refl _) _
  have hk5 : W5.heap[w4.heap.size]? = some (.cells #[.slice xa cs.length xc, .slice ya roots.length yc] 56 (0, 0)) := by rw [← hW5, Deep.blk_alloc_new]
  have hb35 : Below w3.heap.size w3 W5 := hb4.trans (hb45.mono hb4.size)
  have hb15 : Below W1.heap.size W1 W5 := B3.out.trans (hb35.mono B3.out.size)
  have HQ : Sld (∀ V, Below W5.heap.size W5 V → (V.cell? ⟨w4.heap.size, 0, none⟩ = some (.slice xa cs.length xc) ∧ V.cell? ⟨w4.heap.size, 1, none⟩ = some (.slice ya roots.length yc)) ∧ (Clss V V.heap.size (.slice xa cs.length xc) cs ∧ Ints V V.heap.size (.slice ya roots.length yc) roots) ∧ RoomRd V R l wa wc fb fc ka kc ∧ Below W1.heap.size W1 V) := ⟨fun V hV => by
    have h1 := (hV.block _ (lt_of_block hk5)).trans hk5
    have h2 := hb35.trans (hV.mono hb35.size)
    have h3 := hb45.trans (hV.mono hb45.size)
    exact ⟨⟨by simp [World.cell?, h1], by simp [World.cell?, h1]⟩, ⟨hcx.below h3 h3.size, hrx.below h3 h3.size⟩, R3.out.below h2, hb15.trans (hV.mono hb15.size)⟩⟩
  have CE : Sld (∀ V, Below W5.heap.size W5 V → Calls Tryd.prog 42 #[.pointer (some ⟨R, 0, none⟩)] V fun e w' => e = .returned (.slice (some ⟨fb, 0, none⟩) l.length fc) ∧ Below V.heap.size V w') := ⟨fun V hV => roomExpr (HQ.out V hV).2.2.1⟩
  have CO : Sld (∀ V, Below W5.heap.size W5 V → Calls Tryd.prog 41 #[.slice (some ⟨fb, 0, none⟩) l.length fc] V fun e w' => e = .returned (.tuple #[.agg #[.bool (ofE l).t, .bool (ofE l).c, .int .i64 (ofE l).n], .int .i64 (chkE l)]) ∧ Below V.heap.size V w') := ⟨fun V hV => by
    have h := HP.out V (HQ.out V hV).2.2.2
    exact ofE_any h.2.2.2.1.spans h.2.2.2.2.1 (HQ.out V hV).2.2.1.full.prefix⟩
  have CL : Sld (∀ V, Below W5.heap.size W5 V → Calls Tryd.prog 43 #[.agg #[.slice xa cs.length xc, .slice ya roots.length yc]] V fun e w' => (∃ v xs fs z, e = .returned (.tuple #[v, .int .i64 z]) ∧ w'.ownsRow V.heap.size 65 3 v fs.length xs ∧ FcX xs fs ∧ ClK cs (ofB cs roots) fs z) ∧ Below V.heap.size V w') := ⟨fun V hV => by
    have h := HP.out V (HQ.out V hV).2.2.2
    exact (classes13_any cs roots xa ya xc yc V h.2.2.2.1 h.2.2.2.2.1 (HQ.out V hV).2.1.1 (HQ.out V hV).2.1.2 HPO.out).mono fun e w' ⟨h1, h2⟩ => ⟨h1.gen, h2⟩⟩
  have CK : Sld (∀ V, Below W5.heap.size W5 V → Calls Tryd.prog 44 #[.pointer (some ⟨R, 0, none⟩)] V fun e w' => e = .returned (.bool true) ∧ Below V.heap.size V w') := ⟨fun V hV => kept_any (HQ.out V hV).2.2.1 HFR.out⟩
  have CP : Sld (∀ V, Below W5.heap.size W5 V → Calls Tryd.prog 45 #[.agg #[.slice xa cs.length xc, .slice ya roots.length yc], .agg #[.slice ca cs.length cc, .slice ra roots.length rc]] V fun e w' => e = .returned (.bool true) ∧ Below V.heap.size V w') := ⟨fun V hV => by
    have h := HP.out V (HQ.out V hV).2.2.2
    exact samePic_eq cs roots xa ya ca ra xc yc cc rc V (HQ.out V hV).2.1.1 (HQ.out V hV).2.1.2 h.2.2.2.2.2.1 h.2.2.2.2.2.2.1⟩
  have CX : Sld (∀ V, Below W5.heap.size W5 V → Calls Tryd.prog 11 #[.slice ao l.length cap] V fun e w' => e = .returned (.int .i64 (chkE l)) ∧ Below V.heap.size V w') := ⟨fun V hV => by
    have h := HP.out V (HQ.out V hV).2.2.2
    exact rchkR h.2.2.2.2.2.2.2 HFT.out _ rfl⟩
  have HW5 := Sld.mk hW5
  have HBW : Sld (∀ V, Below W5.heap.size W5 V → Below w.heap.size w V) := ⟨fun V hV => (HP.out V (HQ.out V hV).2.2.2).2.2.1⟩
  have HC5 : Sld (∀ V, Below W5.heap.size W5 V → V.cell? ⟨w4.heap.size, 0, none⟩ = some (.slice xa cs.length xc) ∧ V.cell? ⟨w4.heap.size, 1, none⟩ = some (.slice ya roots.length yc) ∧ V.cell? ⟨w.heap.size, 0, none⟩ = some (.slice ca cs.length cc) ∧ V.cell? ⟨w.heap.size, 1, none⟩ = some (.slice ra roots.length rc)) := ⟨fun V hV => by
    have h := HP.out V (HQ.out V hV).2.2.2
    exact ⟨(HQ.out V hV).1.1, (HQ.out V hV).1.2, h.1, h.2.1⟩⟩
  generalize ofB cs roots = PB at *
  generalize ofE l = F at *
  generalize chkE l = ce at *
  obtain ⟨Ft, Fc', Fn⟩ := F
  simp only at CO
  have hq := neq_fact ⟨Ft, Fc', Fn⟩ ⟨Ft, Fc', Fn⟩
  rw [decide_eq_false (by simp)] at hq
  simp only at hq
  clear hW5 hb45 hk5 hb35 hb15 hb4 hcx hrx CC HP HPO HFR HFT HW1 HQ B3 R3 p0 p1
  go_wp2_with fail
  rw [HW5.out]
  refine (CE.out W5 (Below.refl _ _)).mono ?_
  rintro e w6 ⟨rfl, hb6⟩
  have C6 := Sld.mk (CO.out w6 hb6)
  have B6 := Sld.mk hb6
  clear hb6
  go_wp2_with fail
  refine C6.out.mono ?_
  rintro e w7 ⟨rfl, hb67⟩
  have hb7 : Below W5.heap.size W5 w7 := B6.out.trans (hb67.mono B6.out.size)
  clear hb67
  obtain ⟨W8, hW8⟩ : ∃ W8, w7.alloc (.cells #[.bool Ft, .bool Fc', .int .i64 Fn] 65) = W8 := ⟨_, rfl⟩
  have hb8 : Below W5.heap.size W5 W8 := by rw [← hW8]; exact hb7.alloc hb7.size _
  have hk8 : W8.heap[w7.heap.size]? = some (.cells #[.bool Ft, .bool Fc', .int .i64 Fn] 65 (0, 0)) := by rw [← hW8, Deep.blk_alloc_new]
  obtain ⟨x0, x1, y0, y1⟩ := HC5.out W8 hb8
  have HW8 := Sld.mk hW8
  have B8 := Sld.mk hb8
  have K8 := Sld.mk hk8
  rw [← hW8] at x0 x1
  clear hW8 hb7 C6 hb8 hk8 y0 y1
  go_wp2_with fail
  rw [HW8.out]
  refine (CL.out W8 B8.out).mono ?_
  rintro e w9 ⟨⟨vc, xsc, fs, z, rfl, hoc, hxc, hkc⟩, hb9⟩
  have HOC := Sld.mk hoc
  have hoc9 := hoc
  have HXC := Sld.mk hxc
  have HKC := Sld.mk hkc
  have B9 : Sld (Below W8.heap.size W8 w9) := ⟨hb9⟩
  have hb59 : Below W5.heap.size W5 w9 := B8.out.trans (hb9.mono B8.out.size)
  obtain ⟨x0, x1, y0, y1⟩ := HC5.out w9 hb59
  have B59 := Sld.mk hb59
  clear hoc hxc hkc hb9 hb59 y0 y1
  go_wp2_with fail
  refine (CL.out w9 B59.out).mono ?_
  rintro e w10 ⟨⟨vd, xsd, fs', z', rfl, hod, hxd, hkd⟩, hb10⟩
  obtain ⟨e1, e2⟩ := HKC.out.one hkd
  subst e1; subst e2
  have HOD := Sld.mk hod
  have HXD := Sld.mk hxd
  have B10 : Sld (Below w9.heap.size w9 w10) := ⟨hb10⟩
  have B8W : Sld (∀ V, Below w10.heap.size w10 V → V.heap[w7.heap.size]? = W8.heap[w7.heap.size]?) := ⟨fun V hV => by
    have h1 := lt_of_block K8.out
    have h2 := B9.out.size
    have h3 := hb10.size
    exact (hV.block _ (by omega)).trans ((hb10.block _ (by omega)).trans (B9.out.block _ h1))⟩
  have B510 : Sld (Below W5.heap.size W5 w10) := ⟨B59.out.trans (hb10.mono B59.out.size)⟩
  have hrf := row_form' hoc9
  obtain ⟨qa, qc, hvc⟩ := hrf
  subst hvc
  obtain ⟨da, dc, hvd⟩ := row_form' hod
  subst hvd
  have hne : ∀ a b, (Value.slice qa fs'.length qc).ownBlock = some a → (Value.slice da fs'.length dc).ownBlock = some b → a ≠ b := by
    intro a b h1 h2 e
    have h3 := (rw_block hoc9 h1).2.1
    have h4 := (rw_block hod h2).1
    omega
  have KP10 : Sld (KpM W5 (.slice qa fs'.length qc) (.slice da fs'.length dc) fs'.length fs' w10) := ⟨⟨⟨_, ownsRow_base (ownsRow_below hoc9 hb10) B8.out.size⟩, fcS_own hod hxd, hne, B510.out⟩⟩
  have HCS : Sld (∀ V, Below w10.heap.size w10 V → FcS V (.slice qa fs'.length qc) fs') := ⟨fun V hV => (fcS_own (ownsRow_below hoc9 hb10) HXC.out).below hV⟩
  have HZ := Sld.mk hkd.zero
  have HLE := Sld.mk hkd.le
  have HQL : fs'.length ≤ qc ∧ qc ≤ maxLen := by
    obtain ⟨_, _, e, h1, h2, _⟩ := fcS_own hoc9 HXC.out
    injection e with e1 e2 e3
    subst e3; exact ⟨h1, h2⟩
  have HDL : fs'.length ≤ dc ∧ dc ≤ maxLen := by
    obtain ⟨_, _, e, h1, h2, _⟩ := fcS_own hod hxd
    injection e with e1 e2 e3
    subst e3; exact ⟨h1, h2⟩
  have HKD := Sld.mk hkd
  obtain ⟨hq1, hq2⟩ := HQL
  obtain ⟨hd1, hd2⟩ := HDL
  unfold maxLen at hq2 hd2
  clear hod hxd hkd hb10 x0 x1 hoc9 hne HOC HXC HKC HOD HXD B10 B9 B59
  go_wp2_with fail
  refine (CE.out w10 B510.out).mono ?_
  rintro e w11 ⟨rfl, hb11⟩
  have KP11 := Sld.mk (KP10.out.up hb11)
  have B11 := Sld.mk hb11
  have C11 := Sld.mk (CO.out w11 KP11.out.bl)
  clear hb11
  go_wp2_with fail
  refine C11.out.mono ?_
  rintro e w12 ⟨rfl, hb12⟩
  obtain ⟨W13, hW13⟩ : ∃ W13, w12.alloc (.cells #[.bool Ft, .bool Fc', .int .i64 Fn] 65) = W13 := ⟨_, rfl⟩
  have hb13 : Below w11.heap.size w11 W13 := by rw [← hW13]; exact hb12.alloc hb12.size _
  have hb1013 : Below w10.heap.size w10 W13 := B11.out.trans (hb13.mono B11.out.size)
  have KP13 := Sld.mk (KP11.out.up hb13)
  have B13 := Sld.mk hb1013
  have hk13 : W13.heap[w12.heap.size]? = some (.cells #[.bool Ft, .bool Fc', .int .i64 Fn] 65 (0, 0)) := by rw [← hW13, Deep.blk_alloc_new]
  have hk813 : W13.heap[w7.heap.size]? = some (.cells #[.bool Ft, .bool Fc', .int .i64 Fn] 65 (0, 0)) := (B8W.out W13 hb1013).trans K8.out
  obtain ⟨a0, a1, a2, _⟩ := blk3 hk13
  obtain ⟨b0, b1, b2, _⟩ := blk3 hk813
  obtain ⟨x0, x1, y0, y1⟩ := HC5.out W13 KP13.out.bl
  have CK13 := Sld.mk (CK.out W13 KP13.out.bl)
  have HW13 := Sld.mk hW13
  rw [← hW13] at a0 a1 a2 b0 b1 b2
  clear hW13 hb12 hb13 hb1013 hk13 hk813 C11
  go_wp2_with fail
  rw [HW13.out]
  refine CK13.out.mono ?_
  rintro e w14 ⟨rfl, hb14⟩
  have KP14 := Sld.mk (KP13.out.up hb14)
  have B14 := Sld.mk (B13.out.trans (hb14.mono B13.out.size))
  obtain ⟨x0, x1, y0, y1⟩ := HC5.out w14 KP14.out.bl
  have CP14 := Sld.mk (CP.out w14 KP14.out.bl)
  clear hb14 CK13 a0 a1 a2 b0 b1 b2
  go_wp2_with fail
  refine CP14.out.mono ?_
  rintro e w15 ⟨rfl, hb15⟩
  have KP15 := Sld.mk (KP14.out.up hb15)
  have B15 := Sld.mk (B14.out.trans (hb15.mono B14.out.size))
  have CS15 := Sld.mk (same13_eq w15 _ _ fs' (HCS.out w15 B15.out) KP15.out.dr)
  clear hb15 CP14 x0 x1 y0 y1
  go_wp2_with fail
  refine CS15.out.mono ?_
  rintro e w16 ⟨rfl, hb16⟩
  have KP16 := Sld.mk (KP15.out.up hb16)
  have CX16 := Sld.mk (CX.out w16 KP16.out.bl)
  clear hb16 CS15
  go_wp2_with fail
  refine CX16.out.mono ?_
  rintro e w17 ⟨rfl, hb17⟩
  have KP17 := Sld.mk (KP16.out.up hb17)
  clear hb17 CX16 KP10 KP11 KP13 KP14 KP15 KP16 B13 B14 B15 HCS B11 B8W K8
  go_wp2_with fail
  have hlI : (fs'.length : Int) ≤ 9223372036854775807 := by omega
  go_loopw [15] (fun i wr => ∃ k : Nat, k ≤ fs'.length ∧ i = .int .i64 k ∧ Sld (KpM W5 (.slice qa fs'.length qc) (.slice da fs'.length dc) fs'.length fs' wr)) (fun i _ => fs'.length - (RowKit.intOf i).toNat)
  case atStart => exact ⟨0, Nat.zero_le _, rfl, KP17⟩
  case round =>
    obtain ⟨k, hk, rfl, HM⟩ := hrel
    by_cases hlt : k < fs'.length
    · obtain ⟨gc, rfl⟩ : ∃ gc, qa = some ⟨gc, 0, none⟩ := by
        obtain ⟨xs, h1⟩ := HM.out.own
        rcases h1.2 with ⟨h, h0⟩ | ⟨g, cap, cur, h, _⟩
        · omega
        · injection h with h1 h2 h3; exact ⟨g, h1⟩
      obtain ⟨hfree, hfz⟩ := HM.out.free hlt
      obtain ⟨u0, q0⟩ := hfree 0 (by omega)
      obtain ⟨u1, q1⟩ := hfree 1 (by omega)
      obtain ⟨u2, q2⟩ := hfree 2 (by omega)
      rw [Nat.add_zero] at q0
      have HS := Sld.mk (HM.out.store hlt (.bool false) (.bool false) (.int .i64 (-3)))
      have hltI : (k : Int) < (fs'.length : Int) := by omega
      clear hfree
      go_wp2_with fail
      exact ⟨⟨k + 1, by omega, by go_num, HS⟩, by simp [RowKit.intOf]; omega⟩
    · have hke : k = fs'.length := by omega
      subst hke
      have hnl : fs'.length * 32 ≤ 140737488355328 := by have := HLE.out; omega
      have hba : Below wr.heap.size wr (wr.alloc (.cells #[.bool false, .bool false, .int .i64 (-4)] 65)) := (Below.refl _ _).alloc (Nat.le_refl _) _
      have HMA := Sld.mk (HM.out.up hba)
      obtain ⟨xso, hoa⟩ := HMA.out.own
      have HOA := Sld.mk hoa
      have hsz : W5.heap.size ≤ wr.heap.size := HM.out.bl.size
      clear hba hoa
      go_wp2_with (at_builtin; (refine wpList_append_own _ rfl _ _ 69 rfl W5.heap.size 65 i0 (.agg #[.bool false, .bool false, .int .i64 0]) 3 16 Tryd.underlying69 hi hz0 hz1 hz2 rfl (by decide) _ _ _ rfl HOA.out ⟨wr.heap.size, 0, none⟩ 1 1 [.bool false, .bool false, .int .i64 (-4)] rfl (by simp) (by intro j u hj; rcases j with _ | _ | _ | j <;> simp at hj <;> subst hj <;> simp [Go.WideShapes.add_plain]) (by simp [Value.oneCell']) (by unfold maxLen; omega) (by omega) (by simp; omega) ?_; intro v' w18 hown hgrow _))
      obtain ⟨hdr, hbl⟩ := HMA.out.grown hgrow
      obtain ⟨va, vcp, hv'⟩ := row_form' hown
      subst hv'
      have HD18 := Sld.mk hdr
      have HB18 := Sld.mk hbl
      clear hown hgrow hdr hbl HOA HMA HM
      go_loopw [16] (fun i wr => ∃ k : Nat, k ≤ fs'.length ∧ i = .int .i64 k ∧ Sld (FcS wr (.slice da fs'.length dc) fs') ∧ Sld (Below W5.heap.size W5 wr)) (fun i _ => fs'.length - (RowKit.intOf i).toNat)
      case atStart => exact ⟨0, Nat.zero_le _, rfl, HD18, HB18⟩
      case round =>
        obtain ⟨k, hk, rfl, HD, HB⟩ := hrel
        by_cases hlt : k < fs'.length
        · obtain ⟨gd, rfl, hr⟩ : ∃ g, da = some ⟨g, 0, none⟩ ∧ FcR wr g fs' := by
            obtain ⟨ao, cap, h1, _, _, h2⟩ := HD.out
            injection h1 with h1 _ _
            rcases h2 with h2 | ⟨g, h2, h3⟩
            · rw [h2] at hlt; simp at hlt
            · exact ⟨g, h1.trans h2, h3⟩
          obtain ⟨_, c1, c2⟩ := hr.at_ k hlt
          have hz := HZ.out k
          have hltI : (k : Int) < (fs'.length : Int) := by omega
          generalize fs'.getD k fc0 = f at *
          obtain ⟨ft, fc', fn⟩ := f
          simp only at c1 c2 hz
          clear hr
          by_cases h3 : fn = -3
          · have hcT : fc' = true := by
              cases fc' with
              | true => rfl
              | false => have := hz rfl; omega
            subst h3; subst hcT
            clear hz
            go_wp2_with fail
            exact ⟨⟨k + 1, by omega, by go_num, HD, HB⟩, by simp [RowKit.intOf]; omega⟩
          · have hne3 : (fn == -3) = false := by simpa using h3
            clear hz
            go_wp2_with fail
            exact ⟨⟨k + 1, by omega, by go_num, HD, HB⟩, by simp [RowKit.intOf]; omega⟩
        · have hke : k = fs'.length := by omega
          subst hke
          obtain ⟨x0, x1, y0, y1⟩ := HC5.out wr HB.out
          have C19 := Sld.mk (CL.out wr HB.out)
          clear y0 y1
          go_wp2_with fail
          refine C19.out.mono ?_
          rintro e w20 ⟨⟨vk, xsk, fk, zk, rfl, hok, hxk, hkk⟩, hb20⟩
          obtain ⟨e1, e2⟩ := HKD.out.one hkk
          subst e1; subst e2
          have hb520 : Below W5.heap.size W5 w20 := HB.out.trans (hb20.mono HB.out.size)
          have CS20 := Sld.mk (same13_eq w20 vk _ fk (fcS_own hok hxk) (HD.out.below hb20))
          have B520 := Sld.mk hb520
          clear hok hxk hkk hb20 hb520 C19 x0 x1
          go_wp2_with fail
          refine CS20.out.mono ?_
          rintro e w21 ⟨rfl, hb21⟩
          have B21 := Sld.mk (HBW.out w21 (B520.out.trans (hb21.mono B520.out.size)))
          clear hb21 CS20
          go_wp2_with fail
          go_ret
          exact ⟨rfl, B21.out⟩
end Go.Proofs.YtlbmijcpalfaeaaDoor

set_option linter.unusedSimpArgs false
set_option linter.unusedVariables false
namespace Go.Proofs.YtlbmijcpalfaeaaDoor
open Go.RowKit Go.Lib Go.ChangeShapes Go.WideShapes Go.Deep

theorem gGrpW : Tryd.prog.globalNamed "sorrel/arith.groups" = some 0 := by kernel_rfl
theorem gGrpTypeW : (Tryd.prog.globals[ 0 ]?).map (·.type) = some 204 := by kernel_rfl
theorem c_grpsW : Tryd.prog.cellsOf 204 = 18 := by kernel_rfl
theorem c_grpW : Tryd.prog.cellsOf 203 = 1 := by kernel_rfl
theorem u_grpW : Tryd.prog.underlying 203 = some (.int .i64) := by kernel_rfl
theorem grpData_eqW : Rows.laid_sorrel_arith_groups = (tabData .i64 grps : DataW Unit) := by kernel_rfl
theorem grps_of_readsW {w : World} (h : VarReads Tryd.prog w "sorrel/arith.groups" (tabData .i64 grps)) : GrpCells w := by
  obtain ⟨g, t, cs, fuel, p, hg, hty, hvar, hd⟩ := h
  obtain rfl := Option.some.inj (gGrpW.symm.trans hg)
  obtain rfl := Option.some.inj (gGrpTypeW.symm.trans hty)
  have e := cells_of_tab Tryd.underlying204 u_grpW c_grpW c_grpsW hd
  intro k hk
  rw [World.var?_cell hg hvar k, ← Array.getElem?_toList, e, List.getElem?_map]
  have hl : k < grps.length := hk
  rw [List.getElem?_eq_getElem hl, Option.map_some, List.getD_eq_getElem?_getD, List.getElem?_eq_getElem hl]
  rfl
def deValsW (d : DataW Unit) : Array Value := match d with
  | .agg l => (l.map fun x => match x with | .lit (.int k z) => Value.int k z | _ => Value.int .u8 0).toArray
  | _ => #[]
theorem tabW4_of_laid {W : World} (h : laidMetH Tryd.prog [("unicode/utf8.acceptRanges", Rows.laid_unicode_utf8_acceptRanges), ("sorrel/runes.spans", Rows.laid_sorrel_runes_spans), ("sorrel/arith.groups", Rows.laid_sorrel_arith_groups), ("unicode/utf8.first", Rows.laid_unicode_utf8_first)] W) : Tabs W ∧ GrpCells W := by
  rw [MakeChecks.laidMetH_plain _ _ _ (by kernel_rfl)] at h
  have r2 := laidMet.reads h (n := "sorrel/arith.groups") (d := Rows.laid_sorrel_arith_groups) (by simp)
  have r3 := laidMet.reads h (n := "unicode/utf8.acceptRanges") (d := Rows.laid_unicode_utf8_acceptRanges) (by simp)
  have r4 := laidMet.reads h (n := "sorrel/runes.spans") (d := Rows.laid_sorrel_runes_spans) (by simp)
  have r5 := laidMet.reads h (n := "unicode/utf8.first") (d := Rows.laid_unicode_utf8_first) (by simp)
  rw [grpData_eqW] at r2
  rw [accept_eq] at r3
  rw [spansData_eq] at r4
  rw [first_eq] at r5
  exact ⟨⟨spans_of_reads r4, utf8Tabs_of_reads Tryd.lays260 u8Extra r5 r3⟩, grps_of_readsW r2⟩
def laidWorldW (P : Program) (os : Os) : World :=
  { World.holding P os ⟨#[], #[], []⟩ with heap := setVals (setVals (setVals (setVals (World.holding P os ⟨#[], #[], []⟩).heap 3 spanVals) 1 firstVals) 2 acceptVals) 0 (deValsW Rows.laid_sorrel_arith_groups) }
end Go.Proofs.YtlbmijcpalfaeaaDoor

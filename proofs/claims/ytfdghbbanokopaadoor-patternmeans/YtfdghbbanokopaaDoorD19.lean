/-
  PmW, PatternmeansK.
-/
import Derived.Test.YtfdghbbanokopaaDoorChecked
import GoSem.PinnedTables
import GoSem.Claim
import GoSem.ClaimJoined
import GoSem.ClaimMapViews
import Derived.JoinedTies
import Derived.KernelRfl
import GoSem.ClaimSeven
import Derived.LaidByTextLater
import Derived.SevenTiedAt
import Derived.LaidSub
import Derived.LaidOnce
import Derived.Shelf.Unicode.DecodeSlow
import Derived.Laws.RangeAny
import Derived.Shelf.Strconv.Itoa0
import Derived.Shelf.Unicode.DecodeAny
import Derived.Test.YtfdghbbanokopaaDoorProg
import Derived.WalkKit
import Derived.Deep.DeepFit
import Derived.Lib.OthersKept
import Derived.Lib.RuneCountTail
import Derived.Lib.LaidU8
import Derived.MakeChecks
import Derived.ProofKit
import Derived.OpenShut
import Derived.Deep.DeepHandedRow
import Derived.Deep.AppendLies
import Derived.Deep.OwnRows
import Derived.Laws.AppendOwnNone
import Derived.Deep.QuietTactic
import Derived.BigQuiet
import Derived.Deep.RegionWith
import Derived.Laws.DeepStrings4
import Derived.Deep.Slices
import Derived.SizedLaws
import Derived.RowKit
import Derived.Laws.Entries
import Derived.Below
import Derived.Lib.LaidTab
import Derived.Lib.MapLaws
import Derived.Sort.Walk0
import Derived.Lib.ItoaNum
import Derived.Maps.OwnSet
import Derived.StringKeys
import Derived.Laws.ResultCell
import Derived.Deep.RegionHeld3
import Derived.RangeFuncNested
import Derived.RangeFuncBound
import Derived.RangeFuncCalls
import Derived.RangeFuncLeaves
import Derived.RangeFuncBox
import Derived.Shelf.Abstract
import Derived.Shelf.RegionOpen
import Derived.OwnWalkIn
import Derived.TacticsInMore
import Derived.LoopNIn
import Derived.LoopIn
import Derived.Lib.Strings
import Derived.Lib.QuietBelow
import Derived.StillTail
import Derived.Deep.RegionLaw
import Derived.RangeFuncOwn
import Derived.WideKeyArgs
import Derived.Test.YtfdghbbanokopaaDoorRows
import Derived.Test.YtfdghbbanokopaaDoorCards
import Derived.Test.YtfdghbbanokopaaDoorTie
import Derived.Test.YtfdghbbanokopaaDoorD01
import Derived.Test.YtfdghbbanokopaaDoorD02
import Derived.Test.YtfdghbbanokopaaDoorD03
import Derived.Test.YtfdghbbanokopaaDoorD04
import Derived.Test.YtfdghbbanokopaaDoorD05
import Derived.Test.YtfdghbbanokopaaDoorD06
import Derived.Test.YtfdghbbanokopaaDoorD07
import Derived.Test.YtfdghbbanokopaaDoorD08
import Derived.Test.YtfdghbbanokopaaDoorD09
import Derived.Test.YtfdghbbanokopaaDoorD10
import Derived.Test.YtfdghbbanokopaaDoorD11
import Derived.Test.YtfdghbbanokopaaDoorD12
import Derived.Test.YtfdghbbanokopaaDoorD13
import Derived.Test.YtfdghbbanokopaaDoorD14
import Derived.Test.YtfdghbbanokopaaDoorD15
import Derived.Test.YtfdghbbanokopaaDoorD16
import Derived.Test.YtfdghbbanokopaaDoorD17
import Derived.Test.YtfdghbbanokopaaDoorD18
set_option linter.unusedSimpArgs false
set_option linter.unusedVariables false
namespace Go.Proofs.YtfdghbbanokopaaDoor
open Go.RowKit Go.Lib Go.Maps Go.Deep

set_option maxRecDepth 20000 in
set_option maxHeartbeats 1500000 in
theorem patternMeans_walk (w : World) (a0 a1 a2 : Option Addr) (c0 c1 c2 : Nat) (l : List Nd) (ps : List (List Nd)) (bs : List Bd) (T : SpanCells w) (G : GrpCells w) (hL : Rd w a0 c0 l) (hP : RdP w a1 c1 ps) (hB : Bds w a2 c2 bs) (FL : FitX l) (FP : FitL ps) (hreach : bs.length * 24 ≤ 140737488351232) :
    Calls Tryd.prog 5 #[.slice a0 l.length c0, .slice a1 ps.length c1, .slice a2 bs.length c2] w fun e w' => e = .returned (.bool true) ∧ Below w.heap.size w w' := by
  have H0 : Hid (StdM w a0 a1 a2 c0 c1 c2 l ps bs w) := ⟨Below.refl _ _, T, G, hL, hP, hB⟩
  have hN : Hid (∀ x ∈ l, x.name.size ≤ maxLen) := FL.name
  have HFL : Hid (Fit l) := FL.fit
  have HFP : Hid (FitL ps) := FP
  have cW := awake14_any w T
  obtain ⟨X, hX0, hX1, cF⟩ := fillX l ps
  obtain ⟨c, hcc⟩ : ∃ c, flC l ps = c := ⟨_, rfl⟩
  rw [hcc] at cF hX0 hX1
  have HC : Hid (flC l ps = c) := hcc
  have HX0 : Hid (c = 0 → sndB X = true ∧ hds X = flH ps (hlsL l) l) := hX0
  have HX1 : Hid (c ≠ 0 → X = []) := hX1
  have CF : Hid (∀ (W : World) (ao pa : Option Addr) (cap pc : Nat), SpanCells W → Rd W ao cap l → (∀ x ∈ l, x.name.size ≤ maxLen) → Lst W W.heap.size (.slice pa ps.length pc) ps → Calls Tryd.prog 28 #[.slice ao l.length cap, .slice pa ps.length pc] W fun e w' => AnQ W X c e w') := cF
  obtain ⟨i0, hi0, hz0, hz1, hz2⟩ := info_parts Tryd.infoBind
  obtain ⟨⟨hbl, hbm, hbn⟩, _⟩ := id hB
  have HNB : Hid (a2 = none → bs.length = 0 ∧ c2 = 0) := fun h => by have := hbn h; omega
  have HLB : Hid ((bdCells bs).length = bs.length * 2) := bdCells_length bs
  have HOW : Hid (∀ W : World, (W.alloc (.cells #[] 52)).ownsRow W.heap.size 52 2 (.slice (some ⟨W.heap.size, 0, none⟩) 0 0) 0 []) := fun W => World.ownsRow_made W #[] 0 (Nat.le_refl _) (Nat.zero_le _) (by simp)
  unfold maxLen at hbm
  clear T G hL hP hB FL FP hcc hX0 hX1 cF hbn
  go_enter Tryd.func5, Tryd.ntmps5
  go_wp2_with fail
  refine (cW).mono ?_
  rintro e w1 ⟨rfl, hb⟩
  have H1 : Hid (StdM w a0 a1 a2 c0 c1 c2 l ps bs w1) := H0.out.next hb
  clear hb H0
  clear cW
  go_wp2_with fail
  refine (copyR H1.out.rl HFL.out).mono ?_
  rintro e w2 ⟨u2, t2, rfl, hD, hb⟩
  have H2 : Hid (StdM w a0 a1 a2 c0 c1 c2 l ps bs w2) := H1.out.next hb
  have D2 : Hid (Rd w2 u2 t2 l) := hD
  clear hb H1
  go_wp2_with fail
  refine (copiesP H2.out.rp HFP.out).mono ?_
  rintro e w3 ⟨u3, t3, rfl, hP, hb⟩
  have H3 : Hid (StdM w a0 a1 a2 c0 c1 c2 l ps bs w3) := H2.out.next hb
  have D3 : Hid (Rd w3 u2 t2 l) := D2.out.below hb hb.size
  have P3 : Hid (RdP w3 u3 t3 ps) := hP
  clear hb H2 D2
  go_wp2_with fail
  refine (CF.out w3 u2 u3 t2 t3 H3.out.span D3.out hN.out P3.out).mono ?_
  rintro e w4 ⟨v4, rfl, hO, hb⟩
  obtain ⟨u4, t4, hv4, hR⟩ := Rd_of_own hO.n
  subst hv4
  have H4 : Hid (StdM w a0 a1 a2 c0 c1 c2 l ps bs w4) := H3.out.next hb
  have X4 : Hid (Rd w4 u4 t4 X) := hR
  clear hb H3 D3 P3
  clear CF hO hR hD hP
  by_cases hc : c = 0
  · obtain ⟨hok, hfl⟩ := flC_zero (HC.out.trans hc)
    have hX := HX0.out hc
    have HOK : Hid (FlOk l ps ∧ sndB X = true ∧ hds X = flH ps (hlsL l) l) := ⟨hok, hX⟩
    have h16 := (patB_len hok.pat).2
    have h6 := patB_hlsM hok.pat
    have hlen := hok.len
    subst hc
    clear hok hfl hX HC HX0 HX1
    have HLN : Hid (ps.length = (hlsL l).length) := hlen
    clear hlen
    go_wp2_with (at_builtin; refine append_srcE _ rfl _ _ 38 rfl w4.heap.size 52 i0 (.agg #[.string ⟨#[]⟩, .int .i64 0]) 2 24 Tryd.underlying38 hi0 hz0 hz1 hz2 rfl (by decide) _ _ _ rfl (HOW.out w4) a2 bs.length c2 (bdCells bs) rfl HNB.out HLB.out ((H4.out.rb.below ((Below.refl _ _).alloc (Nat.le_refl _) _)).src) (bdCells_one bs) (by unfold maxLen; omega) (by omega) (by simp) ?_; intro v5 w5 hown5 hgrow5; have hop5 := app_own hown5 hgrow5; clear hown5 hgrow5)
    obtain ⟨hoB, hb⟩ := hop5
    have H5 : Hid (StdM w a0 a1 a2 c0 c1 c2 l ps bs w5) := H4.out.next hb
    have X5 : Hid (Rd w5 u4 t4 X) := X4.out.below hb hb.size
    have E5 : Hid (OwnB w5 w4.heap.size v5 bs) := hoB
    clear hoB hb H4 X4
    obtain ⟨u5, t5, hv5, hB5, _⟩ := E5.out.read
    subst hv5
    have cE := eval_any (l := X) (bs := bs) (ao := u4) (cap := t4) (eo := u5) (ec := t5) ⟨H5.out.span, H5.out.grp, X5.out, hB5, by omega⟩
    obtain ⟨gv, hgv⟩ : ∃ gv, (evA bs X).1 = gv := ⟨_, rfl⟩
    obtain ⟨ge, hge⟩ : ∃ ge, (evA bs X).2 = ge := ⟨_, rfl⟩
    have HG : Hid (evA bs X = (gv, ge)) := by rw [Hid, ← hgv, ← hge]
    rw [hgv, hge] at cE
    clear hgv hge hB5 E5
    go_wp2_with fail
    refine (cE).mono ?_
    rintro e w6 ⟨rfl, hb⟩
    have H6 : Hid (StdM w a0 a1 a2 c0 c1 c2 l ps bs w6) := H5.out.next hb
    clear hb H5 X5
    clear cE
    go_wp2_with fail
    refine (refHolesO_any H6.out.rl HFL.out.len).mono ?_
    rintro e w7 ⟨u7, t7, rfl, hMd⟩
    have hb := hMd.below
    obtain ⟨u7b, t7b, hv7, hS⟩ := Strs_of_own hMd.row
    cases hv7
    have H7 : Hid (StdM w a0 a1 a2 c0 c1 c2 l ps bs w7) := H6.out.next hb
    have S7 : Hid (Strs w7 u7 t7 (hlsL l)) := hS
    clear hb H6
    have HZ : Hid (StdM w a0 a1 a2 c0 c1 c2 l ps bs w7) := H7
    have SZ : Hid (Strs w7 u7 t7 (hlsL l)) := S7
    go_wp2_with (at_builtin; refine append_srcE _ rfl _ _ 38 rfl w7.heap.size 52 i0 (.agg #[.string ⟨#[]⟩, .int .i64 0]) 2 24 Tryd.underlying38 hi0 hz0 hz1 hz2 rfl (by decide) _ _ _ rfl (HOW.out w7) a2 bs.length c2 (bdCells bs) rfl HNB.out HLB.out ((H7.out.rb.below ((Below.refl _ _).alloc (Nat.le_refl _) _)).src) (bdCells_one bs) (by unfold maxLen; omega) (by omega) (by simp) ?_; intro v8 w8 hown8 hgrow8; have hop8 := app_own hown8 hgrow8; clear hown8 hgrow8)
    obtain ⟨hoB, hb⟩ := hop8
    have H8 : Hid (StdM w a0 a1 a2 c0 c1 c2 l ps bs w8) := H7.out.next hb
    have S8 : Hid (Strs w8 u7 t7 (hlsL l)) := S7.out.below hb
    have B8 : Hid (OwnB w8 w7.heap.size v8 bs) := hoB
    have hopB := hb
    clear hoB hb H7 S7
    have BZ : Hid (Below w7.heap.size w7 w8) := hopB
    clear hopB
    have HQ : Hid (StdM w a0 a1 a2 c0 c1 c2 l ps bs w8) := H8
    have SQ : Hid (Strs w8 u7 t7 (hlsL l)) := S8
    have BQ : Hid (OwnB w8 w7.heap.size v8 bs) := B8
    go_wp2_with fail
    refine (copy_any _ l w8 _ (Nat.le_refl _) H8.out.rl HFL.out.len HFL.out.kids).mono ?_
    rintro e w9 ⟨v9, rfl, hN9, hb⟩
    obtain ⟨q9, hq9, hO9⟩ := id hN9
    have hpl : q9.length = l.length := by rw [← hq9]; simp
    obtain ⟨u9, t9, hv9⟩ := row_form' hO9.row
    rw [hpl] at hv9
    subst hv9
    have HM : Hid (PcMid w8 l (.slice u9 l.length t9) 0 w9) := ⟨⟨q9, by simpa using hq9, hO9⟩, hb⟩
    have hvc : l.length ≤ t9 ∧ t9 ≤ maxLen := by
      rcases hO9.row.2 with ⟨e, h0⟩ | ⟨g, c, cur, e, _, _, hn, hm, _⟩
      · simp only [Value.slice.injEq] at e; exact ⟨by omega, by rw [e.2.2]; exact Nat.zero_le _⟩
      · simp only [Value.slice.injEq] at e; exact ⟨by omega, by rw [e.2.2]; exact hm⟩
    have H9 : Hid (StdM w a0 a1 a2 c0 c1 c2 l ps bs w9) := H8.out.next hb
    have S9 : Hid (Strs w9 u7 t7 (hlsL l)) := S8.out.below hb
    have B9 : Hid (OwnB w9 w7.heap.size v8 bs) := B8.out.below hb
    clear hb H8 S8 B8
    obtain ⟨hv1, hv2⟩ := hvc
    unfold maxLen at hv2
    clear hN9 hq9 hO9 hpl
    have hS1 := S9.out.1
    have hS2 := S9.out.2.1
    unfold maxLen at hS2
    go_wp2_with fail
    go_loopw [14] (fun i wr => ∃ k : Nat, k ≤ l.length ∧ i = .int .i64 k ∧ PcMid w8 l (.slice u9 l.length t9) k wr ∧ Hid (∀ x ∈ l.take k, x.op = 2 → x.name ∉ hlsL l)) (fun i _ => l.length - (RowKit.intOf i).toNat)
    case atStart => exact ⟨0, by omega, rfl, HM.out, by show ∀ _ ∈ _, _; simp⟩
    case round =>
      obtain ⟨k, hk, rfl, hM, hno⟩ := hrel
      obtain ⟨wo, hwo⟩ : ∃ wo, wo = wr := ⟨_, rfl⟩
      subst hwo
      have HMM : Hid (PcMid w8 l (.slice u9 l.length t9) k wo) := hM
      have HR : Hid (StdM w a0 a1 a2 c0 c1 c2 l ps bs wo) := HQ.out.next hM.below
      have SR : Hid (Strs wo u7 t7 (hlsL l)) := SQ.out.below hM.below
      by_cases hlt : k < l.length
      · have hnx : ∀ x, x ∈ l.take (k + 1) → x ∈ l.take k ∨ x = l.getD k nd0 := fun x hx => by
          rw [List.take_succ_eq_append_getElem hlt] at hx
          rcases List.mem_append.1 hx with hx | hx
          · exact .inl hx
          · right; simp at hx; rw [hx]; simp [hlt]
        have HNX : Hid (((l.getD k nd0).op = 2 → (l.getD k nd0).name ∉ hlsL l) → ∀ x ∈ l.take (k + 1), x.op = 2 → x.name ∉ hlsL l) := fun h x hx ho => by
          rcases hnx x hx with hx | rfl
          · exact hno.out x hx ho
          · exact h ho
        obtain ⟨g, cp, e, hg0, hgl, hg1, hg2, hcl, hfz⟩ := hM.at_ hlt
        cases e
        have hnm := hM.nm hlt
        clear hnx hno
        by_cases ho2 : (l.getD k nd0).op = 2
        · have HNE : Hid ((l.getD k nd0).op ≠ 18) := by show _ ≠ _; rw [ho2]; decide
          rw [ho2] at hcl
          have HNX2 : Hid ((l.getD k nd0).name ∉ hlsL l → ∀ x ∈ l.take (k + 1), x.op = 2 → x.name ∉ hlsL l) := fun h => HNX.out (fun _ => h)
          clear ho2 hM HNX
          generalize hnn : (l.getD k nd0).name = nm at *
          clear hnn
          go_wp2_with fail
          go_loopw [15] (fun i wq => ∃ j : Nat, j ≤ (hlsL l).length ∧ i = .int .i64 j ∧ Hid (∀ s ∈ (hlsL l).take j, s ≠ nm) ∧ Below wo.heap.size wo wq) (fun i _ => (hlsL l).length - (RowKit.intOf i).toNat)
          case atStart => exact ⟨0, by omega, rfl, by show ∀ _ ∈ _, _; simp, Below.refl _ _⟩
          case round =>
            obtain ⟨j, hj, rfl, hne, hbq⟩ := hrel
            have HBQ : Hid (Below wo.heap.size wo wr) := hbq
            by_cases hjl : j < (hlsL l).length
            · obtain ⟨nb, no, rfl, hnb, hnc⟩ := SR.out.cell hjl
              have e1 := (hbq.cell (p := ⟨nb, no + j, none⟩) hnb).trans hnc
              have e2 := (hbq.cell (p := ⟨g, k * 4 + 2, none⟩) hgl).trans hnm
              have hgj : (hlsL l).getD j ⟨#[]⟩ = (hlsL l)[j] := by simp [hjl]
              have HJ : Hid ((hlsL l).getD j ⟨#[]⟩ ≠ nm → ∀ s ∈ (hlsL l).take (j + 1), s ≠ nm) := fun h s hs => by
                rw [List.take_succ_eq_append_getElem hjl] at hs
                rcases List.mem_append.1 hs with hs | hs
                · exact hne.out s hs
                · simp at hs; rw [hs, ← hgj]; exact h
              have hj0 : (0 : Int) ≤ (j : Int) := by omega
              have hj1 : (j : Int) < ((hlsL l).length : Int) := by omega
              clear hbq hnc hgj hne
              by_cases he : (hlsL l).getD j ⟨#[]⟩ = nm
              · rw [he] at e1
                clear he HJ
                go_wp2_with fail
                go_quiet (fail)
                go_wp2_with fail
                go_ret
                exact ⟨rfl, HR.out.below.trans ((below_drewN' HBQ.out _).mono HR.out.below.size)⟩
              · have hq : (((hlsL l).getD j ⟨#[]⟩).toList == nm.toList) = false := by rw [beq_toLisO]; exact decide_eq_false he
                have HJ2 := HJ.out he
                have HJ2 : Hid (∀ s ∈ (hlsL l).take (j + 1), s ≠ nm) := HJ2
                clear he HJ
                generalize (hlsL l).getD j ⟨#[]⟩ = y at *
                go_wp2_with fail
                go_quiet (fail)
                go_wp2_with fail
                exact ⟨⟨j + 1, by omega, by go_num, HJ2.out, below_drewN' HBQ.out _⟩, by simp [RowKit.intOf]; omega⟩
            · have hje : j = (hlsL l).length := by omega
              subst hje
              rw [List.take_length] at hne
              have HFI : Hid (PcMid w8 l (.slice (some ⟨g, 0, none⟩) l.length t9) (k + 1) wr) := (HMM.out.next hbq).skip hlt HNE.out
              have HNO : Hid (∀ x ∈ l.take (k + 1), x.op = 2 → x.name ∉ hlsL l) := HNX2.out (fun h => hne.out _ h rfl)
              have e0 := (hbq.cell (p := ⟨g, k * 4, none⟩) hgl).trans hcl
              clear hbq hne
              go_wp2_with fail
              exact ⟨⟨k + 1, by omega, by go_num, HFI.out, HNO.out⟩, by simp [RowKit.intOf]; omega⟩
        · by_cases hop : (l.getD k nd0).op = 18
          · have HFI : Hid (PcMid w8 l (.slice (some ⟨g, 0, none⟩) l.length t9) (k + 1) (wo.setCell ⟨g, k * 4, none⟩ (.int .i64 2))) := hM.fill hlt hop
            have HNO : Hid (∀ x ∈ l.take (k + 1), x.op = 2 → x.name ∉ hlsL l) := HNX.out (fun h => absurd h ho2)
            rw [hop] at hcl
            clear hM hop ho2 HNX
            go_wp2_with fail
            exact ⟨⟨k + 1, by omega, by go_num, HFI.out, HNO.out⟩, by simp [RowKit.intOf]; omega⟩
          · have HFI : Hid (PcMid w8 l (.slice (some ⟨g, 0, none⟩) l.length t9) (k + 1) wo) := hM.skip hlt hop
            have HNO : Hid (∀ x ∈ l.take (k + 1), x.op = 2 → x.name ∉ hlsL l) := HNX.out (fun h => absurd h ho2)
            have g2 : ((l.getD k nd0).op == 2) = false := by rw [beq_eq_false_iff_ne]; exact ho2
            have g18 : ((l.getD k nd0).op == 18) = false := by rw [beq_eq_false_iff_ne]; exact hop
            clear hM hop ho2 HNX
            generalize (l.getD k nd0).op = oo at *
            go_wp2_with fail
            exact ⟨⟨k + 1, by omega, by go_num, HFI.out, HNO.out⟩, by simp [RowKit.intOf]; omega⟩
      · have hke : k = l.length := by omega
        subst hke
        obtain ⟨⟨p, hp, hO⟩, hbw⟩ := hM
        rw [List.take_length] at hno
        rw [List.take_length, List.drop_length, List.append_nil] at hp
        have HNO : Hid (∀ x ∈ l, x.op = 2 → x.name ∉ hlsL l) := hno.out
        have HPE : Hid (p.map (·.1) = l.map fillN) := hp
        have HOE : Hid (OwnP wo w8.heap.size (.slice u9 l.length t9) p) := hO
        have HBo : Hid (Below w7.heap.size w7 wo) := BZ.out.trans (hbw.mono BZ.out.size)
        have HBR : Hid (OwnB wo w7.heap.size v8 bs) := BQ.out.below hbw
        clear hp hO hbw hno HMM HR SR
        have hvv : ∃ va vc, v8 = .slice va bs.length vc := BQ.out.read.elim fun ao h => h.elim fun cap h => ⟨ao, cap, h.1⟩
        obtain ⟨va0, vc0, hv0⟩ := hvv
        subst hv0
        have HR1 : Hid (OwnB wo w7.heap.size (.slice va0 bs.length vc0) (ownL bs (hlsL l) (fun i => (evA bs (ps.getD i [])).1) 0)) := by rw [ownL_zero]; exact HBR.out
        have HEP : Hid (∃ p, p.map (·.1) = l.map fillN ∧ OwnP wo w8.heap.size (.slice u9 l.length t9) p) := ⟨p, HPE.out, HOE.out⟩
        have hps6 : ps.length ≤ 6 := by have := HLN.out; omega
        have hWB : w7.heap.size ≤ w8.heap.size := BZ.out.size
        clear HBR HPE HOE BQ SQ HQ
        go_wp2_with fail
        go_loopw [12, 16] (fun v i wq => ∃ k : Nat, k ≤ (hlsL l).length ∧ i = .int .i64 k ∧ OwnB wq w7.heap.size v (ownL bs (hlsL l) (fun i => (evA bs (ps.getD i [])).1) k) ∧ Hid (∃ p, p.map (·.1) = l.map fillN ∧ OwnP wq w8.heap.size (.slice u9 l.length t9) p) ∧ Below w7.heap.size w7 wq ∧ Hid (∀ i, i < k → (evA bs (ps.getD i [])).2 = 0)) (fun _ i _ => (hlsL l).length - (RowKit.intOf i).toNat)
        case atStart => exact ⟨0, by omega, rfl, HR1.out, HEP, HBo.out, fun i hi => by omega⟩
        case round =>
          obtain ⟨k, hk, rfl, hown, hep, hbz, hall⟩ := hrel
          obtain ⟨va, vc, rfl⟩ := hown.form
          have HW : Hid (StdM w a0 a1 a2 c0 c1 c2 l ps bs wr) := HZ.out.next hbz
          have SW : Hid (Strs wr u7 t7 (hlsL l)) := SZ.out.below hbz
          have HBZ : Hid (Below w7.heap.size w7 wr) := hbz
          have hszz := hbz.size
          have HON : Hid (OwnB wr w7.heap.size (.slice va (ownL bs (hlsL l) (fun i => (evA bs (ps.getD i [])).1) k).length vc) (ownL bs (hlsL l) (fun i => (evA bs (ps.getD i [])).1) k)) := hown
          have hol := ownL_len bs (hlsL l) (fun i => (evA bs (ps.getD i [])).1) k
          have HOLL : Hid ((ownL bs (hlsL l) (fun i => (evA bs (ps.getD i [])).1) k).length = bs.length + k) := hol
          have hol2 : (ownL bs (hlsL l) (fun i => (evA bs (ps.getD i [])).1) k).length ≤ bs.length + 6 := by omega
          clear hown hbz hol
          by_cases hlt : k < (hlsL l).length
          · have hkp : k < ps.length := by rw [HLN.out]; exact hlt
            obtain ⟨pb, po, qa, qc, rfl, hpb, hpc, hpn⟩ := HW.out.rp.part (Below.refl _ _) hkp
            obtain ⟨nb, no, rfl, hnb, hnc⟩ := SW.out.cell hlt
            have hms := HOK.out.1.snd _ (getD_mem (d := []) hkp)
            have cC := copyR (show Rd wr qa qc (ps.getD k []) from hpn) (fit_snd hms)
            have HSC : Hid (ownL bs (hlsL l) (fun i => (evA bs (ps.getD i [])).1) (k + 1) = ownL bs (hlsL l) (fun i => (evA bs (ps.getD i [])).1) k ++ [((hlsL l).getD k ⟨#[]⟩, (evA bs (ps.getD k [])).1)]) := ownL_succ _ _ _ _
            have HTR : Hid ((evA bs (ps.getD k [])).2 ≠ 0 → ge = 12) := fun h => by
              have := fl_trap HOK.out.1 HOK.out.2.1 HOK.out.2.2 hkp h
              rw [HG.out] at this
              exact congrArg Prod.snd this
            have HAL : Hid ((evA bs (ps.getD k [])).2 = 0 → ∀ i, i < k + 1 → (evA bs (ps.getD i [])).2 = 0) := fun h i hi => by
              by_cases e : i = k
              · rw [e]; exact h
              · exact hall.out i (by omega)
            generalize hOL : ownL bs (hlsL l) (fun i => (evA bs (ps.getD i [])).1) k = OL at *
            have hk0 : (0 : Int) ≤ (k : Int) := by omega
            have hk1 : (k : Int) < (ps.length : Int) := by omega
            have hk2 : (k : Int) < ((hlsL l).length : Int) := by omega
            obtain ⟨r, hr⟩ : ∃ r, ps.getD k [] = r := ⟨_, rfl⟩
            rw [hr] at hpc hpn hms cC HSC HTR HAL
            clear hOL hr hall hpn hms
            have HPN : Hid (wr.cell? ⟨nb, no + k, none⟩ = some (.string ((hlsL l).getD k ⟨#[]⟩)) ∧ nb < wr.heap.size) := ⟨hnc, hnb⟩
            generalize (hlsL l).getD k ⟨#[]⟩ = nm at *
            clear hnc hnb
            go_wp2_with fail
            refine cC.mono ?_
            rintro e wa ⟨ca, ta, rfl, hDa, hba⟩
            have HWa : Hid (_) := HW.out.next hba
            have HBa : Hid (Below wr.heap.size wr wa) := hba
            have HDa : Hid (Rd wa ca ta r) := hDa
            clear hba hDa cC
            go_wp2_with (at_builtin; refine append_srcE _ rfl _ _ 38 rfl wa.heap.size 52 i0 (.agg #[.string ⟨#[]⟩, .int .i64 0]) 2 24 Tryd.underlying38 hi0 hz0 hz1 hz2 rfl (by decide) _ _ _ rfl (HOW.out wa) a2 bs.length c2 (bdCells bs) rfl HNB.out HLB.out ((HWa.out.rb.below ((Below.refl _ _).alloc (Nat.le_refl _) _)).src) (bdCells_one bs) (by unfold maxLen; omega) (by omega) (by simp) ?_; intro vb wb hownb hgrowb; have hopb := app_own hownb hgrowb; clear hownb hgrowb)
            obtain ⟨hoB, hbb⟩ := hopb
            obtain ⟨ub, tb, hvb, hBb, _⟩ := hoB.read
            subst hvb
            have HWb : Hid (_) := HWa.out.next hbb
            have HBb : Hid (Below wr.heap.size wr wb) := HBa.out.trans (hbb.mono HBa.out.size)
            have cE := eval_any (l := r) (bs := bs) (ao := ca) (cap := ta) (eo := ub) (ec := tb) ⟨HWb.out.span, HWb.out.grp, HDa.out.below hbb hbb.size, hBb, by omega⟩
            obtain ⟨xv, hxv⟩ : ∃ xv, (evA bs r).1 = xv := ⟨_, rfl⟩
            obtain ⟨xe, hxe⟩ : ∃ xe, (evA bs r).2 = xe := ⟨_, rfl⟩
            rw [hxv, hxe] at cE
            rw [hxe] at HTR HAL
            rw [hxv] at HSC
            clear hxv hxe hoB hBb hbb HWa HBa HDa
            by_cases hx0 : xe = 0
            · subst hx0
              have HAL2 := HAL.out rfl
              have HAL2 : Hid (∀ i, i < k + 1 → (evA bs (ps.getD i [])).2 = 0) := HAL2
              clear HAL HTR
              go_wp2_with fail
              refine cE.mono ?_
              rintro e wc ⟨rfl, hbc⟩
              have HWc : Hid (_) := HWb.out.next hbc
              have HBc : Hid (Below wr.heap.size wr wc) := HBb.out.trans (hbc.mono HBb.out.size)
              have hcn := (HBc.out.cell (p := ⟨nb, no + k, none⟩) HPN.out.2).trans HPN.out.1
              have hrow : wc.ownsRow w7.heap.size 52 2 (.slice va OL.length vc) OL.length (bdCells OL) := own_below HON.out HBc.out
              have hszc := HBc.out.size
              have HRW : Hid (wc.ownsRow w7.heap.size 52 2 (.slice va OL.length vc) OL.length (bdCells OL)) := hrow
              clear hbc cE HWb HBb hrow
              go_wp2_with (at_builtin; refine wpList_append_lies _ rfl (.tmp 111) (.tmp 118) 38 rfl w7.heap.size 52 i0 (.agg #[.string ⟨#[]⟩, .int .i64 0]) 2 24 Tryd.underlying38 hi0 hz0 hz1 hz2 rfl (by decide) _ _ _ rfl (HRW.out.alloc _) ⟨wc.heap.size, 0, none⟩ 1 1 [.string nm, .int .i64 xv] rfl rfl (cell_news2m _ _ _ _) (by simp [Value.oneCell']) (by omega) (by unfold maxLen; omega) (by omega) (by simp; omega) _ rfl ?_; intro g6 cap6 w6 hown6 hg6 hat6 hl6)
              have HOL : Hid (OwnB w6 w7.heap.size (.slice (some ⟨g6, 0, none⟩) (OL.length + 1) cap6) (ownL bs (hlsL l) (fun i => (evA bs (ps.getD i [])).1) (k + 1))) := by
                show World.ownsRow _ _ _ _ _ _ _
                rw [HSC.out, List.length_append, bdCells_append]
                exact hown6
              have hbe : Below w7.heap.size w7 w6 := by
                have hb1 : Below w7.heap.size w7 wc := HBZ.out.trans (HBc.out.mono hszz)
                exact (hb1.alloc (by omega) _).grown hg6 (by simp; omega) (fun j hj => (HRW.out.lt j hj).1)
              have hep2 : Hid (∃ p, p.map (·.1) = l.map fillN ∧ OwnP w6 w8.heap.size (.slice u9 l.length t9) p) := by
                obtain ⟨p, h1, h2⟩ := hep.out
                have h3 : OwnP (wc.alloc (.cells #[.string nm, .int .i64 xv] 52)) w8.heap.size (.slice u9 l.length t9) p := (h2.below HBc.out).below ((Below.refl _ _).alloc (Nat.le_refl _) _)
                have hr2 := HRW.out.alloc (.cells #[.string nm, .int .i64 xv] 52)
                exact ⟨p, h1, ⟨World.ownsRow.kept h3.row hg6 (ownBlock_ne h3.row hr2 (by decide)), fun y hy => World.ownsRow.kept (h3.kids y hy) hg6 (ownBlock_ne (h3.kids y hy) hr2 (by decide))⟩⟩
              exact ⟨⟨k + 1, by omega, by go_num, HOL.out, hep2, hbe, HAL2⟩, by simp [RowKit.intOf]; omega⟩
            · obtain rfl : ge = 12 := HTR.out hx0
              have hxn : (xe != 0) = true := by simpa using hx0
              clear HAL HTR hx0
              go_wp2_with fail
              refine cE.mono ?_
              rintro e wc ⟨rfl, hbc⟩
              have HWc : Hid (_) := HWb.out.next hbc
              clear hbc cE
              go_wp2_with fail
              go_ret
              exact ⟨rfl, HWc.out.below⟩
          · have hke : k = (hlsL l).length := by omega
            subst hke
            obtain ⟨p, hp1, hp2⟩ := hep.out
            have hNd := Nodes_of_ownP hp2 (Nat.le_refl _)
            rw [hp1] at hNd
            obtain ⟨ub, tb, hvb, hBb, _⟩ := HON.out.read
            simp only [Value.slice.injEq, true_and] at hvb
            obtain ⟨rfl, rfl⟩ := hvb
            have hlq : (l.map fillN).length = l.length := by simp
            have hRd : Rd wr u9 t9 (l.map fillN) := by
              show Nodes _ _ (.slice u9 (l.map fillN).length t9) _
              rw [hlq]; exact hNd
            have cE := eval_any (l := l.map fillN) (ao := u9) (cap := t9) ⟨HW.out.span, HW.out.grp, hRd, hBb, by omega⟩
            have hme := means_ok HOK.out.1 HOK.out.2.1 HOK.out.2.2 (fun i hi => hall.out i (by rw [← HLN.out]; exact hi)) HNO.out
            rw [hme, HG.out, hlq] at cE
            clear hp1 hp2 hNd hlq hRd hBb hme hall
            generalize (ownL bs (hlsL l) (fun i => (evA bs (ps.getD i [])).1) (hlsL l).length).length = oL at *
            go_wp2_with fail
            refine cE.mono ?_
            rintro e wc ⟨rfl, hbc⟩
            have HWc : Hid (StdM w a0 a1 a2 c0 c1 c2 l ps bs wc) := HW.out.next hbc
            clear hbc cE
            go_wp2_with fail
            go_ret
            exact ⟨by simp, HWc.out.below⟩
  · obtain rfl := HX1.out hc
    have hcn : (c != 0) = true := by simpa using hc
    clear HC HX0 HX1 hc
    go_wp2_with fail
    go_ret
    exact ⟨rfl, H4.out.below⟩
end Go.Proofs.YtfdghbbanokopaaDoor

set_option linter.unusedVariables false
namespace Go.Proofs.YtfdghbbanokopaaDoor.patternmeans
open Go.ChangeShapes Go.WideShapes Go.ChangeAt Go.RowKit Go.WideMaps Go.WideElems
open Go.ChangeMaps (open_string shut_string)

set_option maxRecDepth 100000 in
set_option maxHeartbeats 1000000 in
theorem contract (H : Type) (enc : TypeId × Value → H) (W : World) (base : Nat) (args : Array Value) (ds gs : List (DataW H)) (before : List MemPlace)
    (hval : ∀ (j : Nat) t v, Tryd.f5.params[j]? = some t → args[j]? = some v → Value.okWide Tryd.prog W .any base t v)
    (hW : DataW.Whole enc Tryd.prog Tryd.f5.params.toList Rows.patternMeansSpec.vars false W args.toList ds gs before)
    (hsz : (DataW.weightsEach Tryd.prog (Tryd.f5.params.toList ++ (OpenSpec.ofChange Rows.patternMeansSpec).bare.plain.varTypes Tryd.prog) (ds ++ gs)).all (· ≤ reachBytes) = true)
    (hL : laidMetH Tryd.prog Rows.patternMeansRow.laid W) :
    Calls Tryd.prog 5 args W fun e W' => ∃ v, e = .returned v ∧ Rows.patternMeansSpec.post enc Tryd.prog Tryd.f5 false true false false W args v W' := by
  have hW' := hW
  have hlt : ∀ x ∈ before, x.block < W.heap.size := fun x hx => by simpa using hW'.lt x hx
  obtain ⟨p, q, hA0, hV, rfl, hfz, hnd⟩ := hW
  have hA : DataW.TrodAll enc Tryd.prog W 0 (fun _ => true) true Tryd.f5.params.toList args.toList ds p := hA0
  rw [Tryd.params5 ] at hA hval
  obtain ⟨v0, vs0, d0, ds0, p0, q0, hargs0, rfl, rfl, h0, r0⟩ := trodAll_cons hA
  obtain ⟨v1, vs1, d1, ds1, p1, q1, rfl, rfl, rfl, h1, r1⟩ := trodAll_cons r0
  obtain ⟨v2, vs2, d2, ds2, p2, q2, rfl, rfl, rfl, h2, r2⟩ := trodAll_cons r1
  obtain ⟨rfl, rfl, rfl⟩ := trodAll_nil r2
  obtain rfl : args = #[v0, v1, v2] := by cases args; simp_all
  obtain ⟨rfl, rfl⟩ := trodVars_none hV
  clear hA0
  simp only [List.append_nil] at hW' hsz
  have h0k := h0
  have ok0 : Value.okWide Tryd.prog W .any base 22 v0 := hval 0 22 v0 (by rfl) (by rfl)
  obtain ⟨a0, n0, c0, rfl⟩ := okWide_slice Tryd.underlying22 ok0
  obtain ⟨fu0, hf0⟩ := h0
  obtain ⟨ao0, cap0, l0, he0, R0, hF0⟩ := open_nodesX (v := .slice a0 n0 c0) hf0
  cases he0
  have F0 := hF0 fun n hn => of_decide_eq_true (List.all_eq_true.1 hsz n (DataW.weights_mem_each (j := 0) (t := 22) (by kernel_rfl) rfl n hn))
  have h1k := h1
  have ok1 : Value.okWide Tryd.prog W .any base 44 v1 := hval 1 44 v1 (by rfl) (by rfl)
  obtain ⟨a1, n1, c1, rfl⟩ := okWide_slice Tryd.underlying44 ok1
  obtain ⟨fu1, hf1⟩ := h1
  obtain ⟨ao1, cap1, l1, he1, R1, hF1⟩ := open_parts (v := .slice a1 n1 c1) hf1
  cases he1
  have F1 := hF1 fun n hn => of_decide_eq_true (List.all_eq_true.1 hsz n (DataW.weights_mem_each (j := 1) (t := 44) (by kernel_rfl) rfl n hn))
  have h2k := h2
  have ok2 : Value.okWide Tryd.prog W .any base 38 v2 := hval 2 38 v2 (by rfl) (by rfl)
  obtain ⟨a2, n2, c2, rfl⟩ := okWide_slice Tryd.underlying38 ok2
  obtain ⟨fu2, hf2⟩ := h2
  obtain ⟨ao2, cap2, l2, he2, R2, K2, hF2⟩ := open_binds (v := .slice a2 n2 c2) hf2
  cases he2
  have F2 := hF2 fun n hn => of_decide_eq_true (List.all_eq_true.1 hsz n (DataW.weights_mem_each (j := 2) (t := 38) (by kernel_rfl) rfl n hn))
  refine (patternMeans_walk W a0 a1 a2 c0 c1 c2 l0 l1 l2 (tabW2_of_laid hL).1 (tabW2_of_laid hL).2 R0 R1 R2 F0 F1 (by have := F2; have := R2.1.1; omega)).mono fun e W' ⟨he, hg⟩ => ?_
  subst he
  exact ⟨_, rfl, post_below (pv := []) hW' (fun _ _ _ => trodAll_cons_mk (shut_bool Tryd.underlying4 _) trodAll_mk0) (fun sp hsp => trodAll_cons_mk (Trod_stays Tryd.laidOut (by kernel_rfl) (of_decide_eq_true (by kernel_rfl)) h0k (fun x hx => hg.same (hlt x (by simp [hx]))) (fun x hx => hsp x (by simp [hx]))) (trodAll_cons_mk (Trod_stays Tryd.laidOut (by kernel_rfl) (of_decide_eq_true (by kernel_rfl)) h1k (fun x hx => hg.same (hlt x (by simp [hx]))) (fun x hx => hsp x (by simp [hx]))) (trodAll_cons_mk (Trod_stays Tryd.laidOut (by kernel_rfl) (of_decide_eq_true (by kernel_rfl)) h2k (fun x hx => hg.same (hlt x (by simp [hx]))) (fun x hx => hsp x (by simp [hx]))) trodAll_mk0))) (fun _ _ => rfl) (by simp) (hg.frame _)⟩

end Go.Proofs.YtfdghbbanokopaaDoor.patternmeans

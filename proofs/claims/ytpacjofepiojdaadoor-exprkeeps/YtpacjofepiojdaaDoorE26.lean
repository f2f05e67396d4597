/-
  EkL, ExprkeepsK.
-/
import Derived.Test.YtpacjofepiojdaaDoorChecked
import GoSem.PinnedTables
import GoSem.Claim
import GoSem.ClaimJoined
import GoSem.ClaimMapViews
import Derived.JoinedTies
import Derived.KernelRfl
import GoSem.ClaimSeven
import Derived.LaidByTextLater
import Derived.SevenTiedAt
import Derived.LaidSub
import Derived.LaidOnce
import Derived.Shelf.Unicode.DecodeSlow
import Derived.Laws.RangeAny
import Derived.Shelf.Small.Bits
import Derived.Shelf.Strconv.Itoa0
import Derived.Shelf.LaysM
import Derived.Shelf.Strconv.Clone
import Derived.Shelf.Unicode.DecodeAny
import Derived.Shelf.Slices.CompactS
import Derived.Ground.SlsfProg
import Derived.Shelf.SlSortCmp.Insertion
import Derived.Shelf.SlSortCmp.SiftDown1
import Derived.Shelf.SlSortCmp.HeapSort1
import Derived.Shelf.SlSortCmp.Insertion1
import Derived.Shelf.SlSortCmp.Median1
import Derived.Shelf.SlSortCmp.Pivot1
import Derived.Shelf.SlSortCmp.ReverseRange1
import Derived.Shelf.SlSortCmp.PartialInsertion1
import Derived.Shelf.SlSortCmp.PartitionEqual1
import Derived.Shelf.SlSortCmp.Partition1
import Derived.Shelf.SlSortCmp.Pdq1
import Derived.Shelf.SlSortCmp.Whole1
import Derived.Test.YtpacjofepiojdaaDoorProg
import Derived.WalkKit
import Derived.Deep.DeepFit
import Derived.Lib.OthersKept
import Derived.Lib.RuneCountTail
import Derived.Lib.LaidU8
import Derived.MakeChecks
import Derived.ProofKit
import Derived.OpenShut
import Derived.Deep.DeepHandedRow
import Derived.Deep.AppendLies
import Derived.Deep.OwnRows
import Derived.Laws.AppendOwnNone
import Derived.Deep.QuietTactic
import Derived.BigQuiet
import Derived.Deep.RegionWith
import Derived.Laws.DeepStrings4
import Derived.Deep.Slices
import Derived.SizedLaws
import Derived.Below
import Derived.Lib.MapLaws
import Derived.Sort.Walk0
import Derived.Lib.SlicesCompact
import Derived.Sort.EncStr
import Derived.Calls
import Derived.RunT
import Derived.Lib.QuietBelow
import Derived.Deep.Draws
import Derived.Sort.OwnSorted
import Derived.Laws.IdiomStrings
import Derived.WalkSmall
import Derived.Deep.RegionHeld3
import Derived.StillTail
import Derived.Deep.DeepCutAuto
import Derived.Deep.RegionLaw
import Derived.Lib.SlBytesRow
import Derived.WideKeyArgs
import Derived.Test.YtpacjofepiojdaaDoorRows
import Derived.Test.YtpacjofepiojdaaDoorCards
import Derived.Test.YtpacjofepiojdaaDoorTie
import Derived.Test.YtpacjofepiojdaaDoorE01
import Derived.Test.YtpacjofepiojdaaDoorE02
import Derived.Test.YtpacjofepiojdaaDoorE03
import Derived.Test.YtpacjofepiojdaaDoorE04
import Derived.Test.YtpacjofepiojdaaDoorE05
import Derived.Test.YtpacjofepiojdaaDoorE06
import Derived.Test.YtpacjofepiojdaaDoorE07
import Derived.Test.YtpacjofepiojdaaDoorE08
import Derived.Test.YtpacjofepiojdaaDoorE09
import Derived.Test.YtpacjofepiojdaaDoorE10
import Derived.Test.YtpacjofepiojdaaDoorE11
import Derived.Test.YtpacjofepiojdaaDoorE12
import Derived.Test.YtpacjofepiojdaaDoorE13
import Derived.Test.YtpacjofepiojdaaDoorE14
import Derived.Test.YtpacjofepiojdaaDoorE15
import Derived.Test.YtpacjofepiojdaaDoorE16
import Derived.Test.YtpacjofepiojdaaDoorE17
import Derived.Test.YtpacjofepiojdaaDoorE18
import Derived.Test.YtpacjofepiojdaaDoorE19
import Derived.Test.YtpacjofepiojdaaDoorE20
import Derived.Test.YtpacjofepiojdaaDoorE21
import Derived.Test.YtpacjofepiojdaaDoorE22
import Derived.Test.YtpacjofepiojdaaDoorE23
import Derived.Test.YtpacjofepiojdaaDoorE24
import Derived.Test.YtpacjofepiojdaaDoorE25
set_option linter.unusedSimpArgs false
set_option linter.unusedVariables false
namespace Go.Proofs.YtpacjofepiojdaaDoor
open Go.RowKit Go.Lib Go.Sort

theorem own_strs {W : World} {base : Nat} {ao : Option Addr} {cap : Nat} {xs : List ByteArray} (h : W.ownsRow base 9 1 (.slice ao xs.length cap) xs.length (xs.map Value.string)) : Strs W ao cap xs := by
  rcases h.2 with ⟨e, h0⟩ | ⟨g, cap', cur, e, hb, hg, h1, h2, h3, h4⟩
  · have hx0 : xs = [] := List.length_eq_zero_iff.1 h0
    subst hx0
    cases e
    exact ⟨by omega, by unfold maxLen; omega, .inl rfl⟩
  · cases e
    refine ⟨h1, h2, .inr ⟨g, 0, rfl, lt_of_block hg, fun j hj => ?_⟩⟩
    have := (rdr_own h).cell (b := g) rfl (i := j) (u := .string xs[j]) (by simp [hj])
    simpa [hj] using this

theorem six_cell {W : World} {b : Nat} {cs : Array Value} {e : TypeId} {fr : Nat × Nat} (h : W.heap[b]? = some (.cells cs e fr)) (i : Nat) (hi : i < cs.size) : W.cell? ⟨b, i, none⟩ = some cs[i] := by
  simp [World.cell?, h, hi]

set_option maxRecDepth 20000 in
set_option maxHeartbeats 16000000 in
theorem exprKeeps_walk (w : World) (ao bo : Option Addr) (cap bcap : Nat) (l m : List Nd) (at_ : Int) (T : Tabs w) (hR : Rd w ao cap l) (hM : Rd w bo bcap m) (hF : FitX l) (hG : FitX m) :
    Calls Tryd.prog 4 #[.slice ao l.length cap, .int .i64 at_, .slice bo m.length bcap] w fun e w' => e = .returned (.bool true) ∧ Below w.heap.size w w' := by
  have hl9 : l.length ≤ 2513169434843 := by have := hF.len; omega
  have hm9 : m.length ≤ 2513169434843 := by have := hG.len; omega
  have hk9 : ∀ x ∈ l, x.kids.length * 8 ≤ 140737488351232 := hF.kids
  have hk8 : ∀ x ∈ m, x.kids.length * 8 ≤ 140737488351232 := hG.kids
  have HF : SldX (FitR l) := ⟨⟨hF.len, hF.kids, hF.name⟩⟩
  have HG : SldX (FitR m) := ⟨⟨hG.len, hG.kids, hG.name⟩⟩
  have HT : SldX (∀ V, Below w.heap.size w V → Tabs V) := ⟨fun V hV => T.below hV⟩
  have CA : SldX (Calls Tryd.prog 7 #[] w fun e w' => e = .returned (.bool true) ∧ Below w.heap.size w w') := ⟨awk_any w T.spans⟩
  have CR : SldX (∀ W, Below w.heap.size w W → Calls Tryd.prog 21 #[.slice ao l.length cap] W fun e w' => ∃ R fb fc q, e = .returned (.pointer (some ⟨R, 0, none⟩)) ∧ RmX w' R fb fc l q W.heap.size ∧ Below W.heap.size W w') := ⟨fun W hW => (roomy_any ao cap l W (hR.below hW hW.size) HF.out).mono fun e w' ⟨R, vw, vf, vk, p, ks, he, hr⟩ => by obtain ⟨fb, fc, hx⟩ := hr.x; exact ⟨R, fb, fc, _, he, hx, hr.below⟩⟩
  have CR2 : SldX (∀ W, Below w.heap.size w W → Calls Tryd.prog 21 #[.slice bo m.length bcap] W fun e w' => ∃ R fb fc q, e = .returned (.pointer (some ⟨R, 0, none⟩)) ∧ RmX w' R fb fc m q W.heap.size ∧ Below W.heap.size W w') := ⟨fun W hW => (roomy_any bo bcap m W (hM.below hW hW.size) HG.out).mono fun e w' ⟨R, vw, vf, vk, p, ks, he, hr⟩ => by obtain ⟨fb, fc, hx⟩ := hr.x; exact ⟨R, fb, fc, _, he, hx, hr.below⟩⟩
  obtain ⟨LP, cP, sP, hCP⟩ := partC l at_
  have CP := SldX.mk hCP
  have SP : SldX (SmL LP) := ⟨sP⟩
  obtain ⟨LU, cU, sU, hCU⟩ := putC l m at_
  have CU := SldX.mk hCU
  have SU : SldX (SmL LU) := ⟨sU⟩
  obtain ⟨LM, cM, sM, hCM⟩ := makeC l
  have CM := SldX.mk hCM
  have SM : SldX (SmL LM) := ⟨sM⟩
  obtain ⟨LS, cS, sS, hCS⟩ := swapC l
  have CS := SldX.mk hCS
  have SS : SldX (SmL LS) := ⟨sS⟩
  obtain ⟨xs, cV, sV, hCV⟩ := varsC l w T _ hR
  have CV := SldX.mk hCV
  obtain ⟨dD, cD, hCD⟩ := depthC l
  have CD := SldX.mk hCD
  obtain ⟨xo, yo, hxo⟩ : ∃ x y, ordE l m = (x, y) := ⟨_, _, rfl⟩
  have CO : SldX (ordE l m = (xo, yo)) := ⟨hxo⟩
  have hbl := hR.bound
  have hbm := hM.bound
  unfold maxLen at hbl hbm
  clear hCP hCU hCM hCS hCV hCD hxo sP sU sM sS hF hG T hR hM
  go_enter Tryd.func4, Tryd.ntmps4
  go_wp2_with fail
  refine CA.out.mono ?_
  rintro e w1 ⟨rfl, hq⟩
  have B1 : SldX (Below w.heap.size w w1) := ⟨hq⟩
  clear hq CA
  go_wp2_with fail
  refine (CR.out w1 B1.out).mono ?_
  rintro e w2 ⟨R1, f1, c1, q1, rfl, hx, hq⟩
  have B2 : SldX (Below w.heap.size w w2) := ⟨B1.out.trans (hq.mono B1.out.size)⟩
  have X2 : SldX (RmX w2 R1 f1 c1 l q1 w1.heap.size) := ⟨hx⟩
  have A2 : SldX (Anss w2 w1.heap.size w2.heap.size ([] ++ [(.slice (some ⟨f1, 0, none⟩) l.length c1, q1)])) := ⟨(Anss.nil w2 _).snoc hx.own hx.ap hq.size⟩
  have Z2 : SldX (w1.heap.size ≤ w2.heap.size) := ⟨hq.size⟩
  clear hx hq CR
  go_wp2_with fail
  refine (CR2.out w2 B2.out).mono ?_
  rintro e w3 ⟨R2, f2, c2, q2, rfl, hx, hq⟩
  have S3 : SldX (EkS w w3 w1.heap.size R1 f1 c1 R2 f2 c2 l m q1 q2 ([] ++ [(.slice (some ⟨f1, 0, none⟩) l.length c1, q1)] ++ [(.slice (some ⟨f2, 0, none⟩) m.length c2, q2)]) []) := ⟨⟨B2.out.trans (hq.mono B2.out.size), X2.out.below hq, hx.low Z2.out, (A2.out.below hq).snoc hx.own hx.ap hq.size, ⟨by simp, List.Pairwise.nil⟩⟩⟩
  clear hx hq CR2 A2 X2 B2
  go_wp2_with fail
  refine S3.out.x1.expr.mono ?_
  rintro e w4 ⟨rfl, hq⟩
  have S4 := SldX.mk (S3.out.below hq)
  clear hq S3
  go_wp2_with fail
  refine (CP.out _ _ (HT.out _ S4.out.b).spans S4.out.x1.read).mono ?_
  rintro e w5 ⟨aoa, cpa, qa, rfl, hq1, hq⟩
  have S5 := SldX.mk (S4.out.ans hq1 hq)
  have Ma : SldX (qa.map (·.1) = LP) := ⟨hq1.1⟩
  clear hq hq1 S4
  go_wp2_with fail
  refine S5.out.x1.expr.mono ?_
  rintro e w6 ⟨rfl, hq⟩
  have S6 := SldX.mk (S5.out.below hq)
  clear hq S5
  go_wp2_with fail
  refine S6.out.x2.expr.mono ?_
  rintro e w7 ⟨rfl, hq⟩
  have S7 := SldX.mk (S6.out.below hq)
  clear hq S6
  go_wp2_with fail
  refine (CU.out _ _ _ (HT.out _ S7.out.b).spans S7.out.x1.read S7.out.x2.read).mono ?_
  rintro e w8 ⟨aob, cpb, qb, rfl, hq1, hq⟩
  have S8 := SldX.mk (S7.out.ans hq1 hq)
  have Mb : SldX (qb.map (·.1) = LU) := ⟨hq1.1⟩
  clear hq hq1 S7
  go_wp2_with fail
  refine S8.out.x1.expr.mono ?_
  rintro e w9 ⟨rfl, hq⟩
  have S9 := SldX.mk (S8.out.below hq)
  clear hq S8
  have LO := SldX.mk (lst_one (e := 22) S9.out.x1.read)
  have SQ := SldX.mk (S9.out.below ((Below.refl _ _).alloc (Nat.le_refl _) (.cells #[.slice (some ⟨f1, 0, none⟩) l.length c1] 22)))
  go_wp2_with fail
  refine (CM.out _ _ (HT.out _ SQ.out.b).spans LO.out).mono ?_
  rintro e w10 ⟨aoc, cpc, qc, rfl, hq1, hq⟩
  have S10 := SldX.mk (SQ.out.ans hq1 hq)
  have Mc : SldX (qc.map (·.1) = LM) := ⟨hq1.1⟩
  clear hq hq1 SQ LO S9
  go_wp2_with fail
  refine S10.out.x1.expr.mono ?_
  rintro e w11 ⟨rfl, hq⟩
  have S11 := SldX.mk (S10.out.below hq)
  clear hq S10
  go_wp2_with fail
  refine (CV.out _ _ (HT.out _ S11.out.b) S11.out.x1.read).mono ?_
  rintro e w12 ⟨aod, cpd, rfl, hq1, hq⟩
  have S12 := SldX.mk (S11.out.txt hq1 hq)
  clear hq hq1 S11
  go_wp2_with fail
  refine S12.out.x1.expr.mono ?_
  rintro e w13 ⟨rfl, hq⟩
  have S13 := SldX.mk (S12.out.below hq)
  clear hq S12
  go_wp2_with fail
  refine (CD.out _ _ (HT.out _ S13.out.b).spans S13.out.x1.read).mono ?_
  rintro e w14 ⟨rfl, hq⟩
  have S14 := SldX.mk (S13.out.below hq)
  clear hq S13
  go_wp2_with fail
  refine S14.out.x1.expr.mono ?_
  rintro e w15 ⟨rfl, hq⟩
  have S15 := SldX.mk (S14.out.below hq)
  clear hq S14
  go_wp2_with fail
  refine S15.out.x2.expr.mono ?_
  rintro e w16 ⟨rfl, hq⟩
  have S16 := SldX.mk (S15.out.below hq)
  clear hq S15
  go_wp2_with fail
  refine (orderX (HT.out _ S16.out.b) S16.out.x1.read S16.out.x2.read xo yo CO.out).mono ?_
  rintro e w17 ⟨rfl, hq⟩
  have S17 := SldX.mk (S16.out.below hq)
  clear hq S16
  go_wp2_with fail
  refine S17.out.x1.expr.mono ?_
  rintro e w18 ⟨rfl, hq⟩
  have S18 := SldX.mk (S17.out.below hq)
  clear hq S17
  go_wp2_with fail
  refine (CS.out _ _ _ (HT.out _ S18.out.b).spans S18.out.x1.read).mono ?_
  rintro e w19 ⟨aog, cpg, qg, rfl, hq1, hq⟩
  have S19 := SldX.mk (S18.out.ans hq1 hq)
  have Mg : SldX (qg.map (·.1) = LS) := ⟨hq1.1⟩
  clear hq hq1 S18
  go_wp2_with fail
  refine S19.out.x1.expr.mono ?_
  rintro e w20 ⟨rfl, hq⟩
  have S20 := SldX.mk (S19.out.below hq)
  clear hq S19
  go_wp2_with fail
  refine (CP.out _ _ (HT.out _ S20.out.b).spans S20.out.x1.read).mono ?_
  rintro e w21 ⟨aoh, cph, qh, rfl, hq1, hq⟩
  have S21 := SldX.mk (S20.out.ans hq1 hq)
  have Mh : SldX (qh.map (·.1) = LP) := ⟨hq1.1⟩
  clear hq hq1 S20
  go_wp2_with fail
  refine S21.out.x1.expr.mono ?_
  rintro e w22 ⟨rfl, hq⟩
  have S22 := SldX.mk (S21.out.below hq)
  clear hq S21
  go_wp2_with fail
  refine S22.out.x2.expr.mono ?_
  rintro e w23 ⟨rfl, hq⟩
  have S23 := SldX.mk (S22.out.below hq)
  clear hq S22
  go_wp2_with fail
  refine (CU.out _ _ _ (HT.out _ S23.out.b).spans S23.out.x1.read S23.out.x2.read).mono ?_
  rintro e w24 ⟨aoi, cpi, qi, rfl, hq1, hq⟩
  have S24 := SldX.mk (S23.out.ans hq1 hq)
  have Mi : SldX (qi.map (·.1) = LU) := ⟨hq1.1⟩
  clear hq hq1 S23
  go_wp2_with fail
  refine S24.out.x1.expr.mono ?_
  rintro e w25 ⟨rfl, hq⟩
  have S25 := SldX.mk (S24.out.below hq)
  clear hq S24
  go_wp2_with fail
  refine (CV.out _ _ (HT.out _ S25.out.b) S25.out.x1.read).mono ?_
  rintro e w26 ⟨aoj, cpj, rfl, hq1, hq⟩
  have S26 := SldX.mk (S25.out.txt hq1 hq)
  clear hq hq1 S25
  go_wp2_with fail
  refine (sameR (Nodes_of_own ⟨qa, Ma.out, S26.out.an.ownP (a := (.slice aoa LP.length cpa, qa)) (by simp)⟩ (Nat.le_refl _)) (Nodes_of_own ⟨qh, Mh.out, S26.out.an.ownP (a := (.slice aoh LP.length cph, qh)) (by simp)⟩ (Nat.le_refl _)) true (by simp)).mono ?_
  rintro e w27 ⟨rfl, hq⟩
  have S27 := SldX.mk (S26.out.below hq)
  clear hq S26
  go_wp2_with fail
  refine (sameR (Nodes_of_own ⟨qb, Mb.out, S27.out.an.ownP (a := (.slice aob LU.length cpb, qb)) (by simp)⟩ (Nat.le_refl _)) (Nodes_of_own ⟨qi, Mi.out, S27.out.an.ownP (a := (.slice aoi LU.length cpi, qi)) (by simp)⟩ (Nat.le_refl _)) true (by simp)).mono ?_
  rintro e w28 ⟨rfl, hq⟩
  have S28 := SldX.mk (S27.out.below hq)
  clear hq S27
  go_wp2_with fail
  refine (sameTexts_any _ _ _ _ _ xs (own_strs (S28.out.tx.own (.slice aod xs.length cpd, xs.length, xs.map Value.string) (by simp))) (own_strs (S28.out.tx.own (.slice aoj xs.length cpj, xs.length, xs.map Value.string) (by simp)))).mono ?_
  rintro e w29 ⟨rfl, hq⟩
  have S29 := SldX.mk (S28.out.below hq)
  clear hq S28
  go_wp2_with fail
  refine (S29.out.x1.kept HF.out).mono ?_
  rintro e w30 ⟨rfl, hq⟩
  have S30 := SldX.mk (S29.out.below hq)
  clear hq S29
  go_wp2_with fail
  refine (S30.out.x2.kept HG.out).mono ?_
  rintro e w31 ⟨rfl, hq⟩
  have S31 := SldX.mk (S30.out.below hq)
  clear hq S30
  go_wp2_with fail
  have hz : w1.heap.size ≤ w31.heap.size := S31.out.an.le
  obtain ⟨W3, hW3⟩ : ∃ W3, ((w31.alloc (.cells #[.slice aod xs.length cpd, .slice aoj xs.length cpj] 33)).alloc (.cells #[.slice none 0 0, .slice none 0 0, (.slice (some ⟨w31.heap.size, 0, none⟩) 2 2), .slice none 0 0, .slice none 0 0, .slice none 0 0] 52)).alloc (.cells #[.slice aoa LP.length cpa, .slice aob LU.length cpb, .slice aoc LM.length cpc, .slice aog LS.length cpg, .slice aoh LP.length cph, .slice aoi LU.length cpi] 22) = W3 := ⟨_, rfl⟩
  have hs3 : W3.heap.size = w31.heap.size + 1 + 1 + 1 := by rw [← hW3]; simp only [World.size_alloc]
  have hb3 : Below w31.heap.size w31 W3 := by rw [← hW3]; exact (((Below.refl _ _).alloc (Nat.le_refl _) _).alloc (by simp only [World.size_alloc]; omega) _).alloc (by simp only [World.size_alloc]; omega) _
  have hQ3 : W3.heap[w31.heap.size + 1]? = some (.cells #[.slice none 0 0, .slice none 0 0, (.slice (some ⟨w31.heap.size, 0, none⟩) 2 2), .slice none 0 0, .slice none 0 0, .slice none 0 0] 52 (0, 0)) := by
    rw [← hW3]
    have h1 := Deep.blk_alloc_new (w31.alloc (.cells #[.slice aod xs.length cpd, .slice aoj xs.length cpj] 33)) (.cells #[.slice none 0 0, .slice none 0 0, (.slice (some ⟨w31.heap.size, 0, none⟩) 2 2), .slice none 0 0, .slice none 0 0, .slice none 0 0] 52)
    rw [World.size_alloc] at h1
    exact (Deep.blk_alloc_lt _ _ _ (by simp only [World.size_alloc]; omega)).trans h1
  have h63 : W3.heap[w31.heap.size + 1 + 1]? = some (.cells #[.slice aoa LP.length cpa, .slice aob LU.length cpb, .slice aoc LM.length cpc, .slice aog LS.length cpg, .slice aoh LP.length cph, .slice aoi LU.length cpi] 22 (0, 0)) := by
    rw [← hW3]
    have h1 := Deep.blk_alloc_new ((w31.alloc (.cells #[.slice aod xs.length cpd, .slice aoj xs.length cpj] 33)).alloc (.cells #[.slice none 0 0, .slice none 0 0, (.slice (some ⟨w31.heap.size, 0, none⟩) 2 2), .slice none 0 0, .slice none 0 0, .slice none 0 0] 52)) (.cells #[.slice aoa LP.length cpa, .slice aob LU.length cpb, .slice aoc LM.length cpc, .slice aog LS.length cpg, .slice aoh LP.length cph, .slice aoi LU.length cpi] 22)
    rw [World.size_alloc, World.size_alloc] at h1
    exact h1
  have hT3 : W3.ownsRow w1.heap.size 33 1 (.slice (some ⟨w31.heap.size, 0, none⟩) 2 2) 2 [.slice aod xs.length cpd, .slice aoj xs.length cpj] := by
    rw [← hW3]
    exact row_below (two_row hz) (((Below.refl _ _).alloc (Nat.le_refl _) _).alloc (by simp only [World.size_alloc]; omega) _)
  have SX := SldX.mk (S31.out.below hb3)
  have K0 : SldX (BkS W3 W3 w1.heap.size (w31.heap.size + 1) (.slice (some ⟨w31.heap.size, 0, none⟩) 2 2) [] []) := ⟨BkS.start hQ3⟩
  have SIX : SldX (∀ V VN VI, BkS W3 V w1.heap.size (w31.heap.size + 1) (.slice (some ⟨w31.heap.size, 0, none⟩) 2 2) VN VI → V.heap[w31.heap.size + 1 + 1]? = some (.cells #[.slice aoa LP.length cpa, .slice aob LU.length cpb, .slice aoc LM.length cpc, .slice aog LS.length cpg, .slice aoh LP.length cph, .slice aoi LU.length cpi] 22 (0, 0))) := ⟨fun V VN VI h => (h.six (by omega) (by omega)).trans h63⟩
  have HT3 : SldX (W3.ownsRow w1.heap.size 33 1 (.slice (some ⟨w31.heap.size, 0, none⟩) 2 2) 2 [.slice aod xs.length cpd, .slice aoj xs.length cpj]) := ⟨hT3⟩
  have HS3 : SldX (W3.heap.size = w31.heap.size + 1 + 1 + 1) := ⟨hs3⟩
  have hQl : w1.heap.size ≤ (w31.heap.size + 1) := by omega
  have la : qa.length = LP.length := by have := congrArg List.length Ma.out; simpa using this
  have lb : qb.length = LU.length := by have := congrArg List.length Mb.out; simpa using this
  have lc : qc.length = LM.length := by have := congrArg List.length Mc.out; simpa using this
  have lg : qg.length = LS.length := by have := congrArg List.length Mg.out; simpa using this
  have lh : qh.length = LP.length := by have := congrArg List.length Mh.out; simpa using this
  have li : qi.length = LU.length := by have := congrArg List.length Mi.out; simpa using this
  have l1 : q1.length = l.length := by have := congrArg List.length SX.out.x1.nodes; simpa using this
  have l2 : q2.length = m.length := by have := congrArg List.length SX.out.x2.nodes; simpa using this
  have nLP : LP.length ≤ 64 := SP.out.1
  have nLU : LU.length ≤ 64 := SU.out.1
  have nLM : LM.length ≤ 64 := SM.out.1
  have nLS : LS.length ≤ 64 := SS.out.1
  rw [hW3]
  clear hW3 hb3 hQ3 h63 hT3 hs3 S31
  refine wp_loop_rounds 7 ?_
  rw [rounds_succ]
  have hc6 := SIX.out _ _ _ K0.out
  have d6 := six_cell hc6 0 (by simp)
  simp at d6
  clear hc6
  go_wp2_with fail
  refine (K0.out.expr hQl (SX.out.an.ownP (a := (.slice aoa LP.length cpa, qa)) (by simp)) la (by simp) (by simp <;> omega)).mono ?_
  rintro e v1 ⟨rfl, hk⟩
  have K1 := SldX.mk hk
  clear hk K0 d6
  go_wp2_with fail
  rw [rounds_succ]
  have hc6 := SIX.out _ _ _ K1.out
  have d6 := six_cell hc6 1 (by simp)
  simp at d6
  clear hc6
  go_wp2_with fail
  refine (K1.out.expr hQl (SX.out.an.ownP (a := (.slice aob LU.length cpb, qb)) (by simp)) lb (by simp) (by simp <;> omega)).mono ?_
  rintro e v2 ⟨rfl, hk⟩
  have K2 := SldX.mk hk
  clear hk K1 d6
  go_wp2_with fail
  rw [rounds_succ]
  have hc6 := SIX.out _ _ _ K2.out
  have d6 := six_cell hc6 2 (by simp)
  simp at d6
  clear hc6
  go_wp2_with fail
  refine (K2.out.expr hQl (SX.out.an.ownP (a := (.slice aoc LM.length cpc, qc)) (by simp)) lc (by simp) (by simp <;> omega)).mono ?_
  rintro e v3 ⟨rfl, hk⟩
  have K3 := SldX.mk hk
  clear hk K2 d6
  go_wp2_with fail
  rw [rounds_succ]
  have hc6 := SIX.out _ _ _ K3.out
  have d6 := six_cell hc6 3 (by simp)
  simp at d6
  clear hc6
  go_wp2_with fail
  refine (K3.out.expr hQl (SX.out.an.ownP (a := (.slice aog LS.length cpg, qg)) (by simp)) lg (by simp) (by simp <;> omega)).mono ?_
  rintro e v4 ⟨rfl, hk⟩
  have K4 := SldX.mk hk
  clear hk K3 d6
  go_wp2_with fail
  rw [rounds_succ]
  have hc6 := SIX.out _ _ _ K4.out
  have d6 := six_cell hc6 4 (by simp)
  simp at d6
  clear hc6
  go_wp2_with fail
  refine (K4.out.expr hQl (SX.out.an.ownP (a := (.slice aoh LP.length cph, qh)) (by simp)) lh (by simp) (by simp <;> omega)).mono ?_
  rintro e v5 ⟨rfl, hk⟩
  have K5 := SldX.mk hk
  clear hk K4 d6
  go_wp2_with fail
  rw [rounds_succ]
  have hc6 := SIX.out _ _ _ K5.out
  have d6 := six_cell hc6 5 (by simp)
  simp at d6
  clear hc6
  go_wp2_with fail
  refine (K5.out.expr hQl (SX.out.an.ownP (a := (.slice aoi LU.length cpi, qi)) (by simp)) li (by simp) (by simp <;> omega)).mono ?_
  rintro e v6 ⟨rfl, hk⟩
  have K6 := SldX.mk hk
  clear hk K5 d6
  go_wp2_with fail
  rw [rounds_succ]
  go_wp2_with fail
  refine (K6.out.room SX.out.x1).mono ?_
  rintro e v7 ⟨rfl, hk⟩
  have K7 := SldX.mk (K6.out.below (by have := HS3.out; omega) hk)
  clear hk K6
  go_wp2_with fail
  refine (K7.out.expr hQl SX.out.x1.own l1 (by simp) (by simp <;> omega)).mono ?_
  rintro e v8 ⟨rfl, hk⟩
  have K8 := SldX.mk hk
  clear hk K7
  go_wp2_with fail
  refine (K8.out.room SX.out.x2).mono ?_
  rintro e v9 ⟨rfl, hk⟩
  have K9 := SldX.mk (K8.out.below (by have := HS3.out; omega) hk)
  clear hk K8
  go_wp2_with fail
  refine (K9.out.expr hQl SX.out.x2.own l2 (by simp) (by simp <;> omega)).mono ?_
  rintro e v10 ⟨rfl, hk⟩
  have K10 := SldX.mk hk
  clear hk K9
  have CAP : SldX (Calls Tryd.prog 29 #[.pointer (some ⟨(w31.heap.size + 1), 0, none⟩)] v10 fun e W' => e = .returned (.bool true) ∧ Below w1.heap.size W3 W') := ⟨by
    have hkr : ∀ (L9 : List Nd) (q9 : List (Nd × Value)), (∀ x ∈ L9, x.kids.length * 8 ≤ 140737488351232) → q9.map (·.1) = L9 → ∀ r ∈ kR q9, r.2.1 * 8 ≤ 140737488351232 := fun L9 q9 hL hq r hr => by
      obtain ⟨y, hy, rfl⟩ := List.mem_map.1 hr
      have hm := List.mem_map_of_mem (f := (·.1)) hy
      show y.1.kids.length * 8 ≤ 140737488351232
      rw [hq] at hm; have := hL _ hm; omega
    have h3 : ∀ L9 : List Nd, SmL L9 → ∀ x ∈ L9, x.kids.length * 8 ≤ 140737488351232 := fun L9 h x hx => by have := h.2 x hx; omega
    refine BkS.apart (RN := [(.slice aoa LP.length cpa, qa.length, ndCells qa), (.slice aob LU.length cpb, qb.length, ndCells qb), (.slice aoc LM.length cpc, qc.length, ndCells qc), (.slice aog LS.length cpg, qg.length, ndCells qg), (.slice aoh LP.length cph, qh.length, ndCells qh), (.slice aoi LU.length cpi, qi.length, ndCells qi), (.slice (some ⟨f1, 0, none⟩) l.length c1, q1.length, ndCells q1), (.slice (some ⟨f2, 0, none⟩) m.length c2, q2.length, ndCells q2)]) (RI := (kR qa ++ (kR qb ++ (kR qc ++ (kR qg ++ (kR qh ++ kR qi)))) ++ (kR q1 ++ kR q2))) (RT := [(.slice aod xs.length cpd, xs.length, xs.map Value.string), (.slice aoj xs.length cpj, xs.length, xs.map Value.string)]) ?_ (by have := HS3.out; omega) ?_ ?_ HT3.out ?_ ?_ (by simp) ?_ ?_ ?_ (by simp)
    · have := K10.out
      simpa only [List.map_append, List.map_cons, List.map_nil, kR_v, List.append_assoc, List.nil_append, List.cons_append] using this
    · refine RwL.perm SX.out.an.rows ?_
      simp only [List.nil_append, List.cons_append, List.map_cons, List.map_nil]
      exact (List.perm_append_comm (l₁ := [((.slice (some ⟨f1, 0, none⟩) l.length c1, q1.length, ndCells q1) : Rw), (.slice (some ⟨f2, 0, none⟩) m.length c2, q2.length, ndCells q2)]) (l₂ := [((.slice aoa LP.length cpa, qa.length, ndCells qa) : Rw), (.slice aob LU.length cpb, qb.length, ndCells qb), (.slice aoc LM.length cpc, qc.length, ndCells qc), (.slice aog LS.length cpg, qg.length, ndCells qg), (.slice aoh LP.length cph, qh.length, ndCells qh), (.slice aoi LU.length cpi, qi.length, ndCells qi)]))
    · refine RwL.perm SX.out.an.kids ?_
      simp only [List.nil_append, List.cons_append, List.flatMap_cons, List.flatMap_nil, List.append_nil]
      rw [← List.append_assoc (kR q1)]
      exact List.perm_append_comm
    · have := SX.out.tx
      simpa only [List.nil_append, List.cons_append] using this
    · intro r hr
      simp only [List.mem_cons, List.not_mem_nil, or_false] at hr
      rcases hr with rfl | rfl | rfl | rfl | rfl | rfl | rfl | rfl
      · show qa.length * 56 ≤ 140737488351232; omega
      · show qb.length * 56 ≤ 140737488351232; omega
      · show qc.length * 56 ≤ 140737488351232; omega
      · show qg.length * 56 ≤ 140737488351232; omega
      · show qh.length * 56 ≤ 140737488351232; omega
      · show qi.length * 56 ≤ 140737488351232; omega
      · show q1.length * 56 ≤ 140737488351232; omega
      · show q2.length * 56 ≤ 140737488351232; omega
    · intro r hr
      simp only [List.mem_append] at hr
      rcases hr with (hr | hr | hr | hr | hr | hr) | (hr | hr)
      · exact hkr LP qa (h3 _ SP.out) Ma.out r hr
      · exact hkr LU qb (h3 _ SU.out) Mb.out r hr
      · exact hkr LM qc (h3 _ SM.out) Mc.out r hr
      · exact hkr LS qg (h3 _ SS.out) Mg.out r hr
      · exact hkr LP qh (h3 _ SP.out) Mh.out r hr
      · exact hkr LU qi (h3 _ SU.out) Mi.out r hr
      · exact hkr l q1 hk9 SX.out.x1.nodes r hr
      · exact hkr m q2 hk8 SX.out.x2.nodes r hr
    · simp [kR]; omega
    · intro r hr
      simp only [List.mem_cons, List.not_mem_nil, or_false] at hr
      rcases hr with rfl | rfl <;> (show xs.length ≤ 100000000; omega)⟩
  have BF : SldX (Below w.heap.size w W3 ∧ Below w.heap.size w w1) := ⟨SX.out.b, B1.out⟩
  go_wp2_with fail
  refine CAP.out.mono ?_
  rintro e wz ⟨rfl, hk⟩
  have BZ : SldX (Below w.heap.size w wz) := ⟨BF.out.1.trans (hk.mono BF.out.2.size)⟩
  clear hk CAP
  go_wp2_with fail
  go_ret
  exact ⟨rfl, BZ.out⟩
end Go.Proofs.YtpacjofepiojdaaDoor

set_option linter.unusedVariables false
namespace Go.Proofs.YtpacjofepiojdaaDoor.exprkeeps
open Go.ChangeShapes Go.WideShapes Go.ChangeAt Go.RowKit Go.WideMaps Go.WideElems
open Go.ChangeMaps (open_string shut_string)

set_option maxRecDepth 100000 in
set_option maxHeartbeats 1000000 in
theorem contract (H : Type) (enc : TypeId × Value → H) (W : World) (base : Nat) (args : Array Value) (ds gs : List (DataW H)) (before : List MemPlace)
    (hval : ∀ (j : Nat) t v, Tryd.f4.params[j]? = some t → args[j]? = some v → Value.okWide Tryd.prog W .any base t v)
    (hW : DataW.Whole enc Tryd.prog Tryd.f4.params.toList Rows.exprKeepsSpec.vars false W args.toList ds gs before)
    (hsz : (DataW.weightsEach Tryd.prog (Tryd.f4.params.toList ++ (OpenSpec.ofChange Rows.exprKeepsSpec).bare.plain.varTypes Tryd.prog) (ds ++ gs)).all (· ≤ reachBytes) = true)
    (hL : laidMetH Tryd.prog Rows.exprKeepsRow.laid W) :
    Calls Tryd.prog 4 args W fun e W' => ∃ v, e = .returned v ∧ Rows.exprKeepsSpec.post enc Tryd.prog Tryd.f4 false true false false W args v W' := by
  have hW' := hW
  have hlt : ∀ x ∈ before, x.block < W.heap.size := fun x hx => by simpa using hW'.lt x hx
  obtain ⟨p, q, hA0, hV, rfl, hfz, hnd⟩ := hW
  have hA : DataW.TrodAll enc Tryd.prog W 0 (fun _ => true) true Tryd.f4.params.toList args.toList ds p := hA0
  rw [Tryd.params4 ] at hA hval
  obtain ⟨v0, vs0, d0, ds0, p0, q0, hargs0, rfl, rfl, h0, r0⟩ := trodAll_cons hA
  obtain ⟨v1, vs1, d1, ds1, p1, q1, rfl, rfl, rfl, h1, r1⟩ := trodAll_cons r0
  obtain ⟨v2, vs2, d2, ds2, p2, q2, rfl, rfl, rfl, h2, r2⟩ := trodAll_cons r1
  obtain ⟨rfl, rfl, rfl⟩ := trodAll_nil r2
  obtain rfl : args = #[v0, v1, v2] := by cases args; simp_all
  obtain ⟨rfl, rfl⟩ := trodVars_none hV
  clear hA0
  simp only [List.append_nil] at hW' hsz
  have h0k := h0
  have ok0 : Value.okWide Tryd.prog W .any base 22 v0 := hval 0 22 v0 (by rfl) (by rfl)
  obtain ⟨a0, n0, c0, rfl⟩ := okWide_slice Tryd.underlying22 ok0
  obtain ⟨fu0, hf0⟩ := h0
  obtain ⟨ao0, cap0, l0, he0, R0, hF0⟩ := open_nodesX (v := .slice a0 n0 c0) hf0
  cases he0
  have F0 := hF0 fun n hn => of_decide_eq_true (List.all_eq_true.1 hsz n (DataW.weights_mem_each (j := 0) (t := 22) (by kernel_rfl) rfl n hn))
  obtain ⟨x1, rfl, rfl, rfl, wx1⟩ := open_int Tryd.underlying3 (hval 1 3 v1 rfl rfl) h1
  have h2k := h2
  have ok2 : Value.okWide Tryd.prog W .any base 22 v2 := hval 2 22 v2 (by rfl) (by rfl)
  obtain ⟨a2, n2, c2, rfl⟩ := okWide_slice Tryd.underlying22 ok2
  obtain ⟨fu2, hf2⟩ := h2
  obtain ⟨ao2, cap2, l2, he2, R2, hF2⟩ := open_nodesX (v := .slice a2 n2 c2) hf2
  cases he2
  have F2 := hF2 fun n hn => of_decide_eq_true (List.all_eq_true.1 hsz n (DataW.weights_mem_each (j := 2) (t := 22) (by kernel_rfl) rfl n hn))
  refine (exprKeeps_walk W a0 a2 c0 c2 l0 l2 x1 (tabs_of_laid hL)  R0 R2  F0 F2).mono fun e W' ⟨he, hg⟩ => ?_
  subst he
  exact ⟨_, rfl, post_below (pv := []) hW' (fun _ _ _ => trodAll_cons_mk (shut_bool Tryd.underlying4 _) trodAll_mk0) (fun sp hsp => trodAll_cons_mk (Trod_stays Tryd.laidOut (by kernel_rfl) (of_decide_eq_true (by kernel_rfl)) h0k (fun x hx => hg.same (hlt x (by simp [hx]))) (fun x hx => hsp x (by simp [hx]))) (trodAll_cons_mk (shut_int Tryd.underlying3 wx1) (trodAll_cons_mk (Trod_stays Tryd.laidOut (by kernel_rfl) (of_decide_eq_true (by kernel_rfl)) h2k (fun x hx => hg.same (hlt x (by simp [hx]))) (fun x hx => hsp x (by simp [hx]))) trodAll_mk0))) (fun _ _ => rfl) (by simp) (hg.frame _)⟩

end Go.Proofs.YtpacjofepiojdaaDoor.exprkeeps

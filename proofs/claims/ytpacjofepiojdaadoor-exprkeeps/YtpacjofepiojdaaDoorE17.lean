/-
  ExOrXW, EkC.
-/
import Derived.Test.YtpacjofepiojdaaDoorChecked
import GoSem.PinnedTables
import GoSem.Claim
import GoSem.ClaimJoined
import GoSem.ClaimMapViews
import Derived.JoinedTies
import Derived.KernelRfl
import Derived.Shelf.Unicode.DecodeSlow
import Derived.Laws.RangeAny
import Derived.Shelf.Small.Bits
import Derived.Shelf.Strconv.Itoa0
import Derived.Shelf.LaysM
import Derived.Shelf.Strconv.Clone
import Derived.Shelf.Unicode.DecodeAny
import Derived.Shelf.Slices.CompactS
import Derived.Ground.SlsfProg
import Derived.Shelf.SlSortCmp.Insertion
import Derived.Shelf.SlSortCmp.SiftDown1
import Derived.Shelf.SlSortCmp.HeapSort1
import Derived.Shelf.SlSortCmp.Insertion1
import Derived.Shelf.SlSortCmp.Median1
import Derived.Shelf.SlSortCmp.Pivot1
import Derived.Shelf.SlSortCmp.ReverseRange1
import Derived.Shelf.SlSortCmp.PartialInsertion1
import Derived.Shelf.SlSortCmp.PartitionEqual1
import Derived.Shelf.SlSortCmp.Partition1
import Derived.Shelf.SlSortCmp.Pdq1
import Derived.Shelf.SlSortCmp.Whole1
import Derived.Test.YtpacjofepiojdaaDoorProg
import Derived.WalkKit
import Derived.Deep.DeepFit
import Derived.Lib.OthersKept
import Derived.Lib.RuneCountTail
import Derived.Lib.LaidU8
import Derived.MakeChecks
import Derived.ProofKit
import Derived.OpenShut
import Derived.Deep.DeepHandedRow
import Derived.Deep.AppendLies
import Derived.Deep.OwnRows
import Derived.Laws.AppendOwnNone
import Derived.Deep.QuietTactic
import Derived.BigQuiet
import Derived.Deep.RegionWith
import Derived.Laws.DeepStrings4
import Derived.Deep.Slices
import Derived.SizedLaws
import Derived.Below
import Derived.Lib.MapLaws
import Derived.Sort.Walk0
import Derived.Lib.SlicesCompact
import Derived.Sort.EncStr
import Derived.Calls
import Derived.RunT
import Derived.Lib.QuietBelow
import Derived.Deep.Draws
import Derived.Sort.OwnSorted
import Derived.Laws.IdiomStrings
import Derived.WalkSmall
import Derived.Deep.RegionHeld3
import Derived.StillTail
import Derived.Deep.DeepCutAuto
import Derived.Test.YtpacjofepiojdaaDoorRows
import Derived.Test.YtpacjofepiojdaaDoorE01
import Derived.Test.YtpacjofepiojdaaDoorE02
import Derived.Test.YtpacjofepiojdaaDoorE03
import Derived.Test.YtpacjofepiojdaaDoorE04
import Derived.Test.YtpacjofepiojdaaDoorE05
import Derived.Test.YtpacjofepiojdaaDoorE06
import Derived.Test.YtpacjofepiojdaaDoorE07
import Derived.Test.YtpacjofepiojdaaDoorE08
import Derived.Test.YtpacjofepiojdaaDoorE09
import Derived.Test.YtpacjofepiojdaaDoorE10
import Derived.Test.YtpacjofepiojdaaDoorE11
import Derived.Test.YtpacjofepiojdaaDoorE12
import Derived.Test.YtpacjofepiojdaaDoorE13
import Derived.Test.YtpacjofepiojdaaDoorE14
import Derived.Test.YtpacjofepiojdaaDoorE15
import Derived.Test.YtpacjofepiojdaaDoorE16
set_option linter.unusedSimpArgs false
set_option linter.unusedVariables false
namespace Go.Proofs.YtpacjofepiojdaaDoor
open Go.RowKit Go.Lib Go.Sort

/-! ### -1, 0 or 1 -/
/-- What Order says. -/
def ordE (a b : List Nd) : Int × Int := match begL a, begL b with
  | some fa, some fb => (ordW a fa b fb, 0)
  | _, _ => (0, 1)
theorem ordE_no {a b : List Nd} (h : begL a = none ∨ begL b = none) : ordE a b = (0, 1) := by
  unfold ordE
  rcases h with h | h
  · rw [h]
  · rw [h]; cases begL a <;> rfl
theorem ordE_yes {a b : List Nd} {fa fb : List Nat} (ha : begL a = some fa) (hb : begL b = some fb) : ordE a b = (ordW a fa b fb, 0) := by
  unfold ordE; rw [ha, hb]

set_option maxHeartbeats 1000000 in
theorem orderX {w : World} {ao bo : Option Addr} {ca cb : Nat} {a b : List Nd} (T : Tabs w) (hA : Rd w ao ca a) (hB : Rd w bo cb b) (x y : Int) (hx : ordE a b = (x, y)) :
    Calls Tryd.prog 24 #[.slice ao a.length ca, .slice bo b.length cb] w fun e w' => e = .returned (.tuple #[.int .i64 x, .int .i64 y]) ∧ Below w.heap.size w w' := by
  have hnil := eql_nil
  have hba := hA.bound
  have hbb := hB.bound
  unfold maxLen at hba hbb
  have HX : Hid (ordE a b = (x, y)) := hx
  clear hx
  cases ha : begL a with
  | none =>
    have e := HX.out
    rw [ordE_no (.inl ha)] at e
    injection e with e1 e2
    subst e1 e2
    clear HX
    have HAN : Hid (begL a = none) := ha
    clear ha
    cases hb : begL b with
    | none =>
      have HBN : Hid (begL b = none) := hb
      clear hb
      go_enter Tryd.func24, Tryd.ntmps24
      go_wp2_with fail
      refine (begins_none _ a _ _ (Nat.le_refl _) T.spans hA HAN.out).mono ?_
      rintro e w1 ⟨rfl, hb1⟩
      go_wp2_with fail
      refine (begins_none _ b _ _ (Nat.le_refl _) (T.below hb1).spans (hB.below hb1 hb1.size) HBN.out).mono ?_
      rintro e w2 ⟨rfl, hb2⟩
      go_wp2_with fail
      go_ret2
      exact ⟨rfl, by
        have h := hb1.trans (hb2.mono hb1.size)
        exact (h.alloc h.size _).alloc (by have := h.size; simp; omega) _⟩
    | some fb =>
      have HBN : Hid (begL b = some fb) := hb
      clear hb
      go_enter Tryd.func24, Tryd.ntmps24
      go_wp2_with fail
      refine (begins_none _ a _ _ (Nat.le_refl _) T.spans hA HAN.out).mono ?_
      rintro e w1 ⟨rfl, hb1⟩
      go_wp2_with fail
      refine (begins_some _ b fb _ _ (Nat.le_refl _) (T.below hb1).spans (hB.below hb1 hb1.size) HBN.out).mono ?_
      rintro e w2 ⟨g, rfl, hg1, hg2, hgc, hb2⟩
      clear hgc
      go_wp2_with fail
      go_ret2
      exact ⟨rfl, by
        have h := hb1.trans (hb2.mono hb1.size)
        exact (h.alloc h.size _).alloc (by have := h.size; simp; omega) _⟩
  | some fa =>
    have HAN : Hid (begL a = some fa) := ha
    clear ha
    cases hb : begL b with
    | none =>
      have e := HX.out
      rw [ordE_no (.inr hb)] at e
      injection e with e1 e2
      subst e1 e2
      clear HX
      have HBN : Hid (begL b = none) := hb
      clear hb
      go_enter Tryd.func24, Tryd.ntmps24
      go_wp2_with fail
      refine (begins_some _ a fa _ _ (Nat.le_refl _) T.spans hA HAN.out).mono ?_
      rintro e w1 ⟨g, rfl, hg1, hg2, hgc, hb1⟩
      clear hgc
      go_wp2_with fail
      refine (begins_none _ b _ _ (Nat.le_refl _) (T.below hb1).spans (hB.below hb1 hb1.size) HBN.out).mono ?_
      rintro e w2 ⟨rfl, hb2⟩
      go_wp2_with fail
      go_ret2
      exact ⟨rfl, by
        have h := hb1.trans (hb2.mono hb1.size)
        exact (h.alloc h.size _).alloc (by have := h.size; simp; omega) _⟩
    | some fb =>
      have e := HX.out
      rw [ordE_yes HAN.out hb] at e
      injection e with e1 e2
      have HX1 : Hid (ordW a fa b fb = x) := e1
      subst e2
      have HBN : Hid (begL b = some fb) := hb
      clear hb HX e1
      have hla := (begL_some HAN.out).1
      have hlb := (begL_some HBN.out).1
      have ha64 := (begL_some HAN.out).2.1
      have hb64 := (begL_some HBN.out).2.1
      go_enter Tryd.func24, Tryd.ntmps24
      go_wp2_with fail
      refine (begins_some _ a fa _ _ (Nat.le_refl _) T.spans hA HAN.out).mono ?_
      rintro e w1 ⟨g, rfl, hg1, hg2, hgc, hb1⟩
      have HG1 : Hid (∀ j, j < a.length → w1.cell? ⟨g, j, none⟩ = some (.int .i64 (fa.getD j 0 : Nat))) := hgc
      clear hgc
      go_wp2_with fail
      refine (begins_some _ b fb _ _ (Nat.le_refl _) (T.below hb1).spans (hB.below hb1 hb1.size) HBN.out).mono ?_
      rintro e w2 ⟨g', rfl, hg1', hg2', hgc, hb2⟩
      have HG2 : Hid (∀ j, j < b.length → w2.cell? ⟨g', j, none⟩ = some (.int .i64 (fb.getD j 0 : Nat))) := hgc
      clear hgc
      have h := hb1.trans (hb2.mono hb1.size)
      have HH : Hid (Below w.heap.size w w2) := h
      have HA2 : Hid (Rd w2 ao ca a) := hA.below h h.size
      have HB2 : Hid (Rd w2 bo cb b) := hB.below h h.size
      have HG1' : Hid (∀ j, j < a.length → w2.cell? ⟨g, j, none⟩ = some (.int .i64 (fa.getD j 0 : Nat))) := fun j hj => (hb2.cell (p := ⟨g, j, none⟩) hg2).trans (HG1.out j hj)
      have hgs : g < w2.heap.size := Nat.lt_of_lt_of_le hg2 hb2.size
      obtain ⟨aa, aq, hae⟩ : ∃ b o, ao = some ⟨b, o, none⟩ := by
        obtain ⟨ao', cap', h1, h2, h3, h4⟩ := hA
        cases h1
        rcases h4 with h | ⟨b, o, h5, _⟩
        · subst h; simp at hla
        · exact ⟨b, o, h5⟩
      obtain ⟨ba, bq, hbe⟩ : ∃ b o, bo = some ⟨b, o, none⟩ := by
        obtain ⟨ao', cap', h1, h2, h3, h4⟩ := hB
        cases h1
        rcases h4 with h | ⟨b, o, h5, _⟩
        · subst h; simp at hlb
        · exact ⟨b, o, h5⟩
      subst hae hbe
      have hT2 := T.below h
      have HT2 : Hid (Tabs w2) := hT2
      clear HG1 hA hB hb1 hb2 h hT2 T hg1 hg2 hg1'
      have ha1 : ((a.length : Int) - 1) = ((a.length - 1 : Nat) : Int) := by omega
      have hb1 : ((b.length : Int) - 1) = ((b.length - 1 : Nat) : Int) := by omega
      have cO : Hid (∀ V, Below w2.heap.size w2 V → Calls Tryd.prog 53 #[.agg #[.slice (some ⟨aa, aq, none⟩) a.length ca, .slice (some ⟨g, 0, none⟩) a.length a.length, .int .i64 ((a.length : Int) - 1)], .agg #[.slice (some ⟨ba, bq, none⟩) b.length cb, .slice (some ⟨g', 0, none⟩) b.length b.length, .int .i64 ((b.length : Int) - 1)]] V fun e w' => e = .returned (.int .i64 x) ∧ Below V.heap.size V w') := fun V hV => by
        have nodes : ∀ {ao : Option Addr} {cap : Nat} {l : List Nd} {b o : Nat}, 0 < l.length → Rd w2 (some ⟨b, o, none⟩) cap l → b < w2.heap.size ∧ ∀ q, q < l.length → ∃ kv, NodeAt w2 w2.heap.size b (o + q * 4) (l.getD q nd0) kv := by
          intro ao cap l b o h0 hR
          obtain ⟨ao', cap', h1, h2, h3, h4⟩ := hR
          cases h1
          rcases h4 with h | ⟨b', o', h5, h6, h7⟩
          · subst h; simp at h0
          · cases h5; exact ⟨h6, h7⟩
        have CA : CurOk w2 aa aq ca g a fa := ⟨(nodes (ao := none) hla HA2.out).2, (nodes (ao := none) hla HA2.out).1, HG1'.out, hgs, begOk_of (begL_some HAN.out).2.2.1, ha64⟩
        have CB : CurOk w2 ba bq cb g' b fb := ⟨(nodes (ao := none) hlb HB2.out).2, (nodes (ao := none) hlb HB2.out).1, HG2.out, hg2', begOk_of (begL_some HBN.out).2.2.1, hb64⟩
        have := order_cur a fa b fb aa aq ca g ba bq cb g' a.length (a.length - 1) (b.length - 1) V (HT2.out.below hV) (CA.below hV) (CB.below hV) (by omega) (by omega) (by omega)
        rw [show ordF a fa b fb a.length (a.length - 1) (b.length - 1) = x from HX1.out] at this
        rw [ha1, hb1]
        exact this
      clear HG1' HG2 HA2 HB2 HX1 HT2 HAN HBN ha1 hb1
      go_wp2_with (go_at_call 53; refine (cO.out _ (by first | exact ((Below.refl _ _).alloc (Nat.le_refl _) _).alloc (by simp) _ | exact (((Below.refl _ _).alloc (Nat.le_refl _) _).alloc (by simp) _).drew)).mono ?_; rintro e w3 ⟨rfl, hb3⟩)
      go_ret2
      exact ⟨rfl, by
        have h := HH.out
        have key : ∀ o1 o2, Below w.heap.size w ((w2.alloc o1).alloc o2) := fun o1 o2 => (h.alloc h.size _).alloc (by have := h.size; simp; omega) _
        exact (key _ _).trans (hb3.mono (key _ _).size)⟩

end Go.Proofs.YtpacjofepiojdaaDoor

set_option linter.unusedSimpArgs false
set_option linter.unusedVariables false
namespace Go.Proofs.YtpacjofepiojdaaDoor
open Go.RowKit Go.Lib Go.Sort

/-- An answer: a list of nodes in memory of its own, and a number. -/
def Ans (w w' : World) (e : Ending) (l : List Nd) (c : Int) : Prop := ∃ ao cap q, e = .returned (.tuple #[.slice ao l.length cap, .int .i64 c]) ∧ (q.map (·.1) = l ∧ OwnP w' w.heap.size (.slice ao l.length cap) q ∧ KdAp q) ∧ Below w.heap.size w w'
def SmL (l : List Nd) : Prop := l.length ≤ 64 ∧ ∀ x ∈ l, x.kids.length ≤ 3
theorem SmL.nil : SmL [] := ⟨by simp, by simp⟩
theorem ans_nil {w w' : World} {e : Ending} {c : Int} (h : e = .returned (.tuple #[.slice none 0 0, .int .i64 c]) ∧ Below w.heap.size w w') : Ans w w' e [] c :=
  ⟨none, 0, [], h.1, ⟨rfl, OwnP_nil _ _, List.Pairwise.nil⟩, h.2⟩
theorem ans_q {w w' : World} {e : Ending} {c : Int} {l : List Nd} (h : ∃ v', e = .returned (.tuple #[v', .int .i64 c]) ∧ OwnQ w' w.heap.size v' l ∧ Below w.heap.size w w') : Ans w w' e l c := by
  obtain ⟨v, he, ⟨q, h1, h2, h3⟩, hb⟩ := h
  obtain ⟨ao, cap, hv⟩ := h2.form
  have hl : q.length = l.length := by rw [← h1, List.length_map]
  rw [hl] at hv
  subst hv
  exact ⟨ao, cap, q, he, ⟨h1, h2, h3⟩, hb⟩
theorem mvN_kids (f b : Int) (x : Nd) : (mvN f b x).kids.length = x.kids.length := by simp [mvN]
theorem sm_map {l : List Nd} {f b : Int} (h : ∀ x ∈ l, x.kids.length ≤ 3) : ∀ x ∈ l.map (mvN f b), x.kids.length ≤ 3 := fun x hx => by
  obtain ⟨y, hy, rfl⟩ := List.mem_map.1 hx
  rw [mvN_kids]; exact h y hy

theorem partC (l : List Nd) (at_ : Int) : ∃ L c, SmL L ∧ ∀ W vs, SpanCells W → Nodes W W.heap.size vs l → Calls Tryd.prog 11 #[vs, .int .i64 at_] W fun e w' => Ans W w' e L c := by
  cases hb : begL l with
  | none => exact ⟨[], 1, SmL.nil, fun W vs hT hN => (part_none vs l at_ W _ (Nat.le_refl _) hT hN hb).mono fun e w' h => ans_nil h⟩
  | some fr =>
    by_cases hat : at_ < 0 ∨ (l.length : Int) ≤ at_
    · exact ⟨[], 2, SmL.nil, fun W vs hT hN => (part_out vs l fr at_ W _ (Nat.le_refl _) hT hN hb hat).mono fun e w' h => ans_nil h⟩
    · obtain ⟨i, rfl⟩ : ∃ i : Nat, at_ = (i : Int) := ⟨at_.toNat, by omega⟩
      have hi : i < l.length := by omega
      have hs := snd_bounds hb
      refine ⟨partL l (fr.getD i 0) i, 0, ⟨?_, ?_⟩, fun W vs hT hN => (part_q vs l fr i _ W _ (Nat.le_refl _) hT hN hb hi rfl).mono fun e w' h => ans_q h⟩
      · unfold partL; simp; omega
      · exact sm_map fun x hx => hs.2 x (List.mem_of_mem_drop (List.mem_of_mem_take hx))
theorem putC (l m : List Nd) (at_ : Int) : ∃ L c, SmL L ∧ ∀ W vs vp, SpanCells W → Nodes W W.heap.size vs l → Nodes W W.heap.size vp m → Calls Tryd.prog 14 #[vs, .int .i64 at_, vp] W fun e w' => Ans W w' e L c := by
  cases hb : begL l with
  | none => exact ⟨[], 1, SmL.nil, fun W vs vp hT hN hM => (put_none1 vs vp l m at_ W _ (Nat.le_refl _) hT hN hb).mono fun e w' h => ans_nil h⟩
  | some fr =>
    cases hm : begL m with
    | none => exact ⟨[], 1, SmL.nil, fun W vs vp hT hN hM => (put_none2 vs vp l m fr at_ W _ (Nat.le_refl _) hT hN hM hb hm).mono fun e w' h => ans_nil h⟩
    | some fm =>
      by_cases hat : at_ < 0 ∨ (l.length : Int) ≤ at_
      · exact ⟨[], 2, SmL.nil, fun W vs vp hT hN hM => (put_out vs vp l m fr fm at_ W _ (Nat.le_refl _) hT hN hM hb hm hat).mono fun e w' h => ans_nil h⟩
      · obtain ⟨i, rfl⟩ : ∃ i : Nat, at_ = (i : Int) := ⟨at_.toNat, by omega⟩
        have hi : i < l.length := by omega
        have hs := snd_bounds hb
        have hs2 := snd_bounds hm
        have hai : fr.getD i 0 ≤ i := (begR_some (begL_some hb).2.2.1 low_nil).2.1 i
        by_cases hz : 64 + (i + 1) < l.length + m.length + fr.getD i 0
        · exact ⟨[], 10, SmL.nil, fun W vs vp hT hN hM => (put_large vs vp l m fr fm i _ W _ (Nat.le_refl _) hT hN hM hb hm hi rfl hz).mono fun e w' h => ans_nil h⟩
        · refine ⟨putL l (fr.getD i 0) i m, 0, ⟨?_, ?_⟩, fun W vs vp hT hN hM => (put_q vs vp l m fr fm i _ W _ (Nat.le_refl _) hT hN hM hb hm hi rfl (by omega)).mono fun e w' h => ans_q h⟩
          · obtain ⟨a, ha⟩ : ∃ a, fr.getD i 0 = a := ⟨_, rfl⟩
            rw [ha] at hz hai ⊢
            unfold putL; simp; omega
          · intro x hx
            unfold putL at hx
            rcases List.mem_append.1 hx with hx | hx
            · rcases List.mem_append.1 hx with hx | hx
              · exact sm_map (fun y hy => hs.2 y (List.mem_of_mem_take hy)) x hx
              · exact sm_map hs2.2 x hx
            · exact sm_map (fun y hy => hs.2 y (List.mem_of_mem_drop hy)) x hx
theorem makeC (l : List Nd) : ∃ L c, SmL L ∧ ∀ W vs, SpanCells W → Lst W W.heap.size vs [l] → Calls Tryd.prog 23 #[.int .i64 4, .int .i64 0, .string ⟨#[]⟩, vs] W fun e w' => Ans W w' e L c := by
  have e1 : (accS [l]).1 = l.map (mvN 0 0) := by simp [accS]
  by_cases h1 : sndB l = true
  · by_cases h2 : fitB 4 0 ⟨#[]⟩ 1 = true
    · by_cases h3 : 1 + l.length ≤ 64
      · obtain ⟨fr, hfr⟩ := snd_some h1
        refine ⟨joinL 4 0 ⟨#[]⟩ [l], 0, ⟨?_, ?_⟩, fun W vs hT hN => (make_q 4 0 ⟨#[]⟩ vs [l] W _ (Nat.le_refl _) hT hN (by simp)).mono fun e w' h => ?_⟩
        · unfold joinL; rw [List.length_append, e1]; simp; omega
        · intro x hx
          unfold joinL at hx
          rcases List.mem_append.1 hx with hx | hx
          · rw [e1] at hx; exact sm_map (snd_bounds hfr).2 x hx
          · rw [List.mem_singleton.1 hx]
            show (accS [l]).2.length ≤ 3
            rw [accS_len2]; simp
        · rcases h.ways with ⟨⟨y, hy, hf⟩, _⟩ | ⟨_, hf, _⟩ | ⟨_, _, hf, _⟩ | ⟨_, _, _, v, he, ho⟩
          · rw [List.mem_singleton.1 hy, h1] at hf; cases hf
          · have hf' : fitB 4 0 ⟨#[]⟩ 1 = false := hf
            rw [h2] at hf'; cases hf'
          · rw [e1] at hf; simp at hf; omega
          · exact ans_q ⟨v, he, ho, h.below⟩
      · refine ⟨[], 10, SmL.nil, fun W vs hT hN => (make_q 4 0 ⟨#[]⟩ vs [l] W _ (Nat.le_refl _) hT hN (by simp)).mono fun e w' h => ?_⟩
        rcases h.ways with ⟨⟨y, hy, hf⟩, _⟩ | ⟨_, hf, _⟩ | ⟨_, _, hf, he⟩ | ⟨_, _, hf, v, he, ho⟩
        · rw [List.mem_singleton.1 hy, h1] at hf; cases hf
        · have hf' : fitB 4 0 ⟨#[]⟩ 1 = false := hf
          rw [h2] at hf'; cases hf'
        · exact ans_nil ⟨he, h.below⟩
        · rw [e1] at hf; simp at hf; omega
    · have h2' : fitB 4 0 ⟨#[]⟩ 1 = false := by simpa using h2
      refine ⟨[], 2, SmL.nil, fun W vs hT hN => (make_q 4 0 ⟨#[]⟩ vs [l] W _ (Nat.le_refl _) hT hN (by simp)).mono fun e w' h => ?_⟩
      rcases h.ways with ⟨⟨y, hy, hf⟩, _⟩ | ⟨_, hf, he⟩ | ⟨_, hf, _, _⟩ | ⟨_, hf, _, _, _, _⟩
      · rw [List.mem_singleton.1 hy, h1] at hf; cases hf
      · exact ans_nil ⟨he, h.below⟩
      · have hf' : fitB 4 0 ⟨#[]⟩ 1 = true := hf
        rw [h2'] at hf'; cases hf'
      · have hf' : fitB 4 0 ⟨#[]⟩ 1 = true := hf
        rw [h2'] at hf'; cases hf'
  · have h1' : sndB l = false := by simpa using h1
    refine ⟨[], 1, SmL.nil, fun W vs hT hN => (make_q 4 0 ⟨#[]⟩ vs [l] W _ (Nat.le_refl _) hT hN (by simp)).mono fun e w' h => ?_⟩
    rcases h.ways with ⟨_, he⟩ | ⟨hf, _⟩ | ⟨hf, _⟩ | ⟨hf, _⟩
    · exact ans_nil ⟨he, h.below⟩
    all_goals
      have := hf l (by simp)
      rw [h1'] at this; cases this

set_option maxRecDepth 20000 in
set_option maxHeartbeats 2000000 in
theorem swapK_none (w : World) (ao : Option Addr) (cap : Nat) (l : List Nd) (vf : Value) (T : SpanCells w) (hR : Rd w ao cap l) (h : begL l = none) :
    Calls Tryd.prog 25 #[.slice ao l.length cap, vf] w fun e w' => e = .returned (.tuple #[.slice none 0 0, .int .i64 1]) ∧ Below w.heap.size w w' := by
  have HS : Hid (begL l = none) := h
  clear h
  go_enter Tryd.func25, Tryd.ntmps25
  go_wp2_with fail
  refine (check_none _ l _ _ (Nat.le_refl _) T hR HS.out).mono ?_
  rintro e w2 ⟨rfl, hb2⟩
  go_wp2_with fail
  go_ret2
  exact ⟨rfl, hb2⟩

set_option maxHeartbeats 400000 in
theorem qF_any (s : ByteArray) (W : World) : Calls Tryd.prog 26 #[.string s] W fun e w' => e = .returned (.string ⟨#[113]⟩) ∧ Below W.heap.size W w' := by
  go_enter Tryd.func26, Tryd.ntmps26
  go_wp2
  go_ret
  exact ⟨rfl, Below.refl _ _⟩
theorem swapC (l : List Nd) : ∃ L c, SmL L ∧ ∀ W ao cap, SpanCells W → Rd W ao cap l → Calls Tryd.prog 25 #[.slice ao l.length cap, .func (.func 26) #[] #[] ] W fun e w' => Ans W w' e L c := by
  cases hb : begL l with
  | none => exact ⟨[], 1, SmL.nil, fun W ao cap hT hN => (swapK_none W ao cap l _ hT hN hb).mono fun e w' h => ans_nil h⟩
  | some fr =>
    have hs := snd_bounds hb
    have hq : nameB ⟨#[113]⟩ = true := by decide +kernel
    refine ⟨l.map (swF fun _ => ⟨#[113]⟩), 0, ⟨by simp; exact hs.1, fun x hx => ?_⟩, fun W ao cap hT hN => (swapK_ok W (fun _ => ⟨#[113]⟩) ao cap l fr hT hN hb (fun _ _ _ => hq) (fun x _ _ W => qF_any _ W)).mono fun e w' h => ?_⟩
    · obtain ⟨y, hy, rfl⟩ := List.mem_map.1 hx
      rw [swF_kids]; exact hs.2 y hy
    · obtain ⟨ao', cap', he, ho, hb⟩ := h
      exact ans_q ⟨_, he, ho, hb⟩
/-- The names. -/
def AnsT (w w' : World) (e : Ending) (xs : List ByteArray) (c : Int) : Prop := ∃ ao cap, e = .returned (.tuple #[.slice ao xs.length cap, .int .i64 c]) ∧ w'.ownsRow w.heap.size 9 1 (.slice ao xs.length cap) xs.length (xs.map Value.string) ∧ Below w.heap.size w w'
theorem varsC (l : List Nd) (w0 : World) (T0 : Tabs w0) (vs0 : Value) (hN0 : Nodes w0 w0.heap.size vs0 l) : ∃ xs c, xs.length ≤ 64 ∧ ∀ W vs, Tabs W → Nodes W W.heap.size vs l → Calls Tryd.prog 18 #[vs] W fun e w' => AnsT W w' e xs c := by
  cases hb : begL l with
  | none => exact ⟨[], 1, by simp, fun W vs hT hN => (vars_none vs l W _ (Nat.le_refl _) hT.spans hN hb).mono fun e w' h => ⟨none, 0, h.1, World.ownsRow_nil _ _ _ _, h.2⟩⟩
  | some fr =>
    obtain ⟨xs, hx⟩ : ∃ xs, VrOf (vsL l) xs ∧ xs.length ≤ 64 := by
      obtain ⟨_, _, _, ⟨_, _, xs, _, hv, ho, _⟩, _⟩ := vars_q vs0 l fr w0 _ (Nat.le_refl _) T0 hN0 hb (fun s hs => (snd_chk hb s hs).1) []
      exact ⟨xs, hv, ho.1⟩
    exact ⟨xs, 0, hx.2, fun W vs hT hN => (vars_q vs l fr W _ (Nat.le_refl _) hT hN hb (fun s hs => (snd_chk hb s hs).1)).mono fun e w' ⟨ao, cap, ys, he, hv, ho, hb⟩ => by
      have : ys = xs := hv.eq hx.1 (fun _ => Iff.rfl)
      subst this
      exact ⟨ao, cap, he, ho.2, hb⟩⟩
end Go.Proofs.YtpacjofepiojdaaDoor

/-
  What Order answers, the program's and the document's.
-/
import Derived.Test.YteaipdmbdcmmeaaDoorExOrdW
import Derived.Test.YteaipdmbdcmmeaaDoorExROrdW
set_option linter.unusedSimpArgs false
set_option linter.unusedVariables false
namespace Go.Proofs.YteaipdmbdcmmeaaDoor
open Go.RowKit Go.Lib Go.Sort

/-! ### -1, 0 or 1 -/
def Sg (x : Int) : Prop := x = -1 ∨ x = 0 ∨ x = 1
theorem cmp3_sg (a b : Int) : Sg (cmp3 a b) := by
  unfold cmp3 Sg; split
  · exact .inl rfl
  · split
    · exact .inr (.inr rfl)
    · exact .inr (.inl rfl)
theorem cmpL_sg : ∀ (a b : List Int), Sg (cmpL a b)
  | [], [] => by unfold cmpL Sg; simp
  | [], _ :: _ => by unfold cmpL Sg; simp
  | _ :: _, [] => by unfold cmpL Sg; simp
  | x :: l, y :: m => by
    have h1 := cmp3_sg x y
    have h2 := cmpL_sg l m
    unfold cmpL
    unfold cmp3 Sg at *
    repeat' split
    all_goals first | exact h2 | omega
theorem orL_sg : ∀ (l : List Int), (∀ x ∈ l, Sg x) → Sg (orL l)
  | [], _ => .inr (.inl rfl)
  | x :: l, h => by
    rw [orL_cons]; split
    · exact orL_sg l fun y hy => h y (List.mem_cons_of_mem _ hy)
    · exact h x (List.mem_cons_self ..)
theorem headC_sg (m n : Int) (x y : Nd) : Sg (headC m n x y) := by
  refine orL_sg _ fun z hz => ?_
  simp at hz
  rcases hz with rfl | rfl | rfl | rfl
  · exact cmp3_sg _ _
  · exact cmp3_sg _ _
  · exact cmp3_sg _ _
  · exact cmpL_sg _ _
theorem ordK_sg {F : Int → Int → Int} (hF : ∀ p q, Sg (F p q)) : ∀ (ks ms : List Int) (c : Int), Sg c → Sg (ordK F c ks ms)
  | [], _, c, h => by rw [ordK_nil]; exact h
  | k :: ks, [], c, h => by rw [ordK_nil2]; exact h
  | k :: ks, m :: ms, c, h => by
    rw [ordK_cons]; split
    · exact ordK_sg hF ks ms _ (hF _ _)
    · exact h
theorem ordF_sg (a : List Nd) (fa : List Nat) (b : List Nd) (fb : List Nat) : ∀ (f i j : Nat), Sg (ordF a fa b fb f i j)
  | 0, _, _ => .inr (.inl rfl)
  | f + 1, i, j => ordK_sg (fun p q => ordF_sg a fa b fb f _ _) _ _ _ (headC_sg _ _ _ _)

/-- What Order says. -/
def ordE (a b : List Nd) : Int × Int := match begL a, begL b with
  | some fa, some fb => (ordW a fa b fb, 0)
  | _, _ => (0, 1)
theorem ordE_no {a b : List Nd} (h : begL a = none ∨ begL b = none) : ordE a b = (0, 1) := by
  unfold ordE
  rcases h with h | h
  · rw [h]
  · rw [h]; cases begL a <;> rfl
theorem ordE_yes {a b : List Nd} {fa fb : List Nat} (ha : begL a = some fa) (hb : begL b = some fb) : ordE a b = (ordW a fa b fb, 0) := by
  unfold ordE; rw [ha, hb]

set_option maxHeartbeats 1000000 in
theorem orderX {w : World} {ao bo : Option Addr} {ca cb : Nat} {a b : List Nd} (T : Tabs w) (hA : Rd w ao ca a) (hB : Rd w bo cb b) (x y : Int) (hx : ordE a b = (x, y)) :
    Calls Tryd.prog 23 #[.slice ao a.length ca, .slice bo b.length cb] w fun e w' => e = .returned (.tuple #[.int .i64 x, .int .i64 y]) ∧ Below w.heap.size w w' := by
  have hnil := eql_nil
  have hba := hA.bound
  have hbb := hB.bound
  unfold maxLen at hba hbb
  have HX : Hid (ordE a b = (x, y)) := hx
  clear hx
  cases ha : begL a with
  | none =>
    have e := HX.out
    rw [ordE_no (.inl ha)] at e
    injection e with e1 e2
    subst e1 e2
    clear HX
    have HAN : Hid (begL a = none) := ha
    clear ha
    cases hb : begL b with
    | none =>
      have HBN : Hid (begL b = none) := hb
      clear hb
      go_enter Tryd.func23, Tryd.ntmps23
      go_wp2_with fail
      refine (begins_none _ a _ _ (Nat.le_refl _) T.spans hA HAN.out).mono ?_
      rintro e w1 ⟨rfl, hb1⟩
      go_wp2_with fail
      refine (begins_none _ b _ _ (Nat.le_refl _) (T.below hb1).spans (hB.below hb1 hb1.size) HBN.out).mono ?_
      rintro e w2 ⟨rfl, hb2⟩
      go_wp2_with fail
      go_ret2
      exact ⟨rfl, by
        have h := hb1.trans (hb2.mono hb1.size)
        exact (h.alloc h.size _).alloc (by have := h.size; simp; omega) _⟩
    | some fb =>
      have HBN : Hid (begL b = some fb) := hb
      clear hb
      go_enter Tryd.func23, Tryd.ntmps23
      go_wp2_with fail
      refine (begins_none _ a _ _ (Nat.le_refl _) T.spans hA HAN.out).mono ?_
      rintro e w1 ⟨rfl, hb1⟩
      go_wp2_with fail
      refine (begins_some _ b fb _ _ (Nat.le_refl _) (T.below hb1).spans (hB.below hb1 hb1.size) HBN.out).mono ?_
      rintro e w2 ⟨g, rfl, hg1, hg2, hgc, hb2⟩
      clear hgc
      go_wp2_with fail
      go_ret2
      exact ⟨rfl, by
        have h := hb1.trans (hb2.mono hb1.size)
        exact (h.alloc h.size _).alloc (by have := h.size; simp; omega) _⟩
  | some fa =>
    have HAN : Hid (begL a = some fa) := ha
    clear ha
    cases hb : begL b with
    | none =>
      have e := HX.out
      rw [ordE_no (.inr hb)] at e
      injection e with e1 e2
      subst e1 e2
      clear HX
      have HBN : Hid (begL b = none) := hb
      clear hb
      go_enter Tryd.func23, Tryd.ntmps23
      go_wp2_with fail
      refine (begins_some _ a fa _ _ (Nat.le_refl _) T.spans hA HAN.out).mono ?_
      rintro e w1 ⟨g, rfl, hg1, hg2, hgc, hb1⟩
      clear hgc
      go_wp2_with fail
      refine (begins_none _ b _ _ (Nat.le_refl _) (T.below hb1).spans (hB.below hb1 hb1.size) HBN.out).mono ?_
      rintro e w2 ⟨rfl, hb2⟩
      go_wp2_with fail
      go_ret2
      exact ⟨rfl, by
        have h := hb1.trans (hb2.mono hb1.size)
        exact (h.alloc h.size _).alloc (by have := h.size; simp; omega) _⟩
    | some fb =>
      have e := HX.out
      rw [ordE_yes HAN.out hb] at e
      injection e with e1 e2
      have HX1 : Hid (ordW a fa b fb = x) := e1
      subst e2
      have HBN : Hid (begL b = some fb) := hb
      clear hb HX e1
      have hla := (begL_some HAN.out).1
      have hlb := (begL_some HBN.out).1
      have ha64 := (begL_some HAN.out).2.1
      have hb64 := (begL_some HBN.out).2.1
      go_enter Tryd.func23, Tryd.ntmps23
      go_wp2_with fail
      refine (begins_some _ a fa _ _ (Nat.le_refl _) T.spans hA HAN.out).mono ?_
      rintro e w1 ⟨g, rfl, hg1, hg2, hgc, hb1⟩
      have HG1 : Hid (∀ j, j < a.length → w1.cell? ⟨g, j, none⟩ = some (.int .i64 (fa.getD j 0 : Nat))) := hgc
      clear hgc
      go_wp2_with fail
      refine (begins_some _ b fb _ _ (Nat.le_refl _) (T.below hb1).spans (hB.below hb1 hb1.size) HBN.out).mono ?_
      rintro e w2 ⟨g', rfl, hg1', hg2', hgc, hb2⟩
      have HG2 : Hid (∀ j, j < b.length → w2.cell? ⟨g', j, none⟩ = some (.int .i64 (fb.getD j 0 : Nat))) := hgc
      clear hgc
      have h := hb1.trans (hb2.mono hb1.size)
      have HH : Hid (Below w.heap.size w w2) := h
      have HA2 : Hid (Rd w2 ao ca a) := hA.below h h.size
      have HB2 : Hid (Rd w2 bo cb b) := hB.below h h.size
      have HG1' : Hid (∀ j, j < a.length → w2.cell? ⟨g, j, none⟩ = some (.int .i64 (fa.getD j 0 : Nat))) := fun j hj => (hb2.cell (p := ⟨g, j, none⟩) hg2).trans (HG1.out j hj)
      have hgs : g < w2.heap.size := Nat.lt_of_lt_of_le hg2 hb2.size
      obtain ⟨aa, aq, hae⟩ : ∃ b o, ao = some ⟨b, o, none⟩ := by
        obtain ⟨ao', cap', h1, h2, h3, h4⟩ := hA
        cases h1
        rcases h4 with h | ⟨b, o, h5, _⟩
        · subst h; simp at hla
        · exact ⟨b, o, h5⟩
      obtain ⟨ba, bq, hbe⟩ : ∃ b o, bo = some ⟨b, o, none⟩ := by
        obtain ⟨ao', cap', h1, h2, h3, h4⟩ := hB
        cases h1
        rcases h4 with h | ⟨b, o, h5, _⟩
        · subst h; simp at hlb
        · exact ⟨b, o, h5⟩
      subst hae hbe
      have hT2 := T.below h
      have HT2 : Hid (Tabs w2) := hT2
      clear HG1 hA hB hb1 hb2 h hT2 T hg1 hg2 hg1'
      have ha1 : ((a.length : Int) - 1) = ((a.length - 1 : Nat) : Int) := by omega
      have hb1 : ((b.length : Int) - 1) = ((b.length - 1 : Nat) : Int) := by omega
      have cO : Hid (∀ V, Below w2.heap.size w2 V → Calls Tryd.prog 53 #[.agg #[.slice (some ⟨aa, aq, none⟩) a.length ca, .slice (some ⟨g, 0, none⟩) a.length a.length, .int .i64 ((a.length : Int) - 1)], .agg #[.slice (some ⟨ba, bq, none⟩) b.length cb, .slice (some ⟨g', 0, none⟩) b.length b.length, .int .i64 ((b.length : Int) - 1)]] V fun e w' => e = .returned (.int .i64 x) ∧ Below V.heap.size V w') := fun V hV => by
        have nodes : ∀ {ao : Option Addr} {cap : Nat} {l : List Nd} {b o : Nat}, 0 < l.length → Rd w2 (some ⟨b, o, none⟩) cap l → b < w2.heap.size ∧ ∀ q, q < l.length → ∃ kv, NodeAt w2 w2.heap.size b (o + q * 4) (l.getD q nd0) kv := by
          intro ao cap l b o h0 hR
          obtain ⟨ao', cap', h1, h2, h3, h4⟩ := hR
          cases h1
          rcases h4 with h | ⟨b', o', h5, h6, h7⟩
          · subst h; simp at h0
          · cases h5; exact ⟨h6, h7⟩
        have CA : CurOk w2 aa aq ca g a fa := ⟨(nodes (ao := none) hla HA2.out).2, (nodes (ao := none) hla HA2.out).1, HG1'.out, hgs, begOk_of (begL_some HAN.out).2.2.1, ha64⟩
        have CB : CurOk w2 ba bq cb g' b fb := ⟨(nodes (ao := none) hlb HB2.out).2, (nodes (ao := none) hlb HB2.out).1, HG2.out, hg2', begOk_of (begL_some HBN.out).2.2.1, hb64⟩
        have := order_cur a fa b fb aa aq ca g ba bq cb g' a.length (a.length - 1) (b.length - 1) V (HT2.out.below hV) (CA.below hV) (CB.below hV) (by omega) (by omega) (by omega)
        rw [show ordF a fa b fb a.length (a.length - 1) (b.length - 1) = x from HX1.out] at this
        rw [ha1, hb1]
        exact this
      clear HG1' HG2 HA2 HB2 HX1 HT2 HAN HBN ha1 hb1
      go_wp2_with (go_at_call 53; refine (cO.out _ (by first | exact ((Below.refl _ _).alloc (Nat.le_refl _) _).alloc (by simp) _ | exact (((Below.refl _ _).alloc (Nat.le_refl _) _).alloc (by simp) _).drew)).mono ?_; rintro e w3 ⟨rfl, hb3⟩)
      go_ret2
      exact ⟨rfl, by
        have h := HH.out
        have key : ∀ o1 o2, Below w.heap.size w ((w2.alloc o1).alloc o2) := fun o1 o2 => (h.alloc h.size _).alloc (by have := h.size; simp; omega) _
        exact (key _ _).trans (hb3.mono (key _ _).size)⟩

set_option maxHeartbeats 1000000 in
theorem refOrderOf {w : World} {ao bo : Option Addr} {ca cb : Nat} {a b : List Nd} {fa fb : List Nat} (ha : begL a = some fa) (hb : begL b = some fb) (hA : Rd w ao ca a) (hB : Rd w bo cb b) :
    Calls Tryd.prog 54 #[.slice ao a.length ca, .slice bo b.length cb] w fun e w' => e = .returned (.int .i64 (ordW a fa b fb)) ∧ Below w.heap.size w w' := by
  have hla := (begL_some ha).1
  have hlb := (begL_some hb).1
  have ha64 := (begL_some ha).2.1
  have hb64 := (begL_some hb).2.1
  have ha1 : ((a.length : Int) - 1) = ((a.length - 1 : Nat) : Int) := by omega
  have hb1 : ((b.length : Int) - 1) = ((b.length - 1 : Nat) : Int) := by omega
  have cO : Hid (Calls Tryd.prog 88 #[.slice ao a.length ca, .slice bo b.length cb, .int .i64 ((a.length : Int) - 1), .int .i64 ((b.length : Int) - 1)] w fun e w' => e = .returned (.int .i64 (ordW a fa b fb)) ∧ Below w.heap.size w w') := by
    rw [ha1, hb1]
    exact refOrdAt a fa b fb ha hb ao bo ca cb a.length (a.length - 1) (b.length - 1) w hA hB (by omega) (by omega) (by omega)
  clear ha hb hA hB ha1 hb1
  generalize ordW a fa b fb = x at *
  go_enter Tryd.func54, Tryd.ntmps54
  go_wp2_with fail
  refine cO.out.mono ?_
  rintro e w2 ⟨rfl, hb2⟩
  go_wp2_with fail
  go_ret
  exact ⟨rfl, hb2⟩

set_option maxHeartbeats 1000000 in
theorem orderR {w : World} {ao bo : Option Addr} {ca cb : Nat} {a b : List Nd} (hA : Rd w ao ca a) (hB : Rd w bo cb b) (FA : Fit a) (FB : Fit b) (x y : Int) (hx : ordE a b = (x, y)) :
    Calls Tryd.prog 24 #[.slice ao a.length ca, .slice bo b.length cb] w fun e w' => e = .returned (.tuple #[.int .i64 x, .int .i64 y]) ∧ Below w.heap.size w w' := by
  cases ha : begL a with
  | none =>
    rw [ordE_no (.inl ha)] at hx
    injection hx with e1 e2
    subst e1 e2
    have HK : Hid (chkE a = 1) := chkE_no (by simp [sndB, ha])
    clear ha
    go_enter Tryd.func24, Tryd.ntmps24
    go_wp2_with fail
    refine (rchkR hA FA 1 HK.out).mono ?_
    rintro e w1 ⟨rfl, hb1⟩
    go_wp2_with fail
    go_ret2
    exact ⟨rfl, hb1⟩
  | some fa =>
    have HKA : Hid (chkE a = 0) := chkE_yes (by simp [sndB, ha])
    cases hb : begL b with
    | none =>
      rw [ordE_no (.inr hb)] at hx
      injection hx with e1 e2
      subst e1 e2
      have HKB : Hid (chkE b = 1) := chkE_no (by simp [sndB, hb])
      clear ha hb
      go_enter Tryd.func24, Tryd.ntmps24
      go_wp2_with fail
      refine (rchkR hA FA 0 HKA.out).mono ?_
      rintro e w1 ⟨rfl, hb1⟩
      go_wp2_with fail
      refine (rchkR (hB.below hb1 hb1.size) FB 1 HKB.out).mono ?_
      rintro e w2 ⟨rfl, hb2⟩
      go_wp2_with fail
      go_ret2
      exact ⟨rfl, hb1.trans (hb2.mono hb1.size)⟩
    | some fb =>
      rw [ordE_yes ha hb] at hx
      injection hx with e1 e2
      subst e1 e2
      have HKB : Hid (chkE b = 0) := chkE_yes (by simp [sndB, hb])
      have HA : Hid (begL a = some fa) := ha
      have HB : Hid (begL b = some fb) := hb
      clear ha hb
      go_enter Tryd.func24, Tryd.ntmps24
      go_wp2_with fail
      refine (rchkR hA FA 0 HKA.out).mono ?_
      rintro e w1 ⟨rfl, hb1⟩
      go_wp2_with fail
      refine (rchkR (hB.below hb1 hb1.size) FB 0 HKB.out).mono ?_
      rintro e w2 ⟨rfl, hb2⟩
      have h := hb1.trans (hb2.mono hb1.size)
      go_wp2_with fail
      refine (refOrderOf HA.out HB.out (hA.below h h.size) (hB.below h h.size)).mono ?_
      rintro e w3 ⟨rfl, hb3⟩
      go_wp2_with fail
      go_ret2
      exact ⟨rfl, h.trans (hb3.mono h.size)⟩
end Go.Proofs.YteaipdmbdcmmeaaDoor

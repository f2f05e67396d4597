/-
  ExOrXW, PaFi, PaAl.
-/
import Derived.Shelf.Unicode.DecodeSlow
import Derived.Laws.RangeAny
import Derived.Shelf.Strconv.Itoa0
import Derived.Shelf.Unicode.DecodeAny
import Derived.Test.YtfdghbbanokopaaDoorProg
import Derived.WalkKit
import Derived.Deep.DeepFit
import Derived.Lib.OthersKept
import Derived.Lib.RuneCountTail
import Derived.Deep.AppendLies
import Derived.Deep.OwnRows
import Derived.Laws.AppendOwnNone
import Derived.Deep.QuietTactic
import Derived.BigQuiet
import Derived.Deep.RegionWith
import Derived.Laws.DeepStrings4
import Derived.Below
import Derived.Deep.RegionLaw
import Derived.Lib.QuietBelow
import Derived.StillTail
import Derived.Lib.MapLaws
import Derived.Sort.Walk0
import Derived.Lib.ItoaNum
import Derived.Maps.OwnSet
import Derived.StringKeys
import Derived.Deep.Slices
import Derived.Laws.ResultCell
import Derived.Deep.RegionHeld3
import Derived.Deep.DeepCutAuto
import Derived.Laws.IdiomStrings
import Derived.WalkSmall
import Derived.Test.YtfdghbbanokopaaDoorG01
import Derived.Test.YtfdghbbanokopaaDoorG02
import Derived.Test.YtfdghbbanokopaaDoorG03
import Derived.Test.YtfdghbbanokopaaDoorG04
import Derived.Test.YtfdghbbanokopaaDoorG05
import Derived.Test.YtfdghbbanokopaaDoorG06
import Derived.Test.YtfdghbbanokopaaDoorG07
import Derived.Test.YtfdghbbanokopaaDoorG08
import Derived.Test.YtfdghbbanokopaaDoorG09
import Derived.Test.YtfdghbbanokopaaDoorG10
import Derived.Test.YtfdghbbanokopaaDoorG13
import Derived.Test.YtfdghbbanokopaaDoorG14
import Derived.Test.YtfdghbbanokopaaDoorG17
import Derived.Test.YtfdghbbanokopaaDoorG18
import Derived.Test.YtfdghbbanokopaaDoorG19
import Derived.Test.YtfdghbbanokopaaDoorG20
import Derived.Test.YtfdghbbanokopaaDoorG21
import Derived.Test.YtfdghbbanokopaaDoorG22
import Derived.Test.YtfdghbbanokopaaDoorG23
import Derived.Test.YtfdghbbanokopaaDoorG24
import Derived.Test.YtfdghbbanokopaaDoorG25
import Derived.Test.YtfdghbbanokopaaDoorG26
set_option linter.unusedSimpArgs false
set_option linter.unusedVariables false
namespace Go.Proofs.YtfdghbbanokopaaDoor
open Go.RowKit Go.Lib Go.Sort

/-! ### -1, 0 or 1 -/
/-- What Order says. -/
def ordE (a b : List Nd) : Int × Int := match begL a, begL b with
  | some fa, some fb => (ordW a fa b fb, 0)
  | _, _ => (0, 1)
theorem ordE_no {a b : List Nd} (h : begL a = none ∨ begL b = none) : ordE a b = (0, 1) := by
  unfold ordE
  rcases h with h | h
  · rw [h]
  · rw [h]; cases begL a <;> rfl
theorem ordE_yes {a b : List Nd} {fa fb : List Nat} (ha : begL a = some fa) (hb : begL b = some fb) : ordE a b = (ordW a fa b fb, 0) := by
  unfold ordE; rw [ha, hb]

set_option maxHeartbeats 1000000 in
theorem orderX {w : World} {ao bo : Option Addr} {ca cb : Nat} {a b : List Nd} (T : Tabs w) (hA : Rd w ao ca a) (hB : Rd w bo cb b) (x y : Int) (hx : ordE a b = (x, y)) :
    Calls Tryd.prog 82 #[.slice ao a.length ca, .slice bo b.length cb] w fun e w' => e = .returned (.tuple #[.int .i64 x, .int .i64 y]) ∧ Below w.heap.size w w' := by
  have hnil := eql_nil
  have hba := hA.bound
  have hbb := hB.bound
  unfold maxLen at hba hbb
  have HX : Hid (ordE a b = (x, y)) := hx
  clear hx
  cases ha : begL a with
  | none =>
    have e := HX.out
    rw [ordE_no (.inl ha)] at e
    injection e with e1 e2
    subst e1 e2
    clear HX
    have HAN : Hid (begL a = none) := ha
    clear ha
    cases hb : begL b with
    | none =>
      have HBN : Hid (begL b = none) := hb
      clear hb
      go_enter Tryd.func82, Tryd.ntmps82
      go_wp2_with fail
      refine (begins_none _ a _ _ (Nat.le_refl _) T.spans hA HAN.out).mono ?_
      rintro e w1 ⟨rfl, hb1⟩
      go_wp2_with fail
      refine (begins_none _ b _ _ (Nat.le_refl _) (T.below hb1).spans (hB.below hb1 hb1.size) HBN.out).mono ?_
      rintro e w2 ⟨rfl, hb2⟩
      go_wp2_with fail
      go_ret2
      exact ⟨rfl, by
        have h := hb1.trans (hb2.mono hb1.size)
        exact (h.alloc h.size _).alloc (by have := h.size; simp; omega) _⟩
    | some fb =>
      have HBN : Hid (begL b = some fb) := hb
      clear hb
      go_enter Tryd.func82, Tryd.ntmps82
      go_wp2_with fail
      refine (begins_none _ a _ _ (Nat.le_refl _) T.spans hA HAN.out).mono ?_
      rintro e w1 ⟨rfl, hb1⟩
      go_wp2_with fail
      refine (begins_some _ b fb _ _ (Nat.le_refl _) (T.below hb1).spans (hB.below hb1 hb1.size) HBN.out).mono ?_
      rintro e w2 ⟨g, rfl, hg1, hg2, hgc, hb2⟩
      clear hgc
      go_wp2_with fail
      go_ret2
      exact ⟨rfl, by
        have h := hb1.trans (hb2.mono hb1.size)
        exact (h.alloc h.size _).alloc (by have := h.size; simp; omega) _⟩
  | some fa =>
    have HAN : Hid (begL a = some fa) := ha
    clear ha
    cases hb : begL b with
    | none =>
      have e := HX.out
      rw [ordE_no (.inr hb)] at e
      injection e with e1 e2
      subst e1 e2
      clear HX
      have HBN : Hid (begL b = none) := hb
      clear hb
      go_enter Tryd.func82, Tryd.ntmps82
      go_wp2_with fail
      refine (begins_some _ a fa _ _ (Nat.le_refl _) T.spans hA HAN.out).mono ?_
      rintro e w1 ⟨g, rfl, hg1, hg2, hgc, hb1⟩
      clear hgc
      go_wp2_with fail
      refine (begins_none _ b _ _ (Nat.le_refl _) (T.below hb1).spans (hB.below hb1 hb1.size) HBN.out).mono ?_
      rintro e w2 ⟨rfl, hb2⟩
      go_wp2_with fail
      go_ret2
      exact ⟨rfl, by
        have h := hb1.trans (hb2.mono hb1.size)
        exact (h.alloc h.size _).alloc (by have := h.size; simp; omega) _⟩
    | some fb =>
      have e := HX.out
      rw [ordE_yes HAN.out hb] at e
      injection e with e1 e2
      have HX1 : Hid (ordW a fa b fb = x) := e1
      subst e2
      have HBN : Hid (begL b = some fb) := hb
      clear hb HX e1
      have hla := (begL_some HAN.out).1
      have hlb := (begL_some HBN.out).1
      have ha64 := (begL_some HAN.out).2.1
      have hb64 := (begL_some HBN.out).2.1
      go_enter Tryd.func82, Tryd.ntmps82
      go_wp2_with fail
      refine (begins_some _ a fa _ _ (Nat.le_refl _) T.spans hA HAN.out).mono ?_
      rintro e w1 ⟨g, rfl, hg1, hg2, hgc, hb1⟩
      have HG1 : Hid (∀ j, j < a.length → w1.cell? ⟨g, j, none⟩ = some (.int .i64 (fa.getD j 0 : Nat))) := hgc
      clear hgc
      go_wp2_with fail
      refine (begins_some _ b fb _ _ (Nat.le_refl _) (T.below hb1).spans (hB.below hb1 hb1.size) HBN.out).mono ?_
      rintro e w2 ⟨g', rfl, hg1', hg2', hgc, hb2⟩
      have HG2 : Hid (∀ j, j < b.length → w2.cell? ⟨g', j, none⟩ = some (.int .i64 (fb.getD j 0 : Nat))) := hgc
      clear hgc
      have h := hb1.trans (hb2.mono hb1.size)
      have HH : Hid (Below w.heap.size w w2) := h
      have HA2 : Hid (Rd w2 ao ca a) := hA.below h h.size
      have HB2 : Hid (Rd w2 bo cb b) := hB.below h h.size
      have HG1' : Hid (∀ j, j < a.length → w2.cell? ⟨g, j, none⟩ = some (.int .i64 (fa.getD j 0 : Nat))) := fun j hj => (hb2.cell (p := ⟨g, j, none⟩) hg2).trans (HG1.out j hj)
      have hgs : g < w2.heap.size := Nat.lt_of_lt_of_le hg2 hb2.size
      obtain ⟨aa, aq, hae⟩ : ∃ b o, ao = some ⟨b, o, none⟩ := by
        obtain ⟨ao', cap', h1, h2, h3, h4⟩ := hA
        cases h1
        rcases h4 with h | ⟨b, o, h5, _⟩
        · subst h; simp at hla
        · exact ⟨b, o, h5⟩
      obtain ⟨ba, bq, hbe⟩ : ∃ b o, bo = some ⟨b, o, none⟩ := by
        obtain ⟨ao', cap', h1, h2, h3, h4⟩ := hB
        cases h1
        rcases h4 with h | ⟨b, o, h5, _⟩
        · subst h; simp at hlb
        · exact ⟨b, o, h5⟩
      subst hae hbe
      have hT2 := T.below h
      have HT2 : Hid (Tabs w2) := hT2
      clear HG1 hA hB hb1 hb2 h hT2 T hg1 hg2 hg1'
      have ha1 : ((a.length : Int) - 1) = ((a.length - 1 : Nat) : Int) := by omega
      have hb1 : ((b.length : Int) - 1) = ((b.length - 1 : Nat) : Int) := by omega
      have cO : Hid (∀ V, Below w2.heap.size w2 V → Calls Tryd.prog 107 #[.agg #[.slice (some ⟨aa, aq, none⟩) a.length ca, .slice (some ⟨g, 0, none⟩) a.length a.length, .int .i64 ((a.length : Int) - 1)], .agg #[.slice (some ⟨ba, bq, none⟩) b.length cb, .slice (some ⟨g', 0, none⟩) b.length b.length, .int .i64 ((b.length : Int) - 1)]] V fun e w' => e = .returned (.int .i64 x) ∧ Below V.heap.size V w') := fun V hV => by
        have nodes : ∀ {ao : Option Addr} {cap : Nat} {l : List Nd} {b o : Nat}, 0 < l.length → Rd w2 (some ⟨b, o, none⟩) cap l → b < w2.heap.size ∧ ∀ q, q < l.length → ∃ kv, NodeAt w2 w2.heap.size b (o + q * 4) (l.getD q nd0) kv := by
          intro ao cap l b o h0 hR
          obtain ⟨ao', cap', h1, h2, h3, h4⟩ := hR
          cases h1
          rcases h4 with h | ⟨b', o', h5, h6, h7⟩
          · subst h; simp at h0
          · cases h5; exact ⟨h6, h7⟩
        have CA : CurOk w2 aa aq ca g a fa := ⟨(nodes (ao := none) hla HA2.out).2, (nodes (ao := none) hla HA2.out).1, HG1'.out, hgs, begOk_of (begL_some HAN.out).2.2.1, ha64⟩
        have CB : CurOk w2 ba bq cb g' b fb := ⟨(nodes (ao := none) hlb HB2.out).2, (nodes (ao := none) hlb HB2.out).1, HG2.out, hg2', begOk_of (begL_some HBN.out).2.2.1, hb64⟩
        have := order_cur a fa b fb aa aq ca g ba bq cb g' a.length (a.length - 1) (b.length - 1) V (HT2.out.below hV) (CA.below hV) (CB.below hV) (by omega) (by omega) (by omega)
        rw [show ordF a fa b fb a.length (a.length - 1) (b.length - 1) = x from HX1.out] at this
        rw [ha1, hb1]
        exact this
      clear HG1' HG2 HA2 HB2 HX1 HT2 HAN HBN ha1 hb1
      go_wp2_with (go_at_call 107; refine (cO.out _ (by first | exact ((Below.refl _ _).alloc (Nat.le_refl _) _).alloc (by simp) _ | exact (((Below.refl _ _).alloc (Nat.le_refl _) _).alloc (by simp) _).drew)).mono ?_; rintro e w3 ⟨rfl, hb3⟩)
      go_ret2
      exact ⟨rfl, by
        have h := HH.out
        have key : ∀ o1 o2, Below w.heap.size w ((w2.alloc o1).alloc o2) := fun o1 o2 => (h.alloc h.size _).alloc (by have := h.size; simp; omega) _
        exact (key _ _).trans (hb3.mono (key _ _).size)⟩

end Go.Proofs.YtfdghbbanokopaaDoor

set_option linter.unusedSimpArgs false
set_option linter.unusedVariables false
namespace Go.Proofs.YtfdghbbanokopaaDoor
open Go.RowKit Go.Lib Go.Maps Go.Deep

abbrev Pz := Value × List (Nd × Value)
/-- What parts read as. -/
def psA (A : List Pz) : List (List Nd) := A.map fun a => a.2.map (·.1)
def rwA (A : List Pz) : List Rw := A.map fun a => (a.1, a.2.length, ndCells a.2)
def kdA (A : List Pz) : List Rw := A.flatMap fun a => kR a.2
theorem psA_len (A : List Pz) : (psA A).length = A.length := by simp [psA]
theorem psA_at (A : List Pz) (n : Nat) : (psA A).getD n [] = (A.getD n (.slice none 0 0, [])).2.map (·.1) := by
  unfold psA
  rw [List.getD_eq_getElem?_getD, List.getD_eq_getElem?_getD, List.getElem?_map]
  cases A[n]? <;> rfl
theorem psA_set (A : List Pz) (n : Nat) (a : Pz) : psA (A.set n a) = (psA A).set n (a.2.map (·.1)) := by unfold psA; rw [List.map_set]
theorem rwl_perm {w : World} {base : Nat} {e : TypeId} {s : Nat} {R R' : List Rw} (h : RwL w base e s R) (hp : R.Perm R') : RwL w base e s R' :=
  ⟨fun r hr => h.own r (hp.mem_iff.2 hr), (List.Perm.pairwise_iff (fun {x y} hxy b h1 h2 => hxy b h2 h1) hp).1 h.ap⟩
theorem rwl_sub {w : World} {base : Nat} {e : TypeId} {s : Nat} {R R' : List Rw} (h : RwL w base e s R) (hp : R'.Sublist R) : RwL w base e s R' :=
  ⟨fun r hr => h.own r (hp.subset hr), h.ap.sublist hp⟩
theorem set_perm {α : Type} : ∀ (A : List α) (n : Nat) (a : α), n < A.length → (A.set n a).Perm (a :: A.eraseIdx n)
  | x :: A, 0, a, _ => List.Perm.refl _
  | x :: A, n + 1, a, h => by
    simp only [List.set_cons_succ, List.eraseIdx_cons_succ]
    exact (List.Perm.cons x (set_perm A n a (by simpa using h))).trans (List.Perm.swap a x _)
theorem sub_flat {α β : Type} (f : α → List β) {l m : List α} (h : l.Sublist m) : (l.flatMap f).Sublist (m.flatMap f) := by
  induction h with
  | slnil => exact List.Sublist.refl _
  | cons a _ ih => simp only [List.flatMap_cons]; exact ih.trans (List.sublist_append_right _ _)
  | cons_cons a _ ih => simp only [List.flatMap_cons]; exact (List.Sublist.refl _).append ih
/-- The parts in memory: the row v, its slices, their nodes and the nodes' kids; no two of them are one. -/
structure PtM (w : World) (base : Nat) (v : Value) (A : List Pz) : Prop where
  row : w.ownsRow base 22 1 v A.length (A.map (·.1))
  rows : RwL w base 50 4 (rwA A)
  kids : RwL w base 3 1 (kdA A)
  nils : ∀ a ∈ A, a.2 = [] → a.1 = .slice none 0 0
theorem PtM.below {w w' : World} {base : Nat} {v : Value} {A : List Pz} (h : PtM w base v A) (hb : Below w.heap.size w w') : PtM w' base v A :=
  ⟨row_below h.row hb, h.rows.bel hb, h.kids.bel hb, h.nils⟩
theorem PtM.mono {w : World} {base base' : Nat} {v : Value} {A : List Pz} (h : PtM w base v A) (hb : base' ≤ base) : PtM w base' v A :=
  ⟨own_low h.row hb, h.rows.low hb, h.kids.low hb, h.nils⟩
theorem PtM.ownP {w : World} {base : Nat} {v : Value} {A : List Pz} (h : PtM w base v A) {a : Pz} (ha : a ∈ A) : OwnP w base a.1 a.2 :=
  ⟨h.rows.own _ (List.mem_map_of_mem ha), fun y hy => h.kids.own ((y.2, y.1.kids.length, y.1.kids.map (Value.int .i64)) : Rw) (List.mem_flatMap.2 ⟨a, ha, List.mem_map_of_mem (f := fun y : Nd × Value => ((y.2, y.1.kids.length, y.1.kids.map (Value.int .i64)) : Rw)) hy⟩)⟩
theorem PtM.made {w : World} {base : Nat} {v : Value} (n : Nat) (h : w.ownsRow base 22 1 v n (List.replicate n (.slice none 0 0))) : PtM w base v (List.replicate n (.slice none 0 0, [])) := by
  have e1 : kdA (List.replicate n ((.slice none 0 0, []) : Pz)) = [] := by
    unfold kdA kR
    induction n with
    | zero => rfl
    | succ n ih => simp [List.replicate_succ]
  refine ⟨by simpa using h, ⟨fun r hr => ?_, ?_⟩, by rw [e1]; exact ⟨by simp, List.Pairwise.nil⟩, fun a ha _ => by rw [(List.mem_replicate.1 ha).2]⟩
  · unfold rwA at hr
    obtain ⟨a, ha, rfl⟩ := List.mem_map.1 hr
    rw [(List.mem_replicate.1 ha).2]
    exact World.ownsRow_nil _ _ _ _
  · unfold rwA
    rw [List.map_replicate]
    exact List.pairwise_replicate.2 (.inr fun b h1 => by simp [Value.ownBlock] at h1)
/-- One more part, of new memory, is put. -/
theorem PtM.set {w w' : World} {base n : Nat} {P cap N : Nat} {A : List Pz} {pv : Value} {q : List (Nd × Value)} (h : PtM w base (.slice (some ⟨P, 0, none⟩) N cap) A) (hb : Below w.heap.size w w') (hbase : base ≤ w.heap.size) (ho : OwnP w' w.heap.size pv q) (hk : KdAp q) (hq : q ≠ []) (hn : n < A.length) :
    PtM (w'.setCell ⟨P, n, none⟩ pv) base (.slice (some ⟨P, 0, none⟩) N cap) (A.set n (pv, q)) := by
  have h' := h.below hb
  have hPb : ∃ cs, w'.heap[P]? = some (.cells cs 22) := by
    obtain ⟨_, _, cap', cur, _, hc, _⟩ := rw_block h'.row (b := P) rfl
    exact ⟨cur, hc⟩
  obtain ⟨cs, hP⟩ := hPb
  have hN : N = A.length := by
    obtain ⟨ao, cap', he⟩ := rw_form h.row
    cases he; rfl
  have stay : ∀ {e : TypeId} {s : Nat} {R : List Rw}, RwL w' base e s R → e ≠ 22 → RwL (w'.setCell ⟨P, n, none⟩ pv) base e s R := fun {e s R} hr hne => hr.keep fun r hrr b hv => Deep.blk_setCell_other _ _ _ _ (by
    show b ≠ P
    rintro rfl
    exact own_typ (hr.own r hrr) hP hne hv)
  have k1 := (kR_own ho hk)
  have r1 : RwL w' w.heap.size 50 4 [((pv, q.length, ndCells q) : Rw)] := RwL.one ho.row
  refine ⟨?_, stay ?_ (by decide), stay ?_ (by decide), fun a ha ha0 => ?_⟩
  · subst hN
    rw [List.map_set, List.length_set]
    exact own_put h'.row (by simpa using hn)
  · have hp := (set_perm A n (pv, q) hn).map fun a : Pz => ((a.1, a.2.length, ndCells a.2) : Rw)
    refine rwl_perm (R := rwA ((pv, q) :: A.eraseIdx n)) ?_ hp.symm
    have hs : RwL w' base 50 4 (rwA (A.eraseIdx n)) := rwl_sub h'.rows ((List.eraseIdx_sublist A n).map _)
    have hl : LiesR (rwA (A.eraseIdx n)) base w.heap.size := (rwl_sub h.rows ((List.eraseIdx_sublist A n).map _)).lies
    exact (r1.low hbase).app hs (lies_apart r1.lies hl (.inr (Nat.le_refl _)))
  · have hp := (set_perm A n (pv, q) hn).flatMap_right (f := fun a : Pz => kR a.2)
    refine rwl_perm (R := kdA ((pv, q) :: A.eraseIdx n)) ?_ hp.symm
    have hs : RwL w' base 3 1 (kdA (A.eraseIdx n)) := rwl_sub h'.kids (sub_flat _ (List.eraseIdx_sublist A n))
    have hl : LiesR (kdA (A.eraseIdx n)) base w.heap.size := (rwl_sub h.kids (sub_flat _ (List.eraseIdx_sublist A n))).lies
    have e1 : kdA ((pv, q) :: A.eraseIdx n) = kR q ++ kdA (A.eraseIdx n) := by simp [kdA]
    rw [e1]
    exact (k1.low hbase).app hs (lies_apart k1.lies hl (.inr (Nat.le_refl _)))
  · rcases List.mem_or_eq_of_mem_set ha with ha | rfl
    · exact h.nils a ha ha0
    · exact absurd ha0 hq
/-- A list of lists, read. -/
theorem PtM.lst {w : World} {base : Nat} {v : Value} {A : List Pz} (h : PtM w base v A) : Lst w w.heap.size v (psA A) := by
  refine Lst_of_own (base := base) (pvs := A.map (·.1)) ⟨by rw [psA_len]; simp, by rw [psA_len]; exact h.row, fun i hi => ?_⟩ (Nat.le_refl _)
  rw [psA_len] at hi
  have hm : A[i] ∈ A := List.getElem_mem hi
  have e1 : (A.map (·.1)).getD i (.slice none 0 0) = A[i].1 := by simp [hi]
  have e2 : (psA A).getD i [] = A[i].2.map (·.1) := by simp [psA, hi]
  rw [e1, e2]
  exact ⟨A[i].2, rfl, h.ownP hm⟩

set_option maxRecDepth 20000 in
set_option maxHeartbeats 2000000 in
theorem same14_any {w : World} {ao bo : Option Addr} {ca cb : Nat} {a b : List Nd} (T : Tabs w) (hA : Rd w ao ca a) (hB : Rd w bo cb b) (ha : sndB a = true) (hb : sndB b = true) :
    Calls Tryd.prog 59 #[.slice ao a.length ca, .slice bo b.length cb] w fun e w' => e = .returned (.bool (decide (a = b))) ∧ Below w.heap.size w w' := by
  obtain ⟨fa, hfa⟩ := Option.isSome_iff_exists.1 ha
  obtain ⟨fb, hfb⟩ := Option.isSome_iff_exists.1 hb
  have cO := orderX T hA hB _ _ (ordE_yes hfa hfb)
  have hz := ordW_zero hfa hfb
  have HZ : Hid (decide (a = b) = (ordW a fa b fb == 0)) := by
    show _ = _
    by_cases h : a = b
    · rw [decide_eq_true h]; exact (beq_iff_eq.2 (hz.2 h)).symm
    · rw [decide_eq_false h]; exact (beq_eq_false_iff_ne.2 (fun e => h (hz.1 e))).symm
  rw [HZ.out]
  clear T hA hB ha hb hz HZ
  generalize ordW a fa b fb = z at *
  go_enter Tryd.func59, Tryd.ntmps59
  go_wp2_with (go_at_call 82; refine cO.mono ?_; rintro e w1 ⟨rfl, hb1⟩; have HB1 : Hid (_) := hb1; clear hb1)
  go_ret
  exact ⟨rfl, HB1.out⟩
end Go.Proofs.YtfdghbbanokopaaDoor

set_option linter.unusedSimpArgs false
set_option linter.unusedVariables false
namespace Go.Proofs.YtfdghbbanokopaaDoor
open Go.RowKit Go.Lib Go.Maps Go.Deep

theorem hd_beq (x y : Nd) : decide (hd x = hd y) = ((x.op == y.op) && (x.n == y.n) && (x.name.toList == y.name.toList)) := by
  have e : (x.name.toList == y.name.toList) = decide (x.name = y.name) := by
    by_cases h : x.name = y.name
    · rw [h]; simp
    · have : x.name.toList ≠ y.name.toList := fun e => h (by
        have h1 : x.name.data.toList = y.name.data.toList := by rw [← toList_data, ← toList_data]; exact e
        exact ByteArray.ext (Array.ext' h1))
      rw [beq_eq_false_iff_ne.2 this]; simp [h]
  rw [e]
  unfold hd
  by_cases h1 : x.op = y.op <;> by_cases h2 : x.n = y.n <;> by_cases h3 : x.name = y.name <;> simp [h1, h2, h3]

set_option maxRecDepth 20000 in
set_option maxHeartbeats 2000000 in
theorem alike_any {w : World} (x y : Nd) (ka kb : Option Addr) (kl ml kc mc : Nat) :
    Calls Tryd.prog 58 #[.agg #[.int .i64 x.op, .int .i64 x.n, .string x.name, .slice ka kl kc], .agg #[.int .i64 y.op, .int .i64 y.n, .string y.name, .slice kb ml mc] ] w fun e w' => e = .returned (.bool (decide (hd x = hd y))) ∧ Below w.heap.size w w' := by
  rw [hd_beq]
  obtain ⟨xo, xn, xs, xk⟩ := x
  obtain ⟨yo, yn, ys, yk⟩ := y
  simp only
  by_cases h1 : (xo == yo) = true
  · by_cases h2 : (xn == yn) = true
    · obtain ⟨R, hR⟩ : ∃ R, (xs.toList == ys.toList) = R := ⟨_, rfl⟩
      have HR : Hid (_) := hR
      rw [h1, h2]
      go_enter Tryd.func58, Tryd.ntmps58
      go_wp2_with fail
      go_ret
      exact ⟨by simp [HR.out, hR], ((Below.refl _ _).alloc (Nat.le_refl _) _).alloc (by simp) _⟩
    · have h2' : (xn == yn) = false := Bool.eq_false_iff.2 h2
      rw [h1, h2']
      clear h2
      go_enter Tryd.func58, Tryd.ntmps58
      go_wp2_with fail
      go_ret
      exact ⟨rfl, ((Below.refl _ _).alloc (Nat.le_refl _) _).alloc (by simp) _⟩
  · have h1' : (xo == yo) = false := Bool.eq_false_iff.2 h1
    rw [h1']
    clear h1
    go_enter Tryd.func58, Tryd.ntmps58
    go_wp2_with fail
    go_ret
    exact ⟨rfl, ((Below.refl _ _).alloc (Nat.le_refl _) _).alloc (by simp) _⟩
end Go.Proofs.YtfdghbbanokopaaDoor

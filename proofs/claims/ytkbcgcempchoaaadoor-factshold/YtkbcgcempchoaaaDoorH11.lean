/-
  FaP, ApRows, ApBase, PoB.
-/
import Derived.Shelf.Unicode.DecodeSlow
import Derived.Laws.RangeAny
import Derived.Shelf.Small.Bits
import Derived.Shelf.Strconv.Itoa0
import Derived.Shelf.LaysM
import Derived.Shelf.Strconv.Clone
import Derived.Shelf.Unicode.DecodeAny
import Derived.Ground.SlsfProg
import Derived.Shelf.SlSortCmp.Insertion
import Derived.Shelf.SlSortCmp.SiftDown1
import Derived.Shelf.SlSortCmp.HeapSort1
import Derived.Shelf.SlSortCmp.Insertion1
import Derived.Shelf.SlSortCmp.Median1
import Derived.Shelf.SlSortCmp.Pivot1
import Derived.Shelf.SlSortCmp.ReverseRange1
import Derived.Shelf.SlSortCmp.PartitionEqual1
import Derived.Test.YtkbcgcempchoaaaDoorProg
import Derived.WalkKit
import Derived.Deep.DeepFit
import Derived.Lib.OthersKept
import Derived.Lib.RuneCountTail
import Derived.RowKit
import Derived.Laws.Entries
import Derived.Below
import Derived.Deep.AppendLies
import Derived.Deep.OwnRows
import Derived.Laws.AppendOwnNone
import Derived.Deep.QuietTactic
import Derived.BigQuiet
import Derived.Deep.RegionWith
import Derived.Laws.DeepStrings4
import Derived.RangeFuncNested
import Derived.RangeFuncBound
import Derived.RangeFuncCalls
import Derived.RangeFuncLeaves
import Derived.RangeFuncBox
import Derived.Shelf.Abstract
import Derived.Shelf.RegionOpen
import Derived.OwnWalkIn
import Derived.TacticsInMore
import Derived.LoopNIn
import Derived.LoopIn
import Derived.Lib.Strings
import Derived.Lib.QuietBelow
import Derived.StillTail
import Derived.Deep.RegionLaw
import Derived.RangeFuncOwn
import Derived.Test.YtkbcgcempchoaaaDoorH01
import Derived.Test.YtkbcgcempchoaaaDoorH02
import Derived.Test.YtkbcgcempchoaaaDoorH03
import Derived.Test.YtkbcgcempchoaaaDoorH04
import Derived.Test.YtkbcgcempchoaaaDoorH06
import Derived.Test.YtkbcgcempchoaaaDoorH07
import Derived.Test.YtkbcgcempchoaaaDoorH08
import Derived.Test.YtkbcgcempchoaaaDoorH09
import Derived.Test.YtkbcgcempchoaaaDoorH10
set_option linter.unusedSimpArgs false
set_option linter.unusedVariables false
namespace Go.Proofs.YtkbcgcempchoaaaDoor

/-- A fact: Total, Const, N. -/
structure Fc where
  t : Bool
  c : Bool
  n : Int
def fc0 : Fc := ⟨false, false, 0⟩
/-- The fact at a place. -/
def fAt (fs : List Fc) (k : Int) : Fc := fs.getD k.toNat fc0
/-- Whether an operator is a constant, and which. -/
def cnsF (fs : List Fc) (op : Int) (ks : List Int) : Bool × Int :=
  if (ks.all fun k => (fAt fs k).c) = true then (decide ((apR op (ks.map fun k => (fAt fs k).n)).2 = 0), (apR op (ks.map fun k => (fAt fs k).n)).1) else (false, 0)
/-- Whether an operator never traps. -/
def totF (fs : List Fc) (op : Int) (ks : List Int) : Bool :=
  (ks.all fun k => (fAt fs k).t) && ((op != 8 && op != 9) || ((fAt fs (ks.getD 1 0)).c && (fAt fs (ks.getD 1 0)).n != 0))
/-- What a node tells. -/
def tdF (fs : List Fc) (x : Nd) : Fc :=
  if x.op = 1 then ⟨true, true, x.n⟩ else if x.op = 2 then ⟨true, false, 0⟩ else ⟨totF fs x.op x.kids, (cnsF fs x.op x.kids).1, (cnsF fs x.op x.kids).2⟩
def ftR (fs : List Fc) : List Nd → List Fc
  | [] => fs
  | x :: l => ftR (fs ++ [tdF fs x]) l
/-- The facts of all places. -/
def ft (l : List Nd) : List Fc := ftR [] l
def fA (l : List Nd) (i : Nat) : Fc := (ft l).getD i fc0
/-- What Of answers. -/
def ofR (l : List Nd) : Fc := fA l (l.length - 1)

theorem cnsF_congr {fs gs : List Fc} (op : Int) (ks : List Int) (h : ∀ k ∈ ks, fAt gs k = fAt fs k) : cnsF gs op ks = cnsF fs op ks := by
  unfold cnsF
  have e1 : (ks.all fun k => (fAt gs k).c) = ks.all fun k => (fAt fs k).c := by
    rw [Bool.eq_iff_iff, List.all_eq_true, List.all_eq_true]
    exact ⟨fun H k hk => by rw [← h k hk]; exact H k hk, fun H k hk => by rw [h k hk]; exact H k hk⟩
  have e2 : (ks.map fun k => (fAt gs k).n) = ks.map fun k => (fAt fs k).n := List.map_congr_left fun k hk => by rw [h k hk]
  rw [e1, e2]
theorem totF_congr {fs gs : List Fc} (op : Int) (ks : List Int) (hlen : op = 8 ∨ op = 9 → 1 < ks.length) (h : ∀ k ∈ ks, fAt gs k = fAt fs k) : totF gs op ks = totF fs op ks := by
  unfold totF
  have e1 : (ks.all fun k => (fAt gs k).t) = ks.all fun k => (fAt fs k).t := by
    rw [Bool.eq_iff_iff, List.all_eq_true, List.all_eq_true]
    exact ⟨fun H k hk => by rw [← h k hk]; exact H k hk, fun H k hk => by rw [h k hk]; exact H k hk⟩
  rw [e1]
  by_cases ho : op = 8 ∨ op = 9
  · have hl := hlen ho
    have hm : ks.getD 1 0 ∈ ks := by
      rw [List.getD_eq_getElem?_getD, List.getElem?_eq_getElem hl]; exact List.getElem_mem hl
    rw [h _ hm]
  · have g : (op != 8 && op != 9) = true := by simp; omega
    rw [g]; simp
theorem arity_two {x : Nd} (h : formB x = true) (ho : x.op = 8 ∨ x.op = 9) : x.kids.length = 2 := by
  unfold formB fitB at h
  simp only [Bool.and_eq_true, decide_eq_true_eq] at h
  have h2 := h.1.1.2
  rcases ho with e | e <;> (rw [e] at h2; simp [aritI] at h2; omega)
theorem tdF_congr {fs gs : List Fc} {x : Nd} (hf : formB x = true) (h : ∀ k ∈ x.kids, fAt gs k = fAt fs k) : tdF gs x = tdF fs x := by
  unfold tdF
  rw [cnsF_congr _ _ h, totF_congr _ _ (fun ho => by rw [arity_two hf ho]; omega) h]

theorem getD_snocF (os : List Fc) (a : Fc) (j : Nat) : (os ++ [a]).getD j fc0 = if j < os.length then os.getD j fc0 else if j = os.length then a else fc0 := by
  simp only [List.getD_eq_getElem?_getD, List.getElem?_append]
  split
  · rfl
  · split
    · subst_vars; simp
    · rw [List.getElem?_eq_none (by simp; omega)]; rfl
theorem ftR_len : ∀ (l : List Nd) (fs : List Fc), (ftR fs l).length = fs.length + l.length
  | [], fs => by simp [ftR]
  | x :: l, fs => by rw [ftR, ftR_len l]; simp; omega
theorem ftR_old : ∀ (l : List Nd) (fs : List Fc) (j : Nat), j < fs.length → (ftR fs l).getD j fc0 = fs.getD j fc0
  | [], fs, j, _ => rfl
  | x :: l, fs, j, h => by rw [ftR, ftR_old l _ j (by simp; omega), getD_snocF, if_pos h]
theorem ftR_at : ∀ (l : List Nd) (fs : List Fc) (i : Nat), i < l.length → (∀ k ∈ (l.getD i nd0).kids, 0 ≤ k ∧ k < (fs.length + i : Nat)) → formB (l.getD i nd0) = true →
    (ftR fs l).getD (fs.length + i) fc0 = tdF (ftR fs l) (l.getD i nd0)
  | [], fs, i, h, _, _ => by simp at h
  | x :: l, fs, 0, h, hk, hf => by
    rw [ftR, ftR_old l _ _ (by simp), getD_snocF, if_neg (by omega), if_pos (by omega)]
    show tdF fs x = tdF _ x
    have hk' : ∀ k ∈ x.kids, 0 ≤ k ∧ k < (fs.length + 0 : Nat) := by simpa using hk
    refine (tdF_congr (by simpa using hf) fun k hkk => ?_).symm
    have := hk' k hkk
    unfold fAt
    rw [ftR_old l _ _ (by simp; omega), getD_snocF, if_pos (by omega)]
  | x :: l, fs, i + 1, h, hk, hf => by
    have hk' : ∀ k ∈ (l.getD i nd0).kids, 0 ≤ k ∧ k < (fs.length + (i + 1) : Nat) := by simpa using hk
    have := ftR_at l (fs ++ [tdF fs x]) i (by simp at h; omega) (fun k hkk => by have := hk' k hkk; simp; omega) (by simpa using hf)
    rw [ftR]
    rw [show fs.length + (i + 1) = (fs ++ [tdF fs x]).length + i by simp; omega, this]
    simp
theorem ft_len (l : List Nd) : (ft l).length = l.length := by simpa [ft] using ftR_len l []
theorem fA_at {l : List Nd} {fr : List Nat} (h : BegOk l fr) {i : Nat} (hi : i < l.length) : fA l i = tdF (ft l) (l.getD i nd0) := by
  have := ftR_at l [] i hi (fun k hk => by have := h.kidsUp i hi k hk; simp; omega) (h.at_ i hi).1
  simpa [fA, ft] using this

theorem apR_zero (op : Int) (a : List Int) (h : (apR op a).2 ≠ 0) : (apR op a).1 = 0 := by
  unfold apR at h ⊢
  split at h
  · split at h
    · exact absurd rfl h
    · rename_i g; rw [if_neg g]
  · split at h
    · rename_i g
      rw [if_pos g]
      split at h
      · rename_i g2; rw [if_pos g2]
      · exact absurd rfl h
    · rename_i g; rw [if_neg g]
  · split at h
    · exact absurd rfl h
    · rename_i g; rw [if_neg g]
  · rfl
/-- An operator with as many numbers as it wants traps in one case alone. -/
theorem apR_ok {x : Nd} (hf : formB x = true) (o1 : x.op ≠ 1) (o2 : x.op ≠ 2) (a : List Int) (ha : a.length = x.kids.length) : (apR x.op a).2 = 0 ↔ ¬((x.op = 8 ∨ x.op = 9) ∧ a.getD 1 0 = 0) := by
  unfold formB fitB at hf
  simp only [Bool.and_eq_true, decide_eq_true_eq] at hf
  have h2 := hf.1.1.2
  have h1 := hf.1.1.1
  generalize x.op = op at *
  generalize x.kids.length = n at *
  clear hf
  by_cases h34 : op = 3 ∨ op = 4
  · rw [show aritI op = 1 by unfold aritI; rw [if_neg (by omega), if_pos h34] ] at h2
    match a, ha with
    | [], ha => simp at ha; omega
    | [p], _ => simp only [apR]; rw [if_pos h34]; simp; omega
    | p :: q :: r, ha => simp at ha; omega
  by_cases h5 : 5 ≤ op ∧ op ≤ 16
  · rw [show aritI op = 2 by unfold aritI; rw [if_neg (by omega), if_neg h34, if_pos h5] ] at h2
    match a, ha with
    | [], ha => simp at ha; omega
    | [p], ha => simp at ha; omega
    | [p, q], _ =>
      simp only [apR]
      rw [if_pos h5]
      by_cases g : (op = 8 ∨ op = 9) ∧ q = 0
      · rw [if_pos g]; simp; exact g
      · rw [if_neg g]; simp; intro h; exact fun hq => g ⟨h, hq⟩
    | p :: q :: r :: s, ha => simp at ha; omega
  by_cases h17 : op = 17
  · rw [show aritI op = 3 by unfold aritI; rw [if_neg (by omega), if_neg h34, if_neg h5, if_pos h17] ] at h2
    match a, ha with
    | [], ha => simp at ha; omega
    | [p], ha => simp at ha; omega
    | [p, q], ha => simp at ha; omega
    | [p, q, r], _ => simp only [apR]; rw [if_pos h17]; simp; omega
    | p :: q :: r :: s :: u, ha => simp at ha; omega
  · exfalso
    have : aritI op = -1 := by unfold aritI; rw [if_neg (by omega), if_neg h34, if_neg h5, if_neg h17]
    omega

/-- WHAT IS KNOWN HOLDS. -/
theorem fA_holds {l : List Nd} {fr : List Nat} (h : BegOk l fr) (bs : List Bd) : ∀ i, i < l.length →
    ((fA l i).c = true → vA bs l i = some (fA l i).n) ∧ ((fA l i).t = true → vA bs l i ≠ none) ∧ ((fA l i).c = true → (fA l i).t = true) ∧ ((fA l i).c = false → (fA l i).n = 0) := by
  intro i
  induction i using Nat.strongRecOn with
  | _ i ih =>
    intro hi
    have hv := vA_at (bs := bs) h.kidsUp hi
    have hform := (h.at_ i hi).1
    have hku := h.kidsUp i hi
    rw [fA_at h hi, hv]
    have IH : ∀ k ∈ (l.getD i nd0).kids, ((fAt (ft l) k).c = true → (vt bs l).getD k.toNat none = some (fAt (ft l) k).n) ∧ ((fAt (ft l) k).t = true → (vt bs l).getD k.toNat none ≠ none) ∧ ((fAt (ft l) k).c = true → (fAt (ft l) k).t = true) := fun k hk => by
      have hk2 := hku k hk
      obtain ⟨q1, q2, q3, _⟩ := ih k.toNat (by omega) (by omega)
      exact ⟨q1, q2, q3⟩
    generalize l.getD i nd0 = x at *
    unfold tdF vlN
    by_cases o1 : x.op = 1
    · rw [if_pos o1, if_pos o1]; simp
    by_cases o2 : x.op = 2
    · rw [if_neg o1, if_pos o2, if_neg o1, if_pos o2]; simp
    rw [if_neg o1, if_neg o2, if_neg o1, if_neg o2]
    simp only
    have hcns : (cnsF (ft l) x.op x.kids).1 = true → (∀ k ∈ x.kids, (fAt (ft l) k).c = true) ∧ (apR x.op (x.kids.map fun k => (fAt (ft l) k).n)).2 = 0 ∧ (cnsF (ft l) x.op x.kids).2 = (apR x.op (x.kids.map fun k => (fAt (ft l) k).n)).1 := fun hc => by
      unfold cnsF at hc ⊢
      split at hc
      · rename_i g
        rw [if_pos g]
        exact ⟨List.all_eq_true.1 g, by simpa using hc, rfl⟩
      · cases hc
    refine ⟨fun hc => ?_, fun ht => ?_, fun hc => ?_, fun hc => ?_⟩
    · obtain ⟨g1, g2, g3⟩ := hcns hc
      rw [argsO_all _ (fun k hk => by rw [(IH k hk).1 (g1 k hk)]; simp), Option.bind_some]
      have e : (x.kids.map fun k => ((vt bs l).getD k.toNat none).getD 0) = x.kids.map fun k => (fAt (ft l) k).n := List.map_congr_left fun k hk => by rw [(IH k hk).1 (g1 k hk)]; rfl
      rw [e]
      unfold apO
      rw [if_pos g2, g3]
    · unfold totF at ht
      rw [Bool.and_eq_true, List.all_eq_true] at ht
      obtain ⟨ht1, ht2⟩ := ht
      rw [argsO_all _ (fun k hk => (IH k hk).2.1 (ht1 k hk)), Option.bind_some]
      unfold apO
      have hz := (apR_ok hform o1 o2 (x.kids.map fun k => ((vt bs l).getD k.toNat none).getD 0) (by simp)).2 (by
        rintro ⟨ho, hz⟩
        have h2 := arity_two hform ho
        have g : (x.op != 8 && x.op != 9) = false := by simp; omega
        rw [g, Bool.false_or, Bool.and_eq_true] at ht2
        obtain ⟨c1, c2⟩ := ht2
        generalize x.kids = ks at *
        match ks, h2 with
        | [a, b], _ =>
          simp only [List.getD_cons_succ, List.getD_cons_zero, List.map_cons, List.map_nil] at c1 c2 hz
          have := (IH b (by simp)).1 c1
          rw [this] at hz
          simp at hz c2
          exact c2 hz)
      rw [if_pos hz]; simp
    · obtain ⟨g1, g2, g3⟩ := hcns hc
      unfold totF
      rw [Bool.and_eq_true, List.all_eq_true]
      refine ⟨fun k hk => (IH k hk).2.2 (g1 k hk), ?_⟩
      have hz := (apR_ok hform o1 o2 _ (by simp)).1 g2
      by_cases ho : x.op = 8 ∨ x.op = 9
      · have h2 := arity_two hform ho
        have hz2 := fun e => hz ⟨ho, e⟩
        rw [Bool.or_eq_true]; right
        generalize x.kids = ks at *
        match ks, h2 with
        | [a, b], _ =>
          simp only [List.getD_cons_succ, List.getD_cons_zero, List.map_cons, List.map_nil] at hz2 ⊢
          rw [g1 b (by simp)]
          simpa using hz2
      · have g : (x.op != 8 && x.op != 9) = true := by simp; omega
        rw [g]; rfl
    · unfold cnsF at hc ⊢
      split
      · rename_i g
        rw [if_pos g] at hc
        exact apR_zero _ _ (by simpa using hc)
      · rfl

/-- Without variables: known to be a constant, or it traps. -/
theorem fA_closed {l : List Nd} {fr : List Nat} (h : BegOk l fr) (bs : List Bd) (hno : ∀ x ∈ l, x.op ≠ 2) : ∀ i, i < l.length → (vA bs l i ≠ none → (fA l i).c = true) := by
  intro i
  induction i using Nat.strongRecOn with
  | _ i ih =>
    intro hi
    have hv := vA_at (bs := bs) h.kidsUp hi
    have hform := (h.at_ i hi).1
    have hku := h.kidsUp i hi
    rw [fA_at h hi, hv]
    have IH : ∀ k ∈ (l.getD i nd0).kids, (vt bs l).getD k.toNat none ≠ none → (fAt (ft l) k).c = true ∧ (vt bs l).getD k.toNat none = some (fAt (ft l) k).n := fun k hk hne => by
      have hk2 := hku k hk
      have q1 := ih k.toNat (by omega) (by omega) hne
      exact ⟨q1, (fA_holds h bs k.toNat (by omega)).1 q1⟩
    have o2 : (l.getD i nd0).op ≠ 2 := hno _ (by rw [List.getD_eq_getElem?_getD, List.getElem?_eq_getElem hi]; exact List.getElem_mem hi)
    generalize l.getD i nd0 = x at *
    unfold tdF vlN
    by_cases o1 : x.op = 1
    · rw [if_pos o1, if_pos o1]; simp
    rw [if_neg o1, if_neg o2, if_neg o1, if_neg o2]
    simp only
    intro hne
    have hall : ∀ k ∈ x.kids, (vt bs l).getD k.toNat none ≠ none := fun k hk hn => hne (by rw [argsO_none _ k hk hn]; rfl)
    rw [argsO_all _ hall, Option.bind_some] at hne
    have e : (x.kids.map fun k => ((vt bs l).getD k.toNat none).getD 0) = x.kids.map fun k => (fAt (ft l) k).n := List.map_congr_left fun k hk => by rw [(IH k hk (hall k hk)).2]; rfl
    rw [e] at hne
    unfold apO at hne
    unfold cnsF
    rw [if_pos (List.all_eq_true.2 fun k hk => (IH k hk (hall k hk)).1)]
    by_cases hz : (apR x.op (x.kids.map fun k => (fAt (ft l) k).n)).2 = 0
    · simpa using hz
    · rw [if_neg hz] at hne; exact absurd rfl hne
end Go.Proofs.YtkbcgcempchoaaaDoor

set_option linter.unusedSimpArgs false
set_option linter.unusedVariables false
namespace Go.Proofs.YtkbcgcempchoaaaDoor
open Go.RowKit

section
variable {w w' : World} {base : Nat} {e e' : TypeId} {size size' n n' : Nat} {v v' : Value} {xs xs' : List Value}
theorem rw_block (h : w.ownsRow base e size v n xs) {b : Nat} (hb : v.ownBlock = some b) : base ≤ b ∧ b < w.heap.size ∧ ∃ cap cur, v = .slice (some ⟨b, 0, none⟩) n cap ∧ w.heap[b]? = some (.cells cur e (0, 0)) ∧ cur.toList.take (n * size) = xs := by
  rcases h.2 with ⟨rfl, _⟩ | ⟨g, cap, cur, rfl, h1, h2, _, _, _, h3⟩
  · cases hb
  · cases hb
    refine ⟨h1, ?_, cap, cur, rfl, h2, h3⟩
    rcases Nat.lt_or_ge g w.heap.size with h | h
    · exact h
    · rw [Array.getElem?_eq_none h] at h2; cases h2
theorem rw_same (h : w.ownsRow base e size v n xs) (hs : ∀ b, v.ownBlock = some b → w'.heap[b]? = w.heap[b]?) : w'.ownsRow base e size v n xs := by
  refine ⟨h.1, ?_⟩
  rcases h.2 with h | ⟨g, cap, cur, rfl, h1, h2, h3⟩
  · exact .inl h
  · exact .inr ⟨g, cap, cur, rfl, h1, (hs g rfl).trans h2, h3⟩
theorem rw_put {g cap : Nat} (h : w.ownsRow base e size (.slice (some ⟨g, 0, none⟩) n cap) n xs) (i : Nat) (x : Value) : (w.setCell ⟨g, i, none⟩ x).ownsRow base e size (.slice (some ⟨g, 0, none⟩) n cap) n (xs.set i x) := by
  obtain ⟨h1, h2⟩ := h
  refine ⟨by rw [List.length_set]; exact h1, ?_⟩
  rcases h2 with ⟨h2, _⟩ | ⟨g', cap', cur, h3, hb, hg, hn, hm, hs, ht⟩
  · cases h2
  · cases h3
    refine .inr ⟨g, cap, cur.setIfInBounds i x, rfl, hb, heap_setCell_same w g _ cur _ _ hg, hn, hm, by simpa using hs, ?_⟩
    rw [← ht]
    simp [List.take_set]
/-- What a row reads as, whoever owns it. -/
def Rdr (w : World) (e : TypeId) (v : Value) (xs : List Value) : Prop := ∀ b, v.ownBlock = some b → ∃ cur fr, w.heap[b]? = some (.cells cur e fr) ∧ cur.toList.take xs.length = xs
theorem rdr_own (h : w.ownsRow base e size v n xs) : Rdr w e v xs := fun b hb => by
  obtain ⟨_, _, cap, cur, _, h1, h2⟩ := rw_block h hb
  exact ⟨cur, _, h1, by rw [h.1]; exact h2⟩
theorem Rdr.same (h : Rdr w e v xs) (hs : ∀ b, v.ownBlock = some b → w'.heap[b]? = w.heap[b]?) : Rdr w' e v xs := fun b hb => by
  obtain ⟨cur, fr, h1, h2⟩ := h b hb
  exact ⟨cur, fr, (hs b hb).trans h1, h2⟩
theorem Rdr.lt (h : Rdr w e v xs) {b : Nat} (hb : v.ownBlock = some b) : b < w.heap.size := by
  obtain ⟨cur, fr, h1, _⟩ := h b hb
  rcases Nat.lt_or_ge b w.heap.size with h | h
  · exact h
  · rw [Array.getElem?_eq_none h] at h1; cases h1
theorem Rdr.cell (h : Rdr w e v xs) {b : Nat} (hb : v.ownBlock = some b) {i : Nat} {u : Value} (hu : xs[i]? = some u) : w.cell? ⟨b, i, none⟩ = some u := by
  obtain ⟨cur, fr, h1, h2⟩ := h b hb
  have hl : i < xs.length := (List.getElem?_eq_some_iff.1 hu).1
  have : w.cell? ⟨b, i, none⟩ = cur[i]? := by simp [World.cell?, h1]
  rw [this, ← hu, ← Array.getElem?_toList]
  conv => rhs; rw [← h2]
  rw [List.getElem?_take, if_pos hl]
end

/-- No two of the rows lie in one block, none in the list's own. -/
structure RwsAp (n B : Nat) (A : Nat → Option Addr) : Prop where
  ap : ∀ k k', k < n → k' < n → k ≠ k' → ∀ a a', A k = some a → A k' = some a' → a.block ≠ a'.block
  out : ∀ k, k < n → ∀ a, A k = some a → a.block ≠ B
theorem own_blk {ao : Option Addr} {n c b : Nat} : (Value.slice ao n c).ownBlock = some b ↔ ∃ a, ao = some a ∧ a.block = b := by
  cases ao <;> simp [Value.ownBlock]

/-- The first m of a row bear their marks. -/
def Mk (size fld : Nat) (xs : List Value) (from_ m : Nat) : Prop := ∀ j, j < m → xs[j * size + fld]? = some (.int .i64 ((1000000 + from_ + j : Nat) : Int))

/-- The rows, the first i of them marked, and the first j of row i. -/
structure P1 (w : World) (base : Nat) (e : TypeId) (size fld n B : Nat) (A : Nat → Option Addr) (C len off : Nat → Nat) (X : Nat → List Value) (i j : Nat) (wr : World) : Prop where
  own : ∀ k, k < n → wr.ownsRow base e size (.slice (A k) (len k) (C k)) (len k) (X k)
  cel : ∀ k, k < n → wr.cell? ⟨B, k, none⟩ = some (.slice (A k) (len k) (C k))
  mks : ∀ k, k < i → Mk size fld (X k) (off k) (len k)
  mi : Mk size fld (X i) (off i) j
  bel : Below base w wr
  hB : B < w.heap.size
  oth : ∀ q, q < w.heap.size → (∀ k, k < n → ∀ a, A k = some a → a.block ≠ q) → wr.heap[q]? = w.heap[q]?
theorem P1.next {w : World} {base : Nat} {e : TypeId} {size fld n B : Nat} {A : Nat → Option Addr} {C len off : Nat → Nat} {X : Nat → List Value} {i : Nat} {wr : World} (h : P1 w base e size fld n B A C len off X i (len i) wr) : P1 w base e size fld n B A C len off X (i + 1) 0 wr := by
  refine ⟨h.own, h.cel, fun k hk => ?_, fun j hj => by omega, h.bel, h.hB, h.oth⟩
  by_cases hki : k = i
  · subst hki; exact h.mi
  · exact h.mks k (by omega)
/-- A cell of row i is written. -/
theorem P1.put {w : World} {base : Nat} {e : TypeId} {size fld n B : Nat} {A : Nat → Option Addr} {C len off : Nat → Nat} {X : Nat → List Value} {i j : Nat} {wr : World} (h : P1 w base e size fld n B A C len off X i j wr) (hap : RwsAp n B A) (hi : i < n) {g : Nat} (hA : A i = some ⟨g, 0, none⟩) (hf : fld < size) (q : Nat) (hq : j * size ≤ q) (x : Value) :
    P1 w base e size fld n B A C len off (fun k => if k = i then (X i).set q x else X k) i j (wr.setCell ⟨g, q, none⟩ x) := by
  have hoi := h.own i hi
  rw [hA] at hoi
  have hb := rw_block hoi (b := g) rfl
  have hlow : ∀ j', j' < j → j' * size + fld < q := by
    intro j' hj'
    have : (j' + 1) * size ≤ j * size := Nat.mul_le_mul_right _ (by omega)
    rw [Nat.succ_mul] at this
    omega
  refine ⟨fun k hk => ?_, fun k hk => ?_, fun k hk => ?_, fun j' hj' => ?_, h.bel.setCell hb.1 _, h.hB, fun p hp hk => ?_⟩
  · by_cases hki : k = i
    · subst hki
      rw [if_pos rfl, hA]
      exact rw_put hoi q x
    · rw [if_neg hki]
      refine rw_same (h.own k hk) fun b hbk => ?_
      obtain ⟨a, ha, rfl⟩ := own_blk.1 hbk
      exact Deep.blk_setCell_other _ _ _ _ (show a.block ≠ g from hap.ap k i hk hi hki a ⟨g, 0, none⟩ ha hA)
  · rw [World.cell?_of_block (w := wr) (Deep.blk_setCell_other _ _ _ _ (fun e => hap.out i hi _ hA e.symm))]
    exact h.cel k hk
  · have hki : k ≠ i := by omega
    simp only [if_neg hki]
    exact h.mks k hk
  · have := hlow j' hj'
    simp only [if_true]
    rw [List.getElem?_set_ne (by omega)]
    exact h.mi j' hj'
  · rw [Deep.blk_setCell_other _ _ _ _ (show p ≠ g from fun e' => hk i hi _ hA e'.symm)]
    exact h.oth p hp hk
/-- Row i, grown by j. -/
structure P3 (wr : World) (base : Nat) (e : TypeId) (size fld : Nat) (A : Option Addr) (c m : Nat) (xs : List Value) (from_ j : Nat) (vq : Value) (Z : List Value) (wq : World) : Prop where
  own : wq.ownsRow base e size vq (m + j) (xs ++ Z)
  mks : ∀ t, t < j → Z[t * size + fld]? = some (.int .i64 ((1000000 + from_ + t : Nat) : Int))
  gb : wr.grownBy wq (Value.slice A m c).ownBlock
  blk : vq.ownBlock = (Value.slice A m c).ownBlock ∨ ∃ h, vq.ownBlock = some h ∧ wr.heap.size ≤ h
  old : Rdr wq e (.slice A m c) xs
  alt : ∀ b, (Value.slice A m c).ownBlock = some b → b < wr.heap.size
theorem P3.start {wr : World} {base : Nat} {e : TypeId} {size fld : Nat} {A : Option Addr} {c m : Nat} {xs : List Value} {from_ : Nat} (h : wr.ownsRow base e size (.slice A m c) m xs) : P3 wr base e size fld A c m xs from_ 0 (.slice A m c) [] wr :=
  ⟨by simpa using h, fun t ht => by omega, ⟨rfl, rfl, rfl, Nat.le_refl _, fun _ _ _ => rfl⟩, .inl rfl, rdr_own h, fun b hb => (rw_block h hb).2.1⟩
end Go.Proofs.YtkbcgcempchoaaaDoor

set_option linter.unusedSimpArgs false
set_option linter.unusedVariables false
namespace Go.Proofs.YtkbcgcempchoaaaDoor
open Go.RowKit

theorem rw_fro {w : World} {base : Nat} {e : TypeId} {size n g cap : Nat} {xs : List Value} (h : w.ownsRow base e size (.slice (some ⟨g, 0, none⟩) n cap) n xs) (i : Nat) : w.frozen? ⟨g, i, none⟩ = false := by
  obtain ⟨_, _, _, cur, _, h1, _⟩ := rw_block h (b := g) rfl
  simp [World.frozen?, h1]
theorem rw_cell {w : World} {base : Nat} {e : TypeId} {size n g cap : Nat} {xs : List Value} (h : w.ownsRow base e size (.slice (some ⟨g, 0, none⟩) n cap) n xs) {i : Nat} (hi : i < n * size) : ∃ u, w.cell? ⟨g, i, none⟩ = some u ∧ xs[i]? = some u := by
  have hl := h.1
  have hx : xs[i]? = some (xs[i]'(by omega)) := List.getElem?_eq_getElem (by omega)
  exact ⟨_, (rdr_own h).cell (b := g) rfl hx, hx⟩
end Go.Proofs.YtkbcgcempchoaaaDoor

set_option linter.unusedSimpArgs false
set_option linter.unusedVariables false
namespace Go.Proofs.YtkbcgcempchoaaaDoor
open Go.RowKit Go.Lib

/-- A fact that the walk does not look into. -/
structure Sld (p : Prop) : Prop where
  out : p
/-- No two rows of kids are one. -/
def KdAp (q : List (Nd × Value)) : Prop := q.Pairwise fun a b => ∀ g, a.2.ownBlock = some g → b.2.ownBlock ≠ some g
/-- An expression that is answered: all of its memory is young, no two rows of kids are one. -/
structure ExO (w : World) (v : Value) (l : List Nd) (w' : World) : Prop where
  ex : ∃ q : List (Nd × Value), q.map (·.1) = l ∧ OwnP w' w.heap.size v q ∧ KdAp q
  below : Below w.heap.size w w'
theorem ExO.own {w w' : World} {v : Value} {l : List Nd} (h : ExO w v l w') : OwnN w' w.heap.size v l := let ⟨q, h1, h2, _⟩ := h.ex; ⟨q, h1, h2⟩
end Go.Proofs.YtkbcgcempchoaaaDoor

/-
  BxFlat.
-/
import Derived.Shelf.Unicode.DecodeSlow
import Derived.Laws.RangeAny
import Derived.Shelf.Small.Bits
import Derived.Shelf.Strconv.Itoa0
import Derived.Shelf.Unicode.Decode
import Derived.Shelf.Unicode.DecodeAny
import Derived.Shelf.Slices.CompactS
import Derived.Shelf.Slices.Cells
import Derived.Ground.SlsfProg
import Derived.Shelf.SlSortCmp.Insertion
import Derived.Shelf.SlSortCmp.SiftDown1
import Derived.Shelf.SlSortCmp.HeapSort1
import Derived.Shelf.SlSortCmp.Insertion1
import Derived.Shelf.SlSortCmp.Median1
import Derived.Shelf.SlSortCmp.Pivot1
import Derived.Shelf.SlSortCmp.ReverseRange1
import Derived.Shelf.SlSortCmp.PartialInsertion1
import Derived.Shelf.SlSortCmp.PartitionEqual1
import Derived.Shelf.SlSortCmp.Partition1
import Derived.Shelf.SlSortCmp.Pdq1
import Derived.Shelf.SlSortCmp.Whole1
import Derived.Test.YtokfkobhdjbciaaDoorProg
import Derived.WalkKit
import Derived.Deep.DeepFit
import Derived.Lib.OthersKept
import Derived.Lib.RuneCountTail
import Derived.Deep.AppendLies
import Derived.Deep.OwnRows
import Derived.Laws.AppendOwnNone
import Derived.Deep.QuietTactic
import Derived.BigQuiet
import Derived.Deep.RegionWith
import Derived.Laws.DeepStrings4
import Derived.Test.YtokfkobhdjbciaaDoorChecked
import Derived.Below
import Derived.Defers
import Derived.Test.YtokfkobhdjbciaaDoorQ01
import Derived.Test.YtokfkobhdjbciaaDoorQ02
import Derived.Test.YtokfkobhdjbciaaDoorQ03
import Derived.Test.YtokfkobhdjbciaaDoorQ04
import Derived.Test.YtokfkobhdjbciaaDoorQ05
import Derived.Test.YtokfkobhdjbciaaDoorQ06
import Derived.Test.YtokfkobhdjbciaaDoorQ07
import Derived.Test.YtokfkobhdjbciaaDoorQ09
import Derived.Test.YtokfkobhdjbciaaDoorQ10
set_option linter.unusedSimpArgs false
set_option linter.unusedVariables false
namespace Go.Proofs.YtokfkobhdjbciaaDoor
open Go.RowKit Go.Lib

/-- The term of one node; ts: the terms of the nodes ahead. -/
def ndTB (x : Nd) (ts : List Tm) : Tm :=
  if x.op = 1 then .lit x.n else if x.op = 2 then .var x.name
  else match x.kids with
    | [a] => .un x.op (ts.getD a.toNat .nil)
    | [a, b] => .bin x.op (ts.getD a.toNat .nil) (ts.getD b.toNat .nil)
    | [c, a, b] => .ifs (ts.getD c.toNat .nil) (ts.getD a.toNat .nil) (ts.getD b.toNat .nil)
    | _ => .nil
/-- The terms of all nodes. -/
def tmR (ts : List Tm) : List Nd → List Tm
  | [] => ts
  | x :: l => tmR (ts ++ [ndTB x ts]) l

theorem tmR_append (l m : List Nd) : ∀ ts, tmR ts (l ++ m) = tmR (tmR ts l) m := by
  induction l with
  | nil => intro ts; rfl
  | cons x l ih => intro ts; simp only [List.cons_append, tmR]; exact ih _
theorem tmR_len (l : List Nd) : ∀ ts, (tmR ts l).length = ts.length + l.length := by
  induction l with
  | nil => intro ts; simp [tmR]
  | cons x l ih => intro ts; simp only [tmR]; rw [ih]; simp; omega
theorem tmR_take {l : List Nd} {k : Nat} (h : k < l.length) : tmR [] (l.take (k + 1)) = tmR [] (l.take k) ++ [ndTB (l.getD k nd0) (tmR [] (l.take k))] := by
  rw [List.take_succ_eq_append_getElem h, tmR_append]
  simp [tmR, h]
theorem tm_snoc (ts : List Tm) (t : Tm) (j : Nat) : (ts ++ [t]).getD j .nil = if j = ts.length then t else ts.getD j .nil := by
  by_cases hjk : j = ts.length
  · subst hjk; rw [if_pos rfl]; simp
  · rw [if_neg hjk]
    by_cases hj2 : j < ts.length
    · simp only [List.getD_eq_getElem?_getD]; rw [List.getElem?_append_left hj2]
    · rw [List.getD_eq_getElem?_getD, List.getD_eq_getElem?_getD, List.getElem?_eq_none (by rw [List.length_append, List.length_singleton]; omega), List.getElem?_eq_none (by omega)]
theorem tmR_old (l : List Nd) : ∀ (ts : List Tm) (j : Nat), j < ts.length → (tmR ts l).getD j .nil = ts.getD j .nil := by
  induction l with
  | nil => intro ts j _; rfl
  | cons x l ih =>
    intro ts j hj
    simp only [tmR]
    rw [ih _ j (by simp; omega), tm_snoc, if_neg (by omega)]
theorem ndT_congr {x : Nd} {ts ts' : List Tm} (h : ∀ k ∈ x.kids, ts'.getD k.toNat .nil = ts.getD k.toNat .nil) : ndTB x ts' = ndTB x ts := by
  obtain ⟨op, n, nm, kids⟩ := x
  unfold ndTB
  simp only at h ⊢
  match kids, h with
  | [], _ => rfl
  | [a], h => simp only [h a (by simp)]
  | [a, b], h => simp only [h a (by simp), h b (by simp)]
  | [c, a, b], h => simp only [h c (by simp), h a (by simp), h b (by simp)]
  | _ :: _ :: _ :: _ :: _, _ => rfl
/-- A node's term is made of its parts' terms. -/
theorem tm_at {l : List Nd} (i : Nat) (hi : i < l.length) (hk : ∀ k ∈ (l.getD i nd0).kids, 0 ≤ k ∧ k < (i : Int)) : (tmR [] l).getD i .nil = ndTB (l.getD i nd0) (tmR [] l) := by
  have hlen : (tmR [] (l.take i)).length = i := by rw [tmR_len]; simp; omega
  have hpre : ∀ j, j < i + 1 → (tmR [] l).getD j .nil = (tmR [] (l.take (i + 1))).getD j .nil := fun j hj => by
    conv => lhs; rw [← List.take_append_drop (i + 1) l, tmR_append]
    exact tmR_old _ _ j (by rw [tmR_len]; simp; omega)
  rw [hpre i (by omega), tmR_take hi, tm_snoc, hlen, if_pos rfl]
  refine (ndT_congr fun k hk' => ?_).symm
  have hki := hk k hk'
  rw [hpre k.toNat (by omega), tmR_take hi, tm_snoc, hlen, if_neg (by omega)]
/-- The forms of a sound node. -/
theorem form_cases {x : Nd} (h : formB x = true) : (x.op = 1 ∧ x.kids = []) ∨ (x.op = 2 ∧ x.kids = []) ∨ (x.op ≠ 1 ∧ x.op ≠ 2 ∧ ∃ a, x.kids = [a]) ∨ (x.op ≠ 1 ∧ x.op ≠ 2 ∧ ∃ a b, x.kids = [a, b]) ∨ (x.op = 17 ∧ ∃ c a b, x.kids = [c, a, b]) := by
  unfold formB fitB at h
  simp only [Bool.and_eq_true, decide_eq_true_eq] at h
  obtain ⟨⟨⟨h0, h1⟩, _⟩, _⟩ := h
  obtain ⟨op, n, nm, kids⟩ := x
  simp only at h0 h1 ⊢
  unfold aritI at h0 h1
  match kids, h1 with
  | [], h1 =>
    simp only [List.length_nil] at h1
    split at h1
    · rename_i h; rcases h with h | h
      · exact .inl ⟨h, rfl⟩
      · exact .inr (.inl ⟨h, rfl⟩)
    · exfalso; split at h1
      · omega
      · split at h1
        · omega
        · split at h1 <;> omega
  | [a], h1 =>
    simp only [List.length_cons, List.length_nil] at h1
    split at h1
    · omega
    · rename_i h; exact .inr (.inr (.inl ⟨fun e => h (.inl e), fun e => h (.inr e), a, rfl⟩))
  | [a, b], h1 =>
    simp only [List.length_cons, List.length_nil] at h1
    split at h1
    · omega
    · rename_i h; exact .inr (.inr (.inr (.inl ⟨fun e => h (.inl e), fun e => h (.inr e), a, b, rfl⟩)))
  | [c, a, b], h1 =>
    simp only [List.length_cons, List.length_nil] at h1
    refine .inr (.inr (.inr (.inr ⟨?_, c, a, b, rfl⟩)))
    split at h1
    · omega
    · split at h1
      · omega
      · split at h1
        · omega
        · split at h1
          · assumption
          · omega
  | _ :: _ :: _ :: _ :: l, h1 =>
    exfalso
    simp only [List.length_cons] at h1
    split at h1
    · omega
    · split at h1
      · omega
      · split at h1
        · omega
        · split at h1 <;> omega
theorem five_at {l : List Nd} {fr : List Nat} (hok : BegOk l fr) (hkk : ∀ i, i < l.length → ∀ k ∈ (l.getD i nd0).kids, 0 ≤ k ∧ k < (i : Int)) : ∀ i, i < l.length → Five ((tmR [] l).getD i .nil) := by
  intro i
  induction i using Nat.strongRecOn with
  | ind i IH =>
    intro hi
    rw [tm_at i hi (hkk i hi)]
    have hform := (hok.at_ i hi).1
    have hks := hkk i hi
    have hI : ∀ k ∈ (l.getD i nd0).kids, Five ((tmR [] l).getD k.toNat .nil) := fun k hk => IH k.toNat (by have := hks k hk; omega) (by have := hks k hk; omega)
    generalize l.getD i nd0 = x at *
    have hc := form_cases hform
    obtain ⟨op, n, nm, kids⟩ := x
    unfold ndTB
    simp only at hI hc ⊢
    rcases hc with ⟨h, _⟩ | ⟨h, _⟩ | ⟨h1, h2, a, rfl⟩ | ⟨h1, h2, a, b, rfl⟩ | ⟨h, c, a, b, rfl⟩
    · rw [if_pos h]; trivial
    · rw [if_neg (by omega), if_pos h]; trivial
    · rw [if_neg h1, if_neg h2]; exact hI a (by simp)
    · rw [if_neg h1, if_neg h2]; exact ⟨hI a (by simp), hI b (by simp)⟩
    · rw [if_neg (by omega), if_neg (by omega)]; exact ⟨hI c (by simp), hI a (by simp), hI b (by simp)⟩

/-- The term of the expression at a place. -/
def tmA (l : List Nd) (i : Nat) : Tm := (tmR [] l).getD i .nil
theorem tmA_lit {l : List Nd} {i : Nat} (hi : i < l.length) (h : (l.getD i nd0).op = 1) (hk : ∀ k ∈ (l.getD i nd0).kids, 0 ≤ k ∧ k < (i : Int)) : tmA l i = .lit (l.getD i nd0).n := by
  unfold tmA; rw [tm_at i hi hk]; unfold ndTB; rw [if_pos h]
theorem tmA_var {l : List Nd} {i : Nat} (hi : i < l.length) (h : (l.getD i nd0).op = 2) (hk : ∀ k ∈ (l.getD i nd0).kids, 0 ≤ k ∧ k < (i : Int)) : tmA l i = .var (l.getD i nd0).name := by
  unfold tmA; rw [tm_at i hi hk]; unfold ndTB; rw [if_neg (by omega), if_pos h]
theorem tmA_un {l : List Nd} {i : Nat} (hi : i < l.length) (h1 : (l.getD i nd0).op ≠ 1) (h2 : (l.getD i nd0).op ≠ 2) (a : Nat) (h : (l.getD i nd0).kids = [(a : Int)]) (hk : ∀ k ∈ (l.getD i nd0).kids, 0 ≤ k ∧ k < (i : Int)) : tmA l i = .un (l.getD i nd0).op (tmA l a) := by
  unfold tmA; rw [tm_at i hi hk]; unfold ndTB; rw [if_neg h1, if_neg h2, h]; simp only [Int.toNat_natCast]
theorem tmA_bin {l : List Nd} {i : Nat} (hi : i < l.length) (h1 : (l.getD i nd0).op ≠ 1) (h2 : (l.getD i nd0).op ≠ 2) (a b : Nat) (h : (l.getD i nd0).kids = [(a : Int), (b : Int)]) (hk : ∀ k ∈ (l.getD i nd0).kids, 0 ≤ k ∧ k < (i : Int)) : tmA l i = .bin (l.getD i nd0).op (tmA l a) (tmA l b) := by
  unfold tmA; rw [tm_at i hi hk]; unfold ndTB; rw [if_neg h1, if_neg h2, h]; simp only [Int.toNat_natCast]
theorem tmA_ifs {l : List Nd} {i : Nat} (hi : i < l.length) (h1 : (l.getD i nd0).op = 17) (c a b : Nat) (h : (l.getD i nd0).kids = [(c : Int), (a : Int), (b : Int)]) (hk : ∀ k ∈ (l.getD i nd0).kids, 0 ≤ k ∧ k < (i : Int)) : tmA l i = .ifs (tmA l c) (tmA l a) (tmA l b) := by
  unfold tmA; rw [tm_at i hi hk]; unfold ndTB; rw [if_neg (by omega), if_neg (by omega), h]; simp only [Int.toNat_natCast]
theorem snd_kk {l : List Nd} {fr : List Nat} (h : begL l = some fr) : ∀ i, i < l.length → ∀ k ∈ (l.getD i nd0).kids, 0 ≤ k ∧ k < (i : Int) := by
  have hok := begOk_of (begL_some h).2.2.1
  intro i hi k hk
  obtain ⟨c, h0, h1, rfl⟩ := (chain_inv (fr := fr) (P := fun c => c ≤ i) (fun c h0 hc => by have := hok.low (c - 1); omega) _ _ _ (Nat.le_refl i) (hok.at_ i hi).2).2 k (by simpa using hk)
  omega
theorem five_tm {l : List Nd} {fr : List Nat} (h : begL l = some fr) {i : Nat} (hi : i < l.length) : Five (tmA l i) := five_at (begOk_of (begL_some h).2.2.1) (snd_kk h) i hi
end Go.Proofs.YtokfkobhdjbciaaDoor

namespace Go.Proofs.YtokfkobhdjbciaaDoor
open Go.RowKit Go.Lib

def flatT : Tm → List Nd
  | .lit n => joinL 1 n ⟨#[]⟩ []
  | .var s => joinL 2 0 s []
  | .un op a => joinL op 0 ⟨#[]⟩ [flatT a]
  | .bin op a b => joinL op 0 ⟨#[]⟩ [flatT a, flatT b]
  | .ifs c a b => joinL 17 0 ⟨#[]⟩ [flatT c, flatT a, flatT b]
  | _ => joinL 0 0 ⟨#[]⟩ []
theorem flatT_eq (t : Tm) : flatT t = joinL (opT t) (nT t) (nameT t) ((partsT t).map flatT) := by
  cases t <;> simp [flatT, opT, nT, nameT, partsT]

/-- What a sound node has not. -/
theorem form_rest {x : Nd} (h : formB x = true) : (x.op ≠ 1 → x.n = 0) ∧ (x.op ≠ 2 → x.name = ⟨#[]⟩) := by
  unfold formB fitB at h
  simp only [Bool.and_eq_true, Bool.or_eq_true, decide_eq_true_eq] at h
  obtain ⟨⟨_, h2⟩, h3⟩ := h
  refine ⟨fun hn => ?_, fun hn => ?_⟩
  · rcases h2 with h2 | h2
    · exact h2
    · exact absurd h2 hn
  · rw [if_neg hn] at h3
    have h4 : x.name.data.toList = [] := by simpa [toList_data] using h3
    exact ByteArray.ext (Array.toList_eq_nil_iff.1 h4)

theorem flat_tm {l : List Nd} {fr : List Nat} (hs : begL l = some fr) : ∀ i, i < l.length → flatT (tmA l i) = partL l (fr.getD i 0) i := by
  have hok := begOk_of (begL_some hs).2.2.1
  intro i
  induction i using Nat.strongRecOn with
  | ind i IH =>
    intro hi
    have hkk := snd_kk hs i hi
    have hform := (hok.at_ i hi).1
    have hcs := form_cases hform
    obtain ⟨hr1, hr2⟩ := form_rest hform
    rw [part_join hok i hi]
    have L1 := @tmA_lit l i hi
    have L2 := @tmA_var l i hi
    have L3 := @tmA_un l i hi
    have L4 := @tmA_bin l i hi
    have L5 := @tmA_ifs l i hi
    have IK : ∀ z : Nat, z < i → flatT (tmA l z) = kidPart l fr (z : Int) := fun z hz => by
      rw [IH z hz (by omega)]; unfold kidPart; rw [Int.toNat_natCast]
    generalize l.getD i nd0 = x at *
    obtain ⟨op, n, nm, kids⟩ := x
    simp only at hcs hkk hr1 hr2 L1 L2 L3 L4 L5 ⊢
    rcases hcs with ⟨h, rfl⟩ | ⟨h, rfl⟩ | ⟨h1, h2, a, rfl⟩ | ⟨h1, h2, a, b, rfl⟩ | ⟨h, c, a, b, rfl⟩
    · rw [L1 h hkk, hr2 (by omega), h]; rfl
    · rw [L2 h hkk, hr1 (by omega), h]; rfl
    · have ha := hkk a (by simp)
      obtain ⟨a, rfl⟩ : ∃ z : Nat, a = (z : Int) := ⟨a.toNat, by omega⟩
      rw [L3 h1 h2 a rfl hkk, hr1 h1, hr2 h2]
      simp only [flatT, List.map_cons, List.map_nil]
      rw [IK a (by omega)]
    · have ha := hkk a (by simp)
      have hb := hkk b (by simp)
      obtain ⟨a, rfl⟩ : ∃ z : Nat, a = (z : Int) := ⟨a.toNat, by omega⟩
      obtain ⟨b, rfl⟩ : ∃ z : Nat, b = (z : Int) := ⟨b.toNat, by omega⟩
      rw [L4 h1 h2 a b rfl hkk, hr1 h1, hr2 h2]
      simp only [flatT, List.map_cons, List.map_nil]
      rw [IK a (by omega), IK b (by omega)]
    · have hc := hkk c (by simp)
      have ha := hkk a (by simp)
      have hb := hkk b (by simp)
      obtain ⟨c, rfl⟩ : ∃ z : Nat, c = (z : Int) := ⟨c.toNat, by omega⟩
      obtain ⟨a, rfl⟩ : ∃ z : Nat, a = (z : Int) := ⟨a.toNat, by omega⟩
      obtain ⟨b, rfl⟩ : ∃ z : Nat, b = (z : Int) := ⟨b.toNat, by omega⟩
      rw [L5 h c a b rfl hkk, hr1 (by omega), hr2 (by omega), h]
      simp only [flatT, List.map_cons, List.map_nil]
      rw [IK c (by omega), IK a (by omega), IK b (by omega)]

/-- The whole, there and back. -/
theorem flat_whole {l : List Nd} {fr : List Nat} (hs : begL l = some fr) : flatT (tmA l (l.length - 1)) = l := by
  obtain ⟨h0, _, hr, ht⟩ := begL_some hs
  rw [flat_tm hs _ (by omega), ht]
  unfold partL
  have e : l.length - 1 + 1 - 0 = l.length := by omega
  rw [e]
  simp [map_mvN_zero]
end Go.Proofs.YtokfkobhdjbciaaDoor

namespace Go.Proofs.YtokfkobhdjbciaaDoor
open Go.RowKit Go.Lib

/-- What the document makes of a term: its nodes, or none. -/
def wantT (t : Tm) : List Nd := if sndB (flatT t) = true then flatT t else []
end Go.Proofs.YtokfkobhdjbciaaDoor

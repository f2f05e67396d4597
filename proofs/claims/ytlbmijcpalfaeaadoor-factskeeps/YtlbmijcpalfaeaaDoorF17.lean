/-
  TbP.
-/
import Derived.Shelf.Unicode.DecodeSlow
import Derived.Laws.RangeAny
import Derived.Shelf.Strconv.Itoa0
import Derived.Shelf.LaysM
import Derived.Shelf.Strconv.Clone
import Derived.Shelf.Unicode.DecodeAny
import Derived.Test.YtlbmijcpalfaeaaDoorProg
import Derived.WalkKit
import Derived.Deep.DeepFit
import Derived.Lib.OthersKept
import Derived.Lib.RuneCountTail
import Derived.Deep.AppendLies
import Derived.Deep.OwnRows
import Derived.Laws.AppendOwnNone
import Derived.Deep.QuietTactic
import Derived.BigQuiet
import Derived.Deep.RegionWith
import Derived.Laws.DeepStrings4
import Derived.Below
import Derived.Test.YtlbmijcpalfaeaaDoorF01
import Derived.Test.YtlbmijcpalfaeaaDoorF02
import Derived.Test.YtlbmijcpalfaeaaDoorF03
import Derived.Test.YtlbmijcpalfaeaaDoorF04
import Derived.Test.YtlbmijcpalfaeaaDoorF05
import Derived.Test.YtlbmijcpalfaeaaDoorF06
import Derived.Test.YtlbmijcpalfaeaaDoorF07
import Derived.Test.YtlbmijcpalfaeaaDoorF08
import Derived.Test.YtlbmijcpalfaeaaDoorF16
set_option linter.unusedSimpArgs false
set_option linter.unusedVariables false
namespace Go.Proofs.YtlbmijcpalfaeaaDoor

/-- The entry of a number. -/
def edA (L : List Nd) (i : Nat) : Nd := L.getD i nd0
theorem edA_lt {L : List Nd} {i : Nat} (h : i < L.length) : edA L i = L[i] := by simp [edA, h]
theorem edA_app {L M : List Nd} {i : Nat} (h : i < L.length) : edA (L ++ M) i = edA L i := by
  unfold edA; rw [List.getD_eq_getElem?_getD, List.getElem?_append_left h, List.getD_eq_getElem?_getD]
theorem edA_end (L : List Nd) (x : Nd) : edA (L ++ [x]) L.length = x := by simp [edA]
theorem edA_mem {L : List Nd} {i : Nat} (h : i < L.length) : edA L i ∈ L := by rw [edA_lt h]; exact List.getElem_mem h

/-- What is true of a table's entries. -/
structure TbI (L : List Nd) : Prop where
  form : ∀ i, i < L.length → formB (edA L i) = true
  kids : ∀ i, i < L.length → ∀ k ∈ (edA L i).kids, 0 ≤ k ∧ k < (i : Int)
  nodup : L.Nodup
  le : L.length ≤ 1048576
theorem TbI.nil : TbI [] := ⟨fun i h => by simp at h, fun i h => by simp at h, List.nodup_nil, by simp⟩
theorem TbI.snoc {L : List Nd} {x : Nd} (h : TbI L) (hf : formB x = true) (hk : ∀ k ∈ x.kids, 0 ≤ k ∧ k < (L.length : Int)) (hn : x ∉ L) (hl : L.length < 1048576) : TbI (L ++ [x]) := by
  refine ⟨fun i hi => ?_, fun i hi => ?_, ?_, by simp; omega⟩
  · simp at hi
    rcases Nat.lt_or_ge i L.length with h1 | h1
    · rw [edA_app h1]; exact h.form i h1
    · obtain rfl : i = L.length := by omega
      rw [edA_end]; exact hf
  · simp at hi
    rcases Nat.lt_or_ge i L.length with h1 | h1
    · rw [edA_app h1]; exact h.kids i h1
    · obtain rfl : i = L.length := by omega
      rw [edA_end]; exact hk
  · rw [List.nodup_append]
    refine ⟨h.nodup, by simp, fun a ha b hb e => ?_⟩
    simp at hb
    subst hb
    subst e
    exact hn ha
theorem TbI.take {L : List Nd} (h : TbI L) (n : Nat) : TbI (L.take n) := by
  have e : ∀ i, i < (L.take n).length → edA (L.take n) i = edA L i := fun i hi => by
    unfold edA
    simp at hi
    rw [List.getD_eq_getElem?_getD, List.getElem?_take, if_pos (by omega), List.getD_eq_getElem?_getD]
  refine ⟨fun i hi => ?_, fun i hi => ?_, h.nodup.sublist (List.take_sublist _ _), by simp; have := h.le; omega⟩
  · rw [e i hi]; exact h.form i (by simp at hi; omega)
  · rw [e i hi]; exact h.kids i (by simp at hi; omega)

/-- The number of a node. -/
def ixL (L : List Nd) (x : Nd) : Option Nat := if x ∈ L then some (L.idxOf x) else none
theorem ixL_at {L : List Nd} {x : Nd} {i : Nat} (h : ixL L x = some i) : i < L.length ∧ edA L i = x := by
  unfold ixL at h
  split at h
  · rename_i hm
    have hl := List.idxOf_lt_length_of_mem hm
    cases h
    refine ⟨hl, ?_⟩
    rw [edA_lt hl]
    exact List.getElem_idxOf hl
  · cases h
theorem nodup_at {L : List Nd} (hn : L.Nodup) {i j : Nat} (hi : i < L.length) (hj : j < L.length) (h : edA L i = edA L j) : i = j := by
  rw [edA_lt hi, edA_lt hj] at h
  have hp := List.pairwise_iff_getElem.1 (List.nodup_iff_pairwise_ne.1 hn)
  rcases Nat.lt_trichotomy i j with h1 | h1 | h1
  · exact absurd h (hp i j hi hj h1)
  · exact h1
  · exact absurd h.symm (hp j i hj hi h1)
theorem ixL_of {L : List Nd} (hn : L.Nodup) {x : Nd} {i : Nat} (hi : i < L.length) (hx : edA L i = x) : ixL L x = some i := by
  have hm : x ∈ L := by rw [← hx]; exact edA_mem hi
  unfold ixL
  rw [if_pos hm]
  have hl := List.idxOf_lt_length_of_mem hm
  have : edA L (L.idxOf x) = x := by rw [edA_lt hl]; exact List.getElem_idxOf hl
  rw [nodup_at hn hl hi (this.trans hx.symm)]
theorem ixL_none {L : List Nd} {x : Nd} : ixL L x = none ↔ x ∉ L := by
  unfold ixL; split <;> simp_all
theorem ixL_nil (x : Nd) : ixL [] x = none := by simp [ixL]

/-- Sizes: of kids onto a size; of all entries. -/
def szK (S : List Nat) : Nat → List Int → Nat
  | s, [] => s
  | s, k :: r => szK S (min 1073741824 (s + S.getD k.toNat 0)) r
def szR (S : List Nat) : List Nd → List Nat
  | [] => S
  | x :: r => szR (S ++ [szK S 1 x.kids]) r
def szL (L : List Nd) : List Nat := szR [] L
theorem szR_app (S : List Nat) (L M : List Nd) : szR S (L ++ M) = szR (szR S L) M := by
  induction L generalizing S with
  | nil => rfl
  | cons x r ih => exact ih _
theorem szL_snoc (L : List Nd) (x : Nd) : szL (L ++ [x]) = szL L ++ [szK (szL L) 1 x.kids] := by
  unfold szL; rw [szR_app]; rfl
theorem szR_len (S : List Nat) (L : List Nd) : (szR S L).length = S.length + L.length := by
  induction L generalizing S with
  | nil => rfl
  | cons x r ih => rw [szR, ih]; simp; omega
theorem szL_len (L : List Nd) : (szL L).length = L.length := by unfold szL; rw [szR_len]; simp
theorem szR_lt (S : List Nat) (L : List Nd) {i : Nat} (h : i < S.length) : (szR S L).getD i 0 = S.getD i 0 := by
  induction L generalizing S with
  | nil => rfl
  | cons x r ih =>
    rw [szR, ih _ (by simp; omega), List.getD_eq_getElem?_getD, List.getElem?_append_left h, List.getD_eq_getElem?_getD]
theorem szL_app {L M : List Nd} {i : Nat} (h : i < L.length) : (szL (L ++ M)).getD i 0 = (szL L).getD i 0 := by
  unfold szL; rw [szR_app]; exact szR_lt _ _ (by rw [szR_len]; simp; omega)
theorem szL_end (L : List Nd) (x : Nd) : (szL (L ++ [x])).getD L.length 0 = szK (szL L) 1 x.kids := by
  rw [szL_snoc]
  have := szL_len L
  simp [List.getD_eq_getElem?_getD, this]
theorem szK_le (S : List Nat) : ∀ (ks : List Int) (s : Nat), s ≤ 1073741824 → szK S s ks ≤ 1073741824
  | [], s, h => h
  | k :: r, s, _ => szK_le S r _ (Nat.min_le_left _ _)
theorem szK_snoc (S : List Nat) : ∀ (ks : List Int) (s : Nat) (k : Int), szK S s (ks ++ [k]) = min 1073741824 (szK S s ks + S.getD k.toNat 0)
  | [], s, k => rfl
  | a :: r, s, k => szK_snoc S r _ k
theorem szL_take (L : List Nd) : ∀ i, i < L.length → (szL L).getD i 0 = szK (szL (L.take i)) 1 (edA L i).kids := by
  intro i hi
  have e : L = (L.take i ++ [edA L i]) ++ L.drop (i + 1) := by
    rw [edA_lt hi, ← List.take_succ_eq_append_getElem hi, List.take_append_drop]
  have hl : (L.take i).length = i := by simp; omega
  conv => lhs; rw [e]
  rw [szL_app (by simp; omega)]
  have := szL_end (L.take i) (edA L i)
  rw [hl] at this
  exact this
theorem szL_bd (L : List Nd) (i : Nat) : (szL L).getD i 0 ≤ 1073741824 := by
  rcases Nat.lt_or_ge i L.length with h | h
  · rw [szL_take L i h]; exact szK_le _ _ _ (by omega)
  · rw [List.getD_eq_getElem?_getD, List.getElem?_eq_none (by rw [szL_len]; exact h)]; simp
/-- The expressions that the entries stand for. -/
def exJ (E : List (List Nd)) (x : Nd) : List Nd := joinL x.op x.n x.name (x.kids.map fun k => E.getD k.toNat [])
def exR (E : List (List Nd)) : List Nd → List (List Nd)
  | [] => E
  | x :: r => exR (E ++ [exJ E x]) r
def exT (L : List Nd) : List (List Nd) := exR [] L
def exA (L : List Nd) (i : Nat) : List Nd := (exT L).getD i []
theorem exR_app (E : List (List Nd)) (L M : List Nd) : exR E (L ++ M) = exR (exR E L) M := by
  induction L generalizing E with
  | nil => rfl
  | cons x r ih => exact ih _
theorem exT_snoc (L : List Nd) (x : Nd) : exT (L ++ [x]) = exT L ++ [exJ (exT L) x] := by
  unfold exT; rw [exR_app]; rfl
theorem exR_len (E : List (List Nd)) (L : List Nd) : (exR E L).length = E.length + L.length := by
  induction L generalizing E with
  | nil => rfl
  | cons x r ih => rw [exR, ih]; simp; omega
theorem exT_len (L : List Nd) : (exT L).length = L.length := by unfold exT; rw [exR_len]; simp
theorem exR_lt (E : List (List Nd)) (L : List Nd) {i : Nat} (h : i < E.length) : (exR E L).getD i [] = E.getD i [] := by
  induction L generalizing E with
  | nil => rfl
  | cons x r ih =>
    rw [exR, ih _ (by simp; omega), List.getD_eq_getElem?_getD, List.getElem?_append_left h, List.getD_eq_getElem?_getD]
theorem exA_app {L M : List Nd} {i : Nat} (h : i < L.length) : exA (L ++ M) i = exA L i := by
  unfold exA exT; rw [exR_app]; exact exR_lt _ _ (by rw [exR_len]; simp; omega)
theorem exA_end (L : List Nd) (x : Nd) : exA (L ++ [x]) L.length = exJ (exT L) x := by
  unfold exA
  rw [exT_snoc]
  have := exT_len L
  simp [List.getD_eq_getElem?_getD, this]
theorem exA_at {L : List Nd} (h : TbI L) {i : Nat} (hi : i < L.length) : exA L i = joinL (edA L i).op (edA L i).n (edA L i).name ((edA L i).kids.map fun k => exA L k.toNat) := by
  have e : L = (L.take i ++ [edA L i]) ++ L.drop (i + 1) := by
    rw [edA_lt hi, ← List.take_succ_eq_append_getElem hi, List.take_append_drop]
  have hl : (L.take i).length = i := by simp; omega
  have h1 : exA L i = exJ (exT (L.take i)) (edA L i) := by
    conv => lhs; rw [e]
    rw [exA_app (by simp; omega)]
    have := exA_end (L.take i) (edA L i)
    rw [hl] at this
    exact this
  rw [h1]
  unfold exJ
  congr 1
  refine List.map_congr_left fun k hk => ?_
  have hk2 := h.kids i hi k hk
  show exA (L.take i) k.toNat = exA L k.toNat
  have e2 : L = L.take i ++ L.drop i := (List.take_append_drop _ _).symm
  conv => rhs; rw [e2]
  rw [exA_app (by omega)]
/-- The node of an expression as an entry: its kids by the numbers of the parts. -/
def adN (ids : List Nat) (x : Nd) : Nd := ⟨x.op, x.n, x.name, x.kids.map fun k => ((ids.getD k.toNat 0 : Nat) : Int)⟩
def stA (s : List Nd × List Nat) (x : Nd) : Option (List Nd × List Nat) :=
  match ixL s.1 (adN s.2 x) with
  | some i => some (s.1, s.2 ++ [i])
  | none => if s.1.length < 1048576 then some (s.1 ++ [adN s.2 x], s.2 ++ [s.1.length]) else none
def addR (s : List Nd × List Nat) : List Nd → Option (List Nd × List Nat)
  | [] => some s
  | x :: r => (stA s x).bind fun s' => addR s' r
theorem addR_app (s : List Nd × List Nat) (l m : List Nd) : addR s (l ++ m) = (addR s l).bind fun s' => addR s' m := by
  induction l generalizing s with
  | nil => rfl
  | cons x r ih =>
    show (stA s x).bind (fun s' => addR s' (r ++ m)) = _
    cases h : stA s x with
    | none => simp [addR, h]
    | some s' => simp [addR, h, ih]
theorem addR_one (s : List Nd × List Nat) (x : Nd) : addR s [x] = stA s x := by
  show (stA s x).bind (fun s' => some s') = _
  cases stA s x <;> rfl

/-- Each node of e is an entry, its kids by the numbers of the parts. -/
structure Fnd (L : List Nd) (e : List Nd) (ids : List Nat) : Prop where
  len : ids.length = e.length
  at_ : ∀ j, j < e.length → ids.getD j 0 < L.length ∧ edA L (ids.getD j 0) = adN ids (e.getD j nd0)
theorem Fnd.more {L M e : List Nd} {ids : List Nat} (h : Fnd L e ids) : Fnd (L ++ M) e ids :=
  ⟨h.len, fun j hj => ⟨by have := (h.at_ j hj).1; rw [List.length_append]; omega, by rw [edA_app (h.at_ j hj).1]; exact (h.at_ j hj).2⟩⟩
theorem adN_congr {ids ids' : List Nat} {x : Nd} (h : ∀ k ∈ x.kids, ids.getD k.toNat 0 = ids'.getD k.toNat 0) : adN ids x = adN ids' x := by
  unfold adN
  congr 1
  exact List.map_congr_left fun k hk => by rw [h k hk]
theorem getD_snocN {ids : List Nat} {i j : Nat} (h : j < ids.length) : (ids ++ [i]).getD j 0 = ids.getD j 0 := by
  rw [List.getD_eq_getElem?_getD, List.getElem?_append_left h, List.getD_eq_getElem?_getD]
theorem getD_endN (ids : List Nat) (i : Nat) : (ids ++ [i]).getD ids.length 0 = i := by simp
theorem take_at {e : List Nd} {j i : Nat} (h : i < j) : (e.take j).getD i nd0 = e.getD i nd0 := by
  rw [List.getD_eq_getElem?_getD, List.getElem?_take, if_pos h, List.getD_eq_getElem?_getD]
/-- One node more. -/
theorem Fnd.snoc {L e : List Nd} {ids : List Nat} {j i : Nat} (hl : KidsLo e) (hj : j < e.length) (h : Fnd L (e.take j) ids) (hi : i < L.length) (he : edA L i = adN ids (e.getD j nd0)) : Fnd L (e.take (j + 1)) (ids ++ [i]) := by
  have hn := h.len
  have ht : (e.take j).length = j := by simp; omega
  have ht1 : (e.take (j + 1)).length = j + 1 := by simp; omega
  have hc : ∀ q, q ≤ j → adN ids (e.getD q nd0) = adN (ids ++ [i]) (e.getD q nd0) := fun q hq => adN_congr fun k hk => by
    have := hl q (by omega) k hk
    rw [getD_snocN (by omega)]
  refine ⟨by simp [hn]; omega, fun q hq => ?_⟩
  rw [ht1] at hq
  rw [take_at (by omega), ← hc q (by omega)]
  rcases Nat.lt_or_ge q j with h1 | h1
  · rw [getD_snocN (by omega)]
    have := h.at_ q (by omega)
    rw [take_at h1] at this
    exact this
  · obtain rfl : q = ids.length := by omega
    rw [getD_endN]
    have e0 : ids.length = j := by omega
    rw [e0]
    exact ⟨hi, he⟩
theorem addR_snoc (s : List Nd × List Nat) (e : List Nd) {j : Nat} (hj : j < e.length) : addR s (e.take (j + 1)) = (addR s (e.take j)).bind fun s' => stA s' (e.getD j nd0) := by
  have : e.take (j + 1) = e.take j ++ [e.getD j nd0] := by
    rw [List.take_succ_eq_append_getElem hj]; simp [hj]
  rw [this, addR_app]
  cases addR s (e.take j) with
  | none => rfl
  | some s' => exact addR_one _ _
/-- What the entries stand for: the parts. -/
theorem Fnd.ex {L e : List Nd} {ids : List Nat} {fr : List Nat} (hI : TbI L) (hb : BegOk e fr) (h : Fnd L e ids) : ∀ j, j < e.length → exA L (ids.getD j 0) = partL e (fr.getD j 0) j := by
  intro j
  induction j using Nat.strongRecOn with
  | ind j ih =>
    intro hj
    obtain ⟨h1, h2⟩ := h.at_ j hj
    rw [exA_at hI h1, h2, part_join hb j hj]
    show joinL _ _ _ (((e.getD j nd0).kids.map fun k => ((ids.getD k.toNat 0 : Nat) : Int)).map fun k => exA L k.toNat) = _
    rw [List.map_map]
    have e3 : ((e.getD j nd0).kids.map ((fun k => exA L k.toNat) ∘ fun k => ((ids.getD k.toNat 0 : Nat) : Int))) = (e.getD j nd0).kids.map (kidPart e fr) := by
      refine List.map_congr_left fun k hk => ?_
      have := kidsLo_ok hb j hj k hk
      show exA L (ids.getD k.toNat 0) = kidPart e fr k
      rw [ih k.toNat (by omega) (by omega)]
      rfl
    rw [e3]
    rfl
theorem Fnd.whole {L e : List Nd} {ids : List Nat} {fr : List Nat} (hI : TbI L) (hb : begL e = some fr) (h : Fnd L e ids) : exA L (ids.getD (e.length - 1) 0) = e := by
  obtain ⟨h0, _, hr, ht⟩ := begL_some hb
  have hok := begOk_of hr
  rw [h.ex hI hok (e.length - 1) (by omega), part_join hok _ (by omega), whole_join hb]
end Go.Proofs.YtlbmijcpalfaeaaDoor

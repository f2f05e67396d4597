/-
  ArPure, EvP0, EwP, FaP.
-/
import Derived.Test.YtlbmijcpalfaeaaGreatDoorP05
import Derived.RowKit
import Derived.Laws.Entries
set_option linter.unusedSimpArgs false
set_option linter.unusedVariables false
namespace Go.Proofs.YtlbmijcpalfaeaaGreatDoor
open Go.RowKit

/-- A number of 64 bits, with a sign. -/
def i6 (n : Int) : Prop := -9223372036854775808 ≤ n ∧ n ≤ 9223372036854775807
def B6 (n : Int) : BitVec 64 := BitVec.ofInt 64 n

theorem w6_def (n : Int) : wrap64 n = (n + 9223372036854775808) % 18446744073709551616 - 9223372036854775808 := by unfold wrap64; rfl
theorem w6_in (n : Int) : i6 (wrap64 n) := by unfold i6; rw [w6_def]; omega
theorem w6_id {n : Int} (h : i6 n) : wrap64 n = n := by unfold i6 at h; rw [w6_def]; omega
theorem w6_bv (n : Int) : wrap64 n = (B6 n).toInt := by
  unfold B6
  rw [BitVec.toInt_ofInt, w6_def, Int.bmod_def]
  simp only [Nat.reducePow]
  omega
theorem b6_id {n : Int} (h : i6 n) : (B6 n).toInt = n := by rw [← w6_bv, w6_id h]
theorem b6_w6 (n : Int) : B6 (wrap64 n) = B6 n := by rw [w6_bv]; exact BitVec.ofInt_toInt
theorem b6_inj {a b : Int} (ha : i6 a) (hb : i6 b) (h : B6 a = B6 b) : a = b := by rw [← b6_id ha, ← b6_id hb, h]
theorem b6_add (a b : Int) : B6 (a + b) = B6 a + B6 b := BitVec.ofInt_add ..
theorem b6_neg (a : Int) : B6 (-a) = - B6 a := by unfold B6; exact BitVec.ofInt_neg
theorem b6_sub (a b : Int) : B6 (a - b) = B6 a - B6 b := by rw [Int.sub_eq_add_neg, b6_add, b6_neg, BitVec.sub_eq_add_neg]
theorem toInt_in (x : BitVec 64) : i6 x.toInt := by
  have h1 := BitVec.toInt_lt (x := x)
  have h2 := BitVec.le_toInt (x := x)
  simp at h1 h2
  unfold i6; omega
theorem wrap_toNat (x : BitVec 64) : IntKind.i64.wrap (x.toNat : Int) = x.toInt := by
  rw [BitVec.toInt_eq_toNat_cond]
  have := x.isLt
  simp only [IntKind.wrap, IntKind.bits, IntKind.signed]
  simp at *
  split <;> split <;> omega

theorem bits_and (a b : Int) : bits .and .i64 a b = (B6 a &&& B6 b).toInt := wrap_toNat _
theorem bits_or (a b : Int) : bits .or .i64 a b = (B6 a ||| B6 b).toInt := wrap_toNat _
theorem bits_xor (a b : Int) : bits .xor .i64 a b = (B6 a ^^^ B6 b).toInt := wrap_toNat _
theorem b6_toInt (x : BitVec 64) : B6 x.toInt = x := BitVec.ofInt_toInt
theorem b6_m1 : B6 (-1) = BitVec.allOnes 64 := by decide
theorem bits_not (a : Int) : bits .xor .i64 (-1) a = (~~~ B6 a).toInt := by
  rw [bits_xor, b6_m1, BitVec.allOnes_xor]

/-- The operators with one number. -/
def ap1 (op a : Int) : Int := if op = 3 then wrap64 (-a) else bits .xor .i64 (-1) a
/-- By how much is shifted. -/
def by6 (b : Int) : Int := bits .and .i64 b 63
/-- The operators with two numbers. -/
def ap2 (op a b : Int) : Int :=
  if op = 5 then wrap64 (a + b)
  else if op = 6 then wrap64 (a - b)
  else if op = 7 then wrap64 (a * b)
  else if op = 8 then wrap64 (a.tdiv b)
  else if op = 9 then a.tmod b
  else if op = 10 then bits .and .i64 a b
  else if op = 11 then bits .or .i64 a b
  else if op = 12 then bits .xor .i64 a b
  else if op = 13 then wrap64 (a * 2 ^ (by6 b).toNat)
  else if op = 14 then a / 2 ^ (by6 b).toNat
  else if op = 15 then (if a = b then 1 else 0)
  else (if a < b then 1 else 0)
/-- What Apply answers. -/
def apR (op : Int) (l : List Int) : Int × Int :=
  match l with
  | [a] => if op = 3 ∨ op = 4 then (ap1 op a, 0) else (0, 2)
  | [a, b] => if 5 ≤ op ∧ op ≤ 16 then (if (op = 8 ∨ op = 9) ∧ b = 0 then (0, 12) else (ap2 op a b, 0)) else (0, 2)
  | [c, a, b] => if op = 17 then (if c = 0 then b else a, 0) else (0, 2)
  | _ => (0, 2)

theorem by6_eq (b : Int) : by6 b = b % 64 := by
  unfold by6
  rw [bits_and]
  have h63 : B6 63 = 63#64 := by decide
  rw [h63, BitVec.toInt_eq_toNat_of_lt]
  · rw [BitVec.toNat_and]
    have e : (63#64).toNat = 2 ^ 6 - 1 := by decide
    rw [e, Nat.and_two_pow_sub_one_eq_mod]
    unfold B6
    rw [BitVec.toNat_ofInt]
    simp only [Nat.reducePow]
    omega
  · rw [BitVec.toNat_and]
    have e : (63#64).toNat = 2 ^ 6 - 1 := by decide
    rw [e, Nat.and_two_pow_sub_one_eq_mod]
    omega
theorem by6_in (b : Int) : 0 ≤ by6 b ∧ by6 b < 64 := by rw [by6_eq]; omega

theorem ap1_in (op a : Int) : i6 (ap1 op a) := by
  unfold ap1; split
  · exact w6_in _
  · rw [bits_not]; exact toInt_in _
theorem tmod_in {a : Int} (b : Int) (ha : i6 a) : i6 (a.tmod b) := by
  have h := Int.natAbs_tmod a b
  have h2 := Nat.mod_le a.natAbs b.natAbs
  have h3 : 0 ≤ a → 0 ≤ a.tmod b := fun h => Int.tmod_nonneg b h
  unfold i6 at *
  by_cases hm : a = -9223372036854775808
  · have : (a.tmod b).natAbs ≤ 9223372036854775808 := by omega
    have : a.tmod b ≤ 0 := by
      have h4 : a.tmod b = - (-a).tmod b := by rw [Int.neg_tmod]; omega
      have := Int.tmod_nonneg b (a := -a) (by omega)
      omega
    omega
  · omega
theorem ediv_in {a : Int} (k : Nat) (ha : i6 a) : i6 (a / 2 ^ k) := by
  have hp : (0 : Int) < 2 ^ k := Int.pow_pos (by decide)
  unfold i6 at *
  have h1 : (-9223372036854775808 : Int) ≤ a / 2 ^ k := by
    rw [Int.le_ediv_iff_mul_le hp]
    have : (1 : Int) ≤ 2 ^ k := by omega
    have : (9223372036854775808 : Int) * 1 ≤ 9223372036854775808 * 2 ^ k := Int.mul_le_mul_of_nonneg_left this (by omega)
    omega
  have h2 : a / 2 ^ k ≤ 9223372036854775807 := by
    by_cases h : 0 ≤ a
    · have := Int.ediv_le_self (2 ^ k) h; omega
    · have := Int.ediv_neg_of_neg_of_pos (a := a) (by omega) hp; omega
  exact ⟨h1, h2⟩
theorem ap2_in {op a b : Int} (ha : i6 a) (hb : i6 b) : i6 (ap2 op a b) := by
  have i0 : i6 0 := by unfold i6; omega
  have i1 : i6 1 := by unfold i6; omega
  have cc (p : Prop) [Decidable p] (x y : Int) (hx : i6 x) (hy : i6 y) : i6 (if p then x else y) := by
    by_cases h : p
    · rw [if_pos h]; exact hx
    · rw [if_neg h]; exact hy
  unfold ap2
  refine cc _ _ _ (w6_in _) (cc _ _ _ (w6_in _) (cc _ _ _ (w6_in _) (cc _ _ _ (w6_in _) (cc _ _ _ (tmod_in b ha) (cc _ _ _ ?_ (cc _ _ _ ?_ (cc _ _ _ ?_ (cc _ _ _ (w6_in _) (cc _ _ _ (ediv_in _ ha) (cc _ _ _ (cc _ _ _ i1 i0) (cc _ _ _ i1 i0)))))))))))
  · rw [bits_and]; exact toInt_in _
  · rw [bits_or]; exact toInt_in _
  · rw [bits_xor]; exact toInt_in _
end Go.Proofs.YtlbmijcpalfaeaaGreatDoor

set_option linter.unusedSimpArgs false
set_option linter.unusedVariables false
namespace Go.Proofs.YtlbmijcpalfaeaaGreatDoor
open Go.RowKit

abbrev Bd := ByteArray × Int
def bd0 : Bd := (⟨#[]⟩, 0)
/-- All numbers are of 64 bits. -/
def BdOk (l : List Bd) : Prop := ∀ x ∈ l, i6 x.2 ∧ x.1.size ≤ maxLen
theorem BdOk.getD {l : List Bd} (h : BdOk l) (i : Nat) : i6 (l.getD i bd0).2 ∧ (l.getD i bd0).1.size ≤ maxLen := by
  by_cases hi : i < l.length
  · have : l.getD i bd0 = l[i] := by simp [hi]
    rw [this]; exact h _ (by simp)
  · have : l.getD i bd0 = bd0 := by simp [hi]
    rw [this]; exact ⟨by simp [bd0, i6], by show (0 : Nat) ≤ _; omega⟩

/-! ### What the laws of Set ask -/
end Go.Proofs.YtlbmijcpalfaeaaGreatDoor

set_option linter.unusedSimpArgs false
set_option linter.unusedVariables false
namespace Go.Proofs.YtlbmijcpalfaeaaGreatDoor

/-- All parts stand ahead. -/
def KidsUpE (l : List Nd) : Prop := ∀ i, i < l.length → ∀ k ∈ (l.getD i nd0).kids, 0 ≤ k ∧ k < (i : Int)

theorem chain_kids {fr : List Nat} (hl : Low fr) : ∀ (ks : List Int) (c a : Nat), chainL fr ks c = some a → ∀ k ∈ ks, 0 ≤ k ∧ k < (c : Int) := by
  intro ks
  induction ks with
  | nil => intro c a _ k hk; simp at hk
  | cons k ks ih =>
    intro c a h j hj
    simp only [chainL] at h
    split at h
    · cases h
    · rename_i hc
      rcases List.mem_cons.1 hj with rfl | hj
      · omega
      · have := ih _ _ h j hj
        have := hl (c - 1)
        omega
theorem BegOk.kidsUp {l : List Nd} {fr : List Nat} (h : BegOk l fr) : KidsUpE l := by
  intro i hi k hk
  exact chain_kids h.low _ _ _ (h.at_ i hi).2 k (by simpa using hk)

/-- The places that are whole and no part of another, ahead of c. -/
def rts (fr : List Nat) : Nat → Nat → List Nat
  | 0, _ => []
  | f + 1, c => if c = 0 then [] else rts fr f (fr.getD (c - 1) 0) ++ [c - 1]
def rt (fr : List Nat) (c : Nat) : List Nat := rts fr c c
theorem sndW_none {l : List Nd} (h : begL l = none) : sndB l = false := by unfold sndB; rw [h]; rfl
theorem sndW_some {l : List Nd} {fr : List Nat} (h : begL l = some fr) : sndB l = true := by unfold sndB; rw [h]; rfl
end Go.Proofs.YtlbmijcpalfaeaaGreatDoor

set_option linter.unusedSimpArgs false
set_option linter.unusedVariables false
namespace Go.Proofs.YtlbmijcpalfaeaaGreatDoor

/-- A fact: Total, Const, N. -/
structure Fc where
  t : Bool
  c : Bool
  n : Int
def fc0 : Fc := ⟨false, false, 0⟩
/-- The fact at a place. -/
def fAt (fs : List Fc) (k : Int) : Fc := fs.getD k.toNat fc0
/-- Whether an operator is a constant, and which. -/
def cnsF (fs : List Fc) (op : Int) (ks : List Int) : Bool × Int :=
  if (ks.all fun k => (fAt fs k).c) = true then (decide ((apR op (ks.map fun k => (fAt fs k).n)).2 = 0), (apR op (ks.map fun k => (fAt fs k).n)).1) else (false, 0)
/-- Whether an operator never traps. -/
def totF (fs : List Fc) (op : Int) (ks : List Int) : Bool :=
  (ks.all fun k => (fAt fs k).t) && ((op != 8 && op != 9) || ((fAt fs (ks.getD 1 0)).c && (fAt fs (ks.getD 1 0)).n != 0))
/-- What a node tells. -/
def tdF (fs : List Fc) (x : Nd) : Fc :=
  if x.op = 1 then ⟨true, true, x.n⟩ else if x.op = 2 then ⟨true, false, 0⟩ else ⟨totF fs x.op x.kids, (cnsF fs x.op x.kids).1, (cnsF fs x.op x.kids).2⟩
def ftR (fs : List Fc) : List Nd → List Fc
  | [] => fs
  | x :: l => ftR (fs ++ [tdF fs x]) l
/-- The facts of all places. -/
def ft (l : List Nd) : List Fc := ftR [] l
def fA (l : List Nd) (i : Nat) : Fc := (ft l).getD i fc0
/-- What Of answers. -/
def ofR (l : List Nd) : Fc := fA l (l.length - 1)

theorem cnsF_congr {fs gs : List Fc} (op : Int) (ks : List Int) (h : ∀ k ∈ ks, fAt gs k = fAt fs k) : cnsF gs op ks = cnsF fs op ks := by
  unfold cnsF
  have e1 : (ks.all fun k => (fAt gs k).c) = ks.all fun k => (fAt fs k).c := by
    rw [Bool.eq_iff_iff, List.all_eq_true, List.all_eq_true]
    exact ⟨fun H k hk => by rw [← h k hk]; exact H k hk, fun H k hk => by rw [h k hk]; exact H k hk⟩
  have e2 : (ks.map fun k => (fAt gs k).n) = ks.map fun k => (fAt fs k).n := List.map_congr_left fun k hk => by rw [h k hk]
  rw [e1, e2]
theorem totF_congr {fs gs : List Fc} (op : Int) (ks : List Int) (hlen : op = 8 ∨ op = 9 → 1 < ks.length) (h : ∀ k ∈ ks, fAt gs k = fAt fs k) : totF gs op ks = totF fs op ks := by
  unfold totF
  have e1 : (ks.all fun k => (fAt gs k).t) = ks.all fun k => (fAt fs k).t := by
    rw [Bool.eq_iff_iff, List.all_eq_true, List.all_eq_true]
    exact ⟨fun H k hk => by rw [← h k hk]; exact H k hk, fun H k hk => by rw [h k hk]; exact H k hk⟩
  rw [e1]
  by_cases ho : op = 8 ∨ op = 9
  · have hl := hlen ho
    have hm : ks.getD 1 0 ∈ ks := by
      rw [List.getD_eq_getElem?_getD, List.getElem?_eq_getElem hl]; exact List.getElem_mem hl
    rw [h _ hm]
  · have g : (op != 8 && op != 9) = true := by simp; omega
    rw [g]; simp
theorem arity_two {x : Nd} (h : formB x = true) (ho : x.op = 8 ∨ x.op = 9) : x.kids.length = 2 := by
  unfold formB fitB at h
  simp only [Bool.and_eq_true, decide_eq_true_eq] at h
  have h2 := h.1.1.2
  rcases ho with e | e <;> (rw [e] at h2; simp [aritI] at h2; omega)
theorem tdF_congr {fs gs : List Fc} {x : Nd} (hf : formB x = true) (h : ∀ k ∈ x.kids, fAt gs k = fAt fs k) : tdF gs x = tdF fs x := by
  unfold tdF
  rw [cnsF_congr _ _ h, totF_congr _ _ (fun ho => by rw [arity_two hf ho]; omega) h]

theorem getD_snocF (os : List Fc) (a : Fc) (j : Nat) : (os ++ [a]).getD j fc0 = if j < os.length then os.getD j fc0 else if j = os.length then a else fc0 := by
  simp only [List.getD_eq_getElem?_getD, List.getElem?_append]
  split
  · rfl
  · split
    · subst_vars; simp
    · rw [List.getElem?_eq_none (by simp; omega)]; rfl
theorem ftR_len : ∀ (l : List Nd) (fs : List Fc), (ftR fs l).length = fs.length + l.length
  | [], fs => by simp [ftR]
  | x :: l, fs => by rw [ftR, ftR_len l]; simp; omega
theorem ftR_old : ∀ (l : List Nd) (fs : List Fc) (j : Nat), j < fs.length → (ftR fs l).getD j fc0 = fs.getD j fc0
  | [], fs, j, _ => rfl
  | x :: l, fs, j, h => by rw [ftR, ftR_old l _ j (by simp; omega), getD_snocF, if_pos h]
theorem ftR_at : ∀ (l : List Nd) (fs : List Fc) (i : Nat), i < l.length → (∀ k ∈ (l.getD i nd0).kids, 0 ≤ k ∧ k < (fs.length + i : Nat)) → formB (l.getD i nd0) = true →
    (ftR fs l).getD (fs.length + i) fc0 = tdF (ftR fs l) (l.getD i nd0)
  | [], fs, i, h, _, _ => by simp at h
  | x :: l, fs, 0, h, hk, hf => by
    rw [ftR, ftR_old l _ _ (by simp), getD_snocF, if_neg (by omega), if_pos (by omega)]
    show tdF fs x = tdF _ x
    have hk' : ∀ k ∈ x.kids, 0 ≤ k ∧ k < (fs.length + 0 : Nat) := by simpa using hk
    refine (tdF_congr (by simpa using hf) fun k hkk => ?_).symm
    have := hk' k hkk
    unfold fAt
    rw [ftR_old l _ _ (by simp; omega), getD_snocF, if_pos (by omega)]
  | x :: l, fs, i + 1, h, hk, hf => by
    have hk' : ∀ k ∈ (l.getD i nd0).kids, 0 ≤ k ∧ k < (fs.length + (i + 1) : Nat) := by simpa using hk
    have := ftR_at l (fs ++ [tdF fs x]) i (by simp at h; omega) (fun k hkk => by have := hk' k hkk; simp; omega) (by simpa using hf)
    rw [ftR]
    rw [show fs.length + (i + 1) = (fs ++ [tdF fs x]).length + i by simp; omega, this]
    simp
theorem ft_len (l : List Nd) : (ft l).length = l.length := by simpa [ft] using ftR_len l []
theorem fA_at {l : List Nd} {fr : List Nat} (h : BegOk l fr) {i : Nat} (hi : i < l.length) : fA l i = tdF (ft l) (l.getD i nd0) := by
  have := ftR_at l [] i hi (fun k hk => by have := h.kidsUp i hi k hk; simp; omega) (h.at_ i hi).1
  simpa [fA, ft] using this

end Go.Proofs.YtlbmijcpalfaeaaGreatDoor

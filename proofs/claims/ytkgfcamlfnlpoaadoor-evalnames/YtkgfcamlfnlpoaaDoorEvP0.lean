/-
  Environments, plainly: the last binding of a name, Get, Set.
-/
import Derived.Test.YtkgfcamlfnlpoaaDoorArPure
set_option linter.unusedSimpArgs false
set_option linter.unusedVariables false
namespace Go.Proofs.YtkgfcamlfnlpoaaDoor
open Go.RowKit

abbrev Bd := ByteArray × Int
def bd0 : Bd := (⟨#[]⟩, 0)
/-- The last of the first k bindings whose name is nm; -1. -/
def lastN (l : List Bd) (nm : ByteArray) : Nat → Int
  | 0 => -1
  | k + 1 => if (l.getD k bd0).1 = nm then (k : Int) else lastN l nm k
def lastB (l : List Bd) (nm : ByteArray) : Int := lastN l nm l.length
def getN (l : List Bd) (nm : ByteArray) : Nat → Int
  | 0 => 0
  | k + 1 => if (l.getD k bd0).1 = nm then (l.getD k bd0).2 else getN l nm k
def getB (l : List Bd) (nm : ByteArray) : Int := getN l nm l.length
theorem lastN_range (l : List Bd) (nm : ByteArray) : ∀ k : Nat, -1 ≤ lastN l nm k ∧ lastN l nm k < k
  | 0 => by simp [lastN]
  | k + 1 => by
    have := lastN_range l nm k
    unfold lastN
    split <;> omega
theorem lastB_range (l : List Bd) (nm : ByteArray) : -1 ≤ lastB l nm ∧ lastB l nm < l.length := lastN_range l nm _
theorem getN_last (l : List Bd) (nm : ByteArray) : ∀ k : Nat, getN l nm k = if lastN l nm k < 0 then 0 else (l.getD (lastN l nm k).toNat bd0).2
  | 0 => by simp [getN, lastN]
  | k + 1 => by
    unfold getN lastN
    by_cases h : (l.getD k bd0).1 = nm
    · rw [if_pos h, if_pos h, if_neg (by omega)]; simp
    · rw [if_neg h, if_neg h]; exact getN_last l nm k
theorem getB_last (l : List Bd) (nm : ByteArray) : getB l nm = if lastB l nm < 0 then 0 else (l.getD (lastB l nm).toNat bd0).2 := getN_last l nm _
theorem lastN_name (l : List Bd) (nm : ByteArray) : ∀ k : Nat, 0 ≤ lastN l nm k → (l.getD (lastN l nm k).toNat bd0).1 = nm
  | 0, h => by simp [lastN] at h
  | k + 1, h => by
    unfold lastN at h ⊢
    by_cases h' : (l.getD k bd0).1 = nm
    · rw [if_pos h']; simpa using h'
    · rw [if_neg h'] at h ⊢; exact lastN_name l nm k h
theorem lastB_name (l : List Bd) (nm : ByteArray) (h : 0 ≤ lastB l nm) : (l.getD (lastB l nm).toNat bd0).1 = nm := lastN_name l nm _ h

def setB (l : List Bd) (nm : ByteArray) (n : Int) : List Bd := if lastB l nm < 0 then l ++ [(nm, n)] else l.set (lastB l nm).toNat ((l.getD (lastB l nm).toNat bd0).1, n)
/-- All numbers are of 64 bits. -/
def BdOk (l : List Bd) : Prop := ∀ x ∈ l, i6 x.2 ∧ x.1.size ≤ maxLen
theorem BdOk.getD {l : List Bd} (h : BdOk l) (i : Nat) : i6 (l.getD i bd0).2 ∧ (l.getD i bd0).1.size ≤ maxLen := by
  by_cases hi : i < l.length
  · have : l.getD i bd0 = l[i] := by simp [hi]
    rw [this]; exact h _ (by simp)
  · have : l.getD i bd0 = bd0 := by simp [hi]
    rw [this]; exact ⟨by simp [bd0, i6], by show (0 : Nat) ≤ _; omega⟩

/-! ### What the laws of Set ask -/
theorem lastN_congr {l m : List Bd} {nm : ByteArray} : ∀ k : Nat, (∀ i, i < k → (l.getD i bd0).1 = (m.getD i bd0).1) → lastN l nm k = lastN m nm k
  | 0, _ => rfl
  | k + 1, h => by
    unfold lastN
    rw [h k (by omega), lastN_congr k (fun i hi => h i (by omega))]
theorem getN_congr {l m : List Bd} {nm : ByteArray} : ∀ k : Nat, (∀ i, i < k → (l.getD i bd0) = (m.getD i bd0)) → getN l nm k = getN m nm k
  | 0, _ => rfl
  | k + 1, h => by
    unfold getN
    rw [h k (by omega), getN_congr k (fun i hi => h i (by omega))]
theorem setB_len (l : List Bd) (nm : ByteArray) (n : Int) : (setB l nm n).length = if lastB l nm < 0 then l.length + 1 else l.length := by
  unfold setB; split <;> simp
theorem setB_name (l : List Bd) (nm : ByteArray) (n : Int) (i : Nat) (hi : i < l.length) : ((setB l nm n).getD i bd0).1 = (l.getD i bd0).1 := by
  unfold setB
  split
  · simp [List.getElem?_append_left hi]
  · by_cases h : (lastB l nm).toNat = i
    · simp [h, hi]
    · simp [h, hi, List.getElem?_set]
theorem setB_last (l : List Bd) (nm o : ByteArray) (n : Int) : lastB (setB l nm n) o = if lastB l nm < 0 ∧ o = nm then (l.length : Int) else lastB l o := by
  unfold lastB
  rw [setB_len]
  by_cases h : lastB l nm < 0
  · have h' : lastN l nm l.length < 0 := h
    simp only [h, h', if_true, true_and]
    have e : ((setB l nm n).getD l.length bd0).1 = nm := by unfold setB; rw [if_pos h]; simp
    show (if _ then _ else _) = _
    rw [e]
    by_cases ho : nm = o
    · rw [if_pos ho, if_pos ho.symm]
    · rw [if_neg ho, if_neg (fun h => ho h.symm)]
      exact lastN_congr _ (fun i hi => setB_name l nm n i hi)
  · have h' : ¬ lastN l nm l.length < 0 := h
    simp only [h, h', if_false, false_and]
    exact lastN_congr _ (fun i hi => setB_name l nm n i hi)
theorem setB_get (l : List Bd) (nm o : ByteArray) (n : Int) : getB (setB l nm n) o = if o = nm then n else getB l o := by
  have hr := lastB_range l nm
  rw [getB_last, setB_last]
  by_cases h : lastB l nm < 0
  · by_cases ho : o = nm
    · simp only [h, ho, and_self, if_true]
      rw [if_neg (by omega)]
      unfold setB; rw [if_pos h]; simp
    · simp only [h, ho, and_false, if_false]
      rw [getB_last]
      have hro := lastB_range l o
      by_cases h2 : lastB l o < 0
      · rw [if_pos h2, if_pos h2]
      · rw [if_neg h2, if_neg h2]
        unfold setB
        rw [if_pos h]
        have : (lastB l o).toNat < l.length := by omega
        simp [List.getElem?_append_left this]
  · simp only [h, false_and, if_false]
    rw [getB_last l o]
    by_cases ho : o = nm
    · subst ho
      rw [if_neg h, if_pos rfl]
      unfold setB
      rw [if_neg h]
      have : (lastB l o).toNat < l.length := by omega
      simp [this]
    · rw [if_neg ho]
      by_cases h2 : lastB l o < 0
      · rw [if_pos h2, if_pos h2]
      · rw [if_neg h2, if_neg h2]
        unfold setB
        rw [if_neg h]
        have hne : (lastB l nm).toNat ≠ (lastB l o).toNat := by
          intro he
          have h1 := lastB_name l nm (by omega)
          have h3 := lastB_name l o (by omega)
          rw [he] at h1
          exact ho (h3.symm.trans h1)
        have : (lastB l o).toNat < l.length := by have := lastB_range l o; omega
        simp [List.getElem?_set, hne, this]
theorem setB_pos (l : List Bd) (nm : ByteArray) (n : Int) (k : Nat) (h : lastB l nm = k) : setB l nm n = l.set k ((l.getD k bd0).1, n) := by
  unfold setB
  rw [h, if_neg (by omega)]; simp
theorem setB_again (l : List Bd) (nm : ByteArray) (n : Int) : setB (setB l nm n) nm n = setB l nm n := by
  have hr := lastB_range l nm
  have hl := setB_last l nm nm n
  by_cases h : lastB l nm < 0
  · simp only [h, and_self, if_true] at hl
    rw [setB_pos _ _ _ _ hl]
    unfold setB; rw [if_pos h]; simp
  · simp only [h, false_and, if_false] at hl
    obtain ⟨k, hk⟩ : ∃ k : Nat, lastB l nm = k := ⟨(lastB l nm).toNat, by omega⟩
    rw [setB_pos _ _ _ _ (hl.trans hk), setB_name l nm n _ (by omega), setB_pos _ _ _ _ hk]
    simp
end Go.Proofs.YtkgfcamlfnlpoaaDoor

/-
  The text of an environment, plainly.
-/
import Derived.Test.YtpdohdmpjaklgaaDoorMEvPure
import Derived.Test.YtpdohdmpjaklgaaDoorMGEvA
import Derived.Test.YtpdohdmpjaklgaaDoorMArRfT
import Derived.Test.YtpdohdmpjaklgaaDoorMNmPure
import Derived.Lib.Join
set_option linter.unusedSimpArgs false
set_option linter.unusedVariables false
namespace Go.Proofs.YtpdohdmpjaklgaaDoor
open Go.RowKit Go.Lib

def wrB (x : Bd) : ByteArray := x.1 ++ ⟨#[61]⟩ ++ tx8 (itoa x.2)
def txE (l : List Bd) : Int := if l.any (fun x => !nameB x.1) = true then 7 else if 64 < l.length then 10 else 0
def txL (l : List Bd) : List UInt8 := Lib.join (l.map fun x => (wrB x).data.toList) [44, 32]
def txB (l : List Bd) : ByteArray := ⟨(txL l).toArray⟩
/-- What Text answers. -/
def txR (l : List Bd) : ByteArray × Int := if txE l = 0 then (txB l, 0) else (⟨#[]⟩, txE l)

theorem wrB_size (x : Bd) (h : nameB x.1 = true) (hn : i6 x.2) : (wrB x).size ≤ 100 := by
  have h1 := name_size x.1 h
  have h2 := itoa_len x.2 hn.1 hn.2
  unfold wrB
  rw [ByteArray.size_append, ByteArray.size_append, tx8_size]
  have : (⟨#[61]⟩ : ByteArray).size = 1 := rfl
  omega
theorem join_snoc (xs : List (List UInt8)) (y sep : List UInt8) : Lib.join (xs ++ [y]) sep = if xs = [] then y else Lib.join xs sep ++ sep ++ y := by
  cases xs with
  | nil => simp [Lib.join_one]
  | cons x r =>
    rw [if_neg (by simp), List.cons_append, Lib.join_cons, Lib.join_cons]
    simp [Lib.joinTail, List.append_assoc]
theorem txL_snoc (l : List Bd) (x : Bd) : txL (l ++ [x]) = if l = [] then (wrB x).data.toList else txL l ++ [44, 32] ++ (wrB x).data.toList := by
  unfold txL
  rw [List.map_append, List.map_cons, List.map_nil, join_snoc]
  by_cases h : l = []
  · simp [h]
  · rw [if_neg (by simp [h]), if_neg h]
theorem ba_mk (s : ByteArray) : (⟨s.data.toList.toArray⟩ : ByteArray) = s := by cases s; simp
theorem txB_snoc (l : List Bd) (x : Bd) : txB (l ++ [x]) = if l = [] then wrB x else txB l ++ ⟨#[44, 32]⟩ ++ wrB x := by
  unfold txB
  rw [txL_snoc]
  by_cases h : l = []
  · rw [if_pos h, if_pos h, ba_mk]
  · rw [if_neg h, if_neg h]
    have := tx8_append (txL l ++ [44, 32]) (wrB x).data.toList
    unfold tx8 at this
    rw [this, ba_mk]
    have h2 := tx8_append (txL l) [44, 32]
    unfold tx8 at h2
    rw [h2]
def Nice (l : List Bd) : Prop := ∀ x ∈ l, nameB x.1 = true ∧ i6 x.2
theorem txL_take (l : List Bd) (h : Nice l) : ∀ k : Nat, (txL (l.take k)).length ≤ 102 * k
  | 0 => by simp [txL, Lib.join, List.intercalate]
  | k + 1 => by
    have h1 := txL_take l h k
    by_cases hk : k < l.length
    · rw [List.take_succ_eq_append_getElem hk, txL_snoc]
      have h2 := h l[k] (by simp)
      have h3 := wrB_size l[k] h2.1 h2.2
      have h4 : (wrB l[k]).data.toList.length = (wrB l[k]).size := by rw [Array.length_toList]; rfl
      split
      · rw [h4]; omega
      · simp only [List.length_append, List.length_cons, List.length_nil, h4]; omega
    · rw [List.take_of_length_le (by omega)]
      rw [List.take_of_length_le (by omega)] at h1
      omega
theorem txL_len (l : List Bd) (h : Nice l) : (txL l).length ≤ 102 * l.length := by
  have := txL_take l h l.length
  rwa [List.take_length] at this
theorem nice_take {l : List Bd} (h : Nice l) (k : Nat) : Nice (l.take k) := fun x hx => h x (List.mem_of_mem_take hx)
theorem txB_size (l : List Bd) (h : Nice l) : (txB l).size ≤ 102 * l.length := by
  have := txL_len l h
  simpa [txB, ByteArray.size] using this
/-- The first k names are names. -/
def namN (l : List Bd) : Nat → Bool
  | 0 => true
  | k + 1 => namN l k && nameB (l.getD k bd0).1
theorem any_not (l : List Bd) : (∃ k, k < l.length ∧ nameB (l.getD k bd0).1 = false) ↔ l.any (fun x => !nameB x.1) = true := by
  rw [List.any_eq_true]
  constructor
  · rintro ⟨k, hk, h⟩
    refine ⟨l[k], by simp, ?_⟩
    simp [hk] at h
    simp [h]
  · rintro ⟨x, hx, h⟩
    obtain ⟨k, hk, rfl⟩ := List.getElem_of_mem hx
    refine ⟨k, hk, ?_⟩
    simp [hk]
    simpa using h
theorem nice_of (l : List Bd) (hok : BdOk l) (h : l.any (fun x => !nameB x.1) = false) : Nice l := by
  intro x hx
  refine ⟨?_, (hok x hx).1⟩
  rw [List.any_eq_false] at h
  simpa using h x hx
end Go.Proofs.YtpdohdmpjaklgaaDoor

/-
  Plain facts on the steps of a range over a text, of its tails, and of the order of two texts.
-/
import Derived.Test.YtfhfokceeidhcaaDoorPure
import Derived.Lib.RuneCountTail
set_option linter.unusedSimpArgs false
namespace Go.Proofs.YtfhfokceeidhcaaDoor
open Go.Lib

theorem tail_size (s : ByteArray) (k : Nat) : (s.extract k s.size).size = s.size - k := by simp [ByteArray.size_extract]
theorem dec_tail (s : ByteArray) (k i : Nat) : Utf8.decode (s.extract k s.size) i = Utf8.decode s (k + i) := by
  rw [decode_at, decode_at, tail_size, tail_get!, tail_get!, tail_get!, tail_get!]
  have : s.size - k - i = s.size - (k + i) := by omega
  rw [this]
  simp [Nat.add_assoc]
theorem decodeN_le (n b0 b1 b2 b3 : Nat) (h : 0 < n) : (decodeN n b0 b1 b2 b3).2 ≤ n := by
  unfold decodeN
  repeat' split
  all_goals first | omega | (simp only; omega)
theorem dec_le (s : ByteArray) (pos : Nat) (h : pos < s.size) : pos + (Utf8.decode s pos).2 ≤ s.size := by
  have := decodeN_le (s.size - pos) (s.get! pos).toNat (s.get! (pos + 1)).toNat (s.get! (pos + 2)).toNat (s.get! (pos + 3)).toNat (by omega)
  rw [decode_at]; omega
theorem decGo (s : ByteArray) (h : s.size ≠ 0) : decodeGo s = Utf8.decode s 0 := by simp [decodeGo, h]
theorem decGo_tail (s : ByteArray) (k : Nat) (h : k < s.size) : decodeGo (s.extract k s.size) = Utf8.decode s k := by
  rw [decGo _ (by rw [tail_size]; omega), dec_tail]; rfl
theorem tail_tail (s : ByteArray) (k j : Nat) : (s.extract k s.size).extract j (s.extract k s.size).size = s.extract (k + j) s.size := by
  apply ByteArray.ext
  apply Array.ext'
  rw [extract_data, extract_data, extract_data, tail_size]
  rw [List.drop_take, List.take_take, List.drop_drop]
  congr 1
  omega

theorem runesFrom_fuel (s : ByteArray) : ∀ (f g pos : Nat), s.size ≤ pos + f → s.size ≤ pos + g → runesFrom s f pos = runesFrom s g pos
  | 0, g, pos, h, _ => by rw [runesFrom_end s 0 pos (by omega), runesFrom_end s g pos (by omega)]
  | f + 1, 0, pos, _, h => by rw [runesFrom_end s 0 pos (by omega), runesFrom_end s _ pos (by omega)]
  | f + 1, g + 1, pos, hf, hg => by
    by_cases hp : pos < s.size
    · have hw := width_pos s pos hp
      rw [runesFrom_cons s f pos hp, runesFrom_cons s g pos hp, runesFrom_fuel s f g _ (by omega) (by omega)]
    · rw [runesFrom_end s _ pos hp, runesFrom_end s _ pos hp]

theorem empty_yes (s : ByteArray) (h : s.size = 0) : s.toList.isEmpty = true := by
  rw [Lib.toList_data]
  have : s.data.toList = [] := List.eq_nil_of_length_eq_zero (by rw [← Lib.size_eq]; exact h)
  rw [this]; rfl
theorem empty_no (s : ByteArray) (h : ¬ s.size = 0) : s.toList.isEmpty = false := by
  rw [Lib.toList_data]
  cases h' : s.data.toList with
  | nil => exact absurd (by rw [Lib.size_eq, h']; rfl) h
  | cons _ _ => rfl

/-- The runes of a text. -/
def rl (s : ByteArray) : List Int := runesFrom s s.size 0
theorem runesFrom_tail (s : ByteArray) (k : Nat) : ∀ (f pos : Nat), runesFrom (s.extract k s.size) f pos = runesFrom s f (k + pos)
  | 0, _ => rfl
  | f + 1, pos => by
    by_cases hp : k + pos < s.size
    · rw [runesFrom_cons s f _ hp, runesFrom_cons _ f pos (by rw [tail_size]; omega), dec_tail, runesFrom_tail s k f, Nat.add_assoc]
    · rw [runesFrom_end s _ _ hp, runesFrom_end _ _ _ (by rw [tail_size]; omega)]
theorem rl_tail (s : ByteArray) (k : Nat) : rl (s.extract k s.size) = runesFrom s s.size k := by
  unfold rl
  rw [runesFrom_tail, tail_size]
  by_cases h : k ≤ s.size
  · exact runesFrom_fuel s _ _ _ (by omega) (by omega)
  · rw [runesFrom_end s _ _ (by omega), runesFrom_end s _ _ (by omega)]
theorem rl_nil (s : ByteArray) (h : s.size = 0) : rl s = [] := runesFrom_end s _ 0 (by omega)
theorem rl_cons (s : ByteArray) (h : s.size ≠ 0) : rl s = ((decodeGo s).1 : Int) :: rl (s.extract (decodeGo s).2 s.size) := by
  have hp : 0 < s.size := by omega
  have hw := width_pos s 0 hp
  rw [rl_tail, decGo s h]
  unfold rl
  obtain ⟨f, hf⟩ : ∃ f, s.size = f + 1 := ⟨s.size - 1, by omega⟩
  rw [hf, runesFrom_cons s f 0 hp, runesFrom_fuel s f (f + 1) (0 + _) (by omega) (by omega), Nat.zero_add]

/-! ### The order of two texts -/
def cmp3 (a b : Int) : Int := if a < b then -1 else if b < a then 1 else 0
def cmpL : List Int → List Int → Int
  | [], [] => 0
  | [], _ :: _ => -1
  | _ :: _, [] => 1
  | a :: l, b :: m => if cmp3 a b = 0 then cmpL l m else cmp3 a b
def ordI (s t : ByteArray) : Int := cmpL (rl s) (rl t)
end Go.Proofs.YtfhfokceeidhcaaDoor

/-
  BytePure, NmPure.
-/
import Derived.Test.YtlbmijcpalfaeaaGreatDoorP09
set_option linter.unusedSimpArgs false
set_option linter.unusedVariables false
namespace Go.Proofs.YtlbmijcpalfaeaaGreatDoor
open Go.Lib

/-! ### a text without bad bytes -/
theorem bytes_good (s : ByteArray) : ∀ (f pos : Nat), s.size ≤ pos + f → pos ≤ s.size → Good s pos → s.data.toList.drop pos = (runesFrom s f pos).flatMap encodeRune
  | 0, pos, h1, h2, _ => by
    have : pos = s.size := by omega
    subst this
    rw [size_eq, List.drop_of_length_le (Nat.le_refl _)]; rfl
  | f + 1, pos, h1, h2, hg => by
    by_cases hp : pos < s.size
    · obtain ⟨hb, hg'⟩ := good_step s pos hp hg
      have hv := width_pos s pos hp
      have hv2 := dec_le s pos hp
      have hne : s.data.toList.drop pos ≠ [] := by
        intro e
        have := congrArg List.length e
        rw [List.length_drop, ← size_eq] at this
        simp at this; omega
      have he := encode_decode (s.data.toList.drop pos) hne (by
        rw [decodeL_drop]
        intro e
        exact (bad_false_iff s pos).1 hb (Prod.ext e.1 e.2))
      rw [decodeL_drop] at he
      rw [runesFrom_cons s f pos hp, List.flatMap_cons, he, ← bytes_good s f _ (by omega) hv2 hg', ← List.drop_drop, List.take_append_drop]
    · have : pos = s.size := by omega
      subst this
      rw [runesFrom_end s _ _ hp, size_eq, List.drop_of_length_le (Nat.le_refl _)]; rfl
theorem bytes_of_good (s : ByteArray) (h : (chk s).2 = 0) : s.data.toList = (rl s).flatMap encodeRune := by
  have := bytes_good s s.size 0 (by omega) (by omega) (good_start s h)
  simpa [rl] using this
theorem eq_good (a b : ByteArray) (ha : (chk a).2 = 0) (hb : (chk b).2 = 0) : (a.toList == b.toList) = decide (ordI a b = 0) := by
  rw [Bool.eq_iff_iff, beq_iff_eq, decide_eq_true_eq, toList_data, toList_data]
  constructor
  · intro h
    have : a = b := by
      apply ByteArray.ext; exact Array.ext' h
    rw [this]; exact ord_self b
  · intro h
    rw [bytes_of_good a ha, bytes_of_good b hb, cmpL_zero _ _ h]
end Go.Proofs.YtlbmijcpalfaeaaGreatDoor

set_option linter.unusedSimpArgs false
set_option linter.unusedVariables false
namespace Go.Proofs.YtlbmijcpalfaeaaGreatDoor
open Go.Lib

/-! ### names -/
theorem nmF_chk (s : ByteArray) : ∀ (f pos n : Nat), nmF s f pos n = true → (chkF s f pos).2 = 0
  | 0, pos, n, h => rfl
  | f + 1, pos, n, h => by
    by_cases hp : pos < s.size
    · rw [nmF_step s f pos n hp] at h
      unfold nmS at h
      split at h
      · simp at h
      · rename_i hk
        have ho : onB (Utf8.decode s pos).1 = true := by
          cases hq : onB (Utf8.decode s pos).1 with
          | true => rfl
          | false => simp [hq] at hk
        rw [chkF_good s f pos hp (good_of_on s pos ho)]
        exact nmF_chk s f _ _ h
    · rw [chkF_end s _ pos hp]
theorem name_chk (s : ByteArray) (h : nameB s = true) : (chk s).2 = 0 := nmF_chk s _ _ _ h
theorem empty_chk (s : ByteArray) (h : s.toList.isEmpty = true) : (chk s).2 = 0 := by
  rw [toList_data] at h
  have hz : s.size = 0 := by
    have : s.data.toList = [] := by simpa using h
    show s.data.size = 0
    rw [← Array.length_toList, this]; rfl
  unfold chk
  rw [chkF_end s _ 0 (by omega)]

theorem nmF_size (s : ByteArray) : ∀ (f pos n : Nat), s.size ≤ pos + f → nmF s f pos n = true → s.size ≤ pos + 4 * (16 - n)
  | 0, pos, n, hf, h => by omega
  | f + 1, pos, n, hf, h => by
    by_cases hp : pos < s.size
    · have hw := width_pos s pos hp
      have hw4 : (Utf8.decode s pos).2 ≤ 4 := by
        rw [decode_at s pos]; exact (decodeN_width _ _ _ _ _).2
      have hn : n < 16 := by
        by_cases hn : 16 ≤ n
        · exfalso
          rw [nmF_step s f pos n hp] at h
          unfold nmS at h
          split at h
          · simp at h
          · rw [nmF_long s f _ (n + 1) (by omega)] at h; simp at h
        · omega
      rw [nmF_step s f pos n hp] at h
      unfold nmS at h
      split at h
      · simp at h
      · have := nmF_size s f _ _ (by omega) h
        omega
    · omega
theorem name_size (s : ByteArray) (h : nameB s = true) : s.size ≤ 64 := by
  have := nmF_size s s.size 0 0 (by omega) h
  omega

theorem form_name {x : Nd} (h : formB x = true) : (chk x.name).2 = 0 ∧ x.name.size ≤ 64 := by
  unfold formB fitB at h
  simp only [Bool.and_eq_true] at h
  obtain ⟨_, h⟩ := h
  split at h
  · exact ⟨name_chk _ h, name_size _ h⟩
  · refine ⟨empty_chk _ h, ?_⟩
    rw [toList_data] at h
    have : x.name.data.toList = [] := by simpa using h
    show x.name.data.size ≤ 64
    rw [← Array.length_toList, this]; simp
theorem name_eq {a b : ByteArray} (ha : (chk a).2 = 0) (hb : (chk b).2 = 0) (h : ordI a b = 0) : a = b := by
  have := eq_good a b ha hb
  rw [h] at this
  simp only [decide_true, beq_iff_eq, toList_data] at this
  exact ByteArray.ext (Array.ext' this)

end Go.Proofs.YtlbmijcpalfaeaaGreatDoor

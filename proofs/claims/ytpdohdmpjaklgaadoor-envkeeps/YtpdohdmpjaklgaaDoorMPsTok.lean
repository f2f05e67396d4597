/-
  Where tokens lie, and how the parser goes on: plain.
-/
import Derived.Test.YtpdohdmpjaklgaaDoorMPsPure
import Derived.Lib.MapLaws
set_option linter.unusedSimpArgs false
set_option linter.unusedVariables false
namespace Go.Proofs.YtpdohdmpjaklgaaDoor
open Go.Lib

theorem psSkip_le (s : ByteArray) : ∀ (f p : Nat), p ≤ s.size → p ≤ psSkip s f p ∧ psSkip s f p ≤ s.size
  | 0, p, h => ⟨Nat.le_refl _, h⟩
  | f + 1, p, h => by
    unfold psSkip
    split
    · rename_i hp
      split
      · have hw := width_pos s p hp
        have hl := dec_le s p hp
        have := psSkip_le s f (p + (Utf8.decode s p).2) (by omega)
        omega
      · omega
    · omega
theorem psSkip_stop (s : ByteArray) : ∀ (f p : Nat), s.size ≤ p + f → psSkip s f p < s.size → kd (Utf8.decode s (psSkip s f p)).1 ≠ 3
  | 0, p, h, hl => by simp [psSkip] at hl; omega
  | f + 1, p, h, hl => by
    unfold psSkip at hl ⊢
    split at hl
    · rename_i hp
      rw [if_pos hp]
      split at hl
      · rename_i hk
        rw [if_pos hk]
        have hw := width_pos s p hp
        exact psSkip_stop s f _ (by omega) hl
      · rename_i hk
        rw [if_neg hk]; exact hk
    · omega

theorem nuF_le (s : ByteArray) (z : Int) : ∀ (f p n : Nat), p ≤ s.size → (nuF s z f p n).2.2 = 0 → p ≤ (nuF s z f p n).2.1 ∧ (nuF s z f p n).2.1 ≤ s.size
  | 0, p, n, h, _ => ⟨Nat.le_refl _, h⟩
  | f + 1, p, n, h, h0 => by
    unfold nuF at h0 ⊢
    split
    · rename_i hp
      rw [if_pos hp] at h0
      split
      · rename_i hz
        rw [if_pos hz] at h0
        split
        · rename_i hl
          rw [if_pos hl] at h0; simp at h0
        · rename_i hl
          rw [if_neg hl] at h0
          have hw := width_pos s p hp
          have hle := dec_le s p hp
          have := nuF_le s z f _ _ (by omega) h0
          omega
      · exact ⟨Nat.le_refl _, h⟩
    · exact ⟨Nat.le_refl _, h⟩
theorem num_in (s : ByteArray) (p : Nat) (hp : p < s.size) (hk : kd (Utf8.decode s p).1 = 2) (h0 : (numI s p).2.2 = 0) : p < (numI s p).2.1 ∧ (numI s p).2.1 ≤ s.size := by
  have hz := (kd_two _).1 hk
  unfold numI at h0 ⊢
  rw [if_neg (by omega), Int.toNat_natCast] at h0 ⊢
  unfold numP at h0 ⊢
  rw [digZ_rn s p hp, if_neg hz] at h0 ⊢
  obtain ⟨f, hf⟩ : ∃ f, s.size = f + 1 := ⟨s.size - 1, by omega⟩
  rw [hf] at h0 ⊢
  have hw := width_pos s p hp
  have hle := dec_le s p hp
  unfold nuF at h0 ⊢
  rw [if_pos hp, if_pos rfl] at h0 ⊢
  split
  · rename_i hl; rw [if_pos hl] at h0; simp at h0
  · rename_i hl
    rw [if_neg hl] at h0
    have := nuF_le s _ f _ _ (by omega) h0
    omega
theorem span_in' (s : ByteArray) (p : Nat) (hp : p < s.size) (hk : kd (Utf8.decode s p).1 = 1) : spanI s p = (((spF s s.size p : Nat) : Int), 0) ∧ p < spF s s.size p ∧ spF s s.size p ≤ s.size := by
  refine ⟨?_, ?_, (spF_le s _ p (by omega)).2⟩
  · unfold spanI spanP
    rw [if_neg (by omega), Int.toNat_natCast, kd_rn s p hp, if_pos hk]
  · obtain ⟨f, hf⟩ : ∃ f, s.size = f + 1 := ⟨s.size - 1, by omega⟩
    have hw := width_pos s p hp
    have hle := dec_le s p hp
    rw [hf, spF_on s f p hp (on_of_letter _ hk)]
    have := (spF_le s f (p + (Utf8.decode s p).2) (by omega)).1
    omega

theorem two_in (s : ByteArray) (p : Nat) (c : UInt8) (hp : p < s.size) (h : psTwo s p c = true) : p + 2 ≤ s.size := by
  unfold psTwo hasPrefix at h
  have hl := (List.isPrefixOf_iff_prefix.1 h).length_le
  have e : (s.extract p s.size).data.toList.length = s.size - p := by
    rw [Array.length_toList]; exact tail_size s p
  rw [e] at hl
  simp at hl
  omega
set_option maxRecDepth 100000 in
theorem kd_bad : kd 65533 ≠ 4 := by decide +kernel
theorem len_dec (s : ByteArray) (p : Nat) (hp : p < s.size) (h : kd (Utf8.decode s p).1 = 4) : runeLen (Utf8.decode s p).1 = (Utf8.decode s p).2 := by
  rw [decode_at] at h ⊢
  rcases decodeN_shape (s.size - p) (s.get! p).toNat (s.get! (p + 1)).toNat (s.get! (p + 2)).toNat (s.get! (p + 3)).toNat with ⟨c, e⟩ | ⟨k1, k2, k3, cv, e⟩ | ⟨k1, k2, k3, k4, cv, cs, e⟩ | ⟨k1, k2, k3, k4, k5, cv, cw, e⟩ | e
  all_goals rw [e] at h ⊢
  · unfold runeLen; simp only; rw [if_neg (by omega), if_pos (by omega)]; rfl
  · unfold runeLen; simp only; rw [if_neg (by omega), if_neg (by omega), if_pos (by omega)]; rfl
  · unfold runeLen; simp only; rw [if_neg (by omega), if_neg (by omega), if_neg (by omega), if_neg (by omega), if_pos (by omega)]; rfl
  · unfold runeLen; simp only; rw [if_neg (by omega), if_neg (by omega), if_neg (by omega), if_neg (by omega), if_neg (by omega), if_pos (by omega)]; rfl
  · exact absurd h kd_bad
theorem sign_in (s : ByteArray) (pat : Bool) (p : Nat) (hp : p < s.size) (h : kd (Utf8.decode s p).1 = 4) : (psSign s pat p (Utf8.decode s p).1).2 ≤ (s.size : Int) - p := by
  have hle := dec_le s p hp
  unfold psSign
  split
  · rename_i h2; have := two_in s p _ hp h2; simp only; omega
  · split
    · rename_i h2; have := two_in s p _ hp h2; simp only; omega
    · split
      · rename_i h2; have := two_in s p _ hp h2; simp only; omega
      · split
        · simp only; omega
        · split
          · simp only; omega
          · simp only; rw [len_dec s p hp h]; omega

/-- A token behind the place p. -/
structure TkAt (s : ByteArray) (p : Nat) (t : Tk) : Prop where
  low : p ≤ t.from_
  in_ : t.from_ ≤ s.size
  good : t.err = 0 → t.from_ ≤ t.to ∧ t.to ≤ s.size ∧ (t.what ≠ 0 → t.from_ < t.to)
  sign : t.what ≠ 48 → t.what ≠ 97 → t.err = 0
  name : t.what = 97 → t.from_ < t.to ∧ t.to ≤ s.size

theorem psNext_at {s : ByteArray} {pat : Bool} {most p : Nat} {t : Tk} (hp : p ≤ s.size) (h : psNext s pat most p = .ok t) : TkAt s p t := by
  have hk := psSkip_le s s.size p hp
  unfold psNext psFrom at h
  generalize psSkip s s.size p = q at *
  split at h
  · rename_i hq
    unfold psAt at h
    split at h
    · rename_i k1
      obtain ⟨e1, e2, e3⟩ := span_in' s q hq k1
      rw [e1] at h
      simp only [Int.toNat_natCast] at h
      cases h
      exact ⟨hk.1, by simp only; omega, fun _ => ⟨by simp only; omega, e3, fun _ => e2⟩, fun _ h => absurd rfl h, fun _ => ⟨e2, e3⟩⟩
    · split at h
      · rename_i k2
        cases h
        refine ⟨hk.1, by simp only; omega, fun h0 => ?_, fun h => absurd rfl h, fun h => by cases h⟩
        simp only at h0 ⊢
        split at h0
        · cases h0
        · have := num_in s q hq k2 h0
          omega
      · split at h
        · rename_i k4
          have := sign_in s pat q hq k4.1
          have k5 := k4.2
          cases h
          refine ⟨hk.1, by simp only; omega, fun _ => ⟨by simp only; omega, by simp only; omega, fun _ => by simp only; omega⟩, fun _ _ => rfl, fun _ => ⟨by simp only; omega, by simp only; omega⟩⟩
        · cases h
  · cases h
    exact ⟨by unfold psEnd; simp only; omega, Nat.le_refl _, fun _ => ⟨Nat.le_refl _, Nat.le_refl _, fun h => absurd rfl h⟩, fun _ _ => rfl, fun h => by cases h⟩
end Go.Proofs.YtpdohdmpjaklgaaDoor

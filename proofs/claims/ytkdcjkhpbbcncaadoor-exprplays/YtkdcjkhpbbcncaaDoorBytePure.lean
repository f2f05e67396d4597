/-
  Plain facts: a text without bad bytes is its runes written out; the order of its runes is that of its bytes.
-/
import Derived.Test.YtkdcjkhpbbcncaaDoorOrdPure
set_option linter.unusedSimpArgs false
set_option linter.unusedVariables false
namespace Go.Proofs.YtkdcjkhpbbcncaaDoor
open Go.Lib

/-- The numbers that are characters. -/
def vr (r : Int) : Prop := (0 ≤ r ∧ r ≤ 127) ∨ (128 ≤ r ∧ r ≤ 2047) ∨ ((2048 ≤ r ∧ r < 55296) ∨ (57343 < r ∧ r ≤ 65535)) ∨ (65536 ≤ r ∧ r ≤ 1114111)

def lessZ : List Int → List Int → Bool
  | _, [] => false
  | [], _ :: _ => true
  | a :: x, b :: y => decide (a < b) || (a == b && lessZ x y)
theorem lessZ_same : ∀ (e x y : List Int), lessZ (e ++ x) (e ++ y) = lessZ x y
  | [], x, y => rfl
  | a :: e, x, y => by simp [lessZ, lessZ_same e x y]
theorem lessZ_asym : ∀ x y : List Int, lessZ x y = true → lessZ y x = false
  | _, [], h => by simp [lessZ] at h
  | [], _ :: _, h => by simp [lessZ]
  | a :: x, b :: y, h => by
    simp only [lessZ, Bool.or_eq_true, decide_eq_true_eq, Bool.and_eq_true, beq_iff_eq] at h
    simp only [lessZ, Bool.or_eq_false_iff, decide_eq_false_iff_not, Bool.and_eq_false_iff]
    rcases h with h | ⟨h, h'⟩
    · exact ⟨by omega, .inl (by simp; omega)⟩
    · exact ⟨by omega, .inr (lessZ_asym x y h')⟩
theorem enc_lt (r q : Int) (hr : vr r) (hq : vr q) (h : r < q) (x y : List Int) : lessZ (encodeRuneZ r ++ x) (encodeRuneZ q ++ y) = true := by
  rcases hr with hr | hr | hr | hr
  · rw [encodeRuneZ_one hr.1 hr.2]
    rcases hq with hq | hq | hq | hq
    · rw [encodeRuneZ_one hq.1 hq.2]; simp [lessZ]; omega
    · rw [encodeRuneZ_two hq.1 hq.2]; simp [lessZ]; omega
    · rw [encodeRuneZ_three hq]; simp [lessZ]; omega
    · rw [encodeRuneZ_four hq.1 hq.2]; simp [lessZ]; omega
  · rw [encodeRuneZ_two hr.1 hr.2]
    rcases hq with hq | hq | hq | hq
    · omega
    · rw [encodeRuneZ_two hq.1 hq.2]; simp [lessZ]; omega
    · rw [encodeRuneZ_three hq]; simp [lessZ]; omega
    · rw [encodeRuneZ_four hq.1 hq.2]; simp [lessZ]; omega
  · rw [encodeRuneZ_three hr]
    rcases hq with hq | hq | hq | hq
    · omega
    · omega
    · rw [encodeRuneZ_three hq]; simp [lessZ]; omega
    · rw [encodeRuneZ_four hq.1 hq.2]; simp [lessZ]; omega
  · rw [encodeRuneZ_four hr.1 hr.2]
    rcases hq with hq | hq | hq | hq
    · omega
    · omega
    · omega
    · rw [encodeRuneZ_four hq.1 hq.2]; simp [lessZ]; omega
theorem enc_ne (r : Int) : encodeRuneZ r ≠ [] := by
  unfold encodeRuneZ
  repeat' split
  all_goals simp
theorem lessZ_runes : ∀ l m : List Int, (∀ r ∈ l, vr r) → (∀ r ∈ m, vr r) → lessZ (l.flatMap encodeRuneZ) (m.flatMap encodeRuneZ) = decide (cmpL l m = -1)
  | [], [], _, _ => by simp [lessZ, cmpL]
  | [], b :: m, _, _ => by
    have := enc_ne b
    simp only [List.flatMap_nil, List.flatMap_cons, cmpL]
    cases h : encodeRuneZ b with
    | nil => exact absurd h this
    | cons x y => simp [lessZ]
  | a :: l, [], _, _ => by simp [lessZ, cmpL]
  | a :: l, b :: m, hl, hm => by
    have ha := hl a (by simp)
    have hb := hm b (by simp)
    simp only [List.flatMap_cons]
    by_cases h1 : a < b
    · have e : cmpL (a :: l) (b :: m) = -1 := by simp [cmpL, cmp3, h1]
      rw [enc_lt a b ha hb h1, e]; rfl
    · by_cases h2 : b < a
      · have e : cmpL (a :: l) (b :: m) = 1 := by simp [cmpL, cmp3, h1, h2]
        rw [lessZ_asym _ _ (enc_lt b a hb ha h2 (m.flatMap encodeRuneZ) (l.flatMap encodeRuneZ)), e]; rfl
      · have : a = b := by omega
        subst this
        have e : cmpL (a :: l) (a :: m) = cmpL l m := by rw [cmpL, if_pos (cmp3_self a)]
        rw [lessZ_same, lessZ_runes l m (fun r h => hl r (by simp [h])) (fun r h => hm r (by simp [h])), e]

theorem enc_byte (r : Int) (h : vr r) : ∀ x ∈ encodeRuneZ r, 0 ≤ x ∧ x < 256 := by
  intro x hx
  rcases h with h | h | h | h
  · rw [encodeRuneZ_one h.1 h.2] at hx; simp at hx; omega
  · rw [encodeRuneZ_two h.1 h.2] at hx; simp at hx; omega
  · rw [encodeRuneZ_three h] at hx; simp at hx; omega
  · rw [encodeRuneZ_four h.1 h.2] at hx; simp at hx; omega
theorem u8_lt (x y : Int) (hx : 0 ≤ x ∧ x < 256) (hy : 0 ≤ y ∧ y < 256) : (x.toNat.toUInt8 < y.toNat.toUInt8) ↔ x < y := by
  rw [UInt8.lt_iff_toNat_lt]
  simp
  omega
theorem u8_eq (x y : Int) (hx : 0 ≤ x ∧ x < 256) (hy : 0 ≤ y ∧ y < 256) : (x.toNat.toUInt8 = y.toNat.toUInt8) ↔ x = y := by
  rw [← UInt8.toNat_inj]
  simp
  omega
theorem bytesLess_Z : ∀ X Y : List Int, (∀ x ∈ X, 0 ≤ x ∧ x < 256) → (∀ x ∈ Y, 0 ≤ x ∧ x < 256) → Op.bytesLess (X.map fun x => x.toNat.toUInt8) (Y.map fun x => x.toNat.toUInt8) = lessZ X Y
  | [], [], _, _ => rfl
  | _ :: _, [], _, _ => rfl
  | [], _ :: _, _, _ => rfl
  | a :: X, b :: Y, hX, hY => by
    have ha := hX a (by simp)
    have hb := hY b (by simp)
    simp only [List.map_cons, Op.bytesLess, lessZ]
    rw [bytesLess_Z X Y (fun x h => hX x (by simp [h])) (fun x h => hY x (by simp [h]))]
    have e1 : decide (a.toNat.toUInt8 < b.toNat.toUInt8) = decide (a < b) := decide_eq_decide.2 (u8_lt a b ha hb)
    have e2 : (a.toNat.toUInt8 == b.toNat.toUInt8) = (a == b) := by
      rw [Bool.eq_iff_iff, beq_iff_eq, beq_iff_eq]; exact u8_eq a b ha hb
    rw [e1, e2]

/-! ### a text without bad bytes -/
theorem decode_vr (s : ByteArray) (pos : Nat) : vr (Utf8.decode s pos).1 := by
  have hb : ∀ k, (s.get! k).toNat < 256 := fun k => (s.get! k).toNat_lt
  have h0 := hb pos; have h1 := hb (pos + 1); have h2 := hb (pos + 2); have h3 := hb (pos + 3)
  rw [decode_at]
  unfold vr
  rcases decodeN_shape (s.size - pos) (s.get! pos).toNat (s.get! (pos + 1)).toNat (s.get! (pos + 2)).toNat (s.get! (pos + 3)).toNat with ⟨c, e⟩ | ⟨k1, k2, k3, cv, e⟩ | ⟨k1, k2, k3, k4, cv, cs, e⟩ | ⟨k1, k2, k3, k4, k5, cv, cw, e⟩ | e
  all_goals rw [e]; simp only; omega
theorem runes_vr (s : ByteArray) : ∀ (f pos : Nat), ∀ r ∈ runesFrom s f pos, vr r
  | 0, _, r, h => by simp [runesFrom] at h
  | f + 1, pos, r, h => by
    unfold runesFrom at h
    split at h
    · rcases List.mem_cons.1 h with h | h
      · rw [h]; exact decode_vr s pos
      · exact runes_vr s f _ r h
    · simp at h
theorem bytes_good (s : ByteArray) : ∀ (f pos : Nat), s.size ≤ pos + f → pos ≤ s.size → Good s pos → s.data.toList.drop pos = (runesFrom s f pos).flatMap encodeRune
  | 0, pos, h1, h2, _ => by
    have : pos = s.size := by omega
    subst this
    rw [size_eq, List.drop_of_length_le (Nat.le_refl _)]; rfl
  | f + 1, pos, h1, h2, hg => by
    by_cases hp : pos < s.size
    · obtain ⟨hb, hg'⟩ := good_step s pos hp hg
      have hv := width_pos s pos hp
      have hv2 := dec_le s pos hp
      have hne : s.data.toList.drop pos ≠ [] := by
        intro e
        have := congrArg List.length e
        rw [List.length_drop, ← size_eq] at this
        simp at this; omega
      have he := encode_decode (s.data.toList.drop pos) hne (by
        rw [decodeL_drop]
        intro e
        exact (bad_false_iff s pos).1 hb (Prod.ext e.1 e.2))
      rw [decodeL_drop] at he
      rw [runesFrom_cons s f pos hp, List.flatMap_cons, he, ← bytes_good s f _ (by omega) hv2 hg', ← List.drop_drop, List.take_append_drop]
    · have : pos = s.size := by omega
      subst this
      rw [runesFrom_end s _ _ hp, size_eq, List.drop_of_length_le (Nat.le_refl _)]; rfl
theorem bytes_of_good (s : ByteArray) (h : (chk s).2 = 0) : s.data.toList = (rl s).flatMap encodeRune := by
  have := bytes_good s s.size 0 (by omega) (by omega) (good_start s h)
  simpa [rl] using this
theorem flat_map (l : List Int) : l.flatMap encodeRune = (l.flatMap encodeRuneZ).map fun x => x.toNat.toUInt8 := by
  induction l with
  | nil => rfl
  | cons a l ih => rw [List.flatMap_cons, List.flatMap_cons, List.map_append, ih]; rfl
theorem less_good (a b : ByteArray) (ha : (chk a).2 = 0) (hb : (chk b).2 = 0) : Op.bytesLess a.toList b.toList = decide (ordI a b = -1) := by
  rw [toList_data, toList_data, bytes_of_good a ha, bytes_of_good b hb, flat_map, flat_map]
  have va : ∀ x ∈ (rl a).flatMap encodeRuneZ, 0 ≤ x ∧ x < 256 := by
    intro x hx
    obtain ⟨r, hr, hx⟩ := List.mem_flatMap.1 hx
    exact enc_byte r (runes_vr a _ _ r hr) x hx
  have vb : ∀ x ∈ (rl b).flatMap encodeRuneZ, 0 ≤ x ∧ x < 256 := by
    intro x hx
    obtain ⟨r, hr, hx⟩ := List.mem_flatMap.1 hx
    exact enc_byte r (runes_vr b _ _ r hr) x hx
  rw [bytesLess_Z _ _ va vb, lessZ_runes (rl a) (rl b) (runes_vr a _ _) (runes_vr b _ _)]
  rfl
theorem eq_good (a b : ByteArray) (ha : (chk a).2 = 0) (hb : (chk b).2 = 0) : (a.toList == b.toList) = decide (ordI a b = 0) := by
  rw [Bool.eq_iff_iff, beq_iff_eq, decide_eq_true_eq, toList_data, toList_data]
  constructor
  · intro h
    have : a = b := by
      apply ByteArray.ext; exact Array.ext' h
    rw [this]; exact ord_self b
  · intro h
    rw [bytes_of_good a ha, bytes_of_good b hb, cmpL_zero _ _ h]
end Go.Proofs.YtkdcjkhpbbcncaaDoor
